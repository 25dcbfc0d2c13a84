import PyProof.Rows.All
import Wide.All
import OpenK.AllK
import Wide.FinOn
import Lean
import PyProof.EqAt
import PyProof.EqKinds
import PyProof.TupleCall
import PyProof.Rows.SumAny
import PyProof.Draws
import PyProof.ZipIter
import PyProof.EnumMake
import PyProof.Rows.ZipGen
import PyProof.FitsInt
import PyProof.ReprLen
import KE.IntBitsLaws
import PyProof.NeData
import PyProof.ConsumeWalk
import PyProof.WalkInts
import PyProof.Rows.SeqMore
import PyProof.ListMulRoad
import PyProof.DictUpdate
import KE.KRevSl
import PyProof.MeetsStr
import PyProof.StrBlockG
import PyProof.CallStr
import KE.KIntText
import PyProof.StrLawsTight
import PyProof.StrLawsChain
import PyProof.StrLawsJoin
import PyProof.StrWalks
import KE.KSortTup
import PyProof.TupleOfStr
import PyProof.ListRange
import PyProof.SliceStr
import PyProof.StrBlockI
import PyProof.SeqRoads
import PyProof.NsDelKeeps
import PyProof.RulesAs
import KE.KIsAll
import PyProof.Rows.SetFrom
import PyProof.WalksMore
import PyProof.FactsAll.subtypes_4
import PyProof.MeetsStr2
import PyProof.Rows.Range3
import PyProof.StrLawsRepr
import PySem.Challenge.RW_dropsums_k03_pots_written_and_read
-- CHANGE: your row's module here, as the last of these rows
set_option Elab.async false
set_option linter.all false
set_option maxRecDepth 100000
/-! THE HAND LAYER, for ints, bools, texts, own classes, LISTS and tuples (index, slices, in, append, pop ..), calls, loops. Paste it whole ahead of your own text; what your proof does not reach may be deleted. -/
namespace L2
open PySem PySem.Spec PyProof.Rows

/-- a key: an int or a str -/
abbrev Key := Sum Int Str
def keyIs : Key → Value → Bool
  | .inl k, v => Value.isInt k v
  | .inr x, v => Value.isStrOf x v
def keyH (w : World) : Key → Int
  | .inl k => hashInt k
  | .inr x => hashStr w x
theorem keyIs_shape : ∀ {k : Key} {v : Value}, keyIs k v = true → (∃ i t, k = Sum.inl i ∧ v = Value.int i t) ∨ (∃ x t, k = Sum.inr x ∧ v = Value.str x t)
  | .inl i, v, h => by
    obtain ⟨t, e⟩ := Value.isInt_shape (k := i) (v := v) h
    exact .inl ⟨i, t, rfl, e⟩
  | .inr x, v, h => by
    obtain ⟨t, e⟩ := Value.isStrOf_shape (x := x) (v := v) h
    exact .inr ⟨x, t, rfl, e⟩
theorem key_ll (a b : Int) : decide ((Sum.inl a : Key) = Sum.inl b) = (a == b) := by
  by_cases e : a = b
  · subst e; simp
  · have h : ¬ (Sum.inl a : Key) = Sum.inl b := fun q => e (Sum.inl.inj q)
    rw [decide_eq_false h]
    exact (beq_eq_false_iff_ne.mpr e).symm
theorem key_rr (a b : Str) : decide ((Sum.inr a : Key) = Sum.inr b) = decide (a = b) := by
  by_cases e : a = b
  · subst e; simp
  · have h : ¬ (Sum.inr a : Key) = Sum.inr b := fun q => e (Sum.inr.inj q)
    rw [decide_eq_false h, decide_eq_false e]
theorem key_lr (a : Int) (b : Str) : decide ((Sum.inl a : Key) = Sum.inr b) = false := decide_eq_false (fun q => nomatch q)
theorem key_rl (a : Str) (b : Int) : decide ((Sum.inr a : Key) = Sum.inl b) = false := decide_eq_false (fun q => nomatch q)

def mixKind (prog : Program) (w : World) : PySem.KeyKind prog w Key where
  is := keyIs
  hash := keyH w
  inj := fun v a b ha hb => by
    rcases keyIs_shape ha with ⟨i, t, rfl, rfl⟩ | ⟨x, t, rfl, rfl⟩
    · rcases keyIs_shape hb with ⟨j, u, rfl, e⟩ | ⟨y, u, rfl, e⟩
      · injection e with e1 _; rw [e1]
      · exact nomatch e
    · rcases keyIs_shape hb with ⟨j, u, rfl, e⟩ | ⟨y, u, rfl, e⟩
      · exact nomatch e
      · injection e with e1 _; rw [e1]
  byValue := fun k v h => by
    rcases keyIs_shape h with ⟨i, t, rfl, rfl⟩ | ⟨x, t, rfl, rfl⟩ <;> rfl
  pyHash := fun hv h => by
    rcases keyIs_shape hv with ⟨i, t, rfl, rfl⟩ | ⟨x, t, rfl, rfl⟩
    · exact wpAny_pyHash_int h
    · exact wpAny_pyHash_str h
  eqBool := fun hu hv h => by
    rcases keyIs_shape hu with ⟨i, t, rfl, rfl⟩ | ⟨x, t, rfl, rfl⟩
    · rcases keyIs_shape hv with ⟨j, u, rfl, rfl⟩ | ⟨y, u, rfl, rfl⟩
      · rw [key_ll] at h; exact wpAny_eqBool_int h
      · rw [key_lr] at h; exact SeqAt.EqAt.int_str i t y u _ _ _ _ h
    · rcases keyIs_shape hv with ⟨j, u, rfl, rfl⟩ | ⟨y, u, rfl, rfl⟩
      · rw [key_rl] at h; exact SeqAt.EqAt.str_int x t j u _ _ _ _ h
      · rw [key_rr] at h; exact wpAny_eqBool_str h
  «strs» := fun k x t v h => by
    rcases keyIs_shape h with ⟨i, u, rfl, e⟩ | ⟨y, u, rfl, e⟩
    · exact nomatch e
    · injection e with e1 _
      subst e1
      cases v <;> rfl

end L2

namespace L2
open PySem PySem.Spec PyProof.Rows

/-- a value, without the heap -/
inductive V where
  | non | bl (b : Bool) | int (i : Int) | str (x : Str) | byt (b : Array UInt8) | flt (b : UInt64) | ref (a : Addr) | ty (n : String)
  deriving DecidableEq

def RelV : V → Value → Prop
  | .non, u => u = Value.none
  | .bl b, u => u = Value.bool b
  | .int i, u => ∃ t, u = Value.int i t
  | .str x, u => ∃ t, u = Value.str x t
  | .byt b, u => ∃ t, u = Value.bytes b t
  | .flt b, u => ∃ t, u = Value.float b t
  | .ref a, u => u = Value.ref a
  | .ty n, u => u = Value.type n

abbrev Vals : List V → List Value → Prop := Paired RelV
theorem Vals.length {xs : List V} {us : List Value} (r : Vals xs us) : xs.length = us.length := Paired.length r
theorem Vals.get : ∀ {xs : List V} {us : List Value} {i : Nat} {x : V}, Vals xs us → xs[i]? = some x → ∃ u, us[i]? = some u ∧ RelV x u
  | _, _, _, _, .nil, e => by simp at e
  | _, _, 0, _, .cons r _, e => by simp at e; subst e; exact ⟨_, rfl, r⟩
  | _, _, i + 1, x, .cons _ t, e => by
    obtain ⟨u, h1, h2⟩ := Vals.get (i := i) (x := x) t (by simpa using e)
    exact ⟨u, by simpa using h1, h2⟩
theorem Vals.set {x : V} {u : Value} (r : RelV x u) : ∀ {xs : List V} {us : List Value} (i : Nat), Vals xs us → Vals (xs.set i x) (us.set i u)
  | _, _, _, .nil => .nil
  | _, _, 0, .cons _ t => .cons r t
  | _, _, i + 1, .cons q t => .cons q (Vals.set r i t)
theorem Vals.append : ∀ {xs ys : List V} {us ws : List Value}, Vals xs us → Vals ys ws → Vals (xs ++ ys) (us ++ ws)
  | _, _, _, _, .nil, s => s
  | _, _, _, _, .cons r t, s => .cons r (Vals.append t s)
theorem Vals.take : ∀ {xs : List V} {us : List Value} (n : Nat), Vals xs us → Vals (xs.take n) (us.take n)
  | _, _, 0, _ => .nil
  | _, _, _ + 1, .nil => .nil
  | _, _, n + 1, .cons r t => .cons r (Vals.take n t)
theorem Vals.drop : ∀ {xs : List V} {us : List Value} (n : Nat), Vals xs us → Vals (xs.drop n) (us.drop n)
  | _, _, 0, r => r
  | _, _, _ + 1, .nil => .nil
  | _, _, n + 1, .cons _ t => Vals.drop n t

def RelO : Option V → Option Value → Prop
  | some v, some u => RelV v u
  | none, none => True
  | _, _ => False
def KV {κ : Type} : List (κ × V) → List (κ × Value) → Prop := Paired fun (p : κ × V) (q : κ × Value) => p.1 = q.1 ∧ RelV p.2 q.2

/-- a key of a dict (00_mix): an int or a text -/
def kV : Key → V
  | .inl i => .int i
  | .inr x => .str x

/-- what stands at a tracked address -/
inductive HO where
  /-- a list -/
  | lst (xs : List V)
  /-- a tuple (never changes) -/
  | tup (xs : List V)
  /-- a dict whose keys are ints and texts; one whose keys are tuples of ints and texts (the empty one is both) -/
  | dK (kvs : List (Key × V)) | dT (kvs : List (List Key × V))
  /-- a set of ints: its members, its size -/
  | set (S : Int → Bool) (n : Nat)
  /-- an instance of the class at C, its dict at dx, its attributes -/
  | ins (C dx : Addr) (fs : List (Str × V))
  /-- the dict of the instance at x -/
  | own (x : Addr)
  /-- the dict of an exception -/
  | xd (fs : List (Str × V))
  /-- a bound method, f of x -/
  | met (f x : Addr)
  /-- a range object lo, lo + 1, .. below hi -/
  | rng (lo hi : Int)
  /-- a thing that is known to the object (the script; a dict while a loop walks it): read, never written while it is so -/
  | frz (o : Obj) (u : HO)
  /-- a code object's table -/
  | tbl (ps : Array Value)
  /-- any other thing, by what is true of its one object (a def of one's own: SetO a S n := HO.ext fun h => ..) -/
  | ext (φ : Heap → Prop)

abbrev Hp := Addr → Option HO
def upd (H : Hp) (a : Addr) (o : HO) : Hp := fun b => if b = a then some o else H b
theorem upd_same {H : Hp} {a : Addr} {o : HO} : upd H a o a = some o := by unfold upd; rw [if_pos rfl]
theorem upd_ne {H : Hp} {a b : Addr} {o : HO} (h : b ≠ a) : upd H a o b = H b := by unfold upd; rw [if_neg h]
theorem upd_upd {H : Hp} {a : Addr} {o u : HO} : upd (upd H a o) a u = upd H a u := by
  funext b; unfold upd; split <;> rfl
/-- two objects of different content stand apart -/
theorem ne_of {H : Hp} {a b : Addr} {o u : HO} (h : H a = some o) (h' : H b = some u) (d : o ≠ u) : a ≠ b := by
  intro e; subst e; rw [h] at h'; exact d (Option.some.inj h')
theorem ne_of_none {H : Hp} {a b : Addr} {o : HO} (h : H a = some o) (h' : H b = none) : a ≠ b := by
  intro e; subst e; rw [h] at h'; cases h'

section
variable (P : Program) (w : World)
def ObjOk (H : Hp) (h : Heap) (a : Addr) : HO → Prop
  | .lst xs => xs.length ≤ sizeLine ∧ ∃ (its : List Value) (n : Nat), Vals xs its ∧ h.get? a = some { cls := .type "list", data := .seq its.toArray n }
  | .tup xs => xs.length ≤ sizeLine ∧ ∃ its : List Value, Vals xs its ∧ IsTup h a its.toArray
  | .dK kvs => kvs.length ≤ sizeLine ∧ (a == sysModules) = false ∧ ∃ vs, KV kvs vs ∧ h.DictOf (mixKind P w) a vs
  | .dT kvs => kvs.length ≤ sizeLine ∧ (a == sysModules) = false ∧ ∃ xs : List (List Key × Addr × Value),
      Paired (fun (p : List Key × V) (q : List Key × Addr × Value) => p.1 = q.1 ∧ H q.2.1 = some (.tup (p.1.map kV)) ∧ RelV p.2 q.2.2) kvs xs ∧
      ∃ o es ep, h.get? a = some o ∧ o.ExactDict ∧ o.data = .dict es ep ∧ es.toList = xs.map (entryOfKey (tupleKind (mixKind P w))) ∧ (xs.map (·.1)).Nodup
  | .set S n => h.SetOf (intKind P w) a S n
  | .ins C dx fs => H dx = some (.own a) ∧ fs.length ≤ 1000 ∧ dx ≠ a ∧ h.get? a = some (PySem.W.instObj C dx) ∧
      ∃ mA, h.Ns1 dx mA ∧ (∀ f, RelO (fs.lookup f) (mA f)) ∧ PySem.Within mA (fs.map (·.1))
  | .own _ => ∃ o, h.get? a = some o
  | .xd fs => ∃ mA, h.Ns1 a mA ∧ ∀ f, RelO (fs.lookup f) (mA f)
  | .rng lo hi => ∃ t u v, h.get? a = some { cls := .type "range", data := .fields #[.int lo t, .int hi u, .int 1 v] }
  | .frz o u => h.get? a = some o ∧ ObjOk H h a u
  | .tbl ps => h.get? a = some { cls := .none, data := .fields ps }
  | .met f x => h.get? a = some (PySem.W.methodObj (.ref f) (.ref x))
  | .ext φ => φ h ∧ (∃ o, h.get? a = some o) ∧ ∀ h1 h2 : Heap, φ h1 → (∀ o, h1.get? a = some o → h2.get? a = some o) → φ h2
/-- the abstract heap is held -/
def HOk (H : Hp) (h : Heap) : Prop := ∀ a o, H a = some o → ObjOk P w H h a o
end

section
variable {P : Program} {w : World} {H H' : Hp} {h h' : Heap} {a : Addr} {o : HO}
theorem ObjOk.lt (x : ObjOk P w H h a o) : a < h.objs.size := by
  cases o with
  | lst xs => obtain ⟨_, _, _, _, e⟩ := x; exact Heap.lt_size e
  | tup xs => obtain ⟨_, _, _, p⟩ := x; exact p.lt
  | dK kvs => obtain ⟨_, _, _, _, o, _, _, e, _⟩ := x; exact Heap.lt_size e
  | dT kvs => obtain ⟨_, _, _, _, o, _, _, e, _⟩ := x; exact Heap.lt_size e
  | set S n => obtain ⟨o, _, _, _, e, _⟩ := x; exact Heap.lt_size e
  | ins C dx fs => obtain ⟨_, _, _, e, _⟩ := x; exact Heap.lt_size e
  | own y => obtain ⟨_, e⟩ := x; exact Heap.lt_size e
  | xd fs => obtain ⟨_, ⟨_, _, _, e, _⟩, _⟩ := x; exact Heap.lt_size e
  | rng lo hi => obtain ⟨_, _, _, e⟩ := x; exact Heap.lt_size e
  | frz ob u => obtain ⟨e, _⟩ := x; exact Heap.lt_size e
  | tbl ps => exact Heap.lt_size (show h.get? a = some _ from x)
  | met f y => exact Heap.lt_size (show h.get? a = some _ from x)
  | ext φ => obtain ⟨_, ⟨_, e⟩, _⟩ := x; exact Heap.lt_size e
theorem Paired.mapP {α β : Type} {F G : α → β → Prop} : ∀ {l₁ : List α} {l₂ : List β}, Paired F l₁ l₂ → (∀ a b, F a b → G a b) → Paired G l₁ l₂
  | _, _, .nil, _ => .nil
  | _, _, .cons r t, f => .cons (f _ _ r) (Paired.mapP t f)
/-- what an object's description leans on: its own object, its own dict, the tuples -/
theorem ObjOk.stay (x : ObjOk P w H h a o) (k : ∀ b u, (b = a ∨ H b = some (.own a)) → h.get? b = some u → h'.get? b = some u)
    (ho : ∀ b, H b = some (.own a) → H' b = some (.own a)) (ht : ∀ b xs, H b = some (.tup xs) → H' b = some (.tup xs)) : ObjOk P w H' h' a o := by
  induction o with
  | lst xs => obtain ⟨z, its, n, r, e⟩ := x; exact ⟨z, its, n, r, k _ _ (.inl rfl) e⟩
  | tup xs => obtain ⟨z, its, r, ob, e, c⟩ := x; exact ⟨z, its, r, ob, k _ _ (.inl rfl) e, c⟩
  | dK kvs => obtain ⟨z, y, vs, r, ob, es, ep, e, c⟩ := x; exact ⟨z, y, vs, r, ob, es, ep, k _ _ (.inl rfl) e, c⟩
  | dT kvs =>
    obtain ⟨z, y, xs, r, ob, es, ep, e, c⟩ := x
    exact ⟨z, y, xs, Paired.mapP r fun p q z => ⟨z.1, ht _ _ z.2.1, z.2.2⟩, ob, es, ep, k _ _ (.inl rfl) e, c⟩
  | set S n => obtain ⟨ob, es, ep, t, e, c⟩ := x; exact ⟨ob, es, ep, t, k _ _ (.inl rfl) e, c⟩
  | ins C dx fs =>
    obtain ⟨d, z, ne, e, mA, ⟨od, es, ep, e2, c⟩, r⟩ := x
    exact ⟨ho _ d, z, ne, k _ _ (.inl rfl) e, mA, ⟨od, es, ep, k _ _ (.inr d) e2, c⟩, r⟩
  | own y => obtain ⟨ob, e⟩ := x; exact ⟨ob, k _ _ (.inl rfl) e⟩
  | xd fs => obtain ⟨mA, ⟨od, es, ep, e, c⟩, r⟩ := x; exact ⟨mA, ⟨od, es, ep, k _ _ (.inl rfl) e, c⟩, r⟩
  | rng lo hi => obtain ⟨t, u, v, e⟩ := x; exact ⟨t, u, v, k _ _ (.inl rfl) e⟩
  | frz ob u ih => obtain ⟨e, q⟩ := x; exact ⟨k _ _ (.inl rfl) e, ih q⟩
  | tbl ps =>
    have e : h.get? a = some { cls := .none, data := .fields ps } := x
    show h'.get? a = some { cls := .none, data := .fields ps }
    exact k a _ (.inl rfl) e
  | met f y =>
    have e : h.get? a = some (PySem.W.methodObj (.ref f) (.ref y)) := x
    show h'.get? a = some (PySem.W.methodObj (.ref f) (.ref y))
    exact k a _ (.inl rfl) e
  | ext φ => obtain ⟨p, ⟨o, e⟩, st⟩ := x; exact ⟨st _ _ p fun o q => k _ _ (.inl rfl) q, ⟨o, k _ _ (.inl rfl) e⟩, st⟩
theorem HOk.lt (x : HOk P w H h) (e : H a = some o) : a < h.objs.size := (x a o e).lt
theorem HOk.fresh (x : HOk P w H h) (e : h.objs.size ≤ a) : H a = none := by
  cases q : H a with
  | none => rfl
  | some u => exact absurd (Nat.lt_of_lt_of_le (x.lt q) e) (Nat.lt_irrefl _)
/-- every object of the heap is kept -/
theorem HOk.kept (x : HOk P w H h) (k : ∀ b u, h.get? b = some u → h'.get? b = some u) : HOk P w H h' := fun a o e =>
  (x a o e).stay (fun b u _ q => k b u q) (fun _ q => q) fun _ _ q => q
/-- a new object is laid and tracked -/
theorem HOk.laid (x : HOk P w H h) (k : ∀ b u, h.get? b = some u → h'.get? b = some u) (hp : h.objs.size ≤ a) (new : ObjOk P w (upd H a o) h' a o) : HOk P w (upd H a o) h' := fun b u e => by
  have hn := x.fresh hp
  by_cases hb : b = a
  · subst hb; rw [upd_same] at e; cases e; exact new
  · rw [upd_ne hb] at e
    exact (x b u e).stay (fun c v _ q => k c v q) (fun c q => by rw [upd_ne (ne_of_none q hn)]; exact q) fun c xs q => by rw [upd_ne (ne_of_none q hn)]; exact q
end

/-- what may be read as u: it is u, or a known u -/
def Rd (H : Hp) (a : Addr) (u : HO) : Prop := H a = some u ∨ ∃ o, H a = some (.frz o u)
theorem Rd.of {H : Hp} {a : Addr} {u : HO} (h : H a = some u) : Rd H a u := .inl h
theorem Rd.ok {P : Program} {w : World} {H : Hp} {h : Heap} {a : Addr} {u : HO} (r : Rd H a u) (x : HOk P w H h) : ObjOk P w H h a u := by
  rcases r with r | ⟨o, r⟩
  · exact x a u r
  · obtain ⟨_, q⟩ := x a _ r
    exact q
/-- what may be written -/
def Mut : Option HO → Prop
  | some (.lst _) => True
  | some (.dK _) => True
  | some (.dT _) => True
  | some (.set _ _) => True
  | some (.ins _ _ _) => True
  | some (.ext _) => True
  | _ => False
section
variable {P : Program} {w : World} {H : Hp} {h h' : Heap} {x e : Addr} {o' : HO}
/-- the object at e is changed: x itself, or the dict of the instance x -/
theorem HOk.write (ok : HOk P w H h) (mu : Mut (H x)) (he : e = x ∨ H e = some (.own x)) (k : ∀ b u, b ≠ e → h.get? b = some u → h'.get? b = some u) (heo : ∃ u, h'.get? e = some u)
    (new : ObjOk P w (upd H x o') h' x o') : HOk P w (upd H x o') h' := fun b u q => by
  have nown : ∀ c y, H c = some (.own y) → c ≠ x := fun c y r z => by subst z; rw [r] at mu; exact mu
  have ntup : ∀ c xs, H c = some (.tup xs) → c ≠ x := fun c xs r z => by subst z; rw [r] at mu; exact mu
  by_cases hb : b = x
  · subst hb; rw [upd_same] at q; cases q; exact new
  · rw [upd_ne hb] at q
    by_cases hbe : b = e
    · have q' : H b = some (.own x) := by
        rcases he with z | z
        · exact absurd (hbe.trans z) hb
        · rw [hbe]; exact z
      rw [q] at q'; cases q'
      obtain ⟨v, hv⟩ := heo
      exact ⟨v, by rw [hbe]; exact hv⟩
    · refine (ok b u q).stay (fun c v hc r => k c v ?_ r) (fun c r => by rw [upd_ne (nown c b r)]; exact r) fun c xs r => by rw [upd_ne (ntup c xs r)]; exact r
      rcases hc with rfl | hc
      · exact hbe
      · rintro rfl
        rcases he with z | z
        · exact nown c b hc z
        · rw [hc] at z; cases z; exact hb rfl
end

/-! ### kept unless tracked; of the frames at fs (the callers') the slots may change (an exception that passes writes there); of the records at ex (iterators) nothing is said -/
structure Un (fs ex : List Addr) (H H' : Hp) (h h' : Heap) : Prop where
  keep : ∀ b o, h.get? b = some o → H b = none → b ∉ fs → b ∉ ex → h'.get? b = some o
  slot : ∀ b o, h.get? b = some o → H b = none → b ∈ fs → b ∉ ex → ∃ sl, h'.get? b = some { o with slots := sl }
  free : ∀ b o, h.get? b = some o → H b = none → b ∉ ex → H' b = none
  there : ∀ b o, h.get? b = some o → b ∉ ex → ∃ o', h'.get? b = some o'
  tups : ∀ b xs, H b = some (.tup xs) → H' b = some (.tup xs)
  frzs : ∀ b o u, H b = some (.frz o u) → H' b = some (.frz o u)
  tbls : ∀ b ps, H b = some (.tbl ps) → ∃ more, H' b = some (.tbl (ps ++ more))
section
variable {fs fs' ex ex' : List Addr} {H H1 H2 : Hp} {h h1 h2 h' : Heap} {a x e : Addr} {o : HO}
theorem Un.any (u : Un fs ex H H1 h h1) {b : Addr} {ob : Obj} (q : h.get? b = some ob) (n : H b = none) (hx : b ∉ ex) : ∃ sl, h1.get? b = some { ob with slots := sl } := by
  by_cases hb : b ∈ fs
  · exact u.slot b ob q n hb hx
  · exact ⟨ob.slots, u.keep b ob q n hb hx⟩
theorem Un.trans (a : Un fs ex H H1 h h1) (b : Un fs ex H1 H2 h1 h2) : Un fs ex H H2 h h2 where
  keep := fun c ob q n hc hx => b.keep c ob (a.keep c ob q n hc hx) (a.free c ob q n hx) hc hx
  slot := fun c ob q n hc hx => by
    obtain ⟨sl, e1⟩ := a.slot c ob q n hc hx
    obtain ⟨sl', e2⟩ := b.slot c _ e1 (a.free c ob q n hx) hc hx
    exact ⟨sl', e2⟩
  free := fun c ob q n hx => by
    obtain ⟨o', e1⟩ := a.there c ob q hx
    exact b.free c o' e1 (a.free c ob q n hx) hx
  there := fun c ob q hx => by
    obtain ⟨o', e1⟩ := a.there c ob q hx
    exact b.there c o' e1 hx
  tups := fun c xs q => b.tups c xs (a.tups c xs q)
  frzs := fun c ob xs q => b.frzs c ob xs (a.frzs c ob xs q)
  tbls := fun c ps q => by
    obtain ⟨m1, e1⟩ := a.tbls c ps q
    obtain ⟨m2, e2⟩ := b.tbls c _ e1
    exact ⟨m1 ++ m2, by rw [e2, Array.append_assoc]⟩
theorem Un.kept (k : ∀ b u, h.get? b = some u → h'.get? b = some u) : Un fs ex H H h h' :=
  ⟨fun b ob q _ _ _ => k b ob q, fun b ob q _ _ _ => ⟨ob.slots, k b ob q⟩, fun _ _ _ n _ => n, fun b ob q _ => ⟨ob, k b ob q⟩, fun _ _ q => q, fun _ _ _ q => q, fun _ ps q => ⟨#[], by rw [q]; simp⟩⟩
theorem Un.refl : Un fs ex H H h h := Un.kept fun _ _ q => q
theorem Un.laid (k : ∀ b u, h.get? b = some u → h'.get? b = some u) (hp : h.objs.size ≤ a) (hn : H a = none) : Un fs ex H (upd H a o) h h' where
  keep := fun b u q _ _ _ => k b u q
  slot := fun b u q _ _ _ => ⟨u.slots, k b u q⟩
  free := fun b u q n _ => by rw [upd_ne (Nat.ne_of_lt (Nat.lt_of_lt_of_le (Heap.lt_size q) hp))]; exact n
  there := fun b u q _ => ⟨u, k b u q⟩
  tups := fun b xs q => by rw [upd_ne (ne_of_none q hn)]; exact q
  frzs := fun b u xs q => by rw [upd_ne (ne_of_none q hn)]; exact q
  tbls := fun b ps q => ⟨#[], by rw [upd_ne (ne_of_none q hn), q]; simp⟩
theorem Un.write (mu : Mut (H x)) (he : e = x ∨ H e = some (.own x)) (k : ∀ b u, b ≠ e → h.get? b = some u → h'.get? b = some u) (heo : ∃ u, h'.get? e = some u) : Un fs ex H (upd H x o) h h' := by
  have hx : ∀ b, H b = none → b ≠ x := fun b n z => by subst z; rw [n] at mu; exact mu
  have hb : ∀ b, H b = none → b ≠ e := fun b n z => by
    subst z
    rcases he with r | r
    · exact hx b n r
    · rw [n] at r; cases r
  have hm : ∀ b u, H b = some u → ¬ Mut (some u) → b ≠ x := fun b u q nm z => by subst z; rw [q] at mu; exact nm mu
  refine ⟨fun b u q n _ _ => k b u (hb b n) q, fun b u q n _ _ => ⟨u.slots, k b u (hb b n) q⟩, fun b u q n _ => by rw [upd_ne (hx b n)]; exact n, fun b u q _ => ?_,
    fun b xs q => by rw [upd_ne (hm b _ q fun z => z)]; exact q, fun b u xs q => by rw [upd_ne (hm b _ q fun z => z)]; exact q, fun b ps q => ⟨#[], by rw [upd_ne (hm b _ q fun z => z), q]; simp⟩⟩
  by_cases hbe : b = e
  · subst hbe; exact heo
  · exact ⟨u, k b u hbe q⟩
theorem Un.mono (u : Un fs ex H H1 h h1) (hs : ∀ b ∈ fs, b ∈ fs') (hx : ∀ b ∈ ex, b ∈ ex') : Un fs' ex' H H1 h h1 :=
  ⟨fun b ob q n hb he => u.keep b ob q n (fun z => hb (hs b z)) fun z => he (hx b z), fun _ _ q n _ he => u.any q n fun z => he (hx _ z), fun b ob q n he => u.free b ob q n fun z => he (hx b z), fun b ob q he => u.there b ob q fun z => he (hx b z), u.tups, u.frzs, u.tbls⟩
end

/-! ### the heap without what is tracked -/
def trk (h : Heap) (H : Hp) : List Addr := (List.range h.objs.size).filter fun a => (H a).isSome
def hidT (h : Heap) (H : Hp) : Heap := PySem.W.hideAll h (trk h H)
theorem hidT_size (h : Heap) (H : Hp) : (hidT h H).objs.size = h.objs.size := PySem.W.hideAll_size _ _
theorem hidT_get {h : Heap} {H : Hp} {b : Addr} {o : Obj} (e : h.get? b = some o) (n : H b = none) : (hidT h H).get? b = some o :=
  PySem.W.hideAll_get _ e fun hm => by
    have q : (H b).isSome = true := (List.mem_filter.mp hm).2
    rw [n] at q; simp at q
theorem of_hidT {h : Heap} {H : Hp} {b : Addr} {o : Obj} (e : (hidT h H).get? b = some o) : h.get? b = some o ∧ H b = none := by
  have e' : h.get? b = some o := PySem.W.of_hideAll (trk h H) e
  refine ⟨e', ?_⟩
  cases q : H b with
  | none => rfl
  | some x =>
    have hm : b ∈ trk h H := List.mem_filter.mpr ⟨List.mem_range.mpr (Heap.lt_size e'), by simp [q]⟩
    have z : (hidT h H).get? b = none := PySem.W.hideAll_none (trk h H) hm
    rw [z] at e; cases e

/-! ### OpenK's ledger, filled with every new object but one -/
def allNews (g h : Heap) (L : Addr) : List (Addr × Obj) := (List.range h.objs.size).filterMap fun a => if a = L ∨ (g.get? a).isSome = true then none else (h.get? a).map fun o => (a, o)
def rest (g h : Heap) (L d : Addr) : List (Addr × Obj) := (allNews g h L).filter fun p => decide (p.1 ≠ d)
end L2

namespace L2
open PySem PySem.Spec PyProof.Rows

/-- the module's facts, over the base: the heap at the law's entry without what is tracked there -/
structure Mod (K : PySem.W.Frag) (mg : Str → Option Value) (base : Heap) : Prop where
  kin : K.In base
  glob : base.Ns mainGlobals mg
  blt : ∃ mb, base.Ns builtinsNs mb ∧ ∀ x : Str, x ≠ "__name__" → mb x = bootBuiltins x
  nolimit : base.NoLimit

/-- the context: a def's body (or a comprehension's block) running. base: fixed through the whole law; s₀, H₀: the entry; outer: the frames whose slots others may change (a def's callers); stack: all frames that run;
   ex: iterators that were made ahead of the entry and are walked here (a comprehension's); fn: the names whose cells were made at the entry (a def: all; a comprehension's block: its own); calm: not within an except suite; pn: pins that every state bears; xe: what is wanted of an exception that leaves the code -/
structure Cx where
  prog : Program
  w : World
  K : PySem.W.Frag
  mg : Str → Option Value
  base : Heap
  A : Around
  N : List Str
  s₀ : Shared
  H₀ : Hp
  env : Env
  outer : List Env
  stack : List Env
  ex : List Addr
  fn : Str → Bool
  calm : Bool
  pn : List (Addr × Obj)
  xe : Value → Shared → Prop
/-- the callers' frames -/
def frs (l : List Env) : List Addr := l.filterMap (·.frame)
abbrev Cx.fs (X : Cx) : List Addr := frs X.outer

def Vis (sc : Scope) (x : Str) : Prop := sc.names.lookup x = some .local ∨ sc.names.lookup x = some .cell ∨ sc.names.lookup x = some .free
def Loc (sc : Scope) (x : Str) : Prop := sc.names.lookup x = some .local ∨ sc.names.lookup x = some .cell
def Look (env : Env) (h : Heap) (m : Str → Option Value) (x : Str) (u : Value) : Prop :=
  (env.kindOf x = some .local ∧ m x = some u) ∨ ((env.kindOf x = some .cell ∨ env.kindOf x = some .free) ∧ ∃ c, env.cells.lookup x = some c ∧ h.IsCell c (some u))

structure Cx.Ok (X : Cx) : Prop where
  mod : Mod X.K X.mg X.base
  kind : X.env.scope.kind = .function
  glob : X.env.globals = mainGlobals
  blt : X.env.builtins = builtinsNs
  above : X.s₀.heap.objs.size ≤ X.env.locals
  inj : ∀ x y c, X.env.cells.lookup x = some c → X.env.cells.lookup y = some c → x = y
  has : ∀ x, (X.env.kindOf x = some .cell ∨ X.env.kindOf x = some .free) → ∃ c, X.env.cells.lookup x = some c
  cab : ∀ x c, X.fn x = true → X.env.cells.lookup x = some c → X.s₀.heap.objs.size ≤ c
  hd : X.calm = true → X.A.handled = none
  frames : X.A.frames = some X.stack
  stk : X.stack = X.outer ∨ (X.stack = X.env :: X.outer ∧ X.env.frame = some X.env.locals)
  exf : ∀ b ∈ X.ex, b ≠ X.env.locals ∧ ∀ x c, X.env.cells.lookup x = some c → c ≠ b
  bs : ∀ b o, X.base.get? b = some o → X.s₀.heap.get? b = some o ∧ X.H₀ b = none
  bsz : X.base.objs.size ≤ X.s₀.heap.objs.size
  noex : ∀ b o, X.base.get? b = some o → b ∉ X.ex
  exfs : ∀ b ∈ X.ex, b ∉ X.fs
  funs : X.s₀.heap.FunFrames X.base X.outer
  frf : ∀ b ∈ X.fs, X.H₀ b = none

structure Inv (X : Cx) (pins : List (Addr × Obj)) (σ : List (Option V)) (H : Hp) (s : Shared) : Prop where
  ok : X.Ok
  os : s.os = X.s₀.os
  bare : AllBare s.gens
  base : Un X.fs X.ex X.H₀ H X.s₀.heap s.heap
  loc : ∃ m, s.heap.Ns X.env.locals m ∧ ∀ (i : Nat) (x : Str) (v : V), X.N[i]? = some x → σ[i]? = some (some v) → Vis X.env.scope x → ∃ u, RelV v u ∧ Look X.env s.heap m x u
  cell : ∀ x c, X.env.cells.lookup x = some c → ∃ v, s.heap.IsCell c v
  free : H X.env.locals = none
  freeC : ∀ x c, X.env.cells.lookup x = some c → H c = none
  pin : ∀ p ∈ X.pn ++ pins, s.heap.get? p.1 = some p.2 ∧ H p.1 = none ∧ p.1 ≠ X.env.locals ∧ p.1 ∉ X.fs ∧ ∀ v, p.2.data ≠ .cell v
  hok : HOk X.prog X.w H s.heap
  len : σ.length = X.N.length

section
variable {X : Cx} {pins : List (Addr × Obj)} {σ : List (Option V)} {H H' : Hp} {s : Shared} {h' : Heap}

theorem Cx.Ok.nofr (ok : X.Ok) {b : Addr} {o : Obj} (e : X.base.get? b = some o) : b ∉ X.fs := fun hb => by
  have := (ok.funs.mem hb).1
  rw [e] at this; cases this
theorem Inv.bs (I : Inv X pins σ H s) : ∀ b o, X.base.get? b = some o → s.heap.get? b = some o ∧ H b = none := fun b o e =>
  ⟨I.base.keep b o (I.ok.bs b o e).1 (I.ok.bs b o e).2 (I.ok.nofr e) (I.ok.noex b o e), I.base.free b o (I.ok.bs b o e).1 (I.ok.bs b o e).2 (I.ok.noex b o e)⟩
theorem Inv.bk (I : Inv X pins σ H s) : ∀ b o, X.base.get? b = some o → s.heap.get? b = some o := fun b o e => (I.bs b o e).1
theorem Inv.mod (I : Inv X pins σ H s) : Mod X.K X.mg X.base := I.ok.mod
theorem Inv.kIn (I : Inv X pins σ H s) : X.K.In s.heap := I.ok.mod.kin.keeps I.bk
theorem Inv.nolimit (I : Inv X pins σ H s) : s.heap.NoLimit := I.ok.mod.nolimit.keeps I.bk
/-- the frame over the base: for OpenK's rules (K.In X.base is I.mod.kin) -/
theorem Inv.fr (I : Inv X pins σ H s) : ∃ m, Fr X.base X.env.locals s.heap m :=
  let ⟨m, hn, _⟩ := I.loc
  ⟨m, hn, I.bk, Nat.le_trans I.ok.bsz I.ok.above⟩
theorem Inv.lt (I : Inv X pins σ H s) : X.env.locals < s.heap.objs.size := let ⟨_, hn, _⟩ := I.loc; hn.lt
theorem Inv.sz (I : Inv X pins σ H s) : X.s₀.heap.objs.size ≤ s.heap.objs.size := Nat.le_trans I.ok.above (Nat.le_of_lt I.lt)
theorem Inv.nofs (I : Inv X pins σ H s) {a : Addr} (h : s.heap.objs.size ≤ a) : a ∉ X.fs := fun hb => by
  obtain ⟨_, o, ho, _⟩ := I.ok.funs.mem hb
  exact absurd (Nat.lt_of_lt_of_le (Heap.lt_size ho) (Nat.le_trans I.sz h)) (Nat.lt_irrefl _)
theorem Inv.cne (I : Inv X pins σ H s) : ∀ x c, X.env.cells.lookup x = some c → c ≠ X.env.locals := fun x c e z => by
  obtain ⟨v, o, ho, hd⟩ := I.cell x c e
  obtain ⟨m, ⟨o', es, ep, ho', hd', _⟩, _⟩ := I.loc
  rw [z, ho'] at ho; cases ho; rw [hd'] at hd; cases hd
theorem Inv.funs (I : Inv X pins σ H s) : s.heap.FunFrames X.base X.outer := by
  have all : ∀ (l : List Env), (∀ b ∈ frs l, b ∈ X.fs) → X.s₀.heap.FunFrames X.base l → s.heap.FunFrames X.base l := by
    intro l
    induction l with
    | nil => intro _ _; trivial
    | cons env r ih =>
      intro hs hl
      obtain ⟨hk, ⟨L, o, hf, hn, ho, hd⟩, hr⟩ := hl
      have hL : L ∈ X.fs := hs L (by unfold frs; rw [List.filterMap_cons, hf]; exact List.mem_cons_self)
      obtain ⟨sl, e⟩ := I.base.slot L o ho (I.ok.frf L hL) hL fun z => I.ok.exfs L z hL
      exact ⟨hk, ⟨L, _, hf, hn, e, hd⟩, ih (fun b hb => hs b (by unfold frs; rw [List.filterMap_cons, hf]; exact List.mem_cons_of_mem _ hb)) hr⟩
  exact all X.outer (fun _ hb => hb) I.ok.funs

/-- the frames that run, for a call -/
theorem Inv.stack (I : Inv X pins σ H s) : s.heap.FunFrames X.base X.stack := by
  rcases I.ok.stk with e | ⟨e, hf⟩
  · rw [e]; exact I.funs
  · rw [e]
    obtain ⟨m, hn, _⟩ := I.loc
    refine .cons (by rw [I.ok.kind]; decide) hf hn ?_ I.funs
    exact Heap.get?_none_of_le (Nat.le_trans I.ok.bsz I.ok.above)
theorem Inv.stkSub (I : Inv X pins σ H s) : ∀ b ∈ frs X.stack, b ∈ X.env.locals :: X.fs := fun b hb => by
  rcases I.ok.stk with e | ⟨e, hf⟩
  · rw [e] at hb; exact List.mem_cons_of_mem _ hb
  · rw [e] at hb
    unfold frs at hb
    rw [List.filterMap_cons, hf] at hb
    exact hb
theorem Inv.stkFree (I : Inv X pins σ H s) : ∀ b ∈ frs X.stack, H b = none := fun b hb => by
  rcases List.mem_cons.mp (I.stkSub b hb) with e | hb
  · rw [e]; exact I.free
  · obtain ⟨_, o, ho, _⟩ := I.ok.funs.mem hb
    exact I.base.free b o ho (I.ok.frf b hb) fun z => I.ok.exfs b z hb

/-- THE STEP: the untracked objects but the frame and the records at ch are kept (the callers' frames up to slots), the frame's map is kept, the new abstract heap is held -/
theorem Inv.step {g' : Array GenState} {t' : Nat} {d' : Drawn} {ch : List Addr} (I : Inv X pins σ H s)
    (hch : ∀ b ∈ ch, (b ∈ X.ex ∨ X.s₀.heap.objs.size ≤ b) ∧ b ≠ X.env.locals ∧ (∀ x c, X.env.cells.lookup x = some c → c ≠ b) ∧ ∀ p ∈ X.pn ++ pins, p.1 ≠ b)
    (keep : ∀ b o, b ≠ X.env.locals → b ∉ X.fs → b ∉ ch → s.heap.get? b = some o → H b = none → h'.get? b = some o)
    (slot : ∀ b o, b ≠ X.env.locals → b ∈ X.fs → b ∉ ch → s.heap.get? b = some o → H b = none → ∃ sl, h'.get? b = some { o with slots := sl }) (free : ∀ b o, b ∉ ch → s.heap.get? b = some o → H b = none → H' b = none)
    (there : ∀ b o, b ∉ ch → s.heap.get? b = some o → ∃ o', h'.get? b = some o')
    (tups : ∀ b xs, H b = some (.tup xs) → H' b = some (.tup xs)) (frzs : ∀ b o u, H b = some (.frz o u) → H' b = some (.frz o u)) (tbls : ∀ b ps, H b = some (.tbl ps) → ∃ more, H' b = some (.tbl (ps ++ more)))
    (ns : ∀ m, s.heap.Ns X.env.locals m → h'.Ns X.env.locals m) (hok : HOk X.prog X.w H' h') (hg : AllBare g') :
    Inv X pins σ H' { s with heap := h', gens := g', drawn := d', toks := t' } := by
  have neL : ∀ b o, X.s₀.heap.get? b = some o → b ≠ X.env.locals := fun b o e => Nat.ne_of_lt (Nat.lt_of_lt_of_le (Heap.lt_size e) I.ok.above)
  have neC : ∀ b o, X.s₀.heap.get? b = some o → b ∉ X.ex → b ∉ ch := fun b o e hx hb => by
    rcases (hch b hb).1 with z | z
    · exact hx z
    · exact absurd (Nat.lt_of_lt_of_le (Heap.lt_size e) z) (Nat.lt_irrefl _)
  have cellK : ∀ x c, X.env.cells.lookup x = some c → ∀ v, s.heap.IsCell c v → h'.IsCell c v := fun x c e v ⟨o, ho, hd⟩ => by
    have nch : c ∉ ch := fun z => (hch c z).2.2.1 x c e rfl
    by_cases hc : c ∈ X.fs
    · obtain ⟨sl, q⟩ := slot c o (I.cne x c e) hc nch ho (I.freeC x c e)
      exact ⟨_, q, hd⟩
    · exact ⟨o, keep c o (I.cne x c e) hc nch ho (I.freeC x c e), hd⟩
  refine ⟨I.ok, I.os, hg, ⟨fun b o e n hb hx => ?_, fun b o e n hb hx => ?_, fun b o e n hx => ?_, fun b o e hx => ?_, fun b xs e => tups b xs (I.base.tups b xs e), fun b o xs e => frzs b o xs (I.base.frzs b o xs e), fun b ps e => ?_⟩, ?_, fun x c e => ?_, ?_, fun x c e => ?_, fun p hp => ?_, hok, I.len⟩
  · exact keep b o (neL b o e) hb (neC b o e hx) (I.base.keep b o e n hb hx) (I.base.free b o e n hx)
  · obtain ⟨sl, e1⟩ := I.base.slot b o e n hb hx
    obtain ⟨sl', e2⟩ := slot b _ (neL b o e) hb (neC b o e hx) e1 (I.base.free b o e n hx)
    exact ⟨sl', e2⟩
  · obtain ⟨o', e1⟩ := I.base.there b o e hx
    exact free b o' (neC b o e hx) e1 (I.base.free b o e n hx)
  · obtain ⟨o', e1⟩ := I.base.there b o e hx
    exact there b o' (neC b o e hx) e1
  · obtain ⟨m1, e1⟩ := I.base.tbls b ps e
    obtain ⟨m2, e2⟩ := tbls b _ e1
    exact ⟨m1 ++ m2, by rw [e2, Array.append_assoc]⟩
  · obtain ⟨m, hn, hl⟩ := I.loc
    refine ⟨m, ns m hn, fun i x v e1 e2 e3 => ?_⟩
    obtain ⟨u, r, l⟩ := hl i x v e1 e2 e3
    refine ⟨u, r, ?_⟩
    rcases l with l | ⟨k, c, e, z⟩
    · exact .inl l
    · exact .inr ⟨k, c, e, cellK x c e _ z⟩
  · obtain ⟨v, z⟩ := I.cell x c e
    exact ⟨v, cellK x c e v z⟩
  · obtain ⟨m, ⟨o, _, _, ho, _⟩, _⟩ := I.loc
    exact free _ o (fun z => (hch _ z).2.1 rfl) ho I.free
  · obtain ⟨v, o, ho, hd⟩ := I.cell x c e
    exact free c o (fun z => (hch c z).2.2.1 x c e rfl) ho (I.freeC x c e)
  · obtain ⟨e, n, ne, nf, d⟩ := I.pin p hp
    have nch : p.1 ∉ ch := fun z => (hch p.1 z).2.2.2 p hp rfl
    exact ⟨keep p.1 p.2 ne nf nch e n, free p.1 p.2 nch e n, ne, nf, d⟩
/-- .. where the frame's own object is kept too -/
theorem Inv.un {t' : Nat} (I : Inv X pins σ H s) (u : Un X.fs [] H H' s.heap h') (hok : HOk X.prog X.w H' h') : Inv X pins σ H' { s with heap := h', toks := t' } := by
  obtain ⟨m, ⟨o, es, ep, ho, r⟩, _⟩ := id I.loc
  obtain ⟨sl, hL⟩ := u.any ho I.free (by simp)
  exact I.step (g' := s.gens) (d' := s.drawn) (ch := []) (fun _ z => nomatch z) (fun b o _ hb _ e n => u.keep b o e n hb (by simp)) (fun b o _ hb _ e n => u.slot b o e n hb (by simp)) (fun b o _ e n => u.free b o e n (by simp)) (fun b o _ e => u.there b o e (by simp)) u.tups u.frzs u.tbls (fun m' hm => by
    obtain ⟨o', es', ep', ho', r'⟩ := hm
    rw [ho] at ho'; cases ho'
    exact ⟨_, es', ep', hL, r'⟩) hok I.bare
/-- behind a call (or a comprehension's block): the slots of this frame may have changed too, the records at ch may have turned -/
theorem Inv.call {g' : Array GenState} {t' : Nat} {d' : Drawn} {ch : List Addr} (I : Inv X pins σ H s) (u : Un (frs X.stack) ch H H' s.heap h') (hok : HOk X.prog X.w H' h') (hg : AllBare g')
    (hch : ∀ b ∈ ch, (b ∈ X.ex ∨ X.s₀.heap.objs.size ≤ b) ∧ b ≠ X.env.locals ∧ (∀ x c, X.env.cells.lookup x = some c → c ≠ b) ∧ ∀ p ∈ X.pn ++ pins, p.1 ≠ b) :
    Inv X pins σ H' { s with heap := h', gens := g', drawn := d', toks := t' } := by
  obtain ⟨m, ⟨o, es, ep, ho, r⟩, _⟩ := id I.loc
  obtain ⟨sl, hL⟩ := u.any ho I.free fun z => (hch _ z).2.1 rfl
  exact I.step (ch := ch) hch (fun b o hL hb hc e n => u.keep b o e n (fun z => (List.mem_cons.mp (I.stkSub b z)).elim hL hb) hc) (fun b o _ _ hc e n => u.any e n hc) (fun b o hc e n => u.free b o e n hc) (fun b o hc e => u.there b o e hc) u.tups u.frzs u.tbls (fun m' hm => by
    obtain ⟨o', es', ep', ho', r'⟩ := hm
    rw [ho] at ho'; cases ho'
    exact ⟨_, es', ep', hL, r'⟩) hok hg
/-- an untracked record of ours (an iterator) has turned -/
theorem Inv.turned {t' : Nat} {it : Addr} (I : Inv X pins σ H s) (k : ∀ b o, b ≠ it → s.heap.get? b = some o → h'.get? b = some o) (hn : H it = none) (hL : it ≠ X.env.locals)
    (h1 : it ∈ X.ex ∨ X.s₀.heap.objs.size ≤ it) (h2 : ∀ x c, X.env.cells.lookup x = some c → c ≠ it) (h3 : ∀ p ∈ X.pn ++ pins, p.1 ≠ it) : Inv X pins σ H { s with heap := h', toks := t' } := by
  have nit : ∀ b u, H b = some u → b ≠ it := fun b u e z => by rw [z, hn] at e; cases e
  refine I.step (g' := s.gens) (d' := s.drawn) (ch := [it]) (fun b hb => ?_) (fun b o _ _ hc e _ => k b o (fun z => hc (by simp [z])) e) (fun b o _ _ hc e _ => ⟨o.slots, k b o (fun z => hc (by simp [z])) e⟩) (fun _ _ _ _ n => n)
    (fun b o hc e => ⟨o, k b o (fun z => hc (by simp [z])) e⟩) (fun _ _ e => e) (fun _ _ _ e => e) (fun b ps e => ⟨#[], by rw [e]; simp⟩) (fun m hm => ?_) (fun b u e => ?_) I.bare
  · have e : b = it := by simpa using hb
    subst e
    exact ⟨h1, hL, h2, h3⟩
  · obtain ⟨o, es, ep, ho, r⟩ := hm
    exact ⟨o, es, ep, k _ o (Ne.symm hL) ho, r⟩
  · refine (I.hok b u e).stay (fun c v hc q => k c v ?_ q) (fun _ q => q) fun _ _ q => q
    rcases hc with z | z
    · rw [z]; exact nit b u e
    · exact nit c _ z
theorem Inv.tok (I : Inv X pins σ H s) (t : Nat) : Inv X pins σ H { s with toks := t } := I.un (h' := s.heap) (t' := t) Un.refl I.hok
/-- all objects kept -/
theorem Inv.kept {t' : Nat} (I : Inv X pins σ H s) (k : ∀ b u, s.heap.get? b = some u → h'.get? b = some u) : Inv X pins σ H { s with heap := h', toks := t' } := I.un (Un.kept k) (I.hok.kept k)
/-- a new object laid and tracked -/
theorem Inv.laid {a : Addr} {o : HO} {t' : Nat} (I : Inv X pins σ H s) (k : ∀ b u, s.heap.get? b = some u → h'.get? b = some u) (hp : s.heap.objs.size ≤ a) (new : ObjOk X.prog X.w (upd H a o) h' a o) :
    Inv X pins σ (upd H a o) { s with heap := h', toks := t' } := I.un (Un.laid k hp (I.hok.fresh hp)) (I.hok.laid k hp new)
/-- an object written -/
theorem Inv.write {x e : Addr} {o : HO} {t' : Nat} (I : Inv X pins σ H s) (mu : Mut (H x)) (he : e = x ∨ H e = some (.own x)) (k : ∀ b u, b ≠ e → s.heap.get? b = some u → h'.get? b = some u) (heo : ∃ u, h'.get? e = some u)
    (new : ObjOk X.prog X.w (upd H x o) h' x o) : Inv X pins σ (upd H x o) { s with heap := h', toks := t' } := I.un (Un.write mu he k heo) (I.hok.write mu he k heo new)
theorem Inv.pins_of {pins' : List (Addr × Obj)} (I : Inv X pins σ H s) (h : ∀ p ∈ pins', s.heap.get? p.1 = some p.2 ∧ H p.1 = none ∧ p.1 ≠ X.env.locals ∧ p.1 ∉ X.fs ∧ ∀ v, p.2.data ≠ .cell v) : Inv X pins' σ H s :=
  ⟨I.ok, I.os, I.bare, I.base, I.loc, I.cell, I.free, I.freeC, fun p hp => (List.mem_append.mp hp).elim (fun z => I.pin p (List.mem_append_left _ z)) (h p), I.hok, I.len⟩

theorem nodup_ix {N : List Str} (hN : N.Nodup) {i j : Nat} {x : Str} (a : N[i]? = some x) (b : N[j]? = some x) : i = j := by
  obtain ⟨h1, e1⟩ := List.getElem?_eq_some_iff.mp a
  obtain ⟨h2, e2⟩ := List.getElem?_eq_some_iff.mp b
  exact (List.getElem_inj hN).mp (e1.trans e2.symm)

/-- a name is stored; what changed -/
theorem store_ok2 {M : Model} {A : Around} {E : Value → Shared → Prop} {i : Nat} {x : Str} {v : V} {u : Value} {Q : Unit → Shared → Prop} (I : Inv X pins σ H s) (hN : X.N.Nodup) (hi : X.N[i]? = some x) (hx : Loc X.env.scope x) (r : RelV v u)
    (h : ∀ s', Inv X pins (σ.set i (some v)) H s' → (∃ a, Heap.SameBut a s.heap s'.heap ∧ (a = X.env.locals ∨ X.env.cells.lookup x = some a)) → Q () s') (hf : X.fn x = true ∨ X.env.scope.names.lookup x = some .local := by first | exact .inl rfl | exact .inr rfl | assumption) : wpAny M A (storeName X.env x u) Q E s := by
  obtain ⟨m, hn, hl⟩ := id I.loc
  have hcls : (X.env.scope.kind == .class || (X.env.scope.kind == .module && X.env.locals != X.env.globals)) = false := by rw [I.ok.kind]; rfl
  have hiσ : i < σ.length := by rw [I.len]; exact (List.getElem?_eq_some_iff.mp hi).1
  have cne := I.cne
  have tracked : ∀ {a : Addr} {h' : Heap}, (∃ o, s.heap.get? a = some o ∧ H a = none) → Heap.SameBut a s.heap h' → HOk X.prog X.w H h' := fun {a h'} ha hs b ob e => by
    obtain ⟨_, _, hfree⟩ := ha
    refine (I.hok b ob e).stay (fun c w' hc q => (hs.2 c ?_).trans q) (fun _ q => q) fun _ _ q => q
    rintro rfl
    rcases hc with rfl | hc
    · rw [hfree] at e; cases e
    · rw [hfree] at hc; cases hc
  rcases hx with hk | hk
  · refine wpAny_storeName_local hk hn (fun h' hn' hs => ?_) hcls
    obtain ⟨oL, _, _, hoL, _⟩ := id hn
    refine h _ ⟨I.ok, I.os, I.bare, ⟨fun b o e n hb hx => ?_, fun b o e n hb hx => ?_, I.base.free, fun b o e hx => ?_, I.base.tups, I.base.frzs, I.base.tbls⟩, ⟨_, hn', fun j y v' e1 e2 e3 => ?_⟩, fun y c e => ?_, I.free, I.freeC, fun p hp => ?_, tracked ⟨oL, hoL, I.free⟩ hs, by simpa using I.len⟩ ⟨_, hs, .inl rfl⟩
    · exact (hs.2 b (Nat.ne_of_lt (Nat.lt_of_lt_of_le (Heap.lt_size e) I.ok.above))).trans (I.base.keep b o e n hb hx)
    · obtain ⟨sl, e1⟩ := I.base.slot b o e n hb hx
      exact ⟨sl, (hs.2 b (Nat.ne_of_lt (Nat.lt_of_lt_of_le (Heap.lt_size e) I.ok.above))).trans e1⟩
    · obtain ⟨o', e1⟩ := I.base.there b o e hx
      exact ⟨o', (hs.2 b (Nat.ne_of_lt (Nat.lt_of_lt_of_le (Heap.lt_size e) I.ok.above))).trans e1⟩
    · by_cases hj : j = i
      · subst hj
        rw [hi] at e1; cases e1
        rw [List.getElem?_set_self hiσ] at e2
        cases e2
        exact ⟨u, r, .inl ⟨hk, by simp⟩⟩
      · rw [List.getElem?_set_ne (Ne.symm hj)] at e2
        obtain ⟨u', r', q⟩ := hl j y v' e1 e2 e3
        refine ⟨u', r', ?_⟩
        rcases q with ⟨k, e⟩ | ⟨k, c, e, z⟩
        · refine .inl ⟨k, ?_⟩
          have : y ≠ x := fun e => hj (nodup_ix hN e1 (e ▸ hi))
          simp [this, e]
        · exact .inr ⟨k, c, e, z.sameBut hs (cne y c e)⟩
    · obtain ⟨w', z⟩ := I.cell y c e
      exact ⟨w', z.sameBut hs (cne y c e)⟩
    · obtain ⟨e, n, ne, nf, d⟩ := I.pin p hp
      exact ⟨(hs.2 p.1 ne).trans e, n, ne, nf, d⟩
  · have hfn : X.fn x = true := by
      rcases hf with z | z
      · exact z
      · rw [z] at hk; cases hk
    obtain ⟨c, hc⟩ := I.ok.has x (.inl hk)
    obtain ⟨w', z⟩ := I.cell x c hc
    refine wpAny_storeName_cell I.ok.kind hk hc z (fun h' hc' hs => ?_)
    obtain ⟨oc, hoc, hocd⟩ := id z
    refine h { s with heap := h' } ⟨I.ok, I.os, I.bare, ⟨fun b o e n hb hx => ?_, fun b o e n hb hx => ?_, I.base.free, fun b o e hx => ?_, I.base.tups, I.base.frzs, I.base.tbls⟩, ⟨m, hn.sameBut hs (Ne.symm (cne x c hc)), fun j y v' e1 e2 e3 => ?_⟩, fun y c' e => ?_, I.free, I.freeC, fun p hp => ?_, tracked ⟨oc, hoc, I.freeC x c hc⟩ hs, by simpa using I.len⟩ ⟨c, hs, .inr hc⟩
    · exact (hs.2 b (Nat.ne_of_lt (Nat.lt_of_lt_of_le (Heap.lt_size e) (I.ok.cab x c hfn hc)))).trans (I.base.keep b o e n hb hx)
    · obtain ⟨sl, e1⟩ := I.base.slot b o e n hb hx
      exact ⟨sl, (hs.2 b (Nat.ne_of_lt (Nat.lt_of_lt_of_le (Heap.lt_size e) (I.ok.cab x c hfn hc)))).trans e1⟩
    · obtain ⟨o', e1⟩ := I.base.there b o e hx
      exact ⟨o', (hs.2 b (Nat.ne_of_lt (Nat.lt_of_lt_of_le (Heap.lt_size e) (I.ok.cab x c hfn hc)))).trans e1⟩
    · by_cases hj : j = i
      · subst hj
        rw [hi] at e1; cases e1
        rw [List.getElem?_set_self hiσ] at e2
        cases e2
        exact ⟨u, r, .inr ⟨.inl hk, c, hc, hc'⟩⟩
      · rw [List.getElem?_set_ne (Ne.symm hj)] at e2
        obtain ⟨u', r', q⟩ := hl j y v' e1 e2 e3
        refine ⟨u', r', ?_⟩
        rcases q with q | ⟨k, c', e, z'⟩
        · exact .inl q
        · refine .inr ⟨k, c', e, z'.sameBut hs ?_⟩
          rintro rfl
          exact hj (nodup_ix hN e1 (I.ok.inj _ _ _ e hc ▸ hi))
    · by_cases hcc : c' = c
      · subst hcc; exact ⟨_, hc'⟩
      · obtain ⟨w2, z2⟩ := I.cell y c' e
        exact ⟨w2, z2.sameBut hs hcc⟩
    · obtain ⟨e, n, ne, nf, d⟩ := I.pin p hp
      refine ⟨(hs.2 p.1 ?_).trans e, n, ne, nf, d⟩
      intro q
      rw [q, hoc] at e
      have q' : oc = p.2 := Option.some.inj e
      exact d w' (by rw [← q']; exact hocd)
theorem store_ok {M : Model} {A : Around} {E : Value → Shared → Prop} {i : Nat} {x : Str} {v : V} {u : Value} {Q : Unit → Shared → Prop} (I : Inv X pins σ H s) (hN : X.N.Nodup) (hi : X.N[i]? = some x) (hx : Loc X.env.scope x) (r : RelV v u)
    (h : ∀ s', Inv X pins (σ.set i (some v)) H s' → Q () s') (hf : X.fn x = true ∨ X.env.scope.names.lookup x = some .local := by first | exact .inl rfl | exact .inr rfl | assumption) : wpAny M A (storeName X.env x u) Q E s :=
  store_ok2 I hN hi hx r (fun s' I' _ => h s' I') hf
/-- behind a call or a block, the state as it is -/
theorem Inv.call' {s' : Shared} {ch : List Addr} (I : Inv X pins σ H s) (ho : s'.os = s.os) (u : Un (frs X.stack) ch H H' s.heap s'.heap) (hok : HOk X.prog X.w H' s'.heap) (hg : AllBare s'.gens)
    (hch : ∀ b ∈ ch, (b ∈ X.ex ∨ X.s₀.heap.objs.size ≤ b) ∧ b ≠ X.env.locals ∧ (∀ x c, X.env.cells.lookup x = some c → c ≠ b) ∧ ∀ p ∈ X.pn ++ pins, p.1 ≠ b) : Inv X pins σ H' s' := by
  obtain ⟨h', g', d', t', o'⟩ := s'
  have e : o' = s.os := ho
  subst e
  exact I.call (g' := g') (t' := t') (d' := d') u hok hg hch
end

/-! ### the judgements -/
/-- an exception: its class, its own dict's address (where it has one), the abstract heap behind it -/
abbrev XK := Value → Option Addr → Hp → Prop
abbrev St := List (Option V)
abbrev VK := V → Hp → Prop
/-- an expression's reading; a test's; an argument list's -/
abbrev TE := St → Hp → VK → Prop
abbrev TT := St → Hp → (Bool → Hp → Prop) → Prop
abbrev TA := St → Hp → (List V → Hp → Prop) → Prop
/-- what is wanted behind a statement -/
structure Ends where
  nx : St → Hp → Prop
  rt : VK
  bk : St → Hp → Prop := fun _ _ => False
  ct : St → Hp → Prop := fun _ _ => False
abbrev TS := Ends → St → Hp → Prop

def EP (X : Cx) (pins : List (Addr × Obj)) (σ : St) (Q : VK) (u : Value) (s' : Shared) : Prop := ∃ v H', Inv X pins σ H' s' ∧ RelV v u ∧ Q v H'
def TP (X : Cx) (pins : List (Addr × Obj)) (σ : St) (Q : Bool → Hp → Prop) (b : Bool) (s' : Shared) : Prop := ∃ H', Inv X pins σ H' s' ∧ Q b H'
def AP (X : Cx) (pins : List (Addr × Obj)) (σ : St) (Q : List V → Hp → Prop) (us : List Value) (s' : Shared) : Prop := ∃ vs H', Inv X pins σ H' s' ∧ Vals vs us ∧ Q vs H'
def SP (X : Cx) (pins : List (Addr × Obj)) (D : Ends) (f : Flow) (s' : Shared) : Prop :=
  match f with
  | .next => ∃ σ' H', Inv X pins σ' H' s' ∧ D.nx σ' H'
  | .brk => ∃ σ' H', Inv X pins σ' H' s' ∧ D.bk σ' H'
  | .cont => ∃ σ' H', Inv X pins σ' H' s' ∧ D.ct σ' H'
  | .ret u => ∃ v σ' H', Inv X pins σ' H' s' ∧ RelV v u ∧ D.rt v H'

def PE (X : Cx) (e : Expr) (t : TE) : Prop :=
  ∀ (pins : List (Addr × Obj)) (s : Shared) (σ : St) (H : Hp) (Q : VK), Inv X pins σ H s → t σ H Q → wpAny (model X.prog X.w) X.A (eval e X.env) (EP X pins σ Q) X.xe s
def PT (X : Cx) (e : Expr) (t : TT) : Prop :=
  ∀ (pins : List (Addr × Obj)) (s : Shared) (σ : St) (H : Hp) (Q : Bool → Hp → Prop), Inv X pins σ H s → t σ H Q → wpAny (model X.prog X.w) X.A (isTrue e X.env (eval e X.env)) (TP X pins σ Q) X.xe s
/-- a test whatever its 'whole' is (and, or) -/
def PW (X : Cx) (e : Expr) (t : TT) : Prop :=
  ∀ (whole : Sem Value) (pins : List (Addr × Obj)) (s : Shared) (σ : St) (H : Hp) (Q : Bool → Hp → Prop), Inv X pins σ H s → t σ H Q → wpAny (model X.prog X.w) X.A (isTrue e X.env whole) (TP X pins σ Q) X.xe s
theorem PW.pt {X : Cx} {e : Expr} {t : TT} (h : PW X e t) : PT X e t := h _
/-- an argument list (no star), from the left -/
def PA (X : Cx) (es : List Expr) (t : TA) : Prop :=
  ∀ (pos : Pos) (pins : List (Addr × Obj)) (s : Shared) (σ : St) (H : Hp) (Q : List V → Hp → Prop), Inv X pins σ H s → t σ H Q → wpAny (model X.prog X.w) X.A (spliced (backTo pos (starEach es X.env))) (AP X pins σ Q) X.xe s
def PS (X : Cx) (st : Stmt) (t : TS) : Prop :=
  ∀ (pins : List (Addr × Obj)) (s : Shared) (σ : St) (H : Hp) (D : Ends), Inv X pins σ H s → t D σ H → wpAny (model X.prog X.w) X.A (exec st X.env) (SP X pins D) X.xe s
def PSs (X : Cx) (st : List Stmt) (t : TS) : Prop :=
  ∀ (pins : List (Addr × Obj)) (s : Shared) (σ : St) (H : Hp) (D : Ends), Inv X pins σ H s → t D σ H → wpAny (model X.prog X.w) X.A (execs st X.env) (SP X pins D) X.xe s
/-- weaken the end -/
theorem thn {α : Type} {t : Sem α} {Q Q' : α → Shared → Prop} {M : Model} {A : Around} {E : Value → Shared → Prop} {s : Shared} (h : wpAny M A t Q E s) (hQ : ∀ a s, Q a s → Q' a s) : wpAny M A t Q' E s := wpAny_mono h hQ fun _ _ x => x
end L2

namespace L2
open PySem PySem.Spec PyProof.Rows
section
variable {X : Cx}


/-! ### names and constants -/
def tVar (i : Nat) : TE := fun σ H Q => ∃ v, σ[i]? = some (some v) ∧ Q v H
def tC (v : V) : TE := fun _ H Q => Q v H
theorem pe_var {i : Nat} {x : Str} {pos : Pos} (hN : X.N[i]? = some x) (hv : Vis X.env.scope x) (hd : (x == ("__debug__" : Str)) = false := by decide) (hcd : (x == ("__classdict__" : Str)) = false := by decide) : PE X (.Name x pos) (tVar i) := by
  intro pins s σ H Q I h
  obtain ⟨v, e, h⟩ := h
  obtain ⟨m, hn, hl⟩ := I.loc
  obtain ⟨u, r, l⟩ := hl i x v hN e hv
  have fin : EP X pins σ Q u s := ⟨v, H, I, r, h⟩
  rcases l with ⟨hk, hm⟩ | ⟨hk, c, hc, hcell⟩
  · exact wpAny_Name (wpAny_loadName_local I.ok.kind hk hn hm fin) hd
  · rcases hk with hk | hk
    · exact wpAny_Name (wpAny_loadName_cell I.ok.kind hk hc hcell fin) hd
    · exact wpAny_Name (wpAny_loadName_free I.ok.kind hk hc hcell fin hcd) hd
theorem pe_int {i j pos} : PE X (.Constant (.int i) j pos) (tC (.int i)) := fun _ _ _ H _ I h => wpAny_Constant_int ⟨.int i, H, I.tok _, ⟨_, rfl⟩, h⟩
theorem pe_bl {b j pos} : PE X (.Constant (.bool b) j pos) (tC (.bl b)) := fun _ _ _ H _ I h => Constant_bool ⟨.bl b, H, I, rfl, h⟩
theorem pe_non {j pos} : PE X (.Constant .none j pos) (tC .non) := fun _ _ _ H _ I h => Constant_none ⟨.non, H, I, rfl, h⟩
theorem pe_str {x j pos} : PE X (.Constant (.str x) j pos) (tC (.str x)) := fun _ _ _ H _ I h => Calls.Constant_str ⟨.str x, H, I.tok _, ⟨_, rfl⟩, h⟩

/-- a global name of the def -/
def Gl (X : Cx) (x : Str) : Prop := X.env.kindOf x = some .globalImplicit
theorem ld_glob {E : Value → Shared → Prop} {pins : List (Addr × Obj)} {s : Shared} {σ : St} {H : Hp} {x : Str} {u : Value} {pos : Pos} {Q : Value → Shared → Prop} (I : Inv X pins σ H s) (hg : Gl X x) (hm : X.mg x = some u) (h : Q u s)
    (hd : (x == ("__debug__" : Str)) = false := by decide) : wpAny (model X.prog X.w) X.A (eval (.Name x pos) X.env) Q E s :=
  Calls.Name_function_global I.ok.kind hg (Calls.loadGlobal_global (by rw [I.ok.glob]; exact I.mod.glob.keeps I.bk) hm h) hd
theorem ld_blt {E : Value → Shared → Prop} {pins : List (Addr × Obj)} {s : Shared} {σ : St} {H : Hp} {x : Str} {u : Value} {pos : Pos} {Q : Value → Shared → Prop} (I : Inv X pins σ H s) (hg : Gl X x) (hm : X.mg x = none) (hv : bootBuiltins x = some u) (h : Q u s)
    (hn : x ≠ "__name__" := by decide) (hd : (x == ("__debug__" : Str)) = false := by decide) : wpAny (model X.prog X.w) X.A (eval (.Name x pos) X.env) Q E s := by
  obtain ⟨mb, h1, h2⟩ := I.mod.blt
  exact Calls.Name_function_global I.ok.kind hg (Calls.loadGlobal_builtin (by rw [I.ok.glob]; exact I.mod.glob.keeps I.bk) hm (by rw [I.ok.blt]; exact h1.keeps I.bk) ((h2 x hn).trans hv) h) hd
/-- a module's constant, a class, a function, as a value -/
theorem pe_glob {x : Str} {v : V} {u : Value} {pos : Pos} (hg : Gl X x) (hm : X.mg x = some u) (r : RelV v u) (hd : (x == ("__debug__" : Str)) = false := by decide) : PE X (.Name x pos) (tC v) :=
  fun _ _ _ H _ I h => ld_glob I hg hm ⟨v, H, I, r, h⟩ hd
theorem pe_bltn {x : Str} {v : V} {u : Value} {pos : Pos} (hg : Gl X x) (hm : X.mg x = none) (hv : bootBuiltins x = some u) (r : RelV v u) (hn : x ≠ "__name__" := by decide) (hd : (x == ("__debug__" : Str)) = false := by decide) : PE X (.Name x pos) (tC v) :=
  fun _ _ _ H _ I h => ld_blt I hg hm hv ⟨v, H, I, r, h⟩ hn hd

/-! ### arithmetic -/
/-- two ints -/
def t2I (ta tb : TE) (k : Int → Int → Hp → Prop) : St → Hp → Prop := fun σ H => ta σ H fun x H1 => tb σ H1 fun y H2 => ∃ i j, x = .int i ∧ y = .int j ∧ k i j H2
def tAdd (ta tb : TE) : TE := fun σ H Q => t2I ta tb (fun i j H2 => Q (.int (i + j)) H2) σ H
def tSub (ta tb : TE) : TE := fun σ H Q => t2I ta tb (fun i j H2 => Q (.int (i - j)) H2) σ H
/-- the left factor below 2^64 -/
def tMul (ta tb : TE) : TE := fun σ H Q => t2I ta tb (fun i j H2 => (-(2 ^ 64) < i ∧ i < 2 ^ 64) ∧ Q (.int (i * j)) H2) σ H
variable {a b : Expr} {ta tb : TE} {pos : Pos}

/-! ### comparisons -/
def PC (X : Cx) (op : CmpOp) (a b : Expr) (t : TE) : Prop :=
  ∀ (pins : List (Addr × Obj)) (s : Shared) (σ : St) (H : Hp) (Q : VK), Inv X pins σ H s → t σ H Q →
    wpAny (model X.prog X.w) X.A (eval a X.env) (fun v s₁ => wpAny (model X.prog X.w) X.A (eval b X.env) (fun u s₂ => wpAny (model X.prog X.w) X.A (compareOp op v u) (EP X pins σ Q) X.xe s₂) X.xe s₁) X.xe s
def tCmp (p : Int → Int → Bool) (ta tb : TE) : TE := fun σ H Q => t2I ta tb (fun i j H2 => Q (.bl (p i j)) H2) σ H
abbrev tLt : TE → TE → TE := tCmp fun i j => decide (i < j)
abbrev tLe : TE → TE → TE := tCmp fun i j => decide (i ≤ j)
abbrev tGt : TE → TE → TE := tCmp fun i j => decide (j < i)
abbrev tGe : TE → TE → TE := tCmp fun i j => decide (j ≤ i)
abbrev tEqI : TE → TE → TE := tCmp fun i j => decide (i = j)
abbrev tNeI : TE → TE → TE := tCmp fun i j => !decide (i = j)
/-- is None -/
def tIsN (ta : TE) : TE := fun σ H Q => ta σ H fun x H1 => Q (.bl (decide (x = .non))) H1
def tNotN (ta : TE) : TE := fun σ H Q => ta σ H fun x H1 => Q (.bl (!decide (x = .non))) H1
/-- a comparison as a value, as a test -/
def tB (t : TE) : TT := fun σ H Q => t σ H fun x H1 => ∃ c, x = .bl c ∧ Q c H1
/-- an expression whose value is a bool, as a test -/
theorem pt_val {e : Expr} {t : TE} (h : PE X e t) (he : ∀ whole, isTrue e X.env whole = (do let v ← whole; standAt e.pos; holding [v] (truthy v)) := by intro _; rfl) : PT X e (tB t) := by
  intro pins s σ H Q I hw
  refine isTrue_plain (thn (h pins s σ H _ I hw) fun v s1 ⟨x, H1, I1, r1, q1⟩ => ?_) (he _)
  obtain ⟨d, rfl, q⟩ := q1
  cases r1
  exact wpAny_truthy_bool ⟨H1, I1, q⟩

/-! ### and, or, not -/
variable {tA tB' : TT} {rest : List Expr}
def tAnd (t u : TT) : TT := fun σ H Q => t σ H fun c H1 => if c = true then u σ H1 Q else Q false H1
def tOr (t u : TT) : TT := fun σ H Q => t σ H fun c H1 => if c = true then Q true H1 else u σ H1 Q
def tNot (t : TT) : TT := fun σ H Q => t σ H fun c H1 => Q (!c) H1
theorem pw_or1 (ha : PT X a tA) : PW X (.BoolOp .Or [a] pos) tA := by
  intro wh pins s σ H Q I h
  refine isTrue_or (thn (ha pins s σ H Q I h) fun c s1 e => ?_)
  cases c with
  | false => exact isTrue_or_nil e
  | true => exact e
theorem pw_or (ha : PT X a tA) (hb : PW X (.BoolOp .Or (b :: rest) pos) tB') : PW X (.BoolOp .Or (a :: b :: rest) pos) (tOr tA tB') := by
  intro wh pins s σ H Q I h
  refine isTrue_or (thn (ha pins s σ H _ I h) fun c s1 ⟨H1, I1, q1⟩ => ?_)
  cases c with
  | true => exact ⟨H1, I1, q1⟩
  | false => exact hb wh pins s1 σ H1 Q I1 q1
theorem pt_not (ha : PT X a tA) : PT X (.UnaryOp .Not a pos) (tNot tA) := by
  intro pins s σ H Q I h
  exact isTrue_not (ha pins s σ H (fun c H1 => Q (!c) H1) I h)
/-- .. as values (bools) -/
def tAndV (ta tb : TE) : TE := fun σ H Q => ta σ H fun x H1 => ∃ c, x = .bl c ∧ if c = true then tb σ H1 Q else Q (.bl false) H1
def tOrV (ta tb : TE) : TE := fun σ H Q => ta σ H fun x H1 => ∃ c, x = .bl c ∧ if c = true then Q (.bl true) H1 else tb σ H1 Q
def tNotV (ta : TE) : TE := fun σ H Q => ta σ H fun x H1 => ∃ c, x = .bl c ∧ Q (.bl (!c)) H1
theorem pe_one {op} {t : TE} (h : PE X a t) : PE X (.BoolOp op [a] pos) t := fun pins s σ H Q I hw => BoolOp_one (h pins s σ H Q I hw)
theorem pe_and (ha : PE X a ta) (hb : PE X (.BoolOp .And (b :: rest) pos) tb) : PE X (.BoolOp .And (a :: b :: rest) pos) (tAndV ta tb) := by
  intro pins s σ H Q I h
  refine BoolOp_and (thn (ha pins s σ H _ I h) fun v s1 ⟨x, H1, I1, r1, q1⟩ => ?_)
  obtain ⟨c, rfl, q1⟩ := q1
  cases r1
  refine wpAny_truthy_bool ?_
  cases c with
  | true => exact hb pins s1 σ H1 Q I1 q1
  | false => exact ⟨.bl false, H1, I1, rfl, q1⟩
theorem pe_or (ha : PE X a ta) (hb : PE X (.BoolOp .Or (b :: rest) pos) tb) : PE X (.BoolOp .Or (a :: b :: rest) pos) (tOrV ta tb) := by
  intro pins s σ H Q I h
  refine BoolOp_or (thn (ha pins s σ H _ I h) fun v s1 ⟨x, H1, I1, r1, q1⟩ => ?_)
  obtain ⟨c, rfl, q1⟩ := q1
  cases r1
  refine wpAny_truthy_bool ?_
  cases c with
  | false => exact hb pins s1 σ H1 Q I1 q1
  | true => exact ⟨.bl true, H1, I1, rfl, q1⟩
/-- a if t else b -/
def tIf (t : TT) (ta tb : TE) : TE := fun σ H Q => t σ H fun c H1 => if c = true then ta σ H1 Q else tb σ H1 Q
theorem pe_ifExp {c : Expr} (hc : PT X c tA) (ha : PE X a ta) (hb : PE X b tb) : PE X (.IfExp c a b pos) (tIf tA ta tb) := by
  intro pins s σ H Q I h
  refine wpAny_IfExp (thn (hc pins s σ H _ I h) fun d s1 ⟨H1, I1, q1⟩ => ?_)
  cases d with
  | true => exact ha pins s1 σ H1 Q I1 q1
  | false => exact hb pins s1 σ H1 Q I1 q1
end
end L2

namespace L2
open PySem PySem.Spec PyProof.Rows

/-! ### a list, a tuple that is read: tracked, frozen, or an object of the module -/
def SqL (K : PySem.W.Frag) (H : Hp) (a : Addr) (xs : List V) : Prop :=
  Rd H a (.lst xs) ∨
    ∃ (o : Obj) (its : Array Value) (n : Nat), K.lookup a = some o ∧ o.cls = .type "list" ∧ o.dict = none ∧ o.data = .seq its n ∧ its.size ≤ sizeLine ∧ Vals xs its.toList
def SqT (K : PySem.W.Frag) (H : Hp) (a : Addr) (xs : List V) : Prop :=
  Rd H a (.tup xs) ∨
    ∃ (o : Obj) (its : Array Value) (n : Nat), K.lookup a = some o ∧ o.cls = .type "tuple" ∧ o.data = .seq its n ∧ its.size ≤ sizeLine ∧ Vals xs its.toList
def absV : Value → Option V
  | .none => some .non
  | .bool b => some (.bl b)
  | .int i _ => some (.int i)
  | .str x _ => some (.str x)
  | .bytes b _ => some (.byt b)
  | .float b _ => some (.flt b)
  | .ref a => some (.ref a)
  | .type n => some (.ty n)
  | _ => none
theorem RelV.abs {x : V} {u : Value} (r : RelV x u) : absV u = some x := by
  cases x with
  | non => cases r; rfl
  | bl _ => cases r; rfl
  | int _ => obtain ⟨t, rfl⟩ := r; rfl
  | str _ => obtain ⟨t, rfl⟩ := r; rfl
  | byt _ => obtain ⟨t, rfl⟩ := r; rfl
  | flt _ => obtain ⟨t, rfl⟩ := r; rfl
  | ref _ => cases r; rfl
  | ty _ => cases r; rfl
theorem RelV.inj {x y : V} {u : Value} (r : RelV x u) (q : RelV y u) : x = y := Option.some.inj (r.abs.symm.trans q.abs)
theorem Vals.inj : ∀ {xs ys : List V} {us : List Value}, Vals xs us → Vals ys us → xs = ys
  | _, _, _, .nil, .nil => rfl
  | _, _, _, .cons r t, .cons r' t' => by rw [r.inj r', Vals.inj t t']
section
variable {X : Cx} {pins : List (Addr × Obj)} {σ : St} {H : Hp} {s : Shared} {a : Addr} {xs ys : List V}
theorem SqL.of {K : PySem.W.Frag} (h : H a = some (.lst xs)) : SqL K H a xs := .inl (.inl h)
theorem SqT.of {K : PySem.W.Frag} (h : H a = some (.tup xs)) : SqT K H a xs := .inl (.inl h)
theorem Inv.list (I : Inv X pins σ H s) (h : SqL X.K H a xs) : ∃ its : List Value, Vals xs its ∧ PlainL s.heap a its.toArray ∧ xs.length ≤ sizeLine := by
  rcases h with h | ⟨o, its, n, hk, hc, hd, hs, hz, r⟩
  · obtain ⟨z, its, n, r, e⟩ := h.ok I.hok
    exact ⟨its, r, ⟨_, n, e, rfl, rfl, rfl⟩, z⟩
  · refine ⟨its.toList, r, ⟨o, n, I.kIn a o hk, hc, hd, by simpa using hs⟩, ?_⟩
    have e := r.length
    simp only [Array.length_toList] at e
    omega
theorem Inv.tuple (I : Inv X pins σ H s) (h : SqT X.K H a xs) : ∃ its : List Value, Vals xs its ∧ IsTup s.heap a its.toArray ∧ xs.length ≤ sizeLine := by
  rcases h with h | ⟨o, its, n, hk, hc, hs, hz, r⟩
  · obtain ⟨z, its, r, p⟩ := h.ok I.hok
    exact ⟨its, r, p, z⟩
  · refine ⟨its.toList, r, ⟨o, I.kIn a o hk, hc, n, by simpa using hs⟩, ?_⟩
    have e := r.length
    simp only [Array.length_toList] at e
    omega
theorem Inv.list_inj (I : Inv X pins σ H s) (h : SqL X.K H a xs) (h' : SqL X.K H a ys) : xs = ys := by
  obtain ⟨its, r, ⟨o, n, e, _, _, d⟩, _⟩ := I.list h
  obtain ⟨its', r', ⟨o', n', e', _, _, d'⟩, _⟩ := I.list h'
  rw [e] at e'; cases e'
  rw [d] at d'
  injection d' with d1 _
  have : its = its' := by simpa using congrArg Array.toList d1
  subst this
  exact r.inj r'
theorem Inv.tuple_inj (I : Inv X pins σ H s) (h : SqT X.K H a xs) (h' : SqT X.K H a ys) : xs = ys := by
  obtain ⟨its, r, ⟨o, e, _, n, d⟩, _⟩ := I.tuple h
  obtain ⟨its', r', ⟨o', e', _, n', d'⟩, _⟩ := I.tuple h'
  rw [e] at e'; cases e'
  rw [d] at d'
  injection d' with d1 _
  have : its = its' := by simpa using congrArg Array.toList d1
  subst this
  exact r.inj r'
end

/-! ### another wish about exceptions -/
abbrev Cx.wish (X : Cx) (E : Value → Shared → Prop) : Cx := { X with xe := E }
/-- no exception leaves -/
abbrev Cx.nox (X : Cx) : Cx := X.wish fun _ _ => False
theorem Cx.Ok.wish {X : Cx} (ok : X.Ok) (E : Value → Shared → Prop) : (X.wish E).Ok :=
  ⟨ok.mod, ok.kind, ok.glob, ok.blt, ok.above, ok.inj, ok.has, ok.cab, ok.hd, ok.frames, ok.stk, ok.exf, ok.bs, ok.bsz, ok.noex, ok.exfs, ok.funs, ok.frf⟩
theorem Cx.Ok.unwish {X : Cx} {E : Value → Shared → Prop} (ok : (X.wish E).Ok) : X.Ok :=
  ⟨ok.mod, ok.kind, ok.glob, ok.blt, ok.above, ok.inj, ok.has, ok.cab, ok.hd, ok.frames, ok.stk, ok.exf, ok.bs, ok.bsz, ok.noex, ok.exfs, ok.funs, ok.frf⟩
section
variable {X : Cx} {pins : List (Addr × Obj)} {σ : St} {H : Hp} {s : Shared} {E : Value → Shared → Prop}
theorem Inv.wish (I : Inv X pins σ H s) (E : Value → Shared → Prop) : Inv (X.wish E) pins σ H s := ⟨I.ok.wish E, I.os, I.bare, I.base, I.loc, I.cell, I.free, I.freeC, I.pin, I.hok, I.len⟩
theorem Inv.unwish (I : Inv (X.wish E) pins σ H s) : Inv X pins σ H s := ⟨I.ok.unwish, I.os, I.bare, I.base, I.loc, I.cell, I.free, I.freeC, I.pin, I.hok, I.len⟩
theorem SP.unwish {D : Ends} {f : Flow} {s' : Shared} (h : SP (X.wish E) pins D f s') : SP X pins D f s' := by
  cases f with
  | next => obtain ⟨σ', H', I, q⟩ := h; exact ⟨σ', H', I.unwish, q⟩
  | brk => obtain ⟨σ', H', I, q⟩ := h; exact ⟨σ', H', I.unwish, q⟩
  | cont => obtain ⟨σ', H', I, q⟩ := h; exact ⟨σ', H', I.unwish, q⟩
  | ret u => obtain ⟨v, σ', H', I, r, q⟩ := h; exact ⟨v, σ', H', I.unwish, r, q⟩
theorem PE.nox {e : Expr} {t : TE} (h : PE X.nox e t) : PE X e t := fun pins s σ H Q I hw =>
  wpAny_mono (h pins s σ H Q (I.wish _) hw) (fun _ _ ⟨v, H', I', r, q⟩ => ⟨v, H', I'.unwish, r, q⟩) fun _ _ z => False.elim z
theorem PT.nox {e : Expr} {t : TT} (h : PT X.nox e t) : PT X e t := fun pins s σ H Q I hw =>
  wpAny_mono (h pins s σ H Q (I.wish _) hw) (fun _ _ ⟨H', I', q⟩ => ⟨H', I'.unwish, q⟩) fun _ _ z => False.elim z
theorem PSs.nox {st : List Stmt} {t : TS} (h : PSs X.nox st t) : PSs X st t := fun pins s σ H D I hw =>
  wpAny_mono (h pins s σ H D (I.wish _) hw) (fun _ _ q => q.unwish) fun _ _ z => False.elim z
end

/-! ### blocks and small statements -/
section
variable {X : Cx} {st : Stmt} {rest : List Stmt} {t u : TS} {e : Expr} {te : TE} {pos : Pos}
def tNext : TS := fun D σ H => D.nx σ H
def tSeq (t u : TS) : TS := fun D σ H => t { D with nx := u D } σ H
theorem pss_nil : PSs X [] tNext := fun _ _ σ H _ I h => wpAny_execs_nil ⟨σ, H, I, h⟩
theorem pss_cons (h1 : PS X st t) (h2 : PSs X rest u) : PSs X (st :: rest) (tSeq t u) := by
  intro pins s σ H D I h
  refine wpAny_execs_cons (thn (h1 pins s σ H { D with nx := u D } I h) fun f s1 q => ?_)
  cases f with
  | next =>
    obtain ⟨σ', H', I', q⟩ := q
    exact h2 pins s1 σ' H' D I' q
  | ret v => exact q
  | brk => exact q
  | cont => exact q
theorem pss_one (h1 : PS X st t) : PSs X [st] t := by
  intro pins s σ H D I h
  refine wpAny_execs_cons (thn (h1 pins s σ H D I h) fun f s1 q => ?_)
  cases f with
  | next => exact wpAny_execs_nil q
  | ret v => exact q
  | brk => exact q
  | cont => exact q
def tBreak : TS := fun D σ H => D.bk σ H
def tCont : TS := fun D σ H => D.ct σ H
/-- in a def's body nothing is shown -/
theorem Inv.quiet {pins : List (Addr × Obj)} {σ : St} {H : Hp} {s : Shared} (I : Inv X pins σ H s) : interactive X.env = false := by simp [interactive, I.ok.kind]
/-- an expression whose value is dropped -/
def tDrop (te : TE) : TS := fun D σ H => te σ H fun _ H1 => D.nx σ H1
theorem ps_expr (he : PE X e te) (hs : swapsWith e none pos.line X.env = pure false := by rfl) : PS X (.Expr e pos) (tDrop te) := by
  intro pins s σ H D I h
  exact wpAny_Expr_any (thn (he pins s σ H _ I h) fun v s1 ⟨x, H1, I1, r1, q1⟩ => ⟨σ, H1, I1, q1⟩) I.quiet hs
def tRet (te : TE) : TS := fun D σ H => te σ H D.rt
theorem ps_ret (he : PE X e te) : PS X (.Return (some e) pos) (tRet te) := by
  intro pins s σ H D I h
  exact wpAny_Return_some (thn (he pins s σ H _ I h) fun v s1 ⟨x, H1, I1, r1, q1⟩ => ⟨x, σ, H1, I1, r1, q1⟩)
def tRetN : TS := fun D _ H => D.rt .non H
def tIfS (c : TT) (t u : TS) : TS := fun D σ H => c σ H fun b H1 => if b = true then t D σ H1 else u D σ H1
theorem ps_if {c : Expr} {a b : List Stmt} {tc : TT} (hc : PT X c tc) (ha : PSs X a t) (hb : PSs X b u) : PS X (.If c a b pos) (tIfS tc t u) := by
  intro pins s σ H D I h
  refine wpAny_If (thn (hc pins s σ H _ I h) fun d s1 ⟨H1, I1, q1⟩ => ?_)
  cases d with
  | true => exact ha pins s1 σ H1 D I1 q1
  | false => exact hb pins s1 σ H1 D I1 q1
/-- code that the proof never comes to -/
def tNever : TS := fun _ _ _ => False
theorem pss_never {sts : List Stmt} : PSs X sts tNever := fun _ _ _ _ _ _ h => h.elim
end

/-! ### targets -/
abbrev TG := V → St → Hp → (St → Hp → Prop) → Prop
abbrev TGs := List V → St → Hp → (St → Hp → Prop) → Prop
def PG (X : Cx) (target : Expr) (t : TG) : Prop :=
  ∀ (pins : List (Addr × Obj)) (s : Shared) (σ : St) (H : Hp) (v : V) (u : Value) (Q : St → Hp → Prop), Inv X pins σ H s → RelV v u → t v σ H Q →
    wpAny (model X.prog X.w) X.A (assign target X.env u) (fun _ s' => ∃ σ' H', Inv X pins σ' H' s' ∧ Q σ' H') X.xe s
/-- several targets, one after another -/
def PGs (X : Cx) (ts : List Expr) (t : TGs) : Prop :=
  ∀ (pins : List (Addr × Obj)) (s : Shared) (σ : St) (H : Hp) (vs : List V) (us : List Value) (Q : St → Hp → Prop), Inv X pins σ H s → Vals vs us → t vs σ H Q →
    wpAny (model X.prog X.w) X.A (assignInOrder ((assignEach ts X.env).map (·.2)) us) (fun _ s' => ∃ σ' H', Inv X pins σ' H' s' ∧ Q σ' H') X.xe s
/-- o[i] = v, by values -/
abbrev TSet := V → V → V → Hp → (Hp → Prop) → Prop
def PSet (X : Cx) (t : TSet) : Prop :=
  ∀ (pins : List (Addr × Obj)) (s : Shared) (σ : St) (H : Hp) (o i v : V) (ov iv u : Value) (Q : Hp → Prop), Inv X pins σ H s → RelV o ov → RelV i iv → RelV v u → t o i v H Q →
    wpAny (model X.prog X.w) X.A (setItem ov iv u) (fun _ s' => ∃ H', Inv X pins σ H' s' ∧ Q H') X.xe s
/-- a op= b, by values -/
abbrev TIp := V → V → Hp → VK → Prop
def PIp (X : Cx) (op : Operator) (t : TIp) : Prop :=
  ∀ (pins : List (Addr × Obj)) (s : Shared) (σ : St) (H : Hp) (x y : V) (v u : Value) (Q : VK), Inv X pins σ H s → RelV x v → RelV y u → t x y H Q →
    wpAny (model X.prog X.w) X.A (inplaceOp op v u) (EP X pins σ Q) X.xe s
section
variable {X : Cx} {pos : Pos}
def gName (i : Nat) : TG := fun v σ H Q => Q (σ.set i (some v)) H
theorem pg_name {i : Nat} {x : Str} (hN : X.N.Nodup) (hi : X.N[i]? = some x) (hx : Loc X.env.scope x) (hf : X.fn x = true ∨ X.env.scope.names.lookup x = some .local := by first | exact .inl rfl | exact .inr rfl | assumption) : PG X (.Name x pos) (gName i) := by
  intro pins s σ H v u Q I r h
  exact wpAny_assign_Name (store_ok I hN hi hx r (fun s' I' => ⟨_, H, I', h⟩) hf)
def gNil : TGs := fun vs σ H Q => vs = [] ∧ Q σ H
def gCons (t : TG) (u : TGs) : TGs := fun vs σ H Q => ∃ v r, vs = v :: r ∧ t v σ H fun σ' H' => u r σ' H' Q
theorem pgs_nil : PGs X [] gNil := by
  intro pins s σ H vs us Q I r h
  obtain ⟨e, h⟩ := h
  subst e
  cases r
  exact assignInOrder_nil ⟨σ, H, I, h⟩
theorem pgs_cons {e : Expr} {es : List Expr} {t : TG} {u : TGs} (h1 : PG X e t) (h2 : PGs X es u)
    (hs : (assignEach (e :: es) X.env).map (·.2) = assign e X.env :: (assignEach es X.env).map (·.2) := by rfl) : PGs X (e :: es) (gCons t u) := by
  intro pins s σ H vs us Q I r h
  obtain ⟨v, vr, e1, h⟩ := h
  subst e1
  cases r with
  | cons r rr =>
    rw [hs]
    refine assignInOrder_cons (thn (h1 pins s σ H _ _ _ I r h) fun _ s1 ⟨σ1, H1, I1, q1⟩ => ?_)
    exact h2 pins s1 σ1 H1 _ _ Q I1 rr q1
/-- (a, b, ..) = a tuple of that length -/
def gTup (K : PySem.W.Frag) (n : Nat) (t : TGs) : TG := fun v σ H Q => ∃ a xs, v = .ref a ∧ SqT K H a xs ∧ xs.length = n ∧ t xs σ H Q
theorem pg_tup {es : List Expr} {k : Nat} {t : TGs} {n : Nat} (hc : X.calm = true) (h : PGs X es t)
    (hn : (assignEach es X.env).length = n := by rfl) (hst : (assignEach es X.env).findIdx? (·.1) = none := by rfl) : PG X (.Tuple es k pos) (gTup X.K n t) := by
  intro pins s σ H v u Q I r hw
  obtain ⟨a, xs, e1, hq, hl, hw⟩ := hw
  subst e1
  cases r
  obtain ⟨its, rv, ht, hz⟩ := I.tuple hq
  refine assign_Tuple_tuple (I.ok.hd hc) ht (by simp [hn, ← hl, rv.length]) hst fun h' hx => ?_
  have I1 : Inv X pins σ H { s with heap := h' } := I.kept (t' := s.toks) fun b o e => hx b o (Nat.ne_of_lt (Heap.lt_size e)) e
  exact h pins _ σ H xs _ Q I1 (by simpa using rv) hw
/-- o[i] = .. -/
def gSub (to ti : TE) (t : TSet) : TG := fun v σ H Q => to σ H fun o H1 => ti σ H1 fun i H2 => t o i v H2 fun H3 => Q σ H3
theorem pg_sub {o i : Expr} {to ti : TE} {t : TSet} (ho : PE X o to) (hi : PE X i ti) (hs : PSet X t)
    (ha : ∀ v, assign (.Subscript o i pos) X.env v = (do
      let ov ← holding [v] (eval o X.env)
      let iv ← holding [v, ov] (eval i X.env)
      standAt pos
      holding [v, ov, iv] (setItem ov iv v)
      release [v, ov, iv] []) := by intro _; rfl) : PG X (.Subscript o i pos) (gSub to ti t) := by
  intro pins s σ H v u Q I r h
  rw [ha]
  refine wpAny_bind (wpAny_holding (thn (ho pins s σ H _ I h) fun ov s1 ⟨x, H1, I1, r1, q1⟩ => ?_))
  refine wpAny_bind (wpAny_holding (thn (hi pins s1 σ H1 _ I1 q1) fun iv s2 ⟨y, H2, I2, r2, q2⟩ => ?_))
  refine wpAny_bind (wpAny_standAt (wpAny_bind (wpAny_holding (thn (hs pins s2 σ H2 x y v ov iv u _ I2 r1 r2 r q2) fun _ s3 ⟨H3, I3, q3⟩ => ?_))))
  exact wpAny_release ⟨σ, H3, I3, q3⟩
/-- target = value -/
def tAsg (te : TE) (g : TG) : TS := fun D σ H => te σ H fun x H1 => g x σ H1 D.nx
theorem ps_asg {tg e : Expr} {te : TE} {g : TG} (he : PE X e te) (hg : PG X tg g) (hs : swapsWithSole [tg] e pos.line X.env = pure false := by rfl) (hw : swappedStores [tg] e X.env = pure none := by rfl)
    (h1 : (assignEach [tg] X.env).map (·.2) = [assign tg X.env] := by rfl) : PS X (.Assign [tg] e pos) (tAsg te g) := by
  intro pins s σ H D I h
  refine wpAny_Assign_stores (thn (he pins s σ H _ I h) fun v s1 ⟨x, H1, I1, r1, q1⟩ => ?_) hs hw
  rw [h1]
  exact thn (hg pins s1 σ H1 x v _ I1 r1 q1) fun _ s2 q => q
/-- name = value -/
theorem ps_set {i : Nat} {x : Str} {e : Expr} {te : TE} {pos' : Pos} (hN : X.N.Nodup) (hi : X.N[i]? = some x) (hx : Loc X.env.scope x) (he : PE X e te) (hs : swapsWith e (some (.Name x pos')) pos.line X.env = pure false := by rfl) (hf : X.fn x = true ∨ X.env.scope.names.lookup x = some .local := by first | exact .inl rfl | exact .inr rfl | assumption) :
    PS X (.Assign [.Name x pos'] e pos) (tAsg te (gName i)) := by
  intro pins s σ H D I h
  refine wpAny_Assign_Name (thn (he pins s σ H _ I h) fun v s1 ⟨y, H1, I1, r1, q1⟩ => ?_) hs
  exact store_ok I1 hN hi hx r1 (fun s2 I2 => ⟨_, H1, I2, q1⟩) hf
/-- a, b = x, y with plain local names: stored from the right; the pair itself is not tracked (the opening rows as in PyProof/Rows/TupAssign.lean:23) -/
def tPar (i j : Nat) (ta : TA) : TS := fun D σ H => ta σ H fun vs H1 => ∃ v w, vs = [v, w] ∧ D.nx ((σ.set i (some v)).set j (some w)) H1
/-- name op= e -/
def tAug (i : Nat) (te : TE) (ti : TIp) : TS := fun D σ H => ∃ x, σ[i]? = some (some x) ∧ te σ H fun y H1 => ti x y H1 fun z H2 => D.nx (σ.set i (some z)) H2
/-- o[i] op= e -/
def tAugS (to ti te : TE) (tget : V → V → Hp → VK → Prop) (tip : TIp) (tset : TSet) : TS := fun D σ H => to σ H fun o H1 => ti σ H1 fun i H2 => tget o i H2 fun x H3 => te σ H3 fun y H4 => tip x y H4 fun z H5 => tset o i z H5 fun H6 => D.nx σ H6
/-- o[i], by values -/
def PGet (X : Cx) (t : V → V → Hp → VK → Prop) : Prop :=
  ∀ (pins : List (Addr × Obj)) (s : Shared) (σ : St) (H : Hp) (o i : V) (ov iv : Value) (Q : VK), Inv X pins σ H s → RelV o ov → RelV i iv → t o i H Q →
    wpAny (model X.prog X.w) X.A (getItem ov iv) (EP X pins σ Q) X.xe s
/-- ints -/
def ipI (f : Int → Int → Int) : TIp := fun x y H Q => ∃ i j, x = .int i ∧ y = .int j ∧ Q (.int (f i j)) H
end

/-! ### while -/
section
variable {X : Cx} {pos : Pos}
/-- the invariant W with its measure -/
def tWhile (c : TT) (tb : TS) : TS := fun D σ H => ∃ W : Nat → St → Hp → Prop, (∃ m, W m σ H) ∧ ∀ m σ H, W m σ H →
  c σ H fun b H1 => if b = true then ∃ N : St → Hp → Prop, (∀ σ' H', N σ' H' → ∃ m', m' < m ∧ W m' σ' H') ∧ tb { D with nx := N, ct := N, bk := D.nx } σ H1 else D.nx σ H1
end

/-! ### what a loop or a comprehension walks -/
/-- at turn i: it yields x (the heap may grow), or it stops -/
structure It where
  go : Nat → Hp → Prop
  yld : Nat → Hp → V → Hp → Prop
  stop : Nat → Hp → Prop
/-- the iterator's own objects may turn: they are not the frame's, not pinned, younger than the entry (or a comprehension's own) -/
def FpOk (X : Cx) (pins : List (Addr × Obj)) (H : Hp) (b : Addr) : Prop :=
  H b = none ∧ b ≠ X.env.locals ∧ b ∉ X.fs ∧ (b ∈ X.ex ∨ X.s₀.heap.objs.size ≤ b) ∧ (∀ x c, X.env.cells.lookup x = some c → c ≠ b) ∧ ∀ p ∈ X.pn ++ pins, p.1 ≠ b
theorem Inv.fpOk {X : Cx} {pins : List (Addr × Obj)} {σ : St} {H H' : Hp} {s : Shared} {b : Addr} (I : Inv X pins σ H s) (hb : s.heap.objs.size ≤ b) (hn : H' b = none) : FpOk X pins H' b := by
  refine ⟨hn, Nat.ne_of_gt (Nat.lt_of_lt_of_le I.lt hb), I.nofs hb, .inr (Nat.le_trans I.sz hb), fun x c e z => ?_, fun p hp z => ?_⟩
  · obtain ⟨v, q⟩ := I.cell x c e
    exact absurd (Nat.lt_of_lt_of_le q.lt (by rw [z]; exact hb)) (Nat.lt_irrefl _)
  · exact absurd (Nat.lt_of_lt_of_le (Heap.lt_size (I.pin p hp).1) (by rw [z]; exact hb)) (Nat.lt_irrefl _)
structure Turn (P : Program) (w : World) (K : PySem.W.Frag) (tg : Expr) (J : It) (fp : List Addr) (it : Addr) (tn : Nat → Heap → Prop) : Prop where
  mem : it ∈ fp
  obj : ∀ i h, tn i h → ∀ b ∈ fp, ∃ o, h.get? b = some o ∧ ∀ v, o.data ≠ .cell v
  keep : ∀ i h h', tn i h → (∀ b ∈ fp, ∀ o, h.get? b = some o → h'.get? b = some o) → tn i h'
  item : ∀ (X : Cx), X.prog = P → X.w = w → X.K = K → X.calm = true → ∀ (i : Nat) (pins : List (Addr × Obj)) (s : Shared) (σ : St) (H : Hp) (E : Value → Shared → Prop), Inv X pins σ H s → (∀ b ∈ fp, FpOk X pins H b) → tn i s.heap → J.go i H →
    wpAny (model P w) X.A (pyNext (.ref it)) (fun r s1 => ∃ u, r = some u ∧
      wpAny (model P w) X.A (letOwnedTupleGo tg (.ref it) u) (fun _ s2 => ∃ x H', Inv X pins σ H' s2 ∧ RelV x u ∧ J.yld i H x H' ∧ tn (i + 1) s2.heap ∧ ∀ b ∈ fp, H' b = none) E s1) E s
  done : ∀ (X : Cx), X.prog = P → X.w = w → X.K = K → X.calm = true → ∀ (i : Nat) (pins : List (Addr × Obj)) (s : Shared) (σ : St) (H : Hp) (E : Value → Shared → Prop), Inv X pins σ H s → (∀ b ∈ fp, FpOk X pins H b) → tn i s.heap → J.stop i H →
    wpAny (model P w) X.A (pyNext (.ref it)) (fun r s1 => r = none ∧ Inv X pins σ H s1) E s
  self : ∀ (A : Around) (i : Nat) (s : Shared) (Q : Value → Shared → Prop) (E : Value → Shared → Prop), tn i s.heap → Q (.ref it) s → wpAny (model P w) A (pyIter (.ref it)) Q E s
abbrev TI := St → Hp → (It → Hp → Prop) → Prop
/-- an iterator has come -/
def PIE (X : Cx) (pins : List (Addr × Obj)) (σ : St) (tg : Expr) (R : It → Hp → Prop) (itv : Value) (s2 : Shared) : Prop :=
  ∃ (it : Addr) (fp : List Addr) (tn : Nat → Heap → Prop) (J : It) (H' : Hp), itv = .ref it ∧ Inv X pins σ H' s2 ∧ Turn X.prog X.w X.K tg J fp it tn ∧ tn 0 s2.heap ∧ (∀ b ∈ fp, FpOk X pins H' b) ∧ R J H'
def PI (X : Cx) (tg iter : Expr) (wi : TI) : Prop :=
  ∀ (pins : List (Addr × Obj)) (s : Shared) (σ : St) (H : Hp) (R : It → Hp → Prop), Inv X pins σ H s → wi σ H R →
    wpAny (model X.prog X.w) X.A (eval iter X.env) (fun v s1 => wpAny (model X.prog X.w) X.A (pyIter v) (PIE X pins σ tg R) X.xe s1) X.xe s

/-- the step ahead of the store is nothing for an iterator that keeps no tuple -/
theorem go_of {M : Model} {A : Around} {E : Value → Shared → Prop} {s : Shared} {tg : Expr} {it : Addr} {u : Value} {o : Obj} {n : String} {vs : Array Value} {Q : Unit → Shared → Prop} (ho : s.heap.get? it = some o) (hc : o.cls = .type n) (hd : o.data = .fields vs)
    (hn : ["enumerate", "zip", "dict_itemiterator", "dict_reverseitemiterator", "odict_iterator", "itertools.zip_longest", "itertools.pairwise"].contains n = false) (hQ : Q () s) : wpAny M A (letOwnedTupleGo tg (.ref it) u) Q E s := by
  unfold letOwnedTupleGo
  cases tg <;> first
    | exact wpAny_pure hQ
    | (cases u <;> first
        | exact wpAny_pure hQ
        | (refine wpAny_bind (wpAny_load ho ?_)
           rw [hc, hd]
           show wpAny M A (if (["enumerate", "zip", "dict_itemiterator", "dict_reverseitemiterator", "odict_iterator", "itertools.zip_longest", "itertools.pairwise"].contains n && vs[0]? == some (rawInt _)) = true then _ else _) Q E s
           rw [if_neg (by intro h; rw [hn, Bool.false_and] at h; cases h)]
           exact wpAny_pure hQ))

/-- the list at a, as it stands at each turn (a loop may append to it) -/
def Itl (K : PySem.W.Frag) (a : Addr) : It :=
  ⟨fun i H => ∃ xs x, SqL K H a xs ∧ xs[i]? = some x, fun i H x H' => H' = H ∧ ∀ xs, SqL K H a xs → xs[i]? = some x, fun i H => ∃ xs, SqL K H a xs ∧ xs.length ≤ i⟩
def Itt (K : PySem.W.Frag) (a : Addr) : It :=
  ⟨fun i H => ∃ xs x, SqT K H a xs ∧ xs[i]? = some x, fun i H x H' => H' = H ∧ ∀ xs, SqT K H a xs → xs[i]? = some x, fun i H => ∃ xs, SqT K H a xs ∧ xs.length ≤ i⟩
/-- lo, lo + 1, .. (n of them) -/
def Itr (lo : Int) (n : Nat) : It := ⟨fun i _ => i < n, fun i H x H' => H' = H ∧ x = .int (lo + i), fun i _ => n ≤ i⟩
theorem turn_list {P : Program} {w : World} {K : PySem.W.Frag} {tg : Expr} (a it : Addr) : Turn P w K tg (Itl K a) [it] it (fun i h => h.IsListIter it a i) where
  mem := by simp
  obj := fun i h st b hb => by
    have e : b = it := by simpa using hb
    subst e
    obtain ⟨o, e, c, d⟩ := st
    exact ⟨o, e, fun v z => by rw [d] at z; cases z⟩
  keep := fun i h h' st k => st.at fun o e => k it (by simp) o e
  item := by
    intro X hP hw hK hc i pins s σ H E I hf st hg
    subst hP hw hK
    obtain ⟨xs, x, hq, hx⟩ := hg
    obtain ⟨its, rv, p, hz⟩ := I.list hq
    obtain ⟨u, hu, ru⟩ := rv.get hx
    obtain ⟨f0, f1, f2, f3, f4, f5⟩ := hf it (by simp)
    refine wpAny_pyNext_list_item st p.isList (x := u) (by simpa using hu) fun h' st' sb => ?_
    have I1 : Inv X pins σ H { s with heap := h' } := I.turned (t' := s.toks) (fun b o hb e => (sb.2 b hb).trans e) f0 f1 f3 f4 f5
    obtain ⟨o, e, c, d⟩ := id st'
    exact ⟨u, rfl, go_of (s := { s with heap := h' }) e c d (by decide) ⟨x, H, I1, ru, ⟨rfl, fun ys hy => by rw [I.list_inj hy hq]; exact hx⟩, st', fun b hb => (hf b hb).1⟩⟩
  done := by
    intro X hP hw hK hc i pins s σ H E I hf st hg
    subst hP hw hK
    obtain ⟨xs, hq, hx⟩ := hg
    obtain ⟨its, rv, p, hz⟩ := I.list hq
    obtain ⟨f0, f1, f2, f3, f4, f5⟩ := hf it (by simp)
    have hl := rv.length
    exact wpAny_pyNext_list_end (I.ok.hd hc) st p.isList (by simp; omega) fun h' eb => ⟨rfl, I.turned (t' := s.toks) (fun b o hb e => eb b o hb e) f0 f1 f3 f4 f5⟩
  self := fun _ _ _ _ _ st h => wpAny_pyIter_listiter st h
theorem turn_tuple {P : Program} {w : World} {K : PySem.W.Frag} {tg : Expr} (a it : Addr) : Turn P w K tg (Itt K a) [it] it (fun i h => h.IsTupleIter it a i) where
  mem := by simp
  obj := fun i h st b hb => by
    have e : b = it := by simpa using hb
    subst e
    obtain ⟨o, e, c, d⟩ := st
    exact ⟨o, e, fun v z => by rw [d] at z; cases z⟩
  keep := fun i h h' st k => st.at fun o e => k it (by simp) o e
  item := by
    intro X hP hw hK hc i pins s σ H E I hf st hg
    subst hP hw hK
    obtain ⟨xs, x, hq, hx⟩ := hg
    obtain ⟨its, rv, p, hz⟩ := I.tuple hq
    obtain ⟨u, hu, ru⟩ := rv.get hx
    obtain ⟨f0, f1, f2, f3, f4, f5⟩ := hf it (by simp)
    refine wpAny_pyNext_tuple_item st (show s.heap.IsTuple a its.toArray from p) (x := u) (by simpa using hu) fun h' st' sb => ?_
    have I1 : Inv X pins σ H { s with heap := h' } := I.turned (t' := s.toks) (fun b o hb e => (sb.2 b hb).trans e) f0 f1 f3 f4 f5
    obtain ⟨o, e, c, d⟩ := id st'
    exact ⟨u, rfl, go_of (s := { s with heap := h' }) e c d (by decide) ⟨x, H, I1, ru, ⟨rfl, fun ys hy => by rw [I.tuple_inj hy hq]; exact hx⟩, st', fun b hb => (hf b hb).1⟩⟩
  done := by
    intro X hP hw hK hc i pins s σ H E I hf st hg
    subst hP hw hK
    obtain ⟨xs, hq, hx⟩ := hg
    obtain ⟨its, rv, p, hz⟩ := I.tuple hq
    obtain ⟨f0, f1, f2, f3, f4, f5⟩ := hf it (by simp)
    have hl := rv.length
    exact wpAny_pyNext_tuple_end (I.ok.hd hc) st (show s.heap.IsTuple a its.toArray from p) (by simp; omega) fun h' eb => ⟨rfl, I.turned (t' := s.toks) (fun b o hb e => eb b o hb e) f0 f1 f3 f4 f5⟩
  self := fun _ _ _ _ _ st h => wpAny_pyIter_tupleiter st h
theorem turn_range {P : Program} {w : World} {K : PySem.W.Frag} {tg : Expr} (it : Addr) (lo : Int) (n : Nat) : Turn P w K tg (Itr lo n) [it] it (fun i h => IsRangeIter h it (lo + (i : Nat) * 1) ((n : Int) - (i : Nat)) 1) where
  mem := by simp
  obj := fun i h st b hb => by
    have e : b = it := by simpa using hb
    subst e
    exact ⟨_, st, fun v z => by
      have z' : Data.fields _ = Data.cell v := z
      cases z'⟩
  keep := fun i h h' st k => k it (by simp) _ st
  item := by
    intro X hP hw hK hc i pins s σ H E I hf st hg
    subst hP hw hK
    obtain ⟨f0, f1, f2, f3, f4, f5⟩ := hf it (by simp)
    have W := Walks.range (prog := X.prog) (w := X.w) (I.ok.hd hc) it lo 1 n
    refine W.item i s _ _ hg st fun v h' tk hv st' kk => ?_
    obtain ⟨t, rfl⟩ := hv
    have I1 : Inv X pins σ H { s with heap := h', toks := tk } := I.turned (fun b o hb e => kk b o (by simpa using hb) e) f0 f1 f3 f4 f5
    refine ⟨_, rfl, go_of (s := { s with heap := h', toks := tk }) (n := "range_iterator") st' rfl rfl (by decide) ⟨.int (lo + i), H, I1, ⟨t, ?_⟩, ⟨rfl, rfl⟩, st', fun b hb => (hf b hb).1⟩⟩
    rw [Int.mul_one]
  done := by
    intro X hP hw hK hc i pins s σ H E I hf st hg
    subst hP hw hK
    obtain ⟨f0, f1, f2, f3, f4, f5⟩ := hf it (by simp)
    exact wpAny_pyNext_range_end (I.ok.hd hc) st (by have : n ≤ i := hg; omega) fun h' eb => ⟨rfl, I.turned (t' := s.toks) (fun b o hb e => eb b o hb e) f0 f1 f3 f4 f5⟩
  self := fun _ _ _ _ _ st h => wpAny_pyIter_rangeiter st h
end L2

namespace L2
open PySem PySem.Spec PyProof.Rows
section
variable {X : Cx} {tg : Expr}
def iList (K : PySem.W.Frag) (tl : TE) : TI := fun σ H R => tl σ H fun x H1 => ∃ a, x = .ref a ∧ (∃ xs, SqL K H1 a xs) ∧ R (Itl K a) H1
def iTup (K : PySem.W.Frag) (tl : TE) : TI := fun σ H R => tl σ H fun x H1 => ∃ a, x = .ref a ∧ (∃ xs, SqT K H1 a xs) ∧ R (Itt K a) H1
theorem pi_list {l : Expr} {tl : TE} (hl : PE X l tl) : PI X tg l (iList X.K tl) := by
  intro pins s σ H R I h
  refine thn (hl pins s σ H _ I h) fun v s1 ⟨x, H1, I1, r1, q1⟩ => ?_
  obtain ⟨a, e, ⟨xs, hq⟩, q⟩ := q1
  subst e
  cases r1
  obtain ⟨its, rv, p, hz⟩ := I1.list hq
  refine wpAny_pyIter_list p.isList ?_
  refine ⟨s1.heap.objs.size, [s1.heap.objs.size], _, _, H1, rfl, I1.kept (t' := s1.toks) fun b o e => Heap.get?_push_of_some _ e, turn_list a _, ⟨_, Heap.get?_push_size _ rfl, rfl, rfl⟩, fun b hb => ?_, q⟩
  have e : b = s1.heap.objs.size := by simpa using hb
  subst e
  exact I1.fpOk (Nat.le_refl _) (I1.hok.fresh (Nat.le_refl _))
theorem pi_tup {l : Expr} {tl : TE} (hl : PE X l tl) : PI X tg l (iTup X.K tl) := by
  intro pins s σ H R I h
  refine thn (hl pins s σ H _ I h) fun v s1 ⟨x, H1, I1, r1, q1⟩ => ?_
  obtain ⟨a, e, ⟨xs, hq⟩, q⟩ := q1
  subst e
  cases r1
  obtain ⟨its, rv, p, hz⟩ := I1.tuple hq
  refine wpAny_pyIter_tuple (show s1.heap.IsTuple a its.toArray from p) ?_
  refine ⟨s1.heap.objs.size, [s1.heap.objs.size], _, _, H1, rfl, I1.kept (t' := s1.toks) fun b o e => Heap.get?_push_of_some _ e, turn_tuple a _, ⟨_, Heap.get?_push_size _ rfl, rfl, rfl⟩, fun b hb => ?_, q⟩
  have e : b = s1.heap.objs.size := by simpa using hb
  subst e
  exact I1.fpOk (Nat.le_refl _) (I1.hok.fresh (Nat.le_refl _))
/-- a range object just made, walked -/
theorem range_it {pins : List (Addr × Obj)} {σ : St} {H : Hp} {s : Shared} {R : It → Hp → Prop} {E : Value → Shared → Prop} {lo hi : Int} {t u v : Tok} {tk : Nat} (I : Inv X pins σ H s) (h1 : -(2 ^ 62) ≤ lo) (h2 : lo < 2 ^ 62) (h3 : -(2 ^ 62) ≤ hi) (h4 : hi < 2 ^ 62)
    (q : R (Itr lo (hi - lo).toNat) H) : wpAny (model X.prog X.w) X.A (pyIter (.ref s.heap.objs.size)) (PIE X pins σ tg R) E { s with heap := s.heap.push { cls := .type "range", data := .fields #[.int lo t, .int hi u, .int 1 v] }, toks := tk } := by
  refine wpAny_pyIter_range (IsRange.new ..) (small_one h1 h2 h3 h4) ?_
  have I1 : Inv X pins σ H { s with heap := s.heap.push { cls := .type "range", data := .fields #[.int lo t, .int hi u, .int 1 v] }, toks := tk } := I.kept fun b o e => Heap.get?_push_of_some _ e
  refine ⟨(s.heap.push { cls := .type "range", data := .fields #[.int lo t, .int hi u, .int 1 v] }).objs.size, [(s.heap.push { cls := .type "range", data := .fields #[.int lo t, .int hi u, .int 1 v] }).objs.size], _, _, H, rfl,
    I1.kept (t' := tk) fun b o e => Heap.get?_push_of_some _ e, turn_range _ lo (hi - lo).toNat, ?_, fun b hb => ?_, q⟩
  · have e1 : lo + ((0 : Nat) : Int) * 1 = lo := by simp
    have e2 : (((hi - lo).toNat : Nat) : Int) - ((0 : Nat) : Int) = Builtin.Range.rangeSize lo hi 1 := by rw [rangeSize_one]; split <;> omega
    show IsRangeIter _ _ (lo + ((0 : Nat) : Int) * 1) ((((hi - lo).toNat : Nat) : Int) - ((0 : Nat) : Int)) 1
    rw [e1, e2]
    exact Heap.get?_push_size _ rfl
  · have e : b = (s.heap.push { cls := .type "range", data := .fields #[.int lo t, .int hi u, .int 1 v] }).objs.size := by simpa using hb
    subst e
    exact I1.fpOk (Nat.le_refl _) (I1.hok.fresh (Nat.le_refl _))
def iRng1 (ta : TA) : TI := fun σ H R => ta σ H fun vs H1 => ∃ j : Int, vs = [.int j] ∧ -(2 ^ 62) ≤ j ∧ j < 2 ^ 62 ∧ R (Itr 0 j.toNat) H1
def iRng2 (ta : TA) : TI := fun σ H R => ta σ H fun vs H1 => ∃ i j : Int, vs = [.int i, .int j] ∧ (-(2 ^ 62) ≤ i ∧ i < 2 ^ 62 ∧ -(2 ^ 62) ≤ j ∧ j < 2 ^ 62) ∧ R (Itr i (j - i).toNat) H1
theorem pi_range1 {a : Expr} {ta : TA} {p pos : Pos} (hg : Gl X "range") (hm : X.mg "range" = none) (ha : PA X [a] ta) (hs : starEach [a] X.env = [(false, eval a X.env)] := by rfl) : PI X tg (.Call (.Name "range" p) [a] [] pos) (iRng1 ta) := by
  intro pins s σ H R I h
  refine Call_ (ld_blt I hg hm boot_range (PyProof.Rows.callWith_type1 (thn (ha pos pins s σ H _ I h) fun us s1 ⟨vs, H1, I1, r1, q1⟩ => ?_) hs rfl))
  obtain ⟨j, e, q1, q2, q⟩ := q1
  subst e
  cases r1 with
  | cons r rr =>
    cases rr
    obtain ⟨t, rfl⟩ := r
    exact call_range_1 (range_it I1 (by omega) (by omega) q1 q2 (by simpa using q))
theorem pi_range2 {a b : Expr} {ta : TA} {p pos : Pos} (hg : Gl X "range") (hm : X.mg "range" = none) (ha : PA X [a, b] ta) (hs : starEach [a, b] X.env = [(false, eval a X.env), (false, eval b X.env)] := by rfl) (hs2 : starEach [b] X.env = [(false, eval b X.env)] := by rfl) :
    PI X tg (.Call (.Name "range" p) [a, b] [] pos) (iRng2 ta) := by
  intro pins s σ H R I h
  refine Call_ (ld_blt I hg hm boot_range (PyProof.Rows.callWith_type1 (thn (ha pos pins s σ H _ I h) fun us s1 ⟨vs, H1, I1, r1, q1⟩ => ?_) (by rw [hs, hs2]) (by rw [hs2]; rfl)))
  obtain ⟨i, j, e, ⟨q1, q2, q3, q4⟩, q⟩ := q1
  subst e
  cases r1 with
  | cons r rr =>
    cases rr with
    | cons r' rr =>
      cases rr
      obtain ⟨t, rfl⟩ := r
      obtain ⟨t', rfl⟩ := r'
      exact call_range_2 (range_it I1 q1 q2 q3 q4 q)

/-! ### for -/
/-- W: the invariant by the turn and a measure; N: what the body is to reach -/
def tFor (wi : TI) (g : TG) (tb : TS) : TS := fun D σ H => wi σ H fun J H1 => ∃ W : Nat → Nat → St → Hp → Prop, (∃ m, W 0 m σ H1) ∧ ∀ i m σ H, W i m σ H →
  (J.stop i H ∧ D.nx σ H) ∨ (J.go i H ∧ ∃ N : St → Hp → Prop, (∀ σ' H', N σ' H' → ∃ m', m' < m ∧ W (i + 1) m' σ' H') ∧ ∀ x H', J.yld i H x H' → g x σ H' fun σ2 H2 => tb { D with nx := N, ct := N, bk := D.nx } σ2 H2)
/-- the records at fp as they stand -/
def pinsAt (fp : List Addr) (h : Heap) : List (Addr × Obj) := fp.filterMap fun b => (h.get? b).map fun o => (b, o)
theorem mem_pinsAt {fp : List Addr} {h : Heap} {b : Addr} {o : Obj} (hb : b ∈ fp) (e : h.get? b = some o) : (b, o) ∈ pinsAt fp h := List.mem_filterMap.mpr ⟨b, hb, by rw [e]; rfl⟩
theorem of_pinsAt {fp : List Addr} {h : Heap} {p : Addr × Obj} (hp : p ∈ pinsAt fp h) : p.1 ∈ fp ∧ h.get? p.1 = some p.2 := by
  obtain ⟨b, hb, e⟩ := List.mem_filterMap.mp hp
  cases q : h.get? b with
  | none => rw [q] at e; cases e
  | some o =>
    rw [q] at e
    have e' : (b, o) = p := Option.some.inj e
    subst e'
    exact ⟨hb, q⟩
theorem Inv.pinned {pins : List (Addr × Obj)} {σ : St} {H : Hp} {s : Shared} {fp : List Addr} (I : Inv X pins σ H s) (hf : ∀ b ∈ fp, FpOk X pins H b) (ho : ∀ b ∈ fp, ∃ o, s.heap.get? b = some o ∧ ∀ v, o.data ≠ .cell v) : Inv X (pins ++ pinsAt fp s.heap) σ H s :=
  I.pins_of fun p hp => (List.mem_append.mp hp).elim (fun z => I.pin p (List.mem_append_right _ z)) fun z => by
    obtain ⟨hb, e⟩ := of_pinsAt z
    obtain ⟨f0, f1, f2, _⟩ := hf p.1 hb
    obtain ⟨o, e', d⟩ := ho p.1 hb
    rw [e] at e'; cases e'
    exact ⟨e, f0, f1, f2, d⟩
theorem Inv.unpinned {pins pl : List (Addr × Obj)} {σ : St} {H : Hp} {s : Shared} (I : Inv X (pins ++ pl) σ H s) : Inv X pins σ H s := I.pins_of fun p hp => I.pin p (List.mem_append_right _ (List.mem_append_left _ hp))
theorem ps_for {iter : Expr} {body : List Stmt} {wi : TI} {g : TG} {tb : TS} {pos : Pos} (hp : PassesOwn (model X.prog X.w) X.A X.env X.xe) (hc : X.calm = true) (hi : PI X tg iter wi) (hg : PG X tg g) (hb : PSs X body tb)
    (hs : ∀ x, foldedSetIterable iter X.env x = pure x := by intro _; rfl) : PS X (.For tg iter body [] pos) (tFor wi g tb) := by
  intro pins s σ H D I h
  refine wpAny_For (thn (hi pins s σ H _ I h) fun v s1 h1 => thn h1 fun itv s2 h2 => ?_) hs
  obtain ⟨it, fp, tn, J, H2, e, I2, T, st2, f2, W, ⟨m0, w0⟩, turn⟩ := h2
  subst e
  -- what stays true of the iterator's objects through the loop
  have stat : ∀ {H' : Hp}, (∀ b ∈ fp, H' b = none) → ∀ b ∈ fp, FpOk X pins H' b := fun hn b hb => ⟨hn b hb, (f2 b hb).2⟩
  refine codeAny_forLoop_any (fun n s' => ∃ i σ' H', Inv X pins σ' H' s' ∧ tn i s'.heap ∧ (∀ b ∈ fp, H' b = none) ∧ W i n σ' H') ?_ m0 ⟨0, σ, H2, I2, st2, fun b hb => (f2 b hb).1, w0⟩
  rintro n s3 ⟨i, σ3, H3, I3, st3, fr3, w3⟩
  rcases turn i n σ3 H3 w3 with ⟨stop, qn⟩ | ⟨go, N, hN, step⟩
  · refine wpAny_passesOwn hp (thn (T.done X rfl rfl rfl hc i pins s3 σ3 H3 X.xe I3 (stat fr3) st3 stop) fun r s4 ⟨hr, I4⟩ => ?_)
    subst hr
    exact wpAny_execs_nil ⟨σ3, H3, I4, qn⟩
  · refine wpAny_passesOwn hp (thn (T.item X rfl rfl rfl hc i pins s3 σ3 H3 X.xe I3 (stat fr3) st3 go) fun r s4 ⟨u, hr, h4⟩ => ?_)
    subst hr
    refine wpAny_passesOwn hp (thn h4 fun _ s5 ⟨x, H5, I5, r5, y5, st5, fr5⟩ => ?_)
    have I5' := I5.pinned (stat fr5) (T.obj _ _ st5)
    refine wpAny_passesOwn hp (thn (hg _ s5 σ3 H5 x u _ I5' r5 (step x H5 y5)) fun _ s6 ⟨σ6, H6, I6, q6⟩ => ?_)
    refine wpAny_passesOwn hp (thn (hb _ s6 σ6 H6 _ I6 q6) fun f s7 q7 => ?_)
    have again : ∀ {σ7 : St} {H7 : Hp}, Inv X (pins ++ pinsAt fp s5.heap) σ7 H7 s7 → N σ7 H7 → ∃ m, m < n ∧ ∃ i σ' H', Inv X pins σ' H' s7 ∧ tn i s7.heap ∧ (∀ b ∈ fp, H' b = none) ∧ W i m σ' H' := fun {σ7 H7} I7 n7 => by
      obtain ⟨m', hm, w7⟩ := hN σ7 H7 n7
      refine ⟨m', hm, i + 1, σ7, H7, I7.unpinned, T.keep _ _ _ st5 fun b hb o e => (I7.pin (b, o) (List.mem_append_right _ (List.mem_append_right _ (mem_pinsAt hb e)))).1, fun b hb => ?_, w7⟩
      obtain ⟨o, e, d⟩ := T.obj _ _ st5 b hb
      exact (I7.pin (b, o) (List.mem_append_right _ (List.mem_append_right _ (mem_pinsAt hb e)))).2.1
    cases f with
    | next => obtain ⟨σ7, H7, I7, n7⟩ := q7; exact again I7 n7
    | cont => obtain ⟨σ7, H7, I7, n7⟩ := q7; exact again I7 n7
    | brk => obtain ⟨σ7, H7, I7, q7⟩ := q7; exact ⟨σ7, H7, I7.unpinned, q7⟩
    | ret v => obtain ⟨x7, σ7, H7, I7, r7, q7⟩ := q7; exact ⟨x7, σ7, H7, I7.unpinned, r7, q7⟩
end

/-! ### the forms one uses -/
/-- over a list that the body leaves as it is -/
theorem for_list {K : PySem.W.Frag} {a : Addr} {xs : List V} {g : TG} {tb : TS} {D : Ends} {σ : St} {H : Hp} (Pv : Nat → St → Hp → Prop) (h0 : Pv 0 σ H) (hl : ∀ i σ H, i ≤ xs.length → Pv i σ H → SqL K H a xs)
    (hs : ∀ i x σ H, xs[i]? = some x → Pv i σ H → g x σ H fun σ2 H2 => tb { D with nx := Pv (i + 1), ct := Pv (i + 1), bk := D.nx } σ2 H2) (hd : ∀ σ H, Pv xs.length σ H → D.nx σ H) :
    ∃ W : Nat → Nat → St → Hp → Prop, (∃ m, W 0 m σ H) ∧ ∀ i m σ H, W i m σ H →
      ((Itl K a).stop i H ∧ D.nx σ H) ∨ ((Itl K a).go i H ∧ ∃ N : St → Hp → Prop, (∀ σ' H', N σ' H' → ∃ m', m' < m ∧ W (i + 1) m' σ' H') ∧ ∀ x H', (Itl K a).yld i H x H' → g x σ H' fun σ2 H2 => tb { D with nx := N, ct := N, bk := D.nx } σ2 H2) := by
  refine ⟨fun i m σ H => m = xs.length - i ∧ i ≤ xs.length ∧ Pv i σ H, ⟨xs.length, by simp, Nat.zero_le _, h0⟩, ?_⟩
  rintro i m σ H ⟨rfl, hi, p⟩
  have q := hl i σ H hi p
  by_cases hlt : i < xs.length
  · refine .inr ⟨⟨xs, xs[i], q, by simp [hlt]⟩, Pv (i + 1), fun σ' H' p' => ⟨xs.length - (i + 1), by omega, rfl, hlt, p'⟩, fun x H' y => ?_⟩
    obtain ⟨e, y⟩ := y
    subst e
    exact hs i x σ _ (y xs q) p
  · have e : i = xs.length := by omega
    subst e
    exact .inl ⟨⟨xs, q, Nat.le_refl _⟩, hd σ H p⟩
theorem for_tup {K : PySem.W.Frag} {a : Addr} {xs : List V} {g : TG} {tb : TS} {D : Ends} {σ : St} {H : Hp} (Pv : Nat → St → Hp → Prop) (h0 : Pv 0 σ H) (hl : ∀ i σ H, i ≤ xs.length → Pv i σ H → SqT K H a xs)
    (hs : ∀ i x σ H, xs[i]? = some x → Pv i σ H → g x σ H fun σ2 H2 => tb { D with nx := Pv (i + 1), ct := Pv (i + 1), bk := D.nx } σ2 H2) (hd : ∀ σ H, Pv xs.length σ H → D.nx σ H) :
    ∃ W : Nat → Nat → St → Hp → Prop, (∃ m, W 0 m σ H) ∧ ∀ i m σ H, W i m σ H →
      ((Itt K a).stop i H ∧ D.nx σ H) ∨ ((Itt K a).go i H ∧ ∃ N : St → Hp → Prop, (∀ σ' H', N σ' H' → ∃ m', m' < m ∧ W (i + 1) m' σ' H') ∧ ∀ x H', (Itt K a).yld i H x H' → g x σ H' fun σ2 H2 => tb { D with nx := N, ct := N, bk := D.nx } σ2 H2) := by
  refine ⟨fun i m σ H => m = xs.length - i ∧ i ≤ xs.length ∧ Pv i σ H, ⟨xs.length, by simp, Nat.zero_le _, h0⟩, ?_⟩
  rintro i m σ H ⟨rfl, hi, p⟩
  have q := hl i σ H hi p
  by_cases hlt : i < xs.length
  · refine .inr ⟨⟨xs, xs[i], q, by simp [hlt]⟩, Pv (i + 1), fun σ' H' p' => ⟨xs.length - (i + 1), by omega, rfl, hlt, p'⟩, fun x H' y => ?_⟩
    obtain ⟨e, y⟩ := y
    subst e
    exact hs i x σ _ (y xs q) p
  · have e : i = xs.length := by omega
    subst e
    exact .inl ⟨⟨xs, q, Nat.le_refl _⟩, hd σ H p⟩
theorem for_range {lo : Int} {n : Nat} {g : TG} {tb : TS} {D : Ends} {σ : St} {H : Hp} (Pv : Nat → St → Hp → Prop) (h0 : Pv 0 σ H)
    (hs : ∀ i σ H, i < n → Pv i σ H → g (.int (lo + i)) σ H fun σ2 H2 => tb { D with nx := Pv (i + 1), ct := Pv (i + 1), bk := D.nx } σ2 H2) (hd : ∀ σ H, Pv n σ H → D.nx σ H) :
    ∃ W : Nat → Nat → St → Hp → Prop, (∃ m, W 0 m σ H) ∧ ∀ i m σ H, W i m σ H →
      ((Itr lo n).stop i H ∧ D.nx σ H) ∨ ((Itr lo n).go i H ∧ ∃ N : St → Hp → Prop, (∀ σ' H', N σ' H' → ∃ m', m' < m ∧ W (i + 1) m' σ' H') ∧ ∀ x H', (Itr lo n).yld i H x H' → g x σ H' fun σ2 H2 => tb { D with nx := N, ct := N, bk := D.nx } σ2 H2) := by
  refine ⟨fun i m σ H => m = n - i ∧ i ≤ n ∧ Pv i σ H, ⟨n, by simp, Nat.zero_le _, h0⟩, ?_⟩
  rintro i m σ H ⟨rfl, hi, p⟩
  by_cases hlt : i < n
  · refine .inr ⟨hlt, Pv (i + 1), fun σ' H' p' => ⟨n - (i + 1), by omega, rfl, hlt, p'⟩, fun x H' y => ?_⟩
    obtain ⟨e, y⟩ := y
    subst e y
    exact hs i σ _ hlt p
  · have e : i = n := by omega
    subst e
    exact .inl ⟨Nat.le_refl _, hd σ H p⟩
end L2

namespace L2
open PySem PySem.Spec PyProof.Rows

abbrev R2 := V → V → Hp → VK → Prop
/-- a two-place operation on values: f is binaryOp op, inplaceOp op or compareOp op -/
def OpR (X : Cx) (f : Value → Value → Sem Value) (r : R2) : Prop :=
  ∀ (pins : List (Addr × Obj)) (s : Shared) (σ : St) (H : Hp) (x y : V) (v u : Value) (Q : VK), Inv X pins σ H s → RelV x v → RelV y u → r x y H Q →
    wpAny (model X.prog X.w) X.A (f v u) (EP X pins σ Q) X.xe s
/-- a one-place operation -/
def UnR (X : Cx) (f : Value → Sem Value) (r : V → Hp → VK → Prop) : Prop :=
  ∀ (pins : List (Addr × Obj)) (s : Shared) (σ : St) (H : Hp) (x : V) (v : Value) (Q : VK), Inv X pins σ H s → RelV x v → r x H Q →
    wpAny (model X.prog X.w) X.A (f v) (EP X pins σ Q) X.xe s
/-- a call of a value that is known (a builtin, a type) with values -/
def CallR (X : Cx) (f : Value) (r : List V → Hp → VK → Prop) : Prop :=
  ∀ (pins : List (Addr × Obj)) (s : Shared) (σ : St) (H : Hp) (xs : List V) (us : List Value) (Q : VK), Inv X pins σ H s → Vals xs us → r xs H Q →
    wpAny (model X.prog X.w) X.A (call f us) (EP X pins σ Q) X.xe s
/-- a value's truth -/
def TruR (X : Cx) (r : V → Hp → (Bool → Hp → Prop) → Prop) : Prop :=
  ∀ (pins : List (Addr × Obj)) (s : Shared) (σ : St) (H : Hp) (x : V) (v : Value) (Q : Bool → Hp → Prop), Inv X pins σ H s → RelV x v → r x H Q →
    wpAny (model X.prog X.w) X.A (truthy v) (TP X pins σ Q) X.xe s

def tOp (r : R2) (ta tb : TE) : TE := fun σ H Q => ta σ H fun x H1 => tb σ H1 fun y H2 => r x y H2 Q
def tUn (r : V → Hp → VK → Prop) (ta : TE) : TE := fun σ H Q => ta σ H fun x H1 => r x H1 Q
/-- ints in, under C, and a value out -/
def rI (C : Int → Int → Prop) (g : Int → Int → V) : R2 := fun x y H Q => ∃ i j, x = .int i ∧ y = .int j ∧ C i j ∧ Q (g i j) H
def rI0 (g : Int → Int → V) : R2 := fun x y H Q => ∃ i j, x = .int i ∧ y = .int j ∧ Q (g i j) H
def rU (g : Int → V) : V → Hp → VK → Prop := fun x H Q => ∃ i, x = .int i ∧ Q (g i) H

section
variable {X : Cx} {a b c : Expr} {ta tb tc : TE} {pos : Pos}

theorem binT (ha : PE X a ta) (hb : PE X b tb) {pins : List (Addr × Obj)} {s : Shared} {σ : St} {H : Hp} {R : V → V → Hp → Prop} (I : Inv X pins σ H s)
    (h : ta σ H fun x H1 => tb σ H1 fun y H2 => R x y H2) {Q : Value → Shared → Prop} {f : Value → Value → Sem Value}
    (hf : ∀ v u s2 x y H2, Inv X pins σ H2 s2 → RelV x v → RelV y u → R x y H2 → wpAny (model X.prog X.w) X.A (f v u) Q X.xe s2) :
    wpAny (model X.prog X.w) X.A (eval a X.env) (fun v s₁ => wpAny (model X.prog X.w) X.A (eval b X.env) (fun u s₂ => wpAny (model X.prog X.w) X.A (f v u) Q X.xe s₂) X.xe s₁) X.xe s := by
  refine thn (ha pins s σ H _ I h) fun v s1 ⟨x, H1, I1, r1, q1⟩ => ?_
  refine thn (hb pins s1 σ H1 _ I1 q1) fun u s2 ⟨y, H2, I2, r2, q2⟩ => ?_
  exact hf v u s2 x y H2 I2 r1 r2 q2

theorem pe_op {op : Operator} {r : R2} (ho : OpR X (binaryOp op) r) (ha : PE X a ta) (hb : PE X b tb) : PE X (.BinOp a op b pos) (tOp r ta tb) := by
  intro pins s σ H Q I h
  exact wpAny_BinOp (binT ha hb I h fun v u s2 x y H2 I2 rx ry q => ho pins s2 σ H2 x y v u Q I2 rx ry q)
theorem pe_un {op : UnaryOp} {r : V → Hp → VK → Prop} (ho : UnR X (unaryOp op) r) (ha : PE X a ta) : PE X (.UnaryOp op a pos) (tUn r ta) := by
  intro pins s σ H Q I h
  exact UnaryOp_ (thn (ha pins s σ H _ I h) fun v s1 ⟨x, H1, I1, r1, q1⟩ => ho pins s1 σ H1 x v Q I1 r1 q1)

/-! ### ints -/
theorem opI {f : Value → Value → Sem Value} {C : Int → Int → Prop} {g : Int → Int → Int}
    (rule : ∀ (i j : Int) (t u : Tok) (s : Shared) (Q : Value → Shared → Prop) (E : Value → Shared → Prop), C i j → Q (.int (g i j) s.toks) { s with toks := s.toks + 1 } → wpAny (model X.prog X.w) X.A (f (.int i t) (.int j u)) Q E s) :
    OpR X f (rI C fun i j => .int (g i j)) := by
  intro pins s σ H x y v u Q I rx ry h
  obtain ⟨i, j, rfl, rfl, hc, q⟩ := h
  obtain ⟨t, rfl⟩ := rx
  obtain ⟨t', rfl⟩ := ry
  exact rule i j t t' s _ _ hc ⟨.int (g i j), H, I.tok _, ⟨_, rfl⟩, q⟩
theorem opI0 {f : Value → Value → Sem Value} {g : Int → Int → Int}
    (rule : ∀ (i j : Int) (t u : Tok) (s : Shared) (Q : Value → Shared → Prop) (E : Value → Shared → Prop), Q (.int (g i j) s.toks) { s with toks := s.toks + 1 } → wpAny (model X.prog X.w) X.A (f (.int i t) (.int j u)) Q E s) :
    OpR X f (rI0 fun i j => .int (g i j)) := by
  intro pins s σ H x y v u Q I rx ry h
  obtain ⟨i, j, rfl, rfl, q⟩ := h
  obtain ⟨t, rfl⟩ := rx
  obtain ⟨t', rfl⟩ := ry
  exact rule i j t t' s _ _ ⟨.int (g i j), H, I.tok _, ⟨_, rfl⟩, q⟩
theorem opB0 {f : Value → Value → Sem Value} {g : Int → Int → Bool}
    (rule : ∀ (i j : Int) (t u : Tok) (s : Shared) (Q : Value → Shared → Prop) (E : Value → Shared → Prop), Q (.bool (g i j)) s → wpAny (model X.prog X.w) X.A (f (.int i t) (.int j u)) Q E s) :
    OpR X f (rI0 fun i j => .bl (g i j)) := by
  intro pins s σ H x y v u Q I rx ry h
  obtain ⟨i, j, rfl, rfl, q⟩ := h
  obtain ⟨t, rfl⟩ := rx
  obtain ⟨t', rfl⟩ := ry
  exact rule i j t t' s _ _ ⟨.bl (g i j), H, I, rfl, q⟩

def CDiv (i j : Int) : Prop := 0 < j ∧ j < 1073741824
def CDivN (i j : Int) : Prop := j ≠ 0 ∧ j.natAbs < 1073741824
def CPow (i j : Int) : Prop := 0 ≤ j ∧ j ≤ 1000000 ∧ i.natAbs < 2 ^ 64
def CMul (i j : Int) : Prop := (-(2 ^ 64) < i ∧ i < 2 ^ 64) ∨ (-(2 ^ 64) < j ∧ j < 2 ^ 64)
theorem CMul.ok {i j : Int} (h : CMul i j) : IntMulOk i j := by
  rcases h with ⟨h1, h2⟩ | ⟨h1, h2⟩
  · exact .of_left (intBits_le_64 h1 h2)
  · exact .of_right (intBits_le_64 h1 h2)

theorem op_add : OpR X (binaryOp .Add) (rI0 fun i j => .int (i + j)) := opI0 fun _ _ _ _ _ _ _ q => add_int q
theorem op_mul : OpR X (binaryOp .Mult) (rI CMul fun i j => .int (i * j)) := opI fun _ _ _ _ _ _ _ hc q => mul_int q hc.ok
/-- // by a positive divisor -/
theorem op_fdiv : OpR X (binaryOp .FloorDiv) (rI CDiv fun i j => .int (i / j)) := opI fun i j _ _ _ _ _ hc q => by
  have h1 : (0 : Int) < j := hc.1
  have h2 : j < 1073741824 := hc.2
  exact floordiv_int (by omega) (by rw [Int.fdiv_eq_ediv_of_nonneg i (by omega)]; exact q) (.inl (PyProof.noPylong_small (by omega)))
/-- % by a positive divisor of any size -/
theorem op_mod : OpR X (binaryOp .Mod) (rI (fun _ j => 0 < j) fun i j => .int (i % j)) := opI fun i j _ _ _ _ _ hc q => by
  have h1 : (0 : Int) < j := hc
  exact mod_int' (by omega) (by rw [Int.fmod_eq_emod_of_nonneg i (by omega)]; exact q)
theorem op_pow : OpR X (binaryOp .Pow) (rI CPow fun i j => .int (i ^ j.toNat)) := opI fun _ _ _ _ _ _ _ hc q => pow_int_small hc.1 hc.2.1 hc.2.2 q


theorem unI {f : Value → Sem Value} {g : Int → Int}
    (rule : ∀ (i : Int) (t : Tok) (s : Shared) (Q : Value → Shared → Prop) (E : Value → Shared → Prop), Q (.int (g i) s.toks) { s with toks := s.toks + 1 } → wpAny (model X.prog X.w) X.A (f (.int i t)) Q E s) :
    UnR X f (rU fun i => .int (g i)) := by
  intro pins s σ H x v Q I rx h
  obtain ⟨i, rfl, q⟩ := h
  obtain ⟨t, rfl⟩ := rx
  exact rule i t s _ _ ⟨.int (g i), H, I.tok _, ⟨_, rfl⟩, q⟩
theorem un_neg : UnR X (unaryOp .USub) (rU fun i => .int (-i)) := unI fun _ _ _ _ _ q => neg_int q

/-! ### bools among ints: n += (a < b) -/
end

/-! ### comparisons -/
/-- the scalars that == tells apart as data does -/
def scal : V → V → Bool
  | .non, .non => true | .non, .int _ => true | .int _, .non => true | .non, .bl _ => true | .bl _, .non => true | .non, .str _ => true | .str _, .non => true
  | .int _, .int _ => true | .bl _, .bl _ => true | .str _, .str _ => true | .byt _, .byt _ => true
  | .int _, .str _ => true | .str _, .int _ => true | .bl _, .str _ => true | .str _, .bl _ => true
  | _, _ => false
def rEq : R2 := fun x y H Q => scal x y = true ∧ Q (.bl (decide (x = y))) H
def rNe : R2 := fun x y H Q => scal x y = true ∧ Q (.bl (!decide (x = y))) H

theorem dec_int {i j : Int} : decide (V.int i = V.int j) = (i == j) := by
  rw [Bool.eq_iff_iff]
  simp
theorem dec_bl {i j : Bool} : decide (V.bl i = V.bl j) = (i == j) := by
  rw [Bool.eq_iff_iff]
  simp
theorem dec_str {i j : Str} : decide (V.str i = V.str j) = (i == j) := by
  rw [Bool.eq_iff_iff]
  simp
theorem dec_byt {i j : Array UInt8} : decide (V.byt i = V.byt j) = (i.toList == j.toList) := by
  rw [Bool.eq_iff_iff]
  cases i
  cases j
  simp

section
variable {X : Cx} {a b c : Expr} {ta tb tc : TE} {pos : Pos}
theorem fin_bl {pins : List (Addr × Obj)} {σ : St} {H : Hp} {s : Shared} {Q : VK} {k k' : Bool} (I : Inv X pins σ H s) (q : Q (.bl k) H) (e : k = k') : EP X pins σ Q (.bool k') s := by
  subst e
  exact ⟨.bl k, H, I, rfl, q⟩
theorem op_eq : OpR X (compareOp .Eq) rEq := by
  intro pins s σ H x y v u Q I rx ry h
  obtain ⟨hs, q⟩ := h
  cases x with
  | non =>
    cases rx
    cases y with
    | non => cases ry; exact PySem.EqNone.eq_none_none (fin_bl I q (by simp))
    | bl j => cases ry; exact PySem.EqNone.eq_none_bool (fin_bl I q (by simp))
    | int j => obtain ⟨t', rfl⟩ := ry; exact PySem.EqNone.eq_none_int (fin_bl I q (by simp))
    | str j => obtain ⟨t', rfl⟩ := ry; exact PySem.EqNone.eq_none_str (fin_bl I q (by simp))
    | _ => exact absurd (show false = true from hs) Bool.false_ne_true
  | bl i =>
    cases rx
    cases y with
    | non => cases ry; exact PySem.EqNone.eq_bool_none (fin_bl I q (by simp))
    | bl j => cases ry; exact eq_bool (fin_bl I q dec_bl)
    | str j => obtain ⟨t', rfl⟩ := ry; exact PySem.EqMixed.eq_bool_str (fin_bl I q (by simp))
    | _ => exact absurd (show false = true from hs) Bool.false_ne_true
  | int i =>
    obtain ⟨t, rfl⟩ := rx
    cases y with
    | non => cases ry; exact PySem.EqNone.eq_int_none (fin_bl I q (by simp))
    | int j => obtain ⟨t', rfl⟩ := ry; exact eq_int (fin_bl I q dec_int)
    | str j => obtain ⟨t', rfl⟩ := ry; exact PySem.EqMixed.eq_int_str (fin_bl I q (by simp))
    | _ => exact absurd (show false = true from hs) Bool.false_ne_true
  | str i =>
    obtain ⟨t, rfl⟩ := rx
    cases y with
    | non => cases ry; exact PySem.EqNone.eq_str_none (fin_bl I q (by simp))
    | bl j => cases ry; exact PySem.EqMixed.eq_str_bool (fin_bl I q (by simp))
    | int j => obtain ⟨t', rfl⟩ := ry; exact PySem.EqMixed.eq_str_int (fin_bl I q (by simp))
    | str j => obtain ⟨t', rfl⟩ := ry; exact eq_str (fin_bl I q dec_str)
    | _ => exact absurd (show false = true from hs) Bool.false_ne_true
  | byt i =>
    obtain ⟨t, rfl⟩ := rx
    cases y with
    | byt j => obtain ⟨t', rfl⟩ := ry; exact PySem.W.eq_bytes (fin_bl I q dec_byt)
    | _ => exact absurd (show false = true from hs) Bool.false_ne_true
  | _ => cases y <;> exact absurd (show false = true from hs) Bool.false_ne_true
theorem op_ne : OpR X (compareOp .NotEq) rNe := by
  intro pins s σ H x y v u Q I rx ry h
  obtain ⟨hs, q⟩ := h
  cases x with
  | non =>
    cases rx
    cases y with
    | non => cases ry; exact PySem.EqNone.ne_none_none (fin_bl I q (by simp))
    | bl j => cases ry; exact PySem.EqNone.ne_none_bool (fin_bl I q (by simp))
    | int j => obtain ⟨t', rfl⟩ := ry; exact PySem.EqNone.ne_none_int (fin_bl I q (by simp))
    | str j => obtain ⟨t', rfl⟩ := ry; exact PySem.EqNone.ne_none_str (fin_bl I q (by simp))
    | _ => exact absurd (show false = true from hs) Bool.false_ne_true
  | bl i =>
    cases rx
    cases y with
    | non => cases ry; exact PySem.EqNone.ne_bool_none (fin_bl I q (by simp))
    | bl j => cases ry; exact ne_bool (fin_bl I q (congrArg not dec_bl))
    | str j => obtain ⟨t', rfl⟩ := ry; exact PySem.EqMixed.ne_bool_str (fin_bl I q (by simp))
    | _ => exact absurd (show false = true from hs) Bool.false_ne_true
  | int i =>
    obtain ⟨t, rfl⟩ := rx
    cases y with
    | non => cases ry; exact PySem.EqNone.ne_int_none (fin_bl I q (by simp))
    | int j => obtain ⟨t', rfl⟩ := ry; exact ne_int (fin_bl I q (congrArg not dec_int))
    | str j => obtain ⟨t', rfl⟩ := ry; exact PySem.EqMixed.ne_int_str (fin_bl I q (by simp))
    | _ => exact absurd (show false = true from hs) Bool.false_ne_true
  | str i =>
    obtain ⟨t, rfl⟩ := rx
    cases y with
    | non => cases ry; exact PySem.EqNone.ne_str_none (fin_bl I q (by simp))
    | bl j => cases ry; exact PySem.EqMixed.ne_str_bool (fin_bl I q (by simp))
    | int j => obtain ⟨t', rfl⟩ := ry; exact PySem.EqMixed.ne_str_int (fin_bl I q (by simp))
    | str j => obtain ⟨t', rfl⟩ := ry; exact ne_str (fin_bl I q (congrArg not dec_str))
    | _ => exact absurd (show false = true from hs) Bool.false_ne_true
  | byt i =>
    obtain ⟨t, rfl⟩ := rx
    cases y with
    | byt j => obtain ⟨t', rfl⟩ := ry; exact PySem.W.ne_bytes (fin_bl I q (congrArg not dec_byt))
    | _ => exact absurd (show false = true from hs) Bool.false_ne_true
  | _ => cases y <;> exact absurd (show false = true from hs) Bool.false_ne_true

theorem op_lt : OpR X (compareOp .Lt) (rI0 fun i j => .bl (decide (i < j))) := opB0 fun _ _ _ _ _ _ _ q => lt_int q
theorem op_le : OpR X (compareOp .LtE) (rI0 fun i j => .bl (decide (i ≤ j))) := opB0 fun _ _ _ _ _ _ _ q => le_int q
theorem op_gt : OpR X (compareOp .Gt) (rI0 fun i j => .bl (decide (j < i))) := opB0 fun _ _ _ _ _ _ _ q => gt_int q
theorem op_ge : OpR X (compareOp .GtE) (rI0 fun i j => .bl (decide (j ≤ i))) := opB0 fun _ _ _ _ _ _ _ q => ge_int q
/-- the one string within the other -/
theorem op_in_str : OpR X (compareOp .In) (fun x y H Q => ∃ i j, x = .str i ∧ y = .str j ∧ Q (.bl (!(Builtin.Str.occurrences j i 0 j.length 1).isEmpty)) H) := by
  intro pins s σ H x y v u Q I rx ry h
  obtain ⟨i, j, rfl, rfl, q⟩ := h
  obtain ⟨t, rfl⟩ := rx
  obtain ⟨t', rfl⟩ := ry
  exact in_str (fin_bl I q rfl)


/-- is, is not of two objects that are tracked lists or instances -/
def isObj : HO → Bool
  | .lst _ => true
  | .ins _ _ _ => true
  | _ => false

/-- two rules for one operation: by cases -/
theorem OpR.or {f : Value → Value → Sem Value} {r r' : R2} (h : OpR X f r) (h' : OpR X f r') : OpR X f (fun x y H Q => r x y H Q ∨ r' x y H Q) := by
  intro pins s σ H x y v u Q I rx ry q
  rcases q with q | q
  · exact h pins s σ H x y v u Q I rx ry q
  · exact h' pins s σ H x y v u Q I rx ry q

theorem nomark (b : Expr) {op : CmpOp} (h : op ≠ .In := by decide) (h2 : op ≠ .NotIn := by decide) : behindInMarks op b = false := by
  have e1 : (op == CmpOp.In) = false := by cases op <;> first | rfl | exact absurd rfl h
  have e2 : (op == CmpOp.NotIn) = false := by cases op <;> first | rfl | exact absurd rfl h2
  cases b <;> simp [behindInMarks, e1, e2]
/-- a comparison as a value; hm: nomark b, or (for in, not in) by with_unfolding_all rfl -/
theorem pe_cmpR {op : CmpOp} {r : R2} (ho : OpR X (compareOp op) r) (ha : PE X a ta) (hb : PE X b tb) (hm : behindInMarks op b = false) : PE X (.Compare a [op] [b] pos) (tOp r ta tb) := by
  intro pins s σ H Q I h
  exact wpAny_Compare1 (binT ha hb I h fun v u s2 x y H2 I2 rx ry q => ho pins s2 σ H2 x y v u Q I2 rx ry q) hm
/-- a reading of a value as a test -/
def tTest (t : TE) : TT := fun σ H Q => t σ H fun x H' => ∃ k, x = .bl k ∧ Q k H'
theorem pt_cmpR {op : CmpOp} {r : R2} (ho : OpR X (compareOp op) r) (ha : PE X a ta) (hb : PE X b tb) (hm : behindInMarks op b = false) : PT X (.Compare a [op] [b] pos) (tTest (tOp r ta tb)) := by
  intro pins s σ H Q I h
  refine wpAny_isTrue_Compare1 (thn (ha pins s σ H _ I h) fun v s1 ⟨x, H1, I1, r1, q1⟩ => thn (hb pins s1 σ H1 _ I1 q1) fun u s2 ⟨y, H2, I2, r2, q2⟩ =>
    thn (ho pins s2 σ H2 x y v u _ I2 r1 r2 q2) fun c s3 ⟨z, H3, I3, r3, k, e, q3⟩ => ?_) hm
  subst e
  cases r3
  exact wpAny_truthy_bool ⟨H3, I3, q3⟩
/-- a op1 b op2 c -/
def tChain (r r' : R2) (ta tb tc : TE) : TE := fun σ H Q => ta σ H fun x H1 => tb σ H1 fun y H2 => r x y H2 fun z H3 => ∃ k, z = .bl k ∧
  (if k = true then tc σ H3 fun w' H4 => r' y w' H4 Q else Q (.bl false) H3)
theorem pt_chain {op op' : CmpOp} {r r' : R2} (ho : OpR X (compareOp op) r) (ho' : OpR X (compareOp op') r') (ha : PE X a ta) (hb : PE X b tb) (hc : PE X c tc)
    (hm : lastMarks [op, op'] [b, c] = false := by with_unfolding_all rfl) : PT X (.Compare a [op, op'] [b, c] pos) (tTest (tChain r r' ta tb tc)) := by
  intro pins s σ H Q I h
  refine isTrue_chain (thn (ha pins s σ H _ I h) fun v s1 ⟨x, H1, I1, r1, q1⟩ => test_link (thn (hb pins s1 σ H1 _ I1 q1) fun u s2 ⟨y, H2, I2, r2, q2⟩ =>
    thn (ho pins s2 σ H2 x y v u _ I2 r1 r2 q2) fun d s3 ⟨z, H3, I3, r3, k, e, q3⟩ => ?_)) hm
  subst e
  cases r3
  refine wpAny_truthy_bool ?_
  cases k with
  | false =>
    obtain ⟨k', e', q'⟩ := q3
    cases e'
    exact ite_ff ⟨H3, I3, q'⟩
  | true =>
    refine ite_tt (test_last (thn (hc pins s3 σ H3 _ I3 q3) fun w' s4 ⟨z', H4, I4, r4, q4⟩ => thn (ho' pins s4 σ H4 y z' u w' _ I4 r2 r4 q4) fun d' s5 ⟨z2, H5, I5, r5, k2, e2, q5⟩ => ?_))
    subst e2
    cases r5
    exact wpAny_truthy_bool ⟨H5, I5, q5⟩

/-! ### truth -/
/-- a value's truth by the abstract heap -/
def TruV (K : PySem.W.Frag) (x : V) (H : Hp) (k : Bool) : Prop :=
  match x with
  | .non => k = false
  | .bl b => k = b
  | .int i => k = (i != 0)
  | .str y => y.length ≤ sizeLine ∧ k = ((y.length : Int) != 0)
  | .byt y => y.size ≤ sizeLine ∧ k = ((y.size : Int) != 0)
  | .ref p => (∃ xs, SqL K H p xs ∧ k = !xs.isEmpty) ∨ (∃ xs, SqT K H p xs ∧ k = !xs.isEmpty) ∨ ∃ kvs, H p = some (.dK kvs) ∧ k = !kvs.isEmpty
  | _ => False
theorem line63 : (sizeLine : Nat) < 2 ^ 63 := by rw [sizeLine_eq]; decide

/-! ### strs and bytes -/
theorem op_add_str : OpR X (binaryOp .Add) (fun x y H Q => ∃ i j, x = .str i ∧ y = .str j ∧ i.length + j.length ≤ sizeLine ∧ Q (.str (i ++ j)) H) := by
  intro pins s σ H x y v u Q I rx ry h
  obtain ⟨i, j, rfl, rfl, hz, q⟩ := h
  obtain ⟨t, rfl⟩ := rx
  obtain ⟨t', rfl⟩ := ry
  exact add_str (fun t' tk => ⟨.str (i ++ j), H, I.tok _, ⟨_, rfl⟩, q⟩) hz

def PlainIxT (b : Expr) : Prop := ∀ o i, subscripted b false o i = operate [o, i] (getItem o i)

/-! ### scalar builtins, by CallR -/
theorem vals1 {x : V} {us : List Value} (r : Vals [x] us) : ∃ u, us = [u] ∧ RelV x u := by
  cases r with
  | cons r1 r2 => cases r2; exact ⟨_, rfl, r1⟩
theorem vals2 {x y : V} {us : List Value} (r : Vals [x, y] us) : ∃ u w', us = [u, w'] ∧ RelV x u ∧ RelV y w' := by
  cases r with
  | cons r1 r2 =>
    cases r2 with
    | cons r3 r4 => cases r4; exact ⟨_, _, rfl, r1, r3⟩
theorem call_min2 (hc : X.calm = true) : CallR X (.builtin "min") (fun xs H Q => ∃ i j, xs = [.int i, .int j] ∧ Q (.int (if j < i then j else i)) H) := by
  intro pins s σ H xs us Q I r h
  obtain ⟨i, j, rfl, q⟩ := h
  obtain ⟨u, w', rfl, ⟨t, rfl⟩, ⟨t', rfl⟩⟩ := vals2 r
  refine min_two_ints (I.ok.hd hc) fun h' tk k => ⟨_, H, I.kept k, ?_, q⟩
  by_cases hj : j < i
  · rw [if_pos hj, if_pos hj]; exact ⟨_, rfl⟩
  · rw [if_neg hj, if_neg hj]; exact ⟨_, rfl⟩
theorem call_int1 : CallR X (.type "int") (fun xs H Q => (∃ i, xs = [.int i] ∧ Q (.int i) H) ∨ ∃ k, xs = [.bl k] ∧ Q (.int (if k then 1 else 0)) H) := by
  intro pins s σ H xs us Q I r h
  rcases h with ⟨i, rfl, q⟩ | ⟨k, rfl, q⟩
  · obtain ⟨u, rfl, t, rfl⟩ := vals1 r
    exact call_int_int ⟨.int i, H, I, ⟨_, rfl⟩, q⟩
  · obtain ⟨u, rfl, r1⟩ := vals1 r
    cases r1
    exact call_int_bool ⟨.int (if k then 1 else 0), H, I.tok _, ⟨_, rfl⟩, q⟩
/-- len of a str, a bytes, a list, a tuple -/
def LenV (K : PySem.W.Frag) (x : V) (H : Hp) (n : Nat) : Prop :=
  match x with
  | .str y => y.length ≤ sizeLine ∧ n = y.length
  | .byt y => y.size ≤ sizeLine ∧ n = y.size
  | .ref p => (∃ xs, SqL K H p xs ∧ n = xs.length) ∨ ∃ xs, SqT K H p xs ∧ n = xs.length
  | _ => False
end
end L2

namespace L2
open PySem PySem.Spec PyProof.Rows

/-! ### an instance, its attributes a map -/
structure ObjM (h : Heap) (x dx C : Addr) (mA : Str → Option Value) : Prop where
  obj : h.get? x = some (PySem.W.instObj C dx)
  ns : h.Ns1 dx mA
  ne : dx ≠ x

theorem lookIn_ns {h : Heap} {dx : Addr} {mA : Str → Option Value} (n : h.Ns1 dx mA) : ∃ od, h.get? dx = some od ∧ ∀ name, PySem.W.lookIn name od = some (mA name) := by
  obtain ⟨o, es, ep, ho, hd, hk, _, hm⟩ := n
  refine ⟨o, ho, fun name => ?_⟩
  have e := hm name
  unfold nsFind findBy at e
  rw [← Array.find?_toList] at e
  unfold PySem.W.lookIn
  rw [hd]
  dsimp only
  split
  · rename_i y q
    rw [q] at e
    exact congrArg some e
  · rename_i q
    rw [q] at e
    have a : es.toList.any (·.refKey) = false := by
      rw [List.any_eq_false]
      intro y hy
      obtain ⟨z, t, hkey⟩ := hk y (Array.mem_toList_iff.mp hy)
      simp [DictEntry.refKey, hkey]
    have a' : ¬ es.toList.any (·.refKey) = true := by rw [a]; exact Bool.false_ne_true
    rw [if_neg a']
    exact congrArg some e

theorem ObjM.look {h : Heap} {x dx C : Addr} {mA : Str → Option Value} (I : ObjM h x dx C mA) : ∃ od, PySem.W.InstAt h x (PySem.W.instObj C dx) C (some od) ∧ ∀ name, PySem.W.lookIn name od = some (mA name) :=
  let ⟨od, ho, hl⟩ := lookIn_ns I.ns
  ⟨od, ⟨I.obj, rfl, rfl, ho⟩, hl⟩

section
variable {prog : Program} {w : World} {A : Around} {E : Value → Shared → Prop} {s : Shared} {K : PySem.W.Frag} {x dx C f : Addr} {mA : Str → Option Value} {name : Str} {v : Value}





end

/-! ### the attributes as a list of pairs -/
def putF (f : Str) (v : V) : List (Str × V) → List (Str × V)
  | [] => [(f, v)]
  | (g, x) :: r => if g = f then (g, v) :: r else (g, x) :: putF f v r


section
variable {P : Program} {w : World} {H H' : Hp} {h h' : Heap} {a C dx : Addr} {fs fs' : List (Str × V)}
theorem ins_get (hok : HOk P w H h) (e : H a = some (.ins C dx fs)) : ∃ mA, ObjM h a dx C mA ∧ (∀ f, RelO (fs.lookup f) (mA f)) ∧ PySem.Within mA (fs.map (·.1)) ∧ fs.length ≤ 1000 ∧ H dx = some (.own a) := by
  obtain ⟨d, z, ne, ob, mA, n, r, q⟩ := (show ObjOk P w H h a (.ins C dx fs) from hok a _ e)
  exact ⟨mA, ⟨ob, n, ne⟩, r, q, z, d⟩
end

/-! ### what of the text a class must have -/
structure Cls (K : PySem.W.Frag) (C : Addr) : Prop where
  pg : PySem.W.plainGet K C Str.empty = true
  hd : PySem.W.hasDictIn K C = true
  po : PySem.W.plainOver K C = true
  sa : PySem.W.findIn K (.ref C) "__setattr__" = some (some (.builtin "object.__setattr__"))
theorem Cls.get {K : PySem.W.Frag} {C : Addr} (c : Cls K C) (f : Str) : PySem.W.plainGet K C f = true := c.pg
/-- no class of it has the name -/
def NoAttr (K : PySem.W.Frag) (C : Addr) (f : Str) : Prop := PySem.W.findIn K (.ref C) f = some none
/-- a constant of the class -/
structure Con (K : PySem.W.Frag) (C : Addr) (f : Str) (v : V) (u : Value) : Prop where
  at_ : PySem.W.findIn K (.ref C) f = some (some u)
  rel : RelV v u
  get : PySem.W.specialIn K u "__get__" = some none
  cp : PySem.W.copiedNames.contains f = false
/-- a method: a plain def of the class or of one above it -/
structure Meth (K : PySem.W.Frag) (C : Addr) (m : Str) (f : Addr) : Prop where
  at_ : PySem.W.findIn K (.ref C) m = some (some (.ref f))
  fn : PySem.W.isFn K (.ref f) = true
  kp : PySem.W.keepIn K (.ref f) = true

section
variable {X : Cx} {pins : List (Addr × Obj)} {σ : St} {H : Hp} {s : Shared} {a C dx : Addr} {fs : List (Str × V)} {f : Str} {v : V} {A : Around} {E : Value → Shared → Prop}





/-- a new instance, tracked, without attributes -/
theorem Inv.made (I : Inv X pins σ H s) : Inv X pins σ (upd (upd H s.heap.objs.size (.own (s.heap.objs.size + 1))) (s.heap.objs.size + 1) (.ins C s.heap.objs.size []))
    { s with heap := (s.heap.push PySem.W.emptyDict).push (PySem.W.instObj C s.heap.objs.size) } := by
  have e1 : (s.heap.push PySem.W.emptyDict).get? s.heap.objs.size = some PySem.W.emptyDict := Heap.get?_push_size s.heap rfl
  have e2 : ((s.heap.push PySem.W.emptyDict).push (PySem.W.instObj C s.heap.objs.size)).get? (s.heap.objs.size + 1) = some (PySem.W.instObj C s.heap.objs.size) := by
    have := Heap.get?_push_size (s.heap.push PySem.W.emptyDict) (o := PySem.W.instObj C s.heap.objs.size) rfl
    rwa [Heap.size_push] at this
  have e3 : (s.heap.push PySem.W.emptyDict).Ns s.heap.objs.size (fun _ => none) := ⟨PySem.W.emptyDict, #[], _, e1, rfl, (fun e he => absurd he (by simp)), fun _ => rfl⟩
  have I1 := I.laid (a := s.heap.objs.size) (o := .own (s.heap.objs.size + 1)) (h' := s.heap.push PySem.W.emptyDict) (t' := s.toks) (fun b u q => Heap.get?_push_of_some _ q) (Nat.le_refl _) ⟨_, e1⟩
  refine I1.laid (a := s.heap.objs.size + 1) (o := .ins C s.heap.objs.size []) (t' := s.toks) (fun b u q => Heap.get?_push_of_some _ q) (Nat.le_of_eq (Heap.size_push _ _)) ?_
  have ne : s.heap.objs.size ≠ s.heap.objs.size + 1 := Nat.ne_of_lt (Nat.lt_succ_self _)
  refine ⟨by rw [upd_ne ne, upd_same], Nat.zero_le _, ne, e2, fun _ => none, (Heap.Ns1.of_empty e3).at fun o q => Heap.get?_push_of_some _ q, fun _ => True.intro, fun y hy => absurd rfl hy⟩

end

/-! ### readings and rules -/
/-- e.f, an attribute of the instance -/
def tFld (K : PySem.W.Frag) (ta : TE) (f : Str) : TE := fun σ H Q => ta σ H fun x H1 => ∃ a C dx fs v, x = .ref a ∧ H1 a = some (.ins C dx fs) ∧ Cls K C ∧ NoAttr K C f ∧ fs.lookup f = some v ∧ Q v H1
/-- e.f, a constant of the class -/
def tCon (K : PySem.W.Frag) (ta : TE) (f : Str) : TE := fun σ H Q => ta σ H fun x H1 => ∃ a C dx fs v u, x = .ref a ∧ H1 a = some (.ins C dx fs) ∧ Cls K C ∧ Con K C f v u ∧ fs.lookup f = none ∧ Q v H1
/-- e.f = value -/
def sFld (K : PySem.W.Frag) (ta tv : TE) (f : Str) : TS := fun D σ H => tv σ H fun y H1 => ta σ H1 fun x H2 => ∃ a C dx fs, x = .ref a ∧ H2 a = some (.ins C dx fs) ∧ Cls K C ∧ NoAttr K C f ∧ fs.length < 1000 ∧
  D.nx σ (upd H2 a (.ins C dx (putF f y fs)))
/-- an augmented operator on two values -/
def InOp (X : Cx) (op : Operator) (rd : V → V → Hp → VK → Prop) : Prop :=
  ∀ (pins : List (Addr × Obj)) (s : Shared) (σ : St) (H : Hp) (x y : V) (u v : Value) (Q : VK), Inv X pins σ H s → RelV x u → RelV y v → rd x y H Q → wpAny (model X.prog X.w) X.A (inplaceOp op u v) (EP X pins σ Q) X.xe s
/-- e.f op= value -/
def sFldAug (K : PySem.W.Frag) (ta tv : TE) (rd : V → V → Hp → VK → Prop) (f : Str) : TS := fun D σ H => ta σ H fun x H1 => ∃ a C dx fs v, x = .ref a ∧ H1 a = some (.ins C dx fs) ∧ Cls K C ∧ NoAttr K C f ∧ fs.lookup f = some v ∧
  tv σ H1 fun y H2 => rd v y H2 fun z H3 => ∃ dx' fs', H3 a = some (.ins C dx' fs') ∧ fs'.length < 1000 ∧ D.nx σ (upd H3 a (.ins C dx' (putF f z fs')))

section
variable {X : Cx} {o e value : Expr} {f : Str} {pos pos' tpos : Pos} {ta tv : TE}
def rAdd : V → V → Hp → VK → Prop := fun x y H Q => ∃ i j, x = .int i ∧ y = .int j ∧ Q (.int (i + j)) H
def rSub : V → V → Hp → VK → Prop := fun x y H Q => ∃ i j, x = .int i ∧ y = .int j ∧ Q (.int (i - j)) H

end

/-! ### isinstance -/
section
variable {X : Cx} {pins : List (Addr × Obj)} {σ : St} {H : Hp} {s : Shared} {A : Around} {E : Value → Shared → Prop} {Q : Value → Shared → Prop} {c : Value} {b : Bool}
/-- the type of a value, as the fragment's deciders take it; for an instance its class -/
inductive TyOf (K : PySem.W.Frag) (H : Hp) : V → Value → Prop where
  | non : TyOf K H .non (.type "NoneType")
  | bl (x : Bool) : TyOf K H (.bl x) (.type "bool")
  | int (i : Int) : TyOf K H (.int i) (.type "int")
  | str (x : Str) : TyOf K H (.str x) (.type "str")
  | flt (x : UInt64) : TyOf K H (.flt x) (.type "float")
  | lst {a : Addr} {xs : List V} (e : H a = some (.lst xs)) : TyOf K H (.ref a) (.type "list")
  | frz {a : Addr} {o : Obj} {xs : List V} (e : H a = some (.frz o (.lst xs))) : TyOf K H (.ref a) (.type "list")
  | tup {a : Addr} {xs : List V} (e : H a = some (.tup xs)) : TyOf K H (.ref a) (.type "tuple")
  | dK {a : Addr} {kvs : List (Key × V)} (e : H a = some (.dK kvs)) : TyOf K H (.ref a) (.type "dict")
  | dT {a : Addr} {kvs : List (List Key × V)} (e : H a = some (.dT kvs)) : TyOf K H (.ref a) (.type "dict")
  | ins {a C dx : Addr} {fs : List (Str × V)} (e : H a = some (.ins C dx fs)) (cl : Cls K C) (ha : PySem.W.findIn K (.ref C) "__class__" = some (some (.builtin "object.__class__")))
      (hn : PySem.W.specialIn K (.builtin "object.__class__") "__get__" = some (some (.builtin "getset_descriptor.__get__"))) (htk : PySem.W.takesIn K (.builtin "object.__class__") = some true)
      (hm : PySem.W.mroIn K C (.type "object") = some true) : TyOf K H (.ref a) (.ref C)
/-- isinstance(x, c) for one class c, a built-in or an own one: kitOne's answer -/
theorem isinst_ok {x : V} {u t : Value} (I : Inv X pins σ H s) (rx : RelV x u) (ty : TyOf X.K H x t) (e : PySem.W.kitOne X.K t c = some b) (h : ∀ tk, Q (.bool b) { s with toks := tk }) :
    wpAny (model X.prog X.w) A (call (.builtin "isinstance") [u, c]) Q E s := by
  cases ty with
  | non => cases (show u = Value.none from rx); exact PySem.W.kia_one PySem.W.kitx_none I.kIn True.intro e (fun z => nomatch z) h
  | bl y => cases (show u = Value.bool y from rx); exact PySem.W.kia_one PySem.W.kitx_bool I.kIn True.intro e (fun z => nomatch z) h
  | int i => obtain ⟨t, q⟩ := (show ∃ t, u = Value.int i t from rx); cases q; exact PySem.W.kia_one PySem.W.kitx_int I.kIn True.intro e (fun z => nomatch z) h
  | str y => obtain ⟨t, q⟩ := (show ∃ t, u = Value.str y t from rx); cases q; exact PySem.W.kia_one PySem.W.kitx_str I.kIn True.intro e (fun z => nomatch z) h
  | flt y => obtain ⟨t, q⟩ := (show ∃ t, u = Value.float y t from rx); cases q; exact PySem.W.kia_one PySem.W.kitx_float I.kIn True.intro e (fun z => nomatch z) h
  | @lst a xs ea =>
    cases (show u = Value.ref a from rx)
    obtain ⟨_, _, n, _, h1⟩ := (show ObjOk X.prog X.w H s.heap a (.lst xs) from I.hok a _ ea)
    exact PySem.W.kia_one PySem.W.kitx_list I.kIn ⟨_, h1, rfl⟩ e (fun z => nomatch z) h
  | @frz a ob xs ea =>
    cases (show u = Value.ref a from rx)
    obtain ⟨_, _, _, n, _, h1⟩ := (show ObjOk X.prog X.w H s.heap a (.frz ob (.lst xs)) from I.hok a _ ea)
    exact PySem.W.kia_one PySem.W.kitx_list I.kIn ⟨_, h1, rfl⟩ e (fun z => nomatch z) h
  | @tup a xs ea =>
    cases (show u = Value.ref a from rx)
    obtain ⟨_, _, _, p⟩ := (show ObjOk X.prog X.w H s.heap a (.tup xs) from I.hok a _ ea)
    obtain ⟨o, h1, h2, _⟩ := p
    exact PySem.W.kia_one PySem.W.kitx_tuple I.kIn ⟨o, h1, h2⟩ e (fun z => nomatch z) h
  | @dK a kvs ea =>
    cases (show u = Value.ref a from rx)
    obtain ⟨_, _, vs, _, p⟩ := (show ObjOk X.prog X.w H s.heap a (.dK kvs) from I.hok a _ ea)
    obtain ⟨o, es, ep, h1, h2, _⟩ := p
    exact PySem.W.kia_one PySem.W.kitx_dict I.kIn ⟨o, h1, h2.1⟩ e (fun z => nomatch z) h
  | @dT a kvs ea =>
    cases (show u = Value.ref a from rx)
    obtain ⟨_, _, xs, _, o, es, ep, h1, h2, _⟩ := (show ObjOk X.prog X.w H s.heap a (.dT kvs) from I.hok a _ ea)
    exact PySem.W.kia_one PySem.W.kitx_dict I.kIn ⟨o, h1, h2.1⟩ e (fun z => nomatch z) h
  | @ins a C dx fs ea cl ha hn htk hm =>
    cases (show u = Value.ref a from rx)
    obtain ⟨mA, O, _⟩ := ins_get I.hok ea
    obtain ⟨od, J, _⟩ := O.look
    exact PySem.W.kia_one (PySem.W.kitx_own (cl.get _) cl.hd ha hn htk hm) I.kIn J e (fun z => nomatch z) h
end
end L2

namespace L2
open PySem PySem.Spec PyProof.Rows

/-! ### room -/
structure Room (k : Nat) (A : Around) : Prop where
  hd : A.handled = none
  dp : A.depth + 3 * k + 5 < recursionLimit
  un : A.units + 16 * k + 200 < cLine
  gd : A.guards = some []
theorem Room.mono {j k : Nat} {A : Around} (r : Room k A) (h : j ≤ k) : Room j A := ⟨r.hd, by have := r.dp; omega, by have := r.un; omega, r.gd⟩
theorem Room.deeper {k : Nat} {A : Around} (r : Room (k + 1) A) (env : Env) : Room k (A.deeper env) :=
  ⟨r.hd, by have := r.dp; show A.depth + 1 + 3 * k + 5 < _; omega, by have := r.un; show A.units + 3 + 16 * k + 200 < _; omega, r.gd⟩
theorem Room.in1 {k : Nat} {A : Around} (r : Room (k + 1) A) : Room k A.in1 :=
  ⟨r.hd, by have := r.dp; show A.depth + 3 * k + 5 < _; omega, by have := r.un; show A.units + 1 + 16 * k + 200 < _; omega, r.gd⟩
theorem Room.depth {k : Nat} {A : Around} (r : Room k A) : A.depth < recursionLimit := by have := r.dp; omega
theorem Room.units {k : Nat} {A : Around} (r : Room k A) : A.units + 64 < cLine := by have := r.un; omega

/-! ### argument lists and displays -/
def tNil : TA := fun _ H Q => Q [] H
def tCons (ta : TE) (tr : TA) : TA := fun σ H Q => ta σ H fun x H1 => tr σ H1 fun xs H2 => Q (x :: xs) H2
section
variable {X : Cx} {e : Expr} {es : List Expr} {te : TE} {t : TA} {pos : Pos}
theorem pa_nil : PA X [] tNil := fun _ _ _ _ H Q I h => Calls.spliced_nil ⟨[], H, I, .nil, h⟩
theorem pa_cons (ha : PE X e te) (hr : PA X es t) (hs : starEach (e :: es) X.env = (false, eval e X.env) :: starEach es X.env := by rfl) : PA X (e :: es) (tCons te t) := by
  intro pos pins s σ H Q I h
  rw [hs]
  show wpAny _ _ (spliced ((false, eval e X.env) :: backTo pos (starEach es X.env))) _ _ s
  refine Calls.spliced_cons (thn (ha pins s σ H _ I h) fun u s1 ⟨x, H1, I1, r1, q1⟩ => ?_)
  exact thn (hr pos pins s1 σ H1 _ I1 q1) fun us s2 ⟨xs, H2, I2, r2, q2⟩ => ⟨x :: xs, H2, I2, .cons r1 r2, q2⟩

/-- a tuple, a list of written items -/
def tTup (t : TA) : TE := fun σ H Q => t σ H fun xs H1 => xs.length ≤ sizeLine ∧ ∀ p, H1 p = none → Q (.ref p) (upd H1 p (.tup xs))
def tLst (t : TA) : TE := fun σ H Q => t σ H fun xs H1 => xs.length ≤ sizeLine ∧ ∀ p, H1 p = none → Q (.ref p) (upd H1 p (.lst xs))
theorem pe_tup {x1} (h : PA X es t) : PE X (.Tuple es x1 pos) (tTup t) := by
  intro pins s σ H Q I hq
  refine wpAny_Tuple_spliced (thn (h pos pins s σ H _ I hq) fun us s1 ⟨xs, H1, I1, r, z, q⟩ => ⟨by rw [← r.length]; exact z, ?_⟩)
  have hf : H1 s1.heap.objs.size = none := I1.hok.fresh (Nat.le_refl _)
  refine ⟨.ref s1.heap.objs.size, upd H1 s1.heap.objs.size (.tup xs), I1.laid (t' := s1.toks) (fun b u e => Heap.get?_push_of_some _ e) (Nat.le_refl _) ?_, rfl, q _ hf⟩
  exact ⟨z, us, r, ⟨_, Heap.get?_push_size _ rfl, rfl, _, rfl⟩⟩
theorem pe_lst (h : PA X es t) : PE X (.List es pos) (tLst t) := by
  intro pins s σ H Q I hq
  refine wpAny_List_spliced (thn (h pos pins s σ H _ I hq) fun us s1 ⟨xs, H1, I1, r, z, q⟩ => ⟨by rw [← r.length]; exact z, ?_⟩)
  have hf : H1 s1.heap.objs.size = none := I1.hok.fresh (Nat.le_refl _)
  refine ⟨.ref s1.heap.objs.size, upd H1 s1.heap.objs.size (.lst xs), I1.laid (t' := s1.toks) (fun b u e => Heap.get?_push_of_some _ e) (Nat.le_refl _) ?_, rfl, q _ hf⟩
  exact ⟨z, us, 0, r, Heap.get?_push_size _ rfl⟩
end

/-! ### what a def promises -/
/-- a def's promise: the bound arguments in the parameters' order, the heap, the wanted end, the wanted exception -/
abbrev Sp := List V → Hp → VK → XK → Prop
/-- how an exception lies behind a call (file 08 gives it): the callers' frames, abstract heap and state ahead of the call, the wish, the exception, the state -/
abbrev CXT := List Env → Hp → Shared → XK → Value → Shared → Prop

/-- the state at a call -/
structure Env0 (P : Program) (w : World) (K : PySem.W.Frag) (mg : Str → Option Value) (base : Heap) (A : Around) (outer : List Env) (s : Shared) (H : Hp) : Prop where
  frames : A.frames = some outer
  mod : Mod K mg base
  bs : ∀ b o, base.get? b = some o → s.heap.get? b = some o ∧ H b = none
  bsz : base.objs.size ≤ s.heap.objs.size
  funs : s.heap.FunFrames base outer
  frf : ∀ b ∈ frs outer, H b = none
  hok : HOk P w H s.heap
  bare : AllBare s.gens
/-- a call's end -/
def CE (outer : List Env) (P : Program) (w : World) (H : Hp) (s : Shared) (Q : VK) (u : Value) (s' : Shared) : Prop :=
  ∃ v H', s'.os = s.os ∧ AllBare s'.gens ∧ Un (frs outer) [] H H' s.heap s'.heap ∧ HOk P w H' s'.heap ∧ RelV v u ∧ Q v H'
def CR (CX : CXT) (outer : List Env) (P : Program) (w : World) (H : Hp) (s : Shared) (Q : VK) (E : XK) (r : Result) (s' : Shared) : Prop :=
  match r with
  | .ok (.ret u) => CE outer P w H s Q u s'
  | .ok _ => False
  | .error e => CX outer H s E e s'
structure FnOk (P : Program) (w : World) (K : PySem.W.Frag) (mg : Str → Option Value) (base : Heap) (CX : CXT) (k : Nat) (f : Addr) (fd : FuncData) (ps : List Str) (sp : Sp) : Prop where
  len : ∀ vs H Q E, sp vs H Q E → vs.length = ps.length
  run : ∀ (A : Around) (outer : List Env) (s : Shared) (H : Hp) (args : Args) (us : List Value) (vs : List V) (Q : VK) (E : XK), Room k A → Env0 P w K mg base A outer s H → BindsTo s fd args (ps.zip us) → Vals vs us → sp vs H Q E →
    codeAny (model P w) A (.call (.ref f) args) (CR CX outer P w H s Q E) s
theorem FnOk.mono {P : Program} {w : World} {K : PySem.W.Frag} {mg : Str → Option Value} {base : Heap} {CX : CXT} {j k : Nat} {f : Addr} {fd : FuncData} {ps : List Str} {sp : Sp} (F : FnOk P w K mg base CX j f fd ps sp) (h : j ≤ k) :
    FnOk P w K mg base CX k f fd ps sp := ⟨F.len, fun A outer s H args us vs Q E hr => F.run A outer s H args us vs Q E (hr.mono h)⟩
/-- a weaker promise -/
theorem FnOk.imp {P : Program} {w : World} {K : PySem.W.Frag} {mg : Str → Option Value} {base : Heap} {CX : CXT} {k : Nat} {f : Addr} {fd : FuncData} {ps : List Str} {sp sp' : Sp} (F : FnOk P w K mg base CX k f fd ps sp)
    (h : ∀ vs H Q E, sp' vs H Q E → sp vs H Q E) : FnOk P w K mg base CX k f fd ps sp' :=
  ⟨fun vs H Q E q => F.len vs H Q E (h _ _ _ _ q), fun A outer s H args us vs Q E hr he hb hv hs => F.run A outer s H args us vs Q E hr he hb hv (h _ _ _ _ hs)⟩

theorem Env0.in1 {P : Program} {w : World} {K : PySem.W.Frag} {mg : Str → Option Value} {base : Heap} {A : Around} {outer : List Env} {s : Shared} {H : Hp} (e : Env0 P w K mg base A outer s H) :
    Env0 P w K mg base A.in1 outer s H := ⟨e.frames, e.mod, e.bs, e.bsz, e.funs, e.frf, e.hok, e.bare⟩

section
variable {X : Cx} {pins : List (Addr × Obj)} {σ : St} {H : Hp} {s s' : Shared}
/-- from a body: what a callee wants -/
theorem Inv.env0 (I : Inv X pins σ H s) : Env0 X.prog X.w X.K X.mg X.base X.A X.stack s H :=
  ⟨I.ok.frames, I.ok.mod, I.bs, Nat.le_trans I.ok.bsz I.sz, I.stack, I.stkFree, I.hok, I.bare⟩
/-- behind a call -/
theorem Inv.after {Q : VK} {u : Value} (I : Inv X pins σ H s) (h : CE X.stack X.prog X.w H s Q u s') : EP X pins σ Q u s' := by
  obtain ⟨v, H', os, bare, un, hok, r, q⟩ := h
  obtain ⟨hh, g, d, t, os'⟩ := s'
  obtain rfl : os' = s.os := os
  exact ⟨v, H', I.call (h' := hh) (g' := g) (d' := d) (t' := t) (ch := []) un hok bare (fun b z => absurd z (by simp)), r, q⟩
end

/-! ### calls -/
/-- f(..): the written arguments, then the defaults dvs; E: what is wanted of an exception -/
def tCall (sp : Sp) (dvs : List V) (E : XK) (t : TA) : TE := fun σ H Q => t σ H fun vs H1 => sp (vs ++ dvs) H1 Q E
/-- o.m(..) of an instance of the class at C -/
def tMeth (C : Addr) (m : Str) (sp : Sp) (dvs : List V) (E : XK) (ta : TE) (t : TA) : TE := fun σ H Q => ta σ H fun x H1 => ∃ a dx fs, x = .ref a ∧ H1 a = some (.ins C dx fs) ∧ fs.lookup m = none ∧
  t σ H1 fun vs H2 => sp (x :: (vs ++ dvs)) H2 Q E
/-- C(..): a new instance and its dict, then __init__ -/
def tMake (C : Addr) (sp : Sp) (dvs : List V) (E : XK) (t : TA) : TE := fun σ H Q => t σ H fun vs H1 => ∀ x dx, H1 x = none → H1 dx = none → dx ≠ x →
  sp (.ref x :: (vs ++ dvs)) (upd (upd H1 dx (.own x)) x (.ins C dx [])) (fun v H2 => v = .non ∧ Q (.ref x) H2) E

/-- how the parameters are bound: us the positional arguments, kw the keywords' values by name, ds the defaults that fill up -/
def Binds (K : PySem.W.Frag) (fd : FuncData) (ps : List Str) (ds : List Value) : Prop :=
  ∀ (s : Shared) (us : List Value), K.In s.heap → (us ++ ds).length = ps.length → BindsTo s fd ⟨us, []⟩ (ps.zip (us ++ ds))
/-- every parameter is given -/
theorem Binds.all {K : PySem.W.Frag} {fd : FuncData} {ps : List Str} (h : ∀ us : List Value, us.length = ps.length → bindArgs fd ⟨us, []⟩ = pure (ps.zip us)) : Binds K fd ps [] := fun s us _ hl => by
  rw [List.append_nil] at hl ⊢
  exact .of_eq (h us hl)

/-- an exception of a callee reaches what this body wants of exceptions -/
def Passes (CX : CXT) (X : Cx) (E : XK) : Prop := ∀ (pins : List (Addr × Obj)) (σ : St) (H : Hp) (s : Shared) (e : Value) (s' : Shared), Inv X pins σ H s → CX X.stack H s E e s' → X.xe e s'

section
variable {X : Cx} {CX : CXT} {k : Nat} {f C : Addr} {fd : FuncData} {ps : List Str} {sp : Sp} {dvs : List V} {ds : List Value} {E : XK} {x m : Str} {p pos apos : Pos} {e o : Expr} {es : List Expr} {ta : TE} {t : TA}

/-- the callee runs -/
theorem run_fn {pins : List (Addr × Obj)} {σ : St} {H : Hp} {s : Shared} {Q : VK} {us : List Value} {vs : List V} (F : FnOk X.prog X.w X.K X.mg X.base CX k f fd ps sp) (hr : Room k X.A) (hb : Binds X.K fd ps ds) (hd : Vals dvs ds) (hx : Passes CX X E)
    (I : Inv X pins σ H s) (r : Vals vs us) (h : sp (vs ++ dvs) H Q E) : wpAny (model X.prog X.w) X.A (call (.ref f) us) (EP X pins σ Q) X.xe s := by
  have r2 : Vals (vs ++ dvs) (us ++ ds) := r.append hd
  have hl : (us ++ ds).length = ps.length := by rw [← r2.length]; exact F.len _ _ _ _ h
  refine wpAny_call (codeAny_mono (F.run X.A X.stack s H ⟨us, []⟩ (us ++ ds) (vs ++ dvs) Q E hr I.env0 (hb s us I.kIn hl) r2 h) fun r s' hq => ?_)
  cases r with
  | error e => exact hx pins σ H s e s' I hq
  | ok fl =>
    cases fl with
    | ret u => exact I.after hq
    | next => exact False.elim hq
    | brk => exact False.elim hq
    | cont => exact False.elim hq

theorem pe_call (F : FnOk X.prog X.w X.K X.mg X.base CX k f fd ps sp) (hr : Room k X.A) (hg : Gl X x) (hm : X.mg x = some (.ref f)) (hk : PySem.W.keepIn X.K (.ref f) = true) (hb : Binds X.K fd ps ds) (hd : Vals dvs ds) (hx : Passes CX X E)
    (ha : PA X (e :: es) t) (hdb : (x == ("__debug__" : Str)) = false := by decide) (he : starEach (e :: es) X.env = (false, eval e X.env) :: starEach es X.env := by rfl) (hpl : (backTo pos (starEach es X.env)).any (·.1) = false := by rfl) :
    PE X (.Call (.Name x p) (e :: es) [] pos) (tCall sp dvs E t) := by
  intro pins s σ H Q I h
  refine wpAny_Call_Name_kw (ld_glob I hg hm ?_ hdb)
  refine PySem.W.callWith_K (h₀ := X.base) I.ok.mod.kin hk (thn (ha pos pins s σ H _ I h) fun us s1 ⟨vs, H1, I1, r, q⟩ => ⟨I1.kIn, ?_⟩) he hpl
  exact run_fn F hr hb hd hx I1 r q


/-- what a class must have to be made -/
structure Mk (K : PySem.W.Frag) (C f : Addr) : Prop where
  makes : PySem.W.makesIn K C = true
  init : PySem.W.findIn K (.ref C) "__init__" = some (some (.ref f))
  fn : PySem.W.isFn K (.ref f) = true
  kp : PySem.W.keepIn K (.ref C) = true

end

/-! ### keywords -/
/-- the values of the keywords, from the left -/
def PK (X : Cx) (kws : List Keyword) (t : TA) : Prop :=
  ∀ (pos : Pos) (pins : List (Addr × Obj)) (s : Shared) (σ : St) (H : Hp) (Q : List V → Hp → Prop), Inv X pins σ H s → t σ H Q → wpAny (model X.prog X.w) X.A (evalAll ((backToKw pos (keywordEach kws X.env)).map (·.2))) (AP X pins σ Q) X.xe s
section
variable {X : Cx} {CX : CXT} {k : Nat} {f C : Addr} {fd : FuncData} {ps ks : List Str} {sp : Sp} {E : XK} {x m : Str} {p pos apos kpos : Pos} {e o : Expr} {es : List Expr} {kws : List Keyword} {te ta : TE} {t tk : TA} {nm : Option Str}

/-- how a call with keywords binds: g puts the positional values us and the keywords' values ws (names ks) in the parameters' order, defaults among them -/
structure KBinds (K : PySem.W.Frag) (fd : FuncData) (ps ks : List Str) (g : List Value → List Value → List Value) (gV : List V → List V → List V) : Prop where
  to : ∀ (s : Shared) (us ws : List Value), K.In s.heap → (g us ws).length = ps.length → BindsTo s fd ⟨us, ks.zip ws⟩ (ps.zip (g us ws))
  rel : ∀ {vs : List V} {us : List Value} {zs : List V} {ws : List Value}, Vals vs us → Vals zs ws → Vals (gV vs zs) (g us ws)
def tCallK (sp : Sp) (gV : List V → List V → List V) (E : XK) (t tk : TA) : TE := fun σ H Q => t σ H fun vs H1 => tk σ H1 fun zs H2 => sp (gV vs zs) H2 Q E
variable {g : List Value → List Value → List Value} {gV : List V → List V → List V}
end

/-! ### a def's body keeps its promise -/
/-- names: the parameters first -/
structure FnScope (N P : List Str) (sc : Scope) : Prop where
  kind : sc.kind = .function
  co : sc.isCoroutine = false
  gen : sc.isGenerator = false
  nd : N.Nodup
  pre : N.take P.length = P
  par : ∀ x ∈ P, sc.names.lookup x = some .local ∨ sc.names.lookup x = some .cell
  nofree : ∀ y ∈ sc.names, y.2 ≠ .free

theorem bindL_out {kindOf : Str → Option NameKind} {x : Str} : ∀ {binds : List (Str × Value)} {m : Str → Option Value}, (∀ v, (x, v) ∉ binds) → bindL kindOf binds m x = m x
  | [], _, _ => rfl
  | (n, v) :: r, m, h => by
    unfold bindL
    rw [bindL_out fun w hw => h w (List.mem_cons_of_mem _ hw)]
    split
    · have : x ≠ n := by rintro rfl; exact h v List.mem_cons_self
      simp [this]
    · rfl
theorem bindC_out {kindOf : Str → Option NameKind} {x : Str} : ∀ {binds : List (Str × Value)} {m : Str → Option Value}, (∀ v, (x, v) ∉ binds) → bindC kindOf binds m x = m x
  | [], _, _ => rfl
  | (n, v) :: r, m, h => by
    unfold bindC
    rw [bindC_out fun w hw => h w (List.mem_cons_of_mem _ hw)]
    split
    · rfl
    · have : x ≠ n := by rintro rfl; exact h v List.mem_cons_self
      simp [this]
theorem bindL_get {kindOf : Str → Option NameKind} {x : Str} {v : Value} : ∀ {P : List Str} {vs : List Value} {i : Nat} {m : Str → Option Value}, P.Nodup → P[i]? = some x → vs[i]? = some v → kindOf x = some .local →
    bindL kindOf (P.zip vs) m x = some v
  | [], _, _, _, _, h, _, _ => by simp at h
  | _ :: _, [], _, _, _, _, h, _ => by simp at h
  | p :: P, w :: vs, 0, m, nd, h1, h2, hk => by
    simp at h1 h2; subst h1; subst h2
    show bindL kindOf ((p, w) :: P.zip vs) m p = _
    unfold bindL
    rw [bindL_out fun v hv => (List.nodup_cons.mp nd).1 (List.of_mem_zip hv).1, if_pos hk]
    simp
  | p :: P, w :: vs, i + 1, m, nd, h1, h2, hk => by
    show bindL kindOf ((p, w) :: P.zip vs) m x = _
    unfold bindL
    exact bindL_get (i := i) (List.nodup_cons.mp nd).2 (by simpa using h1) (by simpa using h2) hk
theorem bindC_get {kindOf : Str → Option NameKind} {x : Str} {v : Value} : ∀ {P : List Str} {vs : List Value} {i : Nat} {m : Str → Option Value}, P.Nodup → P[i]? = some x → vs[i]? = some v → kindOf x ≠ some .local →
    bindC kindOf (P.zip vs) m x = some v
  | [], _, _, _, _, h, _, _ => by simp at h
  | _ :: _, [], _, _, _, _, h, _ => by simp at h
  | p :: P, w :: vs, 0, m, nd, h1, h2, hk => by
    simp at h1 h2; subst h1; subst h2
    show bindC kindOf ((p, w) :: P.zip vs) m p = _
    unfold bindC
    rw [bindC_out fun v hv => (List.nodup_cons.mp nd).1 (List.of_mem_zip hv).1, if_neg hk]
    simp
  | p :: P, w :: vs, i + 1, m, nd, h1, h2, hk => by
    show bindC kindOf ((p, w) :: P.zip vs) m x = _
    unfold bindC
    exact bindC_get (i := i) (List.nodup_cons.mp nd).2 (by simpa using h1) (by simpa using h2) hk

/-- the names' values at the entry -/
def start (N : List Str) (vs : List V) : St := vs.map some ++ List.replicate (N.length - vs.length) none

/-- the context of a def's body, at its entry; an exception leaves the frame, then lies as CX says -/
def cxOf (CX : CXT) (P : Program) (w : World) (K : PySem.W.Frag) (mg : Str → Option Value) (base : Heap) (N : List Str) (qual : Str) (scope : Scope) (f : Addr) (cd : Value) (A : Around) (outer : List Env) (s : Shared) (H : Hp) (E : XK) : Cx where
  prog := P
  w := w
  K := K
  mg := mg
  base := base
  A := A.deeper (envOfC qual scope s.heap.objs.size f cd)
  N := N
  s₀ := s
  H₀ := H
  env := envOfC qual scope s.heap.objs.size f cd
  outer := outer
  stack := envOfC qual scope s.heap.objs.size f cd :: outer
  ex := []
  calm := true
  fn := fun _ => true
  pn := []
  xe := fun e s' => wpAny (model P w) (A.deeper (envOfC qual scope s.heap.objs.size f cd)) (leaving (envOfC qual scope s.heap.objs.size f cd) e) (fun _ s'' => CX outer H s E e s'') (fun e' s'' => CX outer H s E e' s'') s'

theorem cell_has {sc : Scope} {n : Nat} {x : Str} (h : sc.names.lookup x = some .cell) : ∃ c, (cellsFrom n sc.names []).lookup x = some c := by
  have q := PySem.W.cellsFrom_some sc.names n [] (.inl h)
  exact Option.isSome_iff_exists.mp q

theorem inv_start {CX : CXT} {P : Program} {w : World} {K : PySem.W.Frag} {mg : Str → Option Value} {base : Heap} {N ps : List Str} {qual : Str} {scope : Scope} {f : Addr} {cd : Value} {A : Around} {outer : List Env} {s s1 : Shared} {H : Hp} {E : XK} {us : List Value} {vs : List V}
    (S : FnScope N ps scope) (hd : A.handled = none) (e0 : Env0 P w K mg base A outer s H) (hl : vs.length = ps.length) (r : Vals vs us)
    (x : InCallC s s.heap.objs.size (bindL (envOfC qual scope s.heap.objs.size f cd).kindOf (ps.zip us) fun _ => none) (cellsFrom (s.heap.objs.size + 1) scope.names []) (bindC (envOfC qual scope s.heap.objs.size f cd).kindOf (ps.zip us) fun _ => none) s1) :
    Inv (cxOf CX P w K mg base N qual scope f cd A outer s H E) [] (start N vs) H s1 := by
  have hpl : ps.length ≤ N.length := by have := congrArg List.length S.pre; rw [List.length_take] at this; omega
  obtain ⟨h1, tk, rfl, hk⟩ := x.done
  have noA : ∀ b : Addr, b ∉ (cxOf CX P w K mg base N qual scope f cd A outer s H E).ex := fun b z => absurd (show b ∈ ([] : List Addr) from z) (by simp)
  refine ⟨⟨e0.mod, S.kind, rfl, rfl, Nat.le_refl _, fun y z c h1 h2 => ?_, fun y hy => ?_, fun y c _ h => ?_, fun _ => hd, Around.frames_deeper e0.frames, .inr ⟨rfl, rfl⟩, fun b z => absurd z (noA b), e0.bs, e0.bsz, fun b _ _ => noA b, fun b z => absurd z (noA b), e0.funs, e0.frf⟩,
    rfl, e0.bare, Un.kept hk, ⟨_, x.toInCall.ns, fun i y v h1 h2 h3 => ?_⟩, fun y c h => ⟨_, x.cell y c h⟩, e0.hok.fresh (Nat.le_refl _), fun y c h => ?_, fun p hp => absurd (show p ∈ ([] : List (Addr × Obj)) from hp) (by simp), e0.hok.kept hk, ?_⟩
  · exact name_of_addr x.apart (PySem.mem_of_lookup h1) (PySem.mem_of_lookup h2)
  · have hy : scope.names.lookup y = some .cell ∨ scope.names.lookup y = some .free := hy
    rcases hy with hy | hy
    · exact cell_has hy
    · exact absurd rfl (S.nofree _ (PySem.mem_of_lookup hy))
  · exact Nat.le_of_lt (x.above y c (PySem.mem_of_lookup h))
  · have hi : i < vs.length := by
      unfold start at h2
      by_cases hi : i < vs.length
      · exact hi
      · rw [List.getElem?_append_right (by simpa using hi)] at h2
        rw [List.getElem?_replicate] at h2
        split at h2 <;> cases h2
    have ha : vs[i]? = some v := by
      unfold start at h2
      rw [List.getElem?_append_left (by simpa using hi), List.getElem?_map] at h2
      cases e : vs[i]? with
      | none => rw [e] at h2; cases h2
      | some a => rw [e] at h2; cases h2; rfl
    obtain ⟨u, hu, rv⟩ := r.get ha
    have hp : ps[i]? = some y := by
      rw [← S.pre, List.getElem?_take_of_lt (by omega)]; exact h1
    have ndP : ps.Nodup := by rw [← S.pre]; exact S.nd.sublist (List.take_sublist _ _)
    refine ⟨u, rv, ?_⟩
    rcases S.par y (List.mem_of_getElem? hp) with k | k
    · exact .inl ⟨k, bindL_get ndP hp hu k⟩
    · obtain ⟨c, e⟩ := cell_has (n := s.heap.objs.size + 1) k
      refine .inr ⟨.inl k, c, e, ?_⟩
      have q := x.cell y c e
      rw [bindC_get ndP hp hu (by show scope.names.lookup y ≠ _; rw [k]; decide)] at q
      exact q
  · exact e0.hok.fresh (Nat.le_of_lt (x.above y c (PySem.mem_of_lookup h)))
  · unfold start
    show _ = N.length
    rw [List.length_append, List.length_map, List.length_replicate]
    omega

/-- THE RULE: a def (or a method) of the text, by its body. The body's reading t is chosen for each entry; it is run at the parameters' values -/
theorem fn_of {CX : CXT} {P : Program} {w : World} {K : PySem.W.Frag} {mg : Str → Option Value} {base : Heap} {k : Nat} {f : Addr} {name qual : Str} {params : Arguments} {body : List Stmt} {scope : Scope} {dV kV doc pm cdv ct oc : Value} {an od : Option Addr}
    {osl : Array (Option Value)} {N ps : List Str} {sp : Sp} (lk : K.lookup f = some ⟨oc, od, .func (PySem.W.fnOf name qual params body scope dV kV doc pm an cdv ct), osl⟩) (hcd : PySem.W.codeIn K cdv qual = true) (S : FnScope N ps scope)
    (len : ∀ vs H Q E, sp vs H Q E → vs.length = ps.length)
    (hbody : ∀ (A : Around) (outer : List Env) (s : Shared) (H : Hp) (vs : List V) (Q : VK) (E : XK), Room k (A.deeper (envOfC qual scope s.heap.objs.size f cdv)) → sp vs H Q E →
      ∃ t, PSs (cxOf CX P w K mg base N qual scope f cdv A outer s H E) body t ∧ t { nx := fun _ H' => Q .non H', rt := Q } (start N vs) H) :
    FnOk P w K mg base CX (k + 1) f (PySem.W.fnOf name qual params body scope dV kV doc pm an cdv ct) ps sp := by
  refine ⟨len, fun A outer s H args us vs Q E hr e0 hb r hsp => ?_⟩
  have hl := len _ _ _ _ hsp
  have KX : K.In s.heap := e0.mod.kin.keeps fun b o e => (e0.bs b o e).1
  have lim : s.heap.NoLimit := e0.mod.nolimit.keeps fun b o e => (e0.bs b o e).1
  have hkind : ∀ y ∈ ps.zip us, scope.names.lookup y.1 = some .local ∨ (scope.names.lookup y.1 = some .cell ∧ ((cellsFrom (s.heap.objs.size + 1) scope.names []).lookup y.1).isSome = true) := fun ⟨n, v⟩ hy => by
    rcases S.par n (List.of_mem_zip hy).1 with q | q
    · exact .inl q
    · exact .inr ⟨q, PySem.W.cellsFrom_some _ _ _ (.inl q)⟩
  refine codeAny_call_function hr.depth (KX _ _ lk) rfl S.co S.gen rfl (PySem.W.codeRec_of KX hcd) (hb _ _ _ _ ?_)
  refine wpAny_newFunctionEnv_cells S.kind hkind fun env he s1 x => ?_
  subst he
  refine ⟨lim.keeps x.toInCall.keep, codeAny_func ?_⟩
  obtain ⟨t, ht, hq⟩ := hbody A outer s H vs Q E (hr.deeper _) hsp
  have I : Inv (cxOf CX P w K mg base N qual scope f cdv A outer s H E) [] (start N vs) H s1 := inv_start S hr.hd e0 hl r x
  refine wpAny_mono (ht [] s1 (start N vs) H _ I hq) (fun fl s' hs => ?_) fun e s' hs => hs
  have fin : ∀ {σ' : St} {H' : Hp} {v : V} {u : Value}, Inv (cxOf CX P w K mg base N qual scope f cdv A outer s H E) [] σ' H' s' → RelV v u → Q v H' → CE outer P w H s Q u s' :=
    fun {σ' H' v u} J rv q => ⟨v, H', J.os, J.bare, J.base, J.hok, rv, q⟩
  cases fl with
  | ret u =>
    obtain ⟨v, σ', H', J, rv, q⟩ := hs
    exact fin J rv q
  | next =>
    obtain ⟨σ', H', J, q⟩ := hs
    exact fin (v := V.non) (u := Value.none) J rfl q
  | brk =>
    obtain ⟨_, _, _, q⟩ := hs
    exact False.elim q
  | cont =>
    obtain ⟨_, _, _, q⟩ := hs
    exact False.elim q
end L2

namespace L2
open PySem PySem.Spec PyProof.Rows
section
variable {X : Cx} {x : Str} {p pos : Pos} {e : Expr} {es : List Expr} {t : TA} {id T : String} {r : List V → Hp → VK → Prop}

def tCB (r : List V → Hp → VK → Prop) (t : TA) : TE := fun σ H Q => t σ H fun vs H1 => r vs H1 Q
/-- f(e, ..), f a built-in function -/
theorem pe_callB (hc : CallR X (.builtin id) r) (hg : Gl X x) (hm : X.mg x = none) (hv : bootBuiltins x = some (.builtin id)) (ha : PA X (e :: es) t) (hn : x ≠ "__name__" := by decide) (hdb : (x == ("__debug__" : Str)) = false := by decide)
    (he : starEach (e :: es) X.env = (false, eval e X.env) :: starEach es X.env := by rfl) (hpl : (backTo pos (starEach es X.env)).any (·.1) = false := by rfl) : PE X (.Call (.Name x p) (e :: es) [] pos) (tCB r t) := by
  intro pins s σ H Q I h
  refine wpAny_Call_Name_kw (ld_blt I hg hm hv ?_ hn hdb)
  exact PyProof.Rows.callWith_builtin1 (thn (ha pos pins s σ H _ I h) fun us s1 ⟨vs, H1, I1, r1, q1⟩ => hc pins s1 σ H1 vs us Q I1 r1 q1) he hpl
/-- T(e, ..), T a built-in type -/
theorem pe_callTy (hc : CallR X (.type T) r) (hg : Gl X x) (hm : X.mg x = none) (hv : bootBuiltins x = some (.type T)) (ha : PA X (e :: es) t) (hn : x ≠ "__name__" := by decide) (hdb : (x == ("__debug__" : Str)) = false := by decide)
    (he : starEach (e :: es) X.env = (false, eval e X.env) :: starEach es X.env := by rfl) (hpl : (backTo pos (starEach es X.env)).any (·.1) = false := by rfl) : PE X (.Call (.Name x p) (e :: es) [] pos) (tCB r t) := by
  intro pins s σ H Q I h
  refine wpAny_Call_Name_kw (ld_blt I hg hm hv ?_ hn hdb)
  exact PyProof.Rows.callWith_type1 (thn (ha pos pins s σ H _ I h) fun us s1 ⟨vs, H1, I1, r1, q1⟩ => hc pins s1 σ H1 vs us Q I1 r1 q1) he hpl
end
end L2

namespace HT
open PySem PyProof.Rows

/-- t < u of tuples of ints -/
def lexLt : List Int → List Int → Bool
  | [], [] => false
  | [], _ :: _ => true
  | _ :: _, [] => false
  | x :: xs, y :: ys => if x = y then lexLt xs ys else decide (x < y)


section
open PySem.SeqAt
open PySem.AutoSeq1 (wpAny_loadPart')
open PySem.MeetsSeq PySem.MeetsSeq2 PySem.MeetsSeq3

end

section
variable {prog : Program} {w : World} {A : Around} {E : Value → Shared → Prop} {s : Shared}



/-! ### t[a:b], not the whole -/
/-- a slice's bound as a place among n (d where it is left out) -/
def sIx (n d : Nat) : Option Int → Nat
  | none => d
  | some v => if v < 0 then (v + (n : Int)).toNat else min v.toNat n

end
end HT

namespace L2
open PySem PySem.Spec PyProof.Rows

/-! ### the parts of a slice -/
abbrev TO := St → Hp → (Option Int → Hp → Prop) → Prop
/-- a slice's part (left out, or an int) -/
def PO (X : Cx) (e : Option Expr) (t : TO) : Prop :=
  ∀ (pins : List (Addr × Obj)) (s : Shared) (σ : St) (H : Hp) (Q : Option Int → Hp → Prop), Inv X pins σ H s → t σ H Q →
    wpAny (model X.prog X.w) X.A (evalPart e X.env) (fun u s' => ∃ o H', Inv X pins σ H' s' ∧ IsPart u o ∧ Q o H') X.xe s
def tNoPart : TO := fun _ H Q => Q none H
def tPart (t : TE) : TO := fun σ H Q => t σ H fun x H1 => ∃ i, x = .int i ∧ Q (some i) H1


section
variable {X : Cx} {e : Expr} {te : TE} {lo hi : Option Expr} {tl th : TO} {pos p2 : Pos}

theorem po_some (h : PE X e te) : PO X (some e) (tPart te) := by
  intro pins s σ H Q I hw
  rw [evalPart_some]
  refine thn (h pins s σ H _ I hw) fun u s1 ⟨x, H1, I1, r1, q1⟩ => ?_
  obtain ⟨i, rfl, q⟩ := q1
  obtain ⟨t, rfl⟩ := r1
  exact ⟨some i, H1, I1, .int i t, q⟩

/-- what a slice of a value is, by values: the slice object stands at sl -/
def SlR (X : Cx) (r : V → Option Int → Option Int → Hp → VK → Prop) : Prop :=
  ∀ (pins : List (Addr × Obj)) (s : Shared) (σ : St) (H : Hp) (x : V) (v vl vu : Value) (lo hi : Option Int) (sl : Addr) (Q : VK), Inv X pins σ H s → RelV x v → s.heap.IsSliceOf sl vl vu .none → IsPart vl lo → IsPart vu hi → r x lo hi H Q →
    ∃ T id, typeLookup (.type T) "__getitem__" = pure (some (.builtin id)) ∧ s.TypeIs v T ∧ wpAny (model X.prog X.w) X.A (getItem v (.ref sl)) (EP X pins σ Q) X.xe s
theorem SlR.or {r r' : V → Option Int → Option Int → Hp → VK → Prop} (h : SlR X r) (h' : SlR X r') : SlR X (fun x lo hi H Q => r x lo hi H Q ∨ r' x lo hi H Q) := by
  intro pins s σ H x v vl vu lo hi sl Q I rx hs pl pu q
  rcases q with q | q
  · exact h pins s σ H x v vl vu lo hi sl Q I rx hs pl pu q
  · exact h' pins s σ H x v vl vu lo hi sl Q I rx hs pl pu q
def tSl (r : V → Option Int → Option Int → Hp → VK → Prop) (te : TE) (tl th : TO) : TE := fun σ H Q => te σ H fun x H1 => tl σ H1 fun l H2 => th σ H2 fun u H3 => r x l u H3 Q

/-- the items of xs[lo:hi] -/
def cutV (xs : List V) (lo hi : Option Int) : List V := (xs.drop (HT.sIx xs.length 0 lo)).take (HT.sIx xs.length xs.length hi - HT.sIx xs.length 0 lo)
/-- t[lo:hi], not the whole of it (the whole would be t itself) -/
def rSlT (K : PySem.W.Frag) : V → Option Int → Option Int → Hp → VK → Prop := fun x lo hi H Q => ∃ a xs, x = .ref a ∧ SqT K H a xs ∧
  ¬ (HT.sIx xs.length 0 lo = 0 ∧ HT.sIx xs.length xs.length hi = xs.length) ∧ ∀ p, H p = none → Q (.ref p) (upd H p (.tup (cutV xs lo hi)))

/-! ### t < u, t + u -/
def rLtT (K : PySem.W.Frag) : R2 := fun x y H Q => ∃ a b ns ms, x = .ref a ∧ y = .ref b ∧ SqT K H a (ns.map V.int) ∧ SqT K H b (ms.map V.int) ∧ Q (.bl (HT.lexLt ns ms)) H
/-- t + u, t not empty: u empty gives t itself -/
def rCatT (K : PySem.W.Frag) : R2 := fun x y H Q => ∃ a b xs ys, x = .ref a ∧ y = .ref b ∧ SqT K H a xs ∧ SqT K H b ys ∧ xs ≠ [] ∧ xs.length + ys.length ≤ sizeLine ∧
  (ys = [] → Q (.ref a) H) ∧ (ys ≠ [] → ∀ p, H p = none → Q (.ref p) (upd H p (.tup (xs ++ ys))))
end
end L2

namespace L2
open PySem PySem.Spec PyProof.Rows

/-! ### places -/
/-- the place that an index of any sign means -/
def ixN (n : Nat) (i : Int) : Option Nat := if 0 ≤ i then (if i < n then some i.toNat else none) else if -(n : Int) ≤ i then some (i + n).toNat else none
def atI {α : Type} (xs : List α) (i : Int) : Option α := (ixN xs.length i).bind fun j => xs[j]?
theorem ixN_seq {n : Nat} {i : Int} {j : Nat} (h : ixN n i = some j) : seqIndex? i n = some j ∧ j < n ∧ -(n : Int) ≤ i ∧ i < n := by
  unfold ixN at h
  by_cases h0 : 0 ≤ i
  · rw [if_pos h0] at h
    by_cases h1 : i < n
    · rw [if_pos h1] at h
      have e : i.toNat = j := Option.some.inj h
      exact ⟨by rw [seqIndex_of h0 h1, e], by omega, by omega, h1⟩
    · rw [if_neg h1] at h; cases h
  · rw [if_neg h0] at h
    by_cases h1 : -(n : Int) ≤ i
    · rw [if_pos h1] at h
      have e : (i + n).toNat = j := Option.some.inj h
      exact ⟨by rw [seqIndex_neg (by omega) h1, e], by omega, h1, by omega⟩
    · rw [if_neg h1] at h; cases h
theorem atI_get {α : Type} {xs : List α} {i : Int} {v : α} (h : atI xs i = some v) : ∃ j, seqIndex? i xs.length = some j ∧ xs[j]? = some v ∧ j < xs.length ∧ -(xs.length : Int) ≤ i ∧ i < xs.length := by
  unfold atI at h
  cases e : ixN xs.length i with
  | none => rw [e] at h; cases h
  | some j =>
    rw [e] at h
    obtain ⟨h1, h2, h3, h4⟩ := ixN_seq e
    exact ⟨j, h1, h, h2, h3, h4⟩
theorem atI_nat {α : Type} {xs : List α} {j : Nat} {v : α} (h : xs[j]? = some v) : atI xs (j : Int) = some v := by
  have hj : j < xs.length := (List.getElem?_eq_some_iff.mp h).1
  have e : ixN xs.length (j : Int) = some j := by
    unfold ixN
    rw [if_pos (by omega), if_pos (by omega)]; simp
  unfold atI; rw [e]; exact h

/-! ### what may be subscripted -/
/-- what stands as an index of a plain subscript -/
def PlainIx (b : Expr) : Prop := ∀ o i, subscripted b false o i = operate [o, i] (getItem o i)
/-- a subscript by values -/
def IxR (X : Cx) (r : R2) : Prop :=
  ∀ (value slice : Expr) (pins : List (Addr × Obj)) (s : Shared) (σ : St) (H : Hp) (x y : V) (v u : Value) (Q : VK), Inv X pins σ H s → RelV x v → RelV y u → r x y H Q →
    subscripted slice false v u = operate [v, u] (getItem v u) → wpAny (model X.prog X.w) X.A (subscriptTail value slice v u) (EP X pins σ Q) X.xe s
/-- a call of a builtin's method by values: the receiver, the arguments -/
def MtR (X : Cx) (id : String) (r : V → List V → Hp → VK → Prop) : Prop :=
  ∀ (pins : List (Addr × Obj)) (s : Shared) (σ : St) (H : Hp) (x : V) (xs : List V) (v : Value) (us : List Value) (Q : VK), Inv X pins σ H s → RelV x v → Vals xs us → r x xs H Q →
    wpAny (model X.prog X.w) X.A (call (.builtin id) (v :: us)) (EP X pins σ Q) X.xe s
section
variable {X : Cx} {a b : Expr} {ta tb : TE} {pos : Pos}
theorem IxR.or {r r' : R2} (h : IxR X r) (h' : IxR X r') : IxR X (fun x y H Q => r x y H Q ∨ r' x y H Q) := by
  intro value slice pins s σ H x y v u Q I rx ry q hs
  rcases q with q | q
  · exact h value slice pins s σ H x y v u Q I rx ry q hs
  · exact h' value slice pins s σ H x y v u Q I rx ry q hs
theorem MtR.or {id : String} {r r' : V → List V → Hp → VK → Prop} (h : MtR X id r) (h' : MtR X id r') : MtR X id (fun x xs H Q => r x xs H Q ∨ r' x xs H Q) := by
  intro pins s σ H x xs v us Q I rx rs q
  rcases q with q | q
  · exact h pins s σ H x xs v us Q I rx rs q
  · exact h' pins s σ H x xs v us Q I rx rs q
/-- a[b] -/
theorem pe_ix {r : R2} (hr : IxR X r) (ha : PE X a ta) (hb : PE X b tb) (hs : PlainIx b) : PE X (.Subscript a b pos) (tOp r ta tb) := by
  intro pins s σ H Q I h
  exact Subscript_ (binT ha hb I h fun v u s2 x y H2 I2 rx ry q => hr a b pins s2 σ H2 x y v u Q I2 rx ry q (hs _ _))

def rIxL (K : PySem.W.Frag) : R2 := fun x y H Q => ∃ p xs i v, x = .ref p ∧ y = .int i ∧ SqL K H p xs ∧ atI xs i = some v ∧ Q v H
def rIxT (K : PySem.W.Frag) : R2 := fun x y H Q => ∃ p xs i v, x = .ref p ∧ y = .int i ∧ SqT K H p xs ∧ atI xs i = some v ∧ Q v H
def rIxS : R2 := fun x y H Q => ∃ z i c, x = .str z ∧ y = .int i ∧ z.length ≤ sizeLine ∧ atI z.cps.toList i = some c ∧ Q (.str ⟨#[c]⟩) H
theorem ix_list : IxR X (rIxL X.K) := by
  intro value slice pins s σ H x y v u Q I rx ry h hs
  obtain ⟨p, xs, i, z, rfl, rfl, hq, he, q⟩ := h
  cases rx
  obtain ⟨t, rfl⟩ := ry
  obtain ⟨its, r, pl, hz⟩ := I.list hq
  obtain ⟨j, h1, h2, h3, h4, h5⟩ := atI_get he
  obtain ⟨w, ew, rw'⟩ := r.get h2
  have hl := r.length
  have hn := line63
  have fin : EP X pins σ Q w s := ⟨z, H, I, rw', q⟩
  by_cases h0 : 0 ≤ i
  · have hj : i.toNat = j := by
      rw [seqIndex_of h0 h5] at h1
      exact Option.some.inj h1
    exact item_listR pl.isList h0 (by omega) (by rw [hj]; simpa using ew) fin hs
  · have hj : (i + (its.toArray.size : Int)).toNat = j := by
      rw [seqIndex_neg (by omega) h4] at h1
      rw [List.size_toArray, ← hl]
      exact Option.some.inj h1
    exact subscriptTail_builtinR (x := w) pl.isList.typeIs slot_list_getitem.lookup
      (wpAny_getItem_list_neg (Q := fun r s' => r = w ∧ EP X pins σ Q r s') pl.isList (by omega) (by rw [List.size_toArray] <;> omega) (by omega) (by rw [hj]; simpa using ew) ⟨rfl, fin⟩) hs
theorem ix_tup : IxR X (rIxT X.K) := by
  intro value slice pins s σ H x y v u Q I rx ry h hs
  obtain ⟨p, xs, i, z, rfl, rfl, hq, he, q⟩ := h
  cases rx
  obtain ⟨t, rfl⟩ := ry
  obtain ⟨its, r, pl, hz⟩ := I.tuple hq
  obtain ⟨j, h1, h2, h3, h4, h5⟩ := atI_get he
  obtain ⟨w, ew, rw'⟩ := r.get h2
  have hl := r.length
  have hn := line63
  have fin : EP X pins σ Q w s := ⟨z, H, I, rw', q⟩
  exact subscriptTail_builtinR (x := w) pl.typeIs slot_tuple_getitem.lookup
    (getItem_tuple (j := j) (Q := fun r s' => r = w ∧ EP X pins σ Q r s') pl (by omega) (by omega) (by rw [List.size_toArray, ← hl]; exact h1) (by simpa using ew) ⟨rfl, fin⟩) hs
theorem ix_str : IxR X rIxS := by
  intro value slice pins s σ H x y v u Q I rx ry h hs
  obtain ⟨z, i, c, rfl, rfl, hz, he, q⟩ := h
  obtain ⟨t, rfl⟩ := rx
  obtain ⟨t', rfl⟩ := ry
  obtain ⟨j, h1, h2, h3, h4, h5⟩ := atI_get he
  have hl : z.cps.toList.length = z.length := by simp [Str.length]
  rw [hl] at h1 h4 h5
  have hn := line63
  exact tail_any (typeIs_str s z t) slot_str_getitem.lookup (getItem_str (c := c) (by
    have e1 : decide (i < -(2 ^ 63 : Int)) = false := decide_eq_false (by omega)
    have e2 : decide (i ≥ 2 ^ 63) = false := decide_eq_false (by omega)
    rw [e1, e2, Bool.or_false]) (by rw [h1]; simpa using h2) ⟨.str ⟨#[c]⟩, H, I.tok _, ⟨_, rfl⟩, q⟩) hs
/-- list, tuple or str -/
def rIx (K : PySem.W.Frag) : R2 := fun x y H Q => rIxL K x y H Q ∨ rIxT K x y H Q ∨ rIxS x y H Q
theorem ix_seq : IxR X (rIx X.K) := ix_list.or (ix_tup.or ix_str)

/-! ### xs[i] = v, any sign -/
/-- the list's object behind a store -/
theorem mapSeq_set (its : List Value) (n j : Nat) (u : Value) : Obj.mapSeq (·.setIfInBounds j u) { cls := .type "list", data := .seq its.toArray n } = { cls := .type "list", data := .seq (its.set j u).toArray n } := by
  simp [Obj.mapSeq]
theorem Inv.lst {pins : List (Addr × Obj)} {σ : St} {H : Hp} {s : Shared} {p : Addr} {xs : List V} (I : Inv X pins σ H s) (h : H p = some (.lst xs)) :
    ∃ (its : List Value) (n : Nat), Vals xs its ∧ s.heap.get? p = some { cls := .type "list", data := .seq its.toArray n } ∧ xs.length ≤ sizeLine := by
  obtain ⟨z, its, n, r, e⟩ := I.hok p _ h
  exact ⟨its, n, r, e, z⟩
/-- the list at p is written by an update of its object -/
theorem Inv.lstUpd {pins : List (Addr × Obj)} {σ : St} {H : Hp} {s : Shared} {p : Addr} {xs ys : List V} {its its' : List Value} {n n' : Nat} {f : Obj → Obj} (I : Inv X pins σ H s) (h : H p = some (.lst xs))
    (ho : s.heap.get? p = some { cls := .type "list", data := .seq its.toArray n }) (hf : f { cls := .type "list", data := .seq its.toArray n } = { cls := .type "list", data := .seq its'.toArray n' }) (r : Vals ys its') (hz : ys.length ≤ sizeLine) (t : Nat) :
    Inv X pins σ (upd H p (.lst ys)) { s with heap := s.heap.update p f, toks := t } := by
  have e : (s.heap.update p f).get? p = some { cls := .type "list", data := .seq its'.toArray n' } := by
    rw [Heap.get?_update_self f ho (by rw [hf] <;> rfl), hf]
  refine I.write (x := p) (e := p) (by rw [h]; trivial) (.inl rfl) (fun b u hb q => (Heap.get?_update_other _ _ (Ne.symm hb)).trans q) ⟨_, e⟩ ?_
  exact ⟨hz, its', n', r, e⟩
def rSetL : V → V → V → Hp → (Hp → Prop) → Prop := fun o i v H Q => ∃ p xs k j, o = .ref p ∧ i = .int k ∧ H p = some (.lst xs) ∧ ixN xs.length k = some j ∧ Q (upd H p (.lst (xs.set j v)))
theorem set_list : PSet X rSetL := by
  intro pins s σ H o i v ov iv u Q I ro ri rv h
  obtain ⟨p, xs, k, j, rfl, rfl, hp, hj, q⟩ := h
  cases ro
  obtain ⟨t, rfl⟩ := ri
  obtain ⟨its, n, r, ho, hz⟩ := I.lst hp
  obtain ⟨h1, h2, h3, h4⟩ := ixN_seq hj
  have hl := r.length
  have hn := line63
  have I' : Inv X pins σ (upd H p (.lst (xs.set j v))) { s with heap := s.heap.update p (Obj.mapSeq (·.setIfInBounds j u)) } :=
    I.lstUpd hp ho (mapSeq_set its n j u) (r.set rv j) (by rw [List.length_set]; exact hz) s.toks
  by_cases h0 : 0 ≤ k
  · have hk : k.toNat = j := by
      rw [seqIndex_of h0 h4] at h1
      exact Option.some.inj h1
    exact PySem.W.ki_setAt ho h0 (by omega) (by rw [List.size_toArray, ← hl]; exact h4) (by rw [hk]; exact ⟨_, I', q⟩)
  · have hk : (k + (its.toArray.size : Int)).toNat = j := by
      rw [seqIndex_neg (by omega) h3] at h1
      rw [List.size_toArray, ← hl]
      exact Option.some.inj h1
    exact PySem.W.ki_setBack ho (by omega) (by rw [List.size_toArray, ← hl]; exact h3) (by omega) (by rw [hk]; exact ⟨_, I', q⟩)

/-! ### slices -/
/-- xs[lo:hi] of a list: a new list -/
def rSlL (K : PySem.W.Frag) : V → Option Int → Option Int → Hp → VK → Prop := fun x lo hi H Q => ∃ a xs, x = .ref a ∧ SqL K H a xs ∧ ∀ p, H p = none → Q (.ref p) (upd H p (.lst (cutV xs lo hi)))

/-! ### in, not in: flat items -/
def flatV : V → Bool
  | .non => true
  | .bl _ => true
  | .int _ => true
  | .str _ => true
  | _ => false
/-- == of flat values -/
def eqV : V → V → Bool
  | .non, .non => true
  | .bl a, .bl b => a == b
  | .bl a, .int b => (if a then 1 else 0) == b
  | .int a, .bl b => a == (if b then 1 else 0)
  | .int a, .int b => a == b
  | .str a, .str b => a == b
  | _, _ => false
theorem eqAt_V {A : Around} {s : Shared} {y x : V} {u v : Value} (ry : RelV y u) (rx : RelV x v) (fy : flatV y = true) (fx : flatV x = true) : SeqAt.EqAt A s u v (eqV y x) := by
  cases y with
  | non =>
    cases ry
    cases x with
    | non => cases rx; exact SeqAt.EqAt.same _
    | bl b => cases rx; exact SeqAt.EqAt.none_bool b
    | int b => obtain ⟨t, rfl⟩ := rx; exact SeqAt.EqAt.none_int b t
    | str b => obtain ⟨t, rfl⟩ := rx; exact SeqAt.EqAt.none_str b t
    | _ => exact absurd (show false = true from fx) Bool.false_ne_true
  | bl a =>
    cases ry
    cases x with
    | non => cases rx; exact SeqAt.EqAt.bool_none a
    | bl b => cases rx; exact SeqAt.EqAt.bool_bool a b
    | int b => obtain ⟨t, rfl⟩ := rx; exact SeqAt.EqAt.bool_int a b t
    | str b => obtain ⟨t, rfl⟩ := rx; exact SeqAt.EqAt.bool_str a b t
    | _ => exact absurd (show false = true from fx) Bool.false_ne_true
  | int a =>
    obtain ⟨t', rfl⟩ := ry
    cases x with
    | non => cases rx; exact SeqAt.EqAt.int_none a t'
    | bl b => cases rx; exact SeqAt.EqAt.int_bool a t' b
    | int b => obtain ⟨t, rfl⟩ := rx; exact SeqAt.EqAt.int_int a t' b t
    | str b => obtain ⟨t, rfl⟩ := rx; exact SeqAt.EqAt.int_str a t' b t
    | _ => exact absurd (show false = true from fx) Bool.false_ne_true
  | str a =>
    obtain ⟨t', rfl⟩ := ry
    cases x with
    | non => cases rx; exact SeqAt.EqAt.str_none a t'
    | bl b => cases rx; exact SeqAt.EqAt.str_bool a t' b
    | int b => obtain ⟨t, rfl⟩ := rx; exact SeqAt.EqAt.str_int a t' b t
    | str b => obtain ⟨t, rfl⟩ := rx; exact SeqAt.EqAt.str_str a t' b t
    | _ => exact absurd (show false = true from fx) Bool.false_ne_true
  | _ => exact absurd (show false = true from fy) Bool.false_ne_true
/-- the items' answers, read off the values (a value's own answer does not lean on its token) -/
def eqU (x : V) (u : Value) : Bool := match u with
  | .none => eqV .non x
  | .bool b => eqV (.bl b) x
  | .int i _ => eqV (.int i) x
  | .str z _ => eqV (.str z) x
  | _ => false
theorem eqU_of {x y : V} {u : Value} (r : RelV y u) (f : flatV y = true) : eqU x u = eqV y x := by
  cases y with
  | non => cases r; rfl
  | bl b => cases r; rfl
  | int i => obtain ⟨t, rfl⟩ := r; rfl
  | str z => obtain ⟨t, rfl⟩ := r; rfl
  | _ => exact absurd (show false = true from f) Bool.false_ne_true
theorem any_eqU {x : V} : ∀ {xs : List V} {us : List Value}, Vals xs us → xs.all flatV = true → us.any (eqU x) = xs.any fun y => eqV y x
  | _, _, .nil, _ => rfl
  | y :: xs, u :: us, .cons r t, f => by
    rw [List.all_cons, Bool.and_eq_true] at f
    rw [List.any_cons, List.any_cons, eqU_of r f.1, any_eqU t f.2]
theorem mem_eqAt {A : Around} {s : Shared} {x : V} {v : Value} (rx : RelV x v) (fx : flatV x = true) : ∀ {xs : List V} {us : List Value}, Vals xs us → xs.all flatV = true → ∀ u ∈ us, SeqAt.EqAt A s u v (eqU x u)
  | _, _, .nil, _ => fun u hu => by cases hu
  | y :: xs, u :: us, .cons r t, f => fun u' hu => by
    rw [List.all_cons, Bool.and_eq_true] at f
    rcases List.mem_cons.mp hu with rfl | hu
    · rw [eqU_of r f.1]; exact eqAt_V r rx f.1 fx
    · exact mem_eqAt rx fx t f.2 u' hu
def inV (x : V) (xs : List V) : Bool := xs.any fun y => eqV y x
/-- x in a list or tuple of flat items -/
def rIn (K : PySem.W.Frag) (neg : Bool) : R2 := fun x y H Q => ∃ p xs, y = .ref p ∧ (SqL K H p xs ∨ SqT K H p xs) ∧ flatV x = true ∧ xs.all flatV = true ∧ Q (.bl (if neg then !inV x xs else inV x xs)) H
theorem op_in_seq : OpR X (compareOp .In) (rIn X.K false) := by
  intro pins s σ H x y v u Q I rx ry h
  obtain ⟨p, xs, rfl, hq, fx, fs, q⟩ := h
  cases ry
  rcases hq with hq | hq
  · obtain ⟨its, r, pl, hz⟩ := I.list hq
    refine SeqAt.in_listAt (eqU x) pl.isList (fun w hw => mem_eqAt rx fx r fs w (by simpa using hw)) ⟨.bl _, H, I, rfl, ?_⟩
    rw [show its.toArray.any (eqU x) = its.any (eqU x) by simp, any_eqU r fs]
    exact q
  · obtain ⟨its, r, pl, hz⟩ := I.tuple hq
    refine SeqAt.in_tupleAt (eqU x) pl (fun w hw => mem_eqAt rx fx r fs w (by simpa using hw)) ⟨.bl _, H, I, rfl, ?_⟩
    rw [show its.toArray.any (eqU x) = its.any (eqU x) by simp, any_eqU r fs]
    exact q
theorem op_notIn_seq : OpR X (compareOp .NotIn) (rIn X.K true) := by
  intro pins s σ H x y v u Q I rx ry h
  obtain ⟨p, xs, rfl, hq, fx, fs, q⟩ := h
  cases ry
  rcases hq with hq | hq
  · obtain ⟨its, r, pl, hz⟩ := I.list hq
    refine SeqAt.notIn_listAt (eqU x) pl.isList (fun w hw => mem_eqAt rx fx r fs w (by simpa using hw)) ⟨.bl _, H, I, rfl, ?_⟩
    rw [show its.toArray.any (eqU x) = its.any (eqU x) by simp, any_eqU r fs]
    exact q
  · obtain ⟨its, r, pl, hz⟩ := I.tuple hq
    refine SeqAt.notIn_tupleAt (eqU x) pl (fun w hw => mem_eqAt rx fx r fs w (by simpa using hw)) ⟨.bl _, H, I, rfl, ?_⟩
    rw [show its.toArray.any (eqU x) = its.any (eqU x) by simp, any_eqU r fs]
    exact q

/-! ### len, list(x), tuple(x) of any list or tuple that is read -/
theorem call_len_seq : CallR X (.builtin "len") (fun xs H Q => ∃ p ys, xs = [.ref p] ∧ (SqL X.K H p ys ∨ SqT X.K H p ys) ∧ Q (.int ys.length) H) := by
  intro pins s σ H xs us Q I r h
  obtain ⟨p, ys, rfl, hq, q⟩ := h
  obtain ⟨u, rfl, rx⟩ := vals1 r
  cases rx
  have hn := line63
  rcases hq with hq | hq
  · obtain ⟨its, r', pl, hz⟩ := I.list hq
    have hlen := r'.length
    exact Calls.call_len_list pl.isList (by simp only [List.size_toArray] <;> omega) ⟨.int ys.length, H, I.tok _, ⟨s.toks + 1, by rw [List.size_toArray, hlen]⟩, q⟩
  · obtain ⟨its, r', pl, hz⟩ := I.tuple hq
    have hlen := r'.length
    exact len_tuple pl (by simp only [List.size_toArray] <;> omega) ⟨.int ys.length, H, I.tok _, ⟨s.toks + 1, by rw [List.size_toArray, hlen]⟩, q⟩
theorem call_len_str : CallR X (.builtin "len") (fun xs H Q => ∃ z, xs = [.str z] ∧ z.length ≤ sizeLine ∧ Q (.int z.length) H) := by
  intro pins s σ H xs us Q I r h
  obtain ⟨z, rfl, hz, q⟩ := h
  obtain ⟨u, rfl, t, rfl⟩ := vals1 r
  have hn := line63
  exact len_str (by omega) ⟨.int z.length, H, I.tok _, ⟨_, rfl⟩, q⟩
theorem CallR.or {f : Value} {r r' : List V → Hp → VK → Prop} (h : CallR X f r) (h' : CallR X f r') : CallR X f (fun xs H Q => r xs H Q ∨ r' xs H Q) := by
  intro pins s σ H xs us Q I rs q
  rcases q with q | q
  · exact h pins s σ H xs us Q I rs q
  · exact h' pins s σ H xs us Q I rs q
theorem call_list_of : CallR X (.type "list") (fun xs H Q => ∃ p ys, xs = [.ref p] ∧ (SqL X.K H p ys ∨ SqT X.K H p ys) ∧ ∀ l, H l = none → Q (.ref l) (upd H l (.lst ys))) := by
  intro pins s σ H xs us Q I r h
  obtain ⟨p, ys, rfl, hq, q⟩ := h
  obtain ⟨u, rfl, rx⟩ := vals1 r
  cases rx
  have fin : ∀ (its : List Value), Vals ys its → ys.length ≤ sizeLine → ∀ (h' : Heap) (c' : Nat), (∀ b o', s.heap.get? b = some o' → h'.get? b = some o') →
      h'.get? s.heap.objs.size = some { cls := .type "list", dict := none, data := .seq its.toArray c', slots := #[] } → EP X pins σ Q (.ref s.heap.objs.size) { s with heap := h' } := fun its r' hz h' c' kp e =>
    ⟨.ref s.heap.objs.size, _, I.laid (t' := s.toks) kp (Nat.le_refl _) (show ObjOk X.prog X.w _ h' _ (.lst ys) from ⟨hz, its, c', r', e⟩), rfl, q _ (I.hok.fresh (Nat.le_refl _))⟩
  rcases hq with hq | hq
  · obtain ⟨its, r', pl, hz⟩ := I.list hq
    have hlen := r'.length
    obtain ⟨o, ho, hc, n, hd⟩ := pl.isList
    exact call_list_seq p (.inl rfl) ho hc hd (fun h' c' kp e => fin its r' hz h' c' kp e) (by simp only [List.size_toArray] <;> omega)
  · obtain ⟨its, r', pl, hz⟩ := I.tuple hq
    have hlen := r'.length
    obtain ⟨o, ho, hc, n, hd⟩ := pl
    exact call_list_seq p (.inr rfl) ho hc hd (fun h' c' kp e => fin its r' hz h' c' kp e) (by simp only [List.size_toArray] <;> omega)
theorem call_tuple_of : CallR X (.type "tuple") (fun xs H Q => ∃ p ys, xs = [.ref p] ∧ ((SqL X.K H p ys ∧ ∀ l, H l = none → Q (.ref l) (upd H l (.tup ys))) ∨ (SqT X.K H p ys ∧ Q (.ref p) H))) := by
  intro pins s σ H xs us Q I r h
  obtain ⟨p, ys, rfl, h⟩ := h
  obtain ⟨u, rfl, rx⟩ := vals1 r
  cases rx
  rcases h with ⟨hq, q⟩ | ⟨hq, q⟩
  · obtain ⟨its, r', pl, hz⟩ := I.list hq
    have hlen := r'.length
    refine call_tuple_list pl.isList (fun h' kp => ?_) (by simp only [List.size_toArray] <;> omega)
    have I1 : Inv X pins σ H { s with heap := h' } := I.kept (t' := s.toks) kp
    have I2 : Inv X pins σ (upd H h'.objs.size (.tup ys)) { s with heap := h'.push { cls := .type "tuple", data := .seq its.toArray } } :=
      I1.laid (t' := s.toks) (fun b o e => Heap.get?_push_of_some _ e) (Nat.le_refl _) (show ObjOk X.prog X.w _ _ _ (.tup ys) from ⟨hz, its, r', IsTup.new _ _⟩)
    exact ⟨.ref h'.objs.size, _, I2, rfl, q _ (I1.hok.fresh (Nat.le_refl _))⟩
  · obtain ⟨its, r', pl, hz⟩ := I.tuple hq
    exact call_tuple_same pl ⟨.ref p, H, I, rfl, q⟩

/-! ### the call of a builtin's method: o.m(..) -/
/-- the value is of that builtin type -/
def tyV (K : PySem.W.Frag) (T : String) (x : V) (H : Hp) : Prop := match x with
  | .str _ => T = "str"
  | .int _ => T = "int"
  | .ref p => (T = "list" ∧ ∃ xs, SqL K H p xs) ∨ (T = "tuple" ∧ ∃ o, K.lookup p = some o ∧ o.cls = .type "tuple" ∧ o.dict = none) ∨
      (T = "dict" ∧ ((∃ kvs, H p = some (.dK kvs)) ∨ ∃ kvs, H p = some (.dT kvs))) ∨ (T = "set" ∧ ∃ S n, H p = some (.set S n))
  | _ => False
theorem tyV_is {pins : List (Addr × Obj)} {σ : St} {H : Hp} {s : Shared} {T : String} {x : V} {v : Value} (I : Inv X pins σ H s) (r : RelV x v) (ty : tyV X.K T x H) :
    s.TypeIs v T ∧ ∀ a, v = .ref a → ∃ ob, s.heap.get? a = some ob ∧ ob.dict = none := by
  cases x with
  | str z =>
    obtain ⟨t, rfl⟩ := r
    cases (show T = "str" from ty)
    exact ⟨typeIs_str s z t, fun _ e => nomatch e⟩
  | int i =>
    obtain ⟨t, rfl⟩ := r
    cases (show T = "int" from ty)
    exact ⟨typeIs_int s i t, fun _ e => nomatch e⟩
  | ref p =>
    cases r
    rcases ty with ⟨rfl, xs, hq⟩ | ⟨rfl, o, hk, hc, hd⟩ | ⟨rfl, hk⟩ | ⟨rfl, S, n, hk⟩
    · obtain ⟨its, _, pl, _⟩ := I.list hq
      refine ⟨pl.isList.typeIs, fun a e => ?_⟩
      cases e
      obtain ⟨o, n, e, c, hd, _⟩ := pl
      exact ⟨o, e, hd⟩
    · refine ⟨⟨o, I.kIn p o hk, hc⟩, fun a e => ?_⟩
      cases e
      exact ⟨o, I.kIn _ o hk, hd⟩
    · have z : ∃ o, s.heap.get? p = some o ∧ o.ExactDict := by
        rcases hk with ⟨kvs, hk⟩ | ⟨kvs, hk⟩
        · obtain ⟨_, _, _, _, o, _, _, e, ex, _⟩ := I.hok p _ hk
          exact ⟨o, e, ex⟩
        · obtain ⟨_, _, _, _, o, _, _, e, ex, _⟩ := I.hok p _ hk
          exact ⟨o, e, ex⟩
      obtain ⟨o, e, ex⟩ := z
      refine ⟨⟨o, e, ex.1⟩, fun a e2 => ?_⟩
      cases e2
      exact ⟨o, e, ex.2.1⟩
    · obtain ⟨o, _, _, _, e, ex, _⟩ := I.hok p _ hk
      refine ⟨⟨o, e, ex.1⟩, fun a e2 => ?_⟩
      cases e2
      exact ⟨o, e, ex.2.1⟩
  | _ => exact False.elim ty
def tBM0 (K : PySem.W.Frag) (T : String) (r : V → List V → Hp → VK → Prop) (to : TE) : TE := fun σ H Q => to σ H fun x H1 => tyV K T x H1 ∧ r x [] H1 Q
def tBM (K : PySem.W.Frag) (T : String) (r : V → List V → Hp → VK → Prop) (to : TE) (t : TA) : TE := fun σ H Q => to σ H fun x H1 => tyV K T x H1 ∧ t σ H1 fun xs H2 => r x xs H2 Q
variable {o e : Expr} {es : List Expr} {to : TE} {t : TA} {name : Str} {apos cpos : Pos} {T id : String} {r : V → List V → Hp → VK → Prop}
theorem pe_bm0 (pa : PlainAttrs T) (slot : Slot T name id) (hty : typeOf (.builtin id) = pure (.type "method_descriptor")) (hm : MtR X id r) (ho : PE X o to)
    (hbase : attributeBase o name X.env (eval o X.env) = eval o X.env := by rfl) (hline : (apos.endLine == cpos.line) = true := by rfl) : PE X (.Call (.Attribute o name apos) [] [] cpos) (tBM0 X.K T r to) := by
  intro pins s σ H Q I h
  refine wpAny_Call_method0_late hbase hline (thn (ho pins s σ H _ I h) fun v s1 ⟨x, H1, I1, r1, ty, q1⟩ => ?_)
  obtain ⟨h1, h2⟩ := tyV_is I1 r1 ty
  exact ⟨T, id, pa, slot, hty, h1, h2, Calls.callWith_builtin rfl (PySem.evalArgs_none (hm pins s1 σ H1 x [] v [] Q I1 r1 .nil q1))⟩
theorem pe_bm (pa : PlainAttrs T) (slot : Slot T name id) (hty : typeOf (.builtin id) = pure (.type "method_descriptor")) (hm : MtR X id r) (ho : PE X o to) (ha : PA X (e :: es) t)
    (hbase : attributeBase o name X.env (eval o X.env) = eval o X.env := by rfl)
    (hfew : ((backTo cpos (starEach (e :: es) X.env)).all (fun x => !x.1) && (backToKw cpos (keywordEach [] X.env)).all (fun x => x.1.isSome)
      && decide ((e :: es).length + ([] : List Keyword).length + (if ([] : List Keyword).isEmpty then 0 else 1) < 30)) = true := by rfl)
    (hline : (apos.endLine == cpos.line) = true := by rfl) (hs : starEach (e :: es) X.env = (false, eval e X.env) :: starEach es X.env := by rfl) (hplain : (backTo cpos (starEach es X.env)).any (·.1) = false := by rfl) :
    PE X (.Call (.Attribute o name apos) (e :: es) [] cpos) (tBM X.K T r to t) := by
  intro pins s σ H Q I h
  refine wpAny_Call_method_late hbase hfew hline rfl (thn (ho pins s σ H _ I h) fun v s1 ⟨x, H1, I1, r1, ty, q1⟩ => ?_)
  obtain ⟨h1, h2⟩ := tyV_is I1 r1 ty
  refine ⟨T, id, pa, slot, hty, h1, h2, ?_⟩
  have hA := ha cpos pins s1 σ H1 _ I1 q1
  rw [hs] at hA ⊢
  refine Calls.callWith_builtin (by show (false || (backTo cpos (starEach es X.env)).any (·.1)) = false; rw [hplain] <;> rfl) (Calls.evalArgs_plain ?_)
  exact thn hA fun us s2 ⟨vs, H2, I2, r2, q2⟩ => hm pins s2 σ H2 x vs v us Q I2 r1 r2 q2
/- xs.append(e), list.index on a module's tuple .. are MtR facts of 06m -/
end
end L2

namespace L2
open PySem PySem.Spec PyProof.Rows

def MtM (X : Cx) (id : String) (r : V → List V → Hp → VK → Prop) : Prop :=
  ∀ (pins : List (Addr × Obj)) (s : Shared) (σ : St) (H : Hp) (x : V) (xs : List V) (v : Value) (us : List Value) (Q : VK), Inv X pins σ H s → RelV x v → Vals xs us → r x xs H Q →
    wpAny (model X.prog X.w) X.A (call (.builtin id) (v :: us)) (EP X pins σ Q) X.xe s

/-! ### lists of values -/
theorem Vals.one : ∀ {x : V} {us : List Value}, Vals [x] us → ∃ u, us = [u] ∧ RelV x u
  | _, _, .cons r .nil => ⟨_, rfl, r⟩
theorem Vals.two : ∀ {x y : V} {us : List Value}, Vals [x, y] us → ∃ u v, us = [u, v] ∧ RelV x u ∧ RelV y v
  | _, _, _, .cons r (.cons q .nil) => ⟨_, _, rfl, r, q⟩
theorem Vals.zero : ∀ {us : List Value}, Vals [] us → us = []
  | _, .nil => rfl
theorem Vals.dropLast {xs : List V} {us : List Value} (h : Vals xs us) : Vals xs.dropLast us.dropLast := by
  induction h with
  | nil => exact .nil
  | cons r t ih =>
    cases t with
    | nil => exact .nil
    | cons q t' => exact .cons r ih
theorem Vals.eraseIdx : ∀ {xs : List V} {us : List Value} (i : Nat), Vals xs us → Vals (xs.eraseIdx i) (us.eraseIdx i)
  | _, _, _, .nil => .nil
  | _, _, 0, .cons _ t => t
  | _, _, i + 1, .cons r t => .cons r (Vals.eraseIdx i t)
theorem Vals.reverse {xs : List V} {us : List Value} (h : Vals xs us) : Vals xs.reverse us.reverse := by
  induction h with
  | nil => exact .nil
  | cons r t ih => rw [List.reverse_cons, List.reverse_cons]; exact Vals.append ih (.cons r .nil)
theorem len_erase {α : Type} : ∀ (l : List α) (i : Nat), (l.eraseIdx i).length ≤ l.length
  | [], _ => Nat.le_refl _
  | _ :: _, 0 => Nat.le_succ _
  | _ :: r, i + 1 => Nat.succ_le_succ (len_erase r i)

section
variable {X : Cx} {pins : List (Addr × Obj)} {σ : St} {H : Hp} {s : Shared} {l b : Addr} {xs ys zs : List V}

/-! ### the two steps: a tracked list is rewritten, a new list is laid -/
theorem Inv.lset {its its' : List Value} {n : Nat} {f : Array Value → Array Value} {t' : Nat} (I : Inv X pins σ H s) (hH : H l = some (.lst xs))
    (e : s.heap.get? l = some { cls := .type "list", data := .seq its.toArray n }) (hf : f its.toArray = its'.toArray) (hv : Vals ys its') (hz : ys.length ≤ sizeLine) :
    Inv X pins σ (upd H l (.lst ys)) { s with heap := s.heap.update l (Obj.mapSeq f), toks := t' } := by
  have q := PySem.IsL.update e f
  rw [hf] at q
  refine I.write (x := l) (e := l) (by rw [hH]; exact trivial) (.inl rfl) (fun b' u hb hu => (Heap.get?_update_other s.heap (Obj.mapSeq f) (Ne.symm hb)).trans hu) ⟨_, q⟩ ?_
  exact ⟨hz, its', _, hv, q⟩
theorem Inv.lnew {its : List Value} {t' : Nat} (I : Inv X pins σ H s) (hv : Vals ys its) (hz : ys.length ≤ sizeLine) :
    Inv X pins σ (upd H s.heap.objs.size (.lst ys)) { s with heap := s.heap.push { cls := .type "list", data := .seq its.toArray }, toks := t' } :=
  I.laid (fun _ _ q => Heap.get?_push_of_some _ q) (Nat.le_refl _) ⟨hz, its, 0, hv, Heap.get?_push_size _ rfl⟩
theorem Inv.fresh (I : Inv X pins σ H s) : H s.heap.objs.size = none := I.hok.fresh (Nat.le_refl _)
theorem Inv.lstM (I : Inv X pins σ H s) (hH : H l = some (.lst xs)) : xs.length ≤ sizeLine ∧ ∃ (its : List Value) (n : Nat), Vals xs its ∧ xs.length = its.length ∧ s.heap.get? l = some { cls := .type "list", data := .seq its.toArray n } := by
  obtain ⟨z, its, n, r, e⟩ := I.hok l _ hH
  exact ⟨z, its, n, r, r.length, e⟩

theorem notLongL {n : Nat} (h : n ≤ sizeLine) : Builtin.List.listTooLong n = false := by
  unfold Builtin.List.listTooLong
  exact decide_eq_false (by omega)
end

section
variable {X : Cx}

/-! ### methods -/
def rAppend : V → List V → Hp → VK → Prop := fun x vs H Q => ∃ l xs y, x = .ref l ∧ vs = [y] ∧ H l = some (.lst xs) ∧ xs.length < sizeLine ∧ Q .non (upd H l (.lst (xs ++ [y])))
theorem mt_append : MtM X "list.append" rAppend := by
  intro pins s σ H x vs v us Q I rx rv h
  obtain ⟨l, xs, y, rfl, rfl, hH, hz, q⟩ := h
  cases rx
  obtain ⟨u, rfl, ru⟩ := rv.one
  obtain ⟨z, its, n, r, hl, e⟩ := I.lstM hH
  refine call_meets F.slot_list_append ⟨_, e, rfl⟩ F.entry_list_append (F.args_list_append_2 _ _) (PySem.list_append l its.toArray n u (by rw [List.size_toArray]; omega)) ⟨e, ?_⟩
  refine ⟨.non, _, I.lset (its' := its ++ [u]) hH e (by simp) (r.append (.cons ru .nil)) ?_, rfl, q⟩
  rw [List.length_append, List.length_singleton]
  omega

def rExtend : V → List V → Hp → VK → Prop := fun x vs H Q => ∃ l b xs zs, x = .ref l ∧ vs = [.ref b] ∧ H l = some (.lst xs) ∧ H b = some (.lst zs) ∧ xs.length + zs.length ≤ sizeLine ∧ Q .non (upd H l (.lst (xs ++ zs)))
theorem mt_extend : MtM X "list.extend" rExtend := by
  intro pins s σ H x vs v us Q I rx rv h
  obtain ⟨l, b, xs, zs, rfl, rfl, hH, hB, hz, q⟩ := h
  cases rx
  obtain ⟨u, rfl, ru⟩ := rv.one
  cases ru
  obtain ⟨z, its, n, r, hl, e⟩ := I.lstM hH
  obtain ⟨z2, its2, n2, r2, hl2, e2⟩ := I.lstM hB
  have hsz : its.toArray.size + its2.toArray.size ≤ sizeLine := by rw [List.size_toArray, List.size_toArray]; omega
  have hlong : ¬ (!its.toArray.isEmpty && Builtin.List.listTooLong (its.toArray.size + its2.toArray.size)) = true := by
    rw [notLongL hsz, Bool.and_false]
    exact Bool.false_ne_true
  refine call_meets F.slot_list_extend ⟨_, e, rfl⟩ F.entry_list_extend (F.args_list_extend_2 _ _)
    (AutoSeq1.list_extend_list_list_0 l its.toArray n b its2.toArray n2 hlong (by rw [List.size_toArray]; omega) (by omega)) ⟨e, e2, ?_⟩
  refine ⟨.non, _, I.lset (its' := its ++ its2) hH e (by simp) (r.append r2) ?_, rfl, q⟩
  rw [List.length_append]
  omega

def rPop : V → List V → Hp → VK → Prop := fun x vs H Q => ∃ l xs y, x = .ref l ∧ vs = [] ∧ H l = some (.lst xs) ∧ xs[xs.length - 1]? = some y ∧ Q y (upd H l (.lst xs.dropLast))

def rPopAt : V → List V → Hp → VK → Prop := fun x vs H Q => ∃ l xs i k y, x = .ref l ∧ vs = [.int i] ∧ H l = some (.lst xs) ∧ -(2 ^ 63) ≤ i ∧ i < 2 ^ 63 ∧ seqIndex? i xs.length = some k ∧ xs[k]? = some y ∧ Q y (upd H l (.lst (xs.eraseIdx k)))
theorem mt_popAt : MtM X "list.pop" rPopAt := by
  intro pins s σ H x vs v us Q I rx rv h
  obtain ⟨l, xs, i, k, y, rfl, rfl, hH, h1, h2, hk, hy, q⟩ := h
  cases rx
  obtain ⟨u, rfl, ru⟩ := rv.one
  obtain ⟨t, rfl⟩ := ru
  obtain ⟨z, its, n, r, hl, e⟩ := I.lstM hH
  obtain ⟨w, hw, rw'⟩ := r.get hy
  refine call_meets F.slot_list_pop ⟨_, e, rfl⟩ F.entry_list_pop (F.args_list_pop_2 _ _)
    (MeetsSeq.list_pop_at l its.toArray n i t k w (fitsIndex_both h1 h2) (by rw [List.size_toArray, ← hl]; exact hk) (by rw [← Array.getElem?_toList]; exact hw) (by rw [List.size_toArray]; omega)) ⟨e, ?_⟩
  refine ⟨y, _, I.lset (its' := its.eraseIdx k) hH e ?_ (r.eraseIdx k) ?_, rw', q⟩
  · show its.toArray.eraseIdxIfInBounds k = (its.eraseIdx k).toArray
    rw [List.eraseIdxIfInBounds_toArray]
  · have := len_erase xs k
    omega

def rReverse : V → List V → Hp → VK → Prop := fun x vs H Q => ∃ l xs, x = .ref l ∧ vs = [] ∧ H l = some (.lst xs) ∧ Q .non (upd H l (.lst xs.reverse))
theorem mt_reverse : MtM X "list.reverse" rReverse := by
  intro pins s σ H x vs v us Q I rx rv h
  obtain ⟨l, xs, rfl, rfl, hH, q⟩ := h
  cases rx
  have hus := rv.zero
  subst hus
  obtain ⟨z, its, n, r, hl, e⟩ := I.lstM hH
  refine call_meets F.slot_list_reverse ⟨_, e, rfl⟩ F.entry_list_reverse (F.args_list_reverse_1 _) (AutoSeq1.list_reverse_list_0 l its.toArray n (by rw [List.size_toArray]; omega)) ⟨e, ?_⟩
  refine ⟨.non, _, I.lset (its' := its.reverse) hH e (by simp) r.reverse ?_, rfl, q⟩
  rw [List.length_reverse]
  omega

def rClear : V → List V → Hp → VK → Prop := fun x vs H Q => ∃ l xs, x = .ref l ∧ vs = [] ∧ H l = some (.lst xs) ∧ Q .non (upd H l (.lst []))

/-! ### list + list, list += list, list * int -/
def rCat : R2 := fun x y H Q => ∃ l b xs zs, x = .ref l ∧ y = .ref b ∧ H l = some (.lst xs) ∧ H b = some (.lst zs) ∧ xs.length + zs.length ≤ sizeLine ∧ ∀ p, H p = none → Q (.ref p) (upd H p (.lst (xs ++ zs)))
theorem op_cat : OpR X (binaryOp .Add) rCat := by
  intro pins s σ H x y v u Q I rx ry h
  obtain ⟨l, b, xs, zs, rfl, rfl, hH, hB, hz, q⟩ := h
  cases rx
  cases ry
  obtain ⟨z, its, n, r, hl, e⟩ := I.lstM hH
  obtain ⟨z2, its2, n2, r2, hl2, e2⟩ := I.lstM hB
  refine PySem.P.add_list e e2 ?_ (by rw [List.size_toArray, List.size_toArray]; omega)
  have ea : its.toArray ++ its2.toArray = (its ++ its2).toArray := by simp
  rw [ea]
  exact ⟨.ref _, _, I.lnew (t' := s.toks) (r.append r2) (by rw [List.length_append]; omega), rfl, q _ I.fresh⟩
/-- a list times an int (a negative one is nothing) -/
def rRep : R2 := fun x y H Q => ∃ l k xs, x = .ref l ∧ y = .int k ∧ H l = some (.lst xs) ∧ -(2 ^ 63) ≤ k ∧ k < 2 ^ 63 ∧ xs.length * k.toNat ≤ sizeLine ∧
  ∀ p, H p = none → Q (.ref p) (upd H p (.lst (List.replicate k.toNat xs).flatten))

/-! ### del xs[i] -/
end

/-! ### xs[a:b] = ys -/
section
variable {prog : Program} {w : World} {A : Around} {E : Value → Shared → Prop} {s : Shared}
end

section
variable {X : Cx}
end
end L2

namespace Att
open PySem PySem.W PySem.Calls PyProof.Rows

/-! ### the script -/
theorem ints_of_wellAll {P : Params} {h : Heap} : ∀ (ns : List Int) (vs : List Value), WellAll P h vs (ns.map WData.int) → IntsAre vs ns := by
  intro ns
  induction ns with
  | nil =>
    intro vs w
    rw [List.map_nil] at w
    cases w
    exact .nil
  | cons n ns ih =>
    intro vs w
    rw [List.map_cons] at w
    cases w with
    | cons a b =>
      cases a
      exact .cons _ _ (ih _ b)

theorem script_of {l : OpenLaw} {n : Nat} (hn : l.most = some n) {P : Params} {h : Heap} {args : List WData} {vals : List Value}
    (hpre : l.row.toRowW.claim.pre args = true) (hwl : WellAll P h vals args) :
    ∃ a vs ns, vals = [Value.ref a] ∧ args = [WData.list (ns.map WData.int)] ∧ h.get? a = some { cls := .type "list", data := .seq vs.toArray } ∧ IntsAre vs ns ∧ ns.length ≤ n := by
  have hsh : WShape.hasAll [] args [.list .int] = true := (pre_splitW hpre).1
  have hc : l.pre.holds [] { args := args } = true := (pre_splitW hpre).2
  obtain ⟨d, r, rfl, h1, h2⟩ := hasAllW_cons hsh
  obtain rfl := hasAllW_nil h2
  obtain ⟨xs, rfl, h3⟩ := hasW_list h1
  obtain ⟨ns, rfl⟩ := items_int h3
  have hlen : ns.length ≤ n := by
    unfold OpenLaw.pre at hc
    have h4 : (WTm.not (.lt (.lit (.int (n : Int))) (.len (.arg 0)))).holds [] { args := [.list (ns.map .int)] } = true := by
      have h4 := (holds_andW hc).1
      rw [hn] at h4
      exact h4
    have h5 := condW_of h4 (w_not (w_lt w_lit (w_len_list (w_arg rfl))))
    rw [List.length_map] at h5
    refine Nat.le_of_not_lt fun q => ?_
    have q' : (n : Int) < ((ns.length : Nat) : Int) := by omega
    first
      | (rw [decide_eq_true q'] at h5; exact absurd h5 (by decide))
      | (simp at h5; omega)
  cases hwl with
  | cons w1 w2 =>
    cases w2
    cases w1 with
    | list ho hall => exact ⟨_, _, ns, rfl, rfl, ho, ints_of_wellAll ns _ hall, hlen⟩

theorem post_true (l : OpenLaw) (args : List WData) : l.row.toRowW.claim.post args (.bool true) args = true :=
  postW_of (r := l.row.toRowW) (X := (true == true))
    (show WShape.has [] (.bool true) .bool = true by first | rfl | decide | simp [WShape.has, WShape.arms, WShape.armsAll])
    (show (WTm.eq .res (.lit (.bool true))).value [] { args := args, res := some (.bool true), after := args } = some (.bool (true == true)) from w_eq_bool (w_res rfl) w_lit) rfl

/-! ### the attachment: holds_open's last premise (the goal 'hc' behind k_head) from a wpAny of the law's body -/

/-- the same from a codeAny of the CALL (for a layer whose function contracts speak of calls) -/
theorem attach_call {l : OpenLaw} {n : Nat} {q : Program} {loose : List Str} {XP : (Str → Option Value) → Heap → Prop} {YP : World → Heap → Prop} {d : DefRec}
    (hn : l.most = some n) (hdf : d.params.defaults = [])
    (call : ∀ (w : World) (s₀ s₁ : Shared) (mg mb : Str → Option Value) (fa : Addr) (o : Obj) (pm cd doc : Value) (a : Addr) (vs : List Value) (ns : List Int),
      Ground q loose [] XP w s₀ mg mb s₁.heap → YP w s₁.heap →
      s₁.heap.get? fa = some o → o.data = .func (docDef d.name d.params d.body d.scope pm cd doc) → s₁.heap.CodeRec cd d.name → mg d.name = some (.ref fa) →
      s₁.heap.get? a = some { cls := .type "list", data := .seq vs.toArray } → IntsAre vs ns → ns.length ≤ n → s₁.gens = #[] →
      codeAny (model l.prog w) callerA (.call (.ref fa) ⟨[.ref a], []⟩) (fun r s' => r = .ok (.ret (.bool true)) ∧ OldK s₁.heap s'.heap ∧ s'.os = s₁.os ∧ AllBare s'.gens) s₁) :
    WalkO q loose XP YP l.row.toRowW d [] (fun f vs => PySem.call f vs) := by
  intro w s₀ s₁ mg mb G Y fa o pm cd doc dV kV ho hd hcd hD hmg hg args vals as hpre hlay hrd hwl hlo
  obtain rfl : dV = .none := Dflts.none hD hdf
  obtain rfl : kV = .none := Dflts.noKw hD
  obtain ⟨a, vs, ns, rfl, rfl, hobj, hints, hlen⟩ := script_of hn hpre hwl
  refine enter_call (codeAny_mono (call w s₀ s₁ mg mb fa o pm cd doc a vs ns G Y ho (fd_plain hd) hcd hmg hobj hints hlen hg) fun r s' hq => ?_)
  obtain ⟨rfl, h2, h3, h4⟩ := hq
  exact ⟨.inl ⟨.bool true, .bool true, [], rfl, fun _ => rfl, .bool true, post_true l _, fun _ => ⟨List.Pairwise.nil, fun _ hm => (nomatch hm)⟩⟩, h2, h3, h4⟩


/-! ### rules over ANY heap (no ledger) from facts about the written part K: the library's own take a ledger (News) for what they write -/
section
variable {prog : Program} {w : World} {A : Around} {E : Value → Shared → Prop} {s : Shared} {K : Frag}





/-! the whole heap as the ledger: makes every rule that writes through a ledger a rule over any heap -/
def noObjs (h : Heap) : Heap := { h with objs := #[] }
def ledger (h : Heap) (L d : Addr) : List (Addr × Obj) := (List.range h.objs.size).filterMap fun a => if a = L ∨ a = d then none else (h.get? a).map fun o => (a, o)

end
end Att

namespace L2
open PySem PySem.Spec PyProof.Rows

theorem vals_ints : ∀ {vs : List Value} {ns : List Int}, IntsAre vs ns → Vals (ns.map V.int) vs
  | _, _, .nil => .nil
  | _, _, .cons n t h => .cons ⟨t, rfl⟩ (vals_ints h)

/-- nothing is tracked but the script, known to the object (or it is an object of the module) -/
def Only (H : Hp) : Prop := ∀ b, H b = none ∨ ∃ o xs, H b = some (.frz o (.lst xs))

/-- THE HEAD: the law's promise, at the heap behind the top. F, the promise of the law's def, may use that base is part of the heap (so K.In base, base.Ns mainGlobals mg stand in Mod) -/
theorem law_call {P : Program} {w : World} {K : PySem.W.Frag} {mg mb : Str → Option Value} {CX : CXT} {k : Nat} {fa a : Addr} {fd : FuncData} {x : Str} {sp : Sp} {s₁ : Shared} {vs : List Value} {ns : List Int}
    (KX : K.In s₁.heap) (hns : s₁.heap.Ns mainGlobals mg) (hb : s₁.heap.Ns builtinsNs mb) (hbb : ∀ x : Str, x ≠ "__name__" → mb x = bootBuiltins x) (hlim : s₁.heap.NoLimit) (hg : s₁.gens = #[])
    (ha : s₁.heap.get? a = some { cls := .type "list", data := .seq vs.toArray }) (hi : IntsAre vs ns) (hl : ns.length ≤ sizeLine) (hr : Room k callerA)
    (F : ∀ base : Heap, K.In base → base.Ns mainGlobals mg → FnOk P w K mg base CX k fa fd [x] sp) (hbind : ∀ (s : Shared) (u : Value), BindsTo s fd ⟨[u], []⟩ [(x, u)])
    (hsp : ∀ H : Hp, Only H → SqL K H a (ns.map V.int) → sp [.ref a] H (fun v _ => v = .bl true) fun _ _ _ => False)
    (hCX : ∀ H e s', CX [] H s₁ (fun _ _ _ => False) e s' → False) :
    codeAny (model P w) callerA (.call (.ref fa) ⟨[.ref a], []⟩) (fun r s' => r = .ok (.ret (.bool true)) ∧ OldK s₁.heap s'.heap ∧ s'.os = s₁.os ∧ AllBare s'.gens) s₁ := by
  have rv := vals_ints hi
  have lenV := hi.length
  -- from an abstract heap in which nothing but the script may be tracked
  have core : ∀ H : Hp, Only H → SqL K H a (ns.map V.int) → HOk P w H s₁.heap → (∀ b, H b ≠ none → b = a) → (H a ≠ none → K.lookup a = none) →
      codeAny (model P w) callerA (.call (.ref fa) ⟨[.ref a], []⟩) (fun r s' => r = .ok (.ret (.bool true)) ∧ OldK s₁.heap s'.heap ∧ s'.os = s₁.os ∧ AllBare s'.gens) s₁ := by
    intro H hO hS hok hA hK
    have base_of : ∀ {b : Addr} {o : Obj}, s₁.heap.get? b = some o → H b = none → (hidT s₁.heap H).get? b = some o := fun e n => hidT_get e n
    have noA : ∀ {b : Addr} {o : Obj} {es : Array DictEntry} {ep : Nat}, s₁.heap.get? b = some o → o.data = .dict es ep → H b = none := fun {b o es ep} e d => by
      cases q : H b with
      | none => rfl
      | some u =>
        have e' : b = a := hA b (by rw [q]; simp)
        subst e'
        rw [ha] at e; cases e
        have d' : Data.seq vs.toArray _ = Data.dict es ep := d
        cases d'
    have nsK : ∀ {b : Addr} {m : Str → Option Value}, s₁.heap.Ns b m → (hidT s₁.heap H).Ns b m := fun {b m} ⟨o, es, ep, e, d, r⟩ => ⟨o, es, ep, base_of e (noA e d), d, r⟩
    have hKb : K.In (hidT s₁.heap H) := fun b o e => base_of (KX b o e) (by
      cases q : H b with
      | none => rfl
      | some u =>
        have e' : b = a := hA b (by rw [q]; simp)
        subst e'
        rw [hK (by rw [q]; simp)] at e; cases e)
    have hM : Mod K mg (hidT s₁.heap H) := ⟨hKb, nsK hns, ⟨mb, nsK hb, hbb⟩, let ⟨mc, h1, h2⟩ := hlim; ⟨mc, nsK h1, h2⟩⟩
    have e0 : Env0 P w K mg (hidT s₁.heap H) callerA [] s₁ H := ⟨rfl, hM, fun b o e => of_hidT e, Nat.le_of_eq (hidT_size _ _), trivial, fun b hb => absurd (show b ∈ ([] : List Addr) from hb) (by simp), hok, .of_eq hg⟩
    refine codeAny_mono ((F _ hKb (nsK hns)).run callerA [] s₁ H ⟨[.ref a], []⟩ [.ref a] [.ref a] _ _ hr e0 (hbind s₁ (.ref a)) (.cons rfl .nil) (hsp H hO hS)) fun r s' h => ?_
    cases r with
    | error e => exact (hCX H e s' h).elim
    | ok fl =>
      cases fl with
      | next => exact False.elim h
      | brk => exact False.elim h
      | cont => exact False.elim h
      | ret u =>
        obtain ⟨v, H', os, bare, un, hok', r', q⟩ := h
        have q' : v = .bl true := q
        subst q'
        obtain rfl : u = Value.bool true := r'
        refine ⟨rfl, OldK.of_keep fun b o e => ?_, os, bare⟩
        cases q : H b with
        | none => exact un.keep b o e q (by intro z; exact absurd (show b ∈ ([] : List Addr) from z) (by simp)) (by simp)
        | some u =>
          rcases hO b with z | ⟨ob, xs, z⟩
          · rw [q] at z; cases z
          · have z2 := un.frzs b ob _ z
            obtain ⟨e1, _⟩ := hok b _ z
            obtain ⟨e2, _⟩ := hok' b _ z2
            rw [e] at e1; cases e1
            exact e2
  cases hk : K.lookup a with
  | some o =>
    -- the script is one of the module's own objects
    have e := KX a o hk
    rw [ha] at e
    cases e
    refine core (fun _ => none) (fun _ => .inl rfl) (.inr ⟨_, vs.toArray, _, hk, rfl, rfl, rfl, by rw [List.size_toArray, lenV]; exact hl, by simpa using rv⟩) (fun b u z => by have z' : (none : Option HO) = some u := z; cases z') (fun b z => absurd rfl z) fun z => absurd rfl z
  | none =>
    refine core (fun b => if b = a then some (.frz { cls := .type "list", data := .seq vs.toArray } (.lst (ns.map V.int))) else none) (fun b => ?_) (.inl (.inr ⟨{ cls := .type "list", data := .seq vs.toArray }, if_pos rfl⟩)) (fun b u z => ?_) (fun b z => ?_) fun _ => hk
    · by_cases hb : b = a
      · exact .inr ⟨_, _, if_pos hb⟩
      · exact .inl (if_neg hb)
    · by_cases hb : b = a
      · have z' := (if_pos hb).symm.trans z
        cases z'
        subst hb
        exact ⟨ha, by rw [List.length_map]; exact hl, vs, _, rv, ha⟩
      · have z' := (if_neg hb).symm.trans z
        cases z'
    · by_cases hb : b = a
      · exact hb
      · exact absurd (if_neg hb) z
end L2

namespace L2
open PySem PySem.Spec PyProof.Rows

abbrev KOf {K : PySem.W.Frag} {h : Heap} (_ : K.In h) : PySem.W.Frag := K

/-- the goal that k_head leaves (case hc), from the law's promise. F gives the function object fd (K's own) once, then the promise over every base -/
theorem walk_of {l : PySem.W.OpenLaw} {n k : Nat} {q : Program} {loose : List Str} {XP : (Str → Option Value) → Heap → Prop} {YP : World → Heap → Prop} {d : DefRec} {K : Params → PySem.W.Frag} {CX : World → CXT} {sp : World → Sp} {x : Str}
    (hn : l.most = some n) (hn2 : n ≤ sizeLine) (hdf : d.params.defaults = []) (hr : Room k callerA)
    (hY : ∀ (w : World) (h : Heap), YP w h → (K w.params).In h)
    (F : ∀ (w : World) (mg : Str → Option Value) (fa : Addr) (h : Heap), (K w.params).In h → h.Ns mainGlobals mg → mg d.name = some (.ref fa) →
      ∃ fd : FuncData, (∀ (s : Shared) (u : Value), BindsTo s fd ⟨[u], []⟩ [(x, u)]) ∧
        ∀ base : Heap, (K w.params).In base → base.Ns mainGlobals mg → FnOk l.prog w (K w.params) mg base (CX w) k fa fd [x] (sp w))
    (hsp : ∀ (w : World) (H : Hp) (a : Addr) (ns : List Int), ns.length ≤ n → Only H → SqL (K w.params) H a (ns.map V.int) → sp w [.ref a] H (fun v _ => v = .bl true) fun _ _ _ => False)
    (hCX : ∀ (w : World) (H : Hp) (s : Shared) (e : Value) (s' : Shared), CX w [] H s (fun _ _ _ => False) e s' → False) :
    PySem.W.WalkO q loose XP YP l.row.toRowW d [] (fun f vs => PySem.call f vs) := by
  refine Att.attach_call hn hdf fun w s₀ s₁ mg mb fa o pm cd doc a vs ns G Y ho hd hcd hmg hobj hints hlen hg => ?_
  have KX := hY w _ Y
  obtain ⟨fd, hb, hF⟩ := F w mg fa _ KX G.T.g hmg
  exact law_call KX G.T.g G.T.b G.T.builtins G.T.nolimit hg hobj hints (Nat.le_trans hlen hn2) hr hF hb (fun H hO hS => hsp w H a ns hlen hO hS) fun H e s' => hCX w H s₁ e s'
end L2

/- THE LAST THEOREM (shape; LID, My.* are yours):
   My.Adr: a structure of the addresses that your layer names (classes, functions); My.Txt K t: a structure (Prop) of the equations over K;
   My.txt_mk : {K} {implicit addresses ..} (e1 : nsIn K mainGlobals "law" = some (some (.ref f))) (e2 : K.lookup f = some ⟨oc, od, .func (fnOf "law" "law" params body scope dV kV doc pm an cdv ct), sl⟩) (e3 : codeIn K cdv "law" = true) .. : ∃ t, My.Txt K t

set_option maxRecDepth 100000 in
set_option maxHeartbeats 0 in
theorem PySem.Challenge.cw_LID_holds : PySem.Challenge.rw_LID.Holds := by
  w_on; o_law; k_head; (case hw => w_witness2)
  k_fill
  refine L2.walk_of (l := PySem.Challenge.rw_LID) (n := 63) (k := 40) (x := "script") (CX := fun w => ..) (sp := fun _ => My.sp_law) rfl (by decide) rfl ⟨rfl, by decide, by decide⟩ (fun w h Y => PySem.W.kIn_of Y) ?F ?S ?C
  case F =>
    intro w mg fa h KX G hmg
    have T : ∃ t, My.Txt (L2.KOf KX) t := by
      dsimp only [L2.KOf]                          -- K must stand as «<heap const> w.params» for k_is
      refine' My.txt_mk ?e1 ?e2 ?e3 ..
      (case e1 => PySem.W.k_is)                    -- in the order: a name -> its address -> its object -> its parts
      (case e2 => PySem.W.k_is)
      ..
    obtain ⟨t, T⟩ := T
    have e0 := hmg.symm.trans (PySem.W.mg_of KX G T.law)
    cases e0                                       -- fa is the law's own address
    exact ⟨_, fun s u => .of_eq rfl, fun base kb nb => My.law_fn T kb nb⟩     -- if «.of_eq rfl» comes too early: refine' ⟨_, ?b, fun base kb nb => My.law_fn T kb nb⟩; exact fun s u => .of_eq rfl
  case S => exact fun w H a ns hl hO hS => ..
  case C => exact ..
(the tactic k_is has no namespace: write k_is) -/

/-! SHORT WORDS over the layer: a def of the text, its body, what a loop and a test want. -/
namespace L2
open PySem PySem.Spec PyProof.Rows

/-! ### the text by places -/
/-- the j-th statement of a class's body -/
def inClass (s : Stmt) (j : Nat) : Stmt := match s with
  | .ClassDef _ _ _ body _ _ _ _ _ _ _ => body.getD j (.Pass ⟨0, 0, 0, 0⟩)
  | _ => .Pass ⟨0, 0, 0, 0⟩
def defArgs (s : Stmt) : Arguments := match s with
  | .FunctionDef _ a _ _ _ _ _ _ _ _ => a
  | _ => { posonlyargs := [], args := [], vararg := none, kwonlyargs := [], kw_defaults := [], kwarg := none, defaults := [] }
def defBody (s : Stmt) : List Stmt := match s with
  | .FunctionDef _ _ b _ _ _ _ _ _ _ => b
  | _ => []
def defScope (s : Stmt) : Scope := match s with
  | .FunctionDef _ _ _ _ _ _ sc _ _ _ => sc
  | _ => { kind := .function, names := [], isGenerator := false, isCoroutine := false }

/-! ### no exception leaves a def -/
abbrev CX0 : CXT := fun _ _ _ _ _ _ => False
abbrev E0 : XK := fun _ _ _ => False
theorem pass0 {X : Cx} : Passes CX0 X E0 := fun _ _ _ _ _ _ _ h => h.elim

/-! ### a def (or method) of the text as it stands behind the top -/
structure Fun (K : PySem.W.Frag) (x qual : Str) (st : Stmt) (f : Addr) (fd : FuncData) : Prop where
  ex : ∃ (oc : Value) (od : Option Addr) (kV doc pm : Value) (an : Option Addr) (cdv ct : Value) (osl : Array (Option Value)),
    fd = PySem.W.fnOf x qual (defArgs st) (defBody st) (defScope st) .none kV doc pm an cdv ct ∧ K.lookup f = some ⟨oc, od, .func fd, osl⟩ ∧ PySem.W.codeIn K cdv qual = true
  kp : PySem.W.keepIn K (.ref f) = true
section
variable {P : Program} {w : World} {K : PySem.W.Frag} {mg : Str → Option Value} {base : Heap}
/-- THE RULE for a def: its body as a term of rules, and the reading of that term -/
theorem Fun.ok {x qual : Str} {st : Stmt} {f : Addr} {fd : FuncData} {N ps : List Str} {k : Nat} {sp : Sp} (F : Fun K x qual st f fd) (S : FnScope N ps (defScope st)) (len : ∀ vs H Q E, sp vs H Q E → vs.length = ps.length)
    (hbody : ∀ (cdv : Value) (A : Around) (outer : List Env) (s : Shared) (H : Hp) (vs : List V) (Q : VK) (E : XK), Room k (A.deeper (envOfC qual (defScope st) s.heap.objs.size f cdv)) → sp vs H Q E →
      ∃ t, PSs (cxOf CX0 P w K mg base N qual (defScope st) f cdv A outer s H E).nox (defBody st) t ∧ t { nx := fun _ H' => Q .non H', rt := Q } (start N vs) H) : FnOk P w K mg base CX0 (k + 1) f fd ps sp := by
  obtain ⟨oc, od, kV, doc, pm, an, cdv, ct, osl, rfl, lk, hcd⟩ := F.ex
  refine fn_of lk hcd S len fun A outer s H vs Q E hr hsp => ?_
  obtain ⟨t, h, q⟩ := hbody cdv A outer s H vs Q E hr hsp
  exact ⟨t, h.nox, q⟩
/-- how its arguments bind (no defaults): h is «fun _ _ _ _ _ _ us hl => match us, hl with | [_, _], _ => rfl», one _ a parameter -/
theorem Fun.binds {x qual : Str} {st : Stmt} {f : Addr} {fd : FuncData} {ps : List Str} (F : Fun K x qual st f fd)
    (h : ∀ (kV doc pm : Value) (an : Option Addr) (cdv ct : Value) (us : List Value), us.length = ps.length → bindArgs (PySem.W.fnOf x qual (defArgs st) (defBody st) (defScope st) .none kV doc pm an cdv ct) ⟨us, []⟩ = pure (ps.zip us)) : Binds K fd ps [] := by
  obtain ⟨oc, od, kV, doc, pm, an, cdv, ct, osl, rfl, lk, hcd⟩ := F.ex
  exact .all (h kV doc pm an cdv ct)
theorem fun_mk {x qual : Str} {st : Stmt} {f : Addr} {oc : Value} {od an : Option Addr} {osl : Array (Option Value)} {kV doc pm cdv ct : Value} (l : K.lookup f = some ⟨oc, od, .func (PySem.W.fnOf x qual (defArgs st) (defBody st) (defScope st) .none kV doc pm an cdv ct), osl⟩)
    (c : PySem.W.codeIn K cdv qual = true) (k : PySem.W.keepIn K (.ref f) = true) : Fun K x qual st f (PySem.W.fnOf x qual (defArgs st) (defBody st) (defScope st) .none kV doc pm an cdv ct) := ⟨⟨oc, od, kV, doc, pm, an, cdv, ct, osl, rfl, l, c⟩, k⟩
end
theorem small1000 {n : Nat} (h : n ≤ 1000) : n < sizeLine := Nat.lt_of_le_of_lt h (by decide)

/-! ### expressions in short: the name that stands in the i-th slot -/
section
variable {X : Cx}
theorem pv (i : Nat) {x : Str} {pos : Pos} (hN : X.N[i]? = some x := by rfl) (hv : Vis X.env.scope x := by first | exact Or.inl rfl | exact Or.inr (Or.inl rfl) | exact Or.inr (Or.inr rfl)) (hd : (x == ("__debug__" : Str)) = false := by decide)
    (hcd : (x == ("__classdict__" : Str)) = false := by decide) : PE X (.Name x pos) (tVar i) := pe_var hN hv hd hcd
end

/-! ### tests -/
theorem iteF {A B : Prop} (h : B) : if false = true then A else B := by
  rw [if_neg Bool.false_ne_true]
  exact h
theorem iteT {A B : Prop} (h : A) : if true = true then A else B := by
  rw [if_pos rfl]
  exact h
theorem iteNS {c A B : Prop} [Decidable c] (hc : c) (h : B) : if (!decide c) = true then A else B := by
  rw [decide_eq_true hc]
  exact iteF h

/-! ### heaps -/
/-- all that was tracked is as it was -/
def Same (H H' : Hp) : Prop := ∀ b o, H b = some o → H' b = some o
theorem Same.refl (H : Hp) : Same H H := fun _ _ h => h
theorem Same.trans {H H1 H2 : Hp} (a : Same H H1) (b : Same H1 H2) : Same H H2 := fun c o h => b c o (a c o h)
theorem Same.free {H H' : Hp} (e : Same H H') {l : Addr} (h : H' l = Option.none) : H l = Option.none := by
  cases q : H l with
  | none => rfl
  | some o =>
    rw [e l o q] at h
    cases h
theorem Same.seq {K : PySem.W.Frag} {H H' : Hp} {a : Addr} {xs : List V} (e : Same H H') (h : SqL K H a xs) : SqL K H' a xs := by
  rcases h with (h | ⟨o, h⟩) | h
  · exact .inl (.inl (e _ _ h))
  · exact .inl (.inr ⟨o, e _ _ h⟩)
  · exact .inr h

end L2

set_option Elab.async false
set_option linter.all false
set_option maxRecDepth 100000
namespace L2
open PySem PySem.Spec PyProof.Rows

/-! ### comprehensions -/
section
variable {P : Program} {w : World} {A : Around} {R : Result → Shared → Prop} {s : Shared}
/-- the loop of a comprehension, the step ahead of the store with it -/
theorem comp_loop {elt tgt iter : Expr} {ifs : List Expr} {scope : Scope} {pos : Pos} {it acc : Value} {env : Env} (J : Nat → Shared → Prop)
    (turn : ∀ n s, J n s → wpAny (model P w) A (pyNext it) (fun r c₁ => match r with
      | none => R (.ok .next) c₁
      | some v => wpAny (model P w) A (letOwnedTupleGo tgt it v) (fun _ d₁ => wpAny (model P w) A (assign tgt env v) (fun _ c₂ =>
          wpAny (model P w) A (forIn ifs true fun c r => if r = true then do let ok ← isTrue c env (eval c env); pure (ForInStep.yield ok) else pure (ForInStep.yield r)) (fun ok c₃ =>
            if ok = true then wpAny (model P w) A (eval elt env) (fun x c₄ =>
              wpAny (model P w) A (call (.builtin "list.append") [acc, x]) (fun _ c₅ => ∃ m, m < n ∧ J m c₅) (notedBy (model P w) A env fun e s' => R (.error e) s') c₄) (notedBy (model P w) A env fun e s' => R (.error e) s') c₃
            else ∃ m, m < n ∧ J m c₃) (notedBy (model P w) A env fun e s' => R (.error e) s') c₂) (notedBy (model P w) A env fun e s' => R (.error e) s') d₁) (notedBy (model P w) A env fun e s' => R (.error e) s') c₁) (notedBy (model P w) A env fun e s' => R (.error e) s') s)
    (n : Nat) (hn : J n s) :
    codeAny (model P w) A (.compLoop (.ListComp elt [⟨tgt, iter, ifs, 0⟩] scope pos) 0 it acc env) R s := by
  refine codeAny_loop rfl J (fun n s hJ => ?_) n hn
  show wpAny _ A ((compTurn (.ListComp elt [⟨tgt, iter, ifs, 0⟩] scope pos) 0 it acc env).onRaise (fun x => do noteFrame x env; theTreesLotGoes x)) _ _ s
  refine wpAny_noted ?_
  rw [compTurn_list]
  refine wpAny_bind (wpAny_standAt (wpAny_bind (wpAny_mono (turn n s hJ) (fun r c₁ e₁ => ?_) fun _ _ z => z)))
  cases r with
  | none => exact wpAny_pure e₁
  | some v =>
    refine wpAny_bind (wpAny_mono e₁ (fun _ d₁ f₁ => ?_) fun _ _ z => z)
    refine wpAny_bind (wpAny_mono f₁ (fun _ c₂ e₂ => wpAny_bind (wpAny_mono e₂ (fun ok c₃ e₃ => ?_) fun _ _ z => z)) fun _ _ z => z)
    cases ok with
    | false => exact wpAny_pure ⟨rfl, e₃⟩
    | true =>
      exact wpAny_bind (wpAny_bind (wpAny_mono e₃ (fun x c₄ e₄ => wpAny_bind (wpAny_mono e₄ (fun _ c₅ e₅ => wpAny_pure (wpAny_pure ⟨rfl, e₅⟩)) fun _ _ z => z)) fun _ _ z => z))
end

/-- the cells that a block is given -/
def cloF (env : Env) : List (Str × NameKind) → List (Str × Addr) → List (Str × Addr)
  | [], acc => acc
  | (n, k) :: r, acc => if k = .free then cloF env r ((n, (env.cells.lookup n).getD 0) :: acc) else cloF env r acc
theorem closure_go {env : Env} : ∀ (names : List (Str × NameKind)) (acc : List (Str × Addr)), (∀ x ∈ names, x.2 = .free → ∃ c, env.cells.lookup x.1 = some c) →
    (forIn names acc (fun (x : Str × NameKind) (cs : List (Str × Addr)) => (if (x.2 == NameKind.free) = true then do let a ← cellOf env x.1; pure (ForInStep.yield ((x.1, a) :: cs)) else pure (ForInStep.yield cs) : Sem (ForInStep (List (Str × Addr))))) : Sem (List (Str × Addr))) = pure (cloF env names acc)
  | [], acc, _ => by simp [cloF]
  | (n, k) :: r, acc, h => by
    have ih := fun acc => closure_go (env := env) r acc fun x hx => h x (List.mem_cons_of_mem _ hx)
    rw [List.forIn_cons]
    by_cases hk : k = .free
    · subst hk
      obtain ⟨c, hc⟩ := h (n, .free) List.mem_cons_self rfl
      have hc' : env.cells.lookup n = some c := hc
      have e : cellOf env n = pure c := by unfold cellOf; rw [hc']
      simp only [cloF, if_true, hc', Option.getD_some, beq_self_eq_true, e, pure_bind]
      exact ih _
    · have hb : (k == NameKind.free) = false := by simpa using hk
      simp only [cloF, hk, if_false, hb, Bool.false_eq_true, pure_bind]
      exact ih _
theorem closure_eq {env : Env} {scope : Scope} (h : ∀ x ∈ scope.names, x.2 = .free → ∃ c, env.cells.lookup x.1 = some c) : closureFor scope env = pure (cloF env scope.names []) := by
  rw [← closure_go scope.names [] h]
  unfold closureFor
  simp only [bind_pure]
theorem cloF_lookup {env : Env} {y : Str} : ∀ (names : List (Str × NameKind)) (acc : List (Str × Addr)), (cloF env names acc).lookup y = if (y, NameKind.free) ∈ names then some ((env.cells.lookup y).getD 0) else acc.lookup y
  | [], acc => by simp [cloF]
  | (n, k) :: r, acc => by
    unfold cloF
    by_cases hk : k = .free
    · subst hk
      rw [if_pos rfl, cloF_lookup r]
      by_cases hy : y = n
      · subst hy
        simp [List.lookup_cons]
      · have hb : (y == n) = false := by simpa using hy
        simp [List.lookup_cons, hb, hy]
    · rw [if_neg hk, cloF_lookup r]
      have : ¬ ((y, NameKind.free) = (n, k)) := by
        intro e
        exact hk (Prod.mk.inj e).2.symm
      simp [this]

/-- what a block's scope is like: o the def's own scope, TN the targets' names, F the def's names that the block reads -/
structure CScope (o sc : Scope) (TN F : List Str) : Prop where
  okind : o.kind = .function
  kind : sc.kind = .function
  nocell : ∀ y ∈ sc.names, y.2 ≠ .cell
  names : ∀ y ∈ sc.names, y.2 = .local → sc.names.lookup y.1 = some .local
  fr : ∀ y ∈ sc.names, y.2 = .free → o.names.lookup y.1 = some .cell ∧ sc.names.lookup y.1 = some .free
  ff : ∀ y ∈ F, (y, NameKind.free) ∈ sc.names

theorem relabel_free {env : Env} {y : Str} (hk : env.scope.kind = .function) (hc : env.kindOf y = some .cell) : ∀ {names : List (Str × NameKind)}, names.lookup y = some .free →
    (names.map fun (n, k) => if (k == NameKind.free && env.scope.kind == .function && env.kindOf n == some .cell) then (n, NameKind.cell) else (n, k)).lookup y = some .cell
  | [], h => by simp at h
  | (n, k) :: r, h => by
    have ih := @relabel_free env y hk hc r
    show List.lookup y ((if (k == NameKind.free && env.scope.kind == .function && env.kindOf n == some .cell) = true then (n, NameKind.cell) else (n, k)) :: _) = _
    cases hx : y == n with
    | true =>
      rw [List.lookup_cons, hx] at h
      cases h
      have e : y = n := by simpa using hx
      subst e
      rw [if_pos (by simp [hk, hc])]
      simp [List.lookup_cons]
    | false =>
      rw [List.lookup_cons, hx] at h
      by_cases hc' : (k == NameKind.free && env.scope.kind == .function && env.kindOf n == some .cell) = true
      · rw [if_pos hc']; simp only [List.lookup_cons, hx]; exact ih h
      · rw [if_neg hc']; simp only [List.lookup_cons, hx]; exact ih h
theorem relabel_from {env : Env} {y : Str} : ∀ {names : List (Str × NameKind)}, (∀ z ∈ names, z.2 ≠ .cell) →
    ((names.map fun (n, k) => if (k == NameKind.free && env.scope.kind == .function && env.kindOf n == some .cell) then (n, NameKind.cell) else (n, k)).lookup y = some .cell ∨
     (names.map fun (n, k) => if (k == NameKind.free && env.scope.kind == .function && env.kindOf n == some .cell) then (n, NameKind.cell) else (n, k)).lookup y = some .free) → (y, NameKind.free) ∈ names
  | [], _, h => by simp at h
  | (n, k) :: r, hn, h => by
    have ih := @relabel_from env y r fun z hz => hn z (List.mem_cons_of_mem _ hz)
    have h' : List.lookup y ((if (k == NameKind.free && env.scope.kind == .function && env.kindOf n == some .cell) = true then (n, NameKind.cell) else (n, k)) :: (r.map fun (n, k) => if (k == NameKind.free && env.scope.kind == .function && env.kindOf n == some .cell) then (n, NameKind.cell) else (n, k))) = some .cell ∨
      List.lookup y ((if (k == NameKind.free && env.scope.kind == .function && env.kindOf n == some .cell) = true then (n, NameKind.cell) else (n, k)) :: (r.map fun (n, k) => if (k == NameKind.free && env.scope.kind == .function && env.kindOf n == some .cell) then (n, NameKind.cell) else (n, k))) = some .free := h
    clear h
    cases hx : y == n with
    | true =>
      have e : y = n := by simpa using hx
      subst e
      by_cases hc' : (k == NameKind.free && env.scope.kind == .function && env.kindOf y == some .cell) = true
      · have hk : k = .free := by
          have := (Bool.and_eq_true _ _ ▸ (Bool.and_eq_true _ _ ▸ hc').1).1
          simpa using this
        subst hk
        exact List.mem_cons_self
      · rw [if_neg hc'] at h'
        simp only [List.lookup_cons, beq_self_eq_true] at h'
        rcases h' with h' | h'
        · cases h'
          exact absurd rfl (hn _ List.mem_cons_self)
        · cases h'
          exact List.mem_cons_self
    | false =>
      by_cases hc' : (k == NameKind.free && env.scope.kind == .function && env.kindOf n == some .cell) = true
      · rw [if_pos hc'] at h'; simp only [List.lookup_cons, hx] at h'; exact List.mem_cons_of_mem _ (ih h')
      · rw [if_neg hc'] at h'; simp only [List.lookup_cons, hx] at h'; exact List.mem_cons_of_mem _ (ih h')

/-- the context of a comprehension's block -/
def cxC (X : Cx) (N : List Str) (sc : Scope) (cl : List (Str × Addr)) (C : Addr) (fp : List Addr) (s₃ : Shared) (H₃ : Hp) (xe : Value → Shared → Prop) : Cx :=
  { X with N := N, s₀ := s₃, H₀ := H₃, env := compEnvC sc cl C X.env, outer := X.stack, ex := fp, fn := fun _ => false, pn := [], xe := xe }
/-- the def's names that a block reads -/
def sub (ix : List Nat) (σ : St) : St := ix.map fun i => (σ[i]?).join

theorem inv_comp {X : Cx} {pins : List (Addr × Obj)} {σ : St} {H : Hp} {s : Shared} {sc : Scope} {TN F : List Str} {ix : List Nat} {fp : List Addr} {h4 : Heap} {tk : Nat} {m : Str → Option Value} {xe : Value → Shared → Prop}
    (S : CScope X.env.scope sc TN F) (hix : ix.map (fun i => X.N[i]?) = F.map some) (I : Inv X pins σ H s) (hf : ∀ b ∈ fp, FpOk X pins H b) (ho : ∀ b ∈ fp, ∃ o, s.heap.get? b = some o)
    (hk : ∀ b o, s.heap.get? b = some o → h4.get? b = some o) (hn : h4.Ns s.heap.objs.size m) :
    Inv (cxC X (TN ++ F) sc (cloF X.env sc.names []) s.heap.objs.size fp s H xe) [] (List.replicate TN.length none ++ sub ix σ) H { s with heap := h4, toks := tk } := by
  have cl : ∀ x c, (cloF X.env sc.names []).lookup x = some c → X.env.cells.lookup x = some c := fun x c e => by
    rw [cloF_lookup] at e
    by_cases hx : (x, NameKind.free) ∈ sc.names
    · rw [if_pos hx] at e
      obtain ⟨c', hc'⟩ := I.ok.has x (.inl (S.fr _ hx rfl).1)
      rw [hc'] at e ⊢
      exact e
    · rw [if_neg hx] at e
      cases e
  have cl' : ∀ x, (x, NameKind.free) ∈ sc.names → (cloF X.env sc.names []).lookup x = X.env.cells.lookup x := fun x hx => by
    rw [cloF_lookup, if_pos hx]
    obtain ⟨c', hc'⟩ := I.ok.has x (.inl (S.fr _ hx rfl).1)
    rw [hc']
    rfl
  have hlen : ix.length = F.length := by
    have := congrArg List.length hix
    simpa using this
  refine ⟨⟨I.ok.mod, S.kind, I.ok.glob, I.ok.blt, Nat.le_refl _, fun x y c h1 h2 => I.ok.inj x y c (cl x c h1) (cl y c h2), fun x hx => ?_, fun x c z => (nomatch z), I.ok.hd, I.ok.frames, .inl rfl, fun b hb => ⟨?_, fun x c e => (hf b hb).2.2.2.2.1 x c (cl x c e)⟩,
    I.bs, Nat.le_trans I.ok.bsz I.sz, fun b o e hb => ?_, fun b hb hfs => ?_, I.stack, I.stkFree⟩, rfl, I.bare, Un.kept hk, ⟨m, hn, fun i x v h1 h2 h3 => ?_⟩, fun x c e => ?_, I.hok.fresh (Nat.le_refl _), fun x c e => I.freeC x c (cl x c e), fun p hp => absurd (show p ∈ ([] : List (Addr × Obj)) from hp) (by simp), I.hok.kept hk, ?_⟩
  · have hx' : (x, NameKind.free) ∈ sc.names := relabel_from (env := X.env) S.nocell hx
    obtain ⟨c, hc⟩ := I.ok.has x (.inl (S.fr _ hx' rfl).1)
    exact ⟨c, (cl' x hx').trans hc⟩
  · obtain ⟨o, e⟩ := ho b hb
    exact Nat.ne_of_lt (Heap.lt_size e)
  · rcases (hf b hb).2.2.2.1 with z | z
    · exact I.ok.noex b o e z
    · exact absurd (Nat.lt_of_lt_of_le (Heap.lt_size e) (Nat.le_trans I.ok.bsz z)) (Nat.lt_irrefl _)
  · rcases List.mem_cons.mp (I.stkSub b hfs) with z | z
    · exact (hf b hb).2.1 z
    · exact (hf b hb).2.2.1 z
  · have hi : TN.length ≤ i := by
      apply Nat.le_of_not_lt
      intro hlt
      rw [List.getElem?_append_left (by simpa using hlt), List.getElem?_replicate] at h2
      split at h2 <;> cases h2
    rw [List.getElem?_append_right (by simpa using hi), List.length_replicate] at h2
    have h1' : F[i - TN.length]? = some x := by
      have : (TN ++ F)[i]? = some x := h1
      rw [List.getElem?_append_right hi] at this
      exact this
    have e3 := congrArg (fun l => l[i - TN.length]?) hix
    simp only [List.getElem?_map, h1', Option.map_some] at e3
    unfold sub at h2
    rw [List.getElem?_map] at h2
    cases ej : ix[i - TN.length]? with
    | none => rw [ej] at h2; cases h2
    | some k =>
      rw [ej] at h2 e3
      have h2' : (σ[k]?).join = some v := Option.some.inj h2
      have e3' : X.N[k]? = some x := Option.some.inj e3
      have hσ : σ[k]? = some (some v) := by
        cases e : σ[k]? with
        | none => rw [e] at h2'; cases h2'
        | some q =>
          rw [e] at h2'
          have : q = some v := h2'
          rw [this]
      have hfr := S.ff x (List.mem_of_getElem? h1')
      have hcell := (S.fr _ hfr rfl).1
      obtain ⟨m0, hn0, hl0⟩ := I.loc
      obtain ⟨u, r, l⟩ := hl0 k x v e3' hσ (.inr (.inl hcell))
      refine ⟨u, r, ?_⟩
      rcases l with ⟨l1, _⟩ | ⟨_, c, hc, o, ho', hd⟩
      · have l1' : X.env.scope.names.lookup x = some .local := l1
        rw [hcell] at l1'
        cases l1'
      · exact .inr ⟨.inl (relabel_free (env := X.env) S.okind hcell (S.fr _ hfr rfl).2), c, (cl' x hfr).trans hc, o, hk c o ho', hd⟩
  · obtain ⟨v, o, ho', hd⟩ := I.cell x c (cl x c e)
    exact ⟨v, o, hk c o ho', hd⟩
  · show _ = (TN ++ F).length
    rw [List.length_append, List.length_append, List.length_replicate]
    unfold sub
    rw [List.length_map, hlen]

/-- the tests of a comprehension -/
def PTs (X : Cx) (ifs : List Expr) (tc : TT) : Prop :=
  ∀ (pins : List (Addr × Obj)) (s : Shared) (σ : St) (H : Hp) (Q : Bool → Hp → Prop), Inv X pins σ H s → tc σ H Q →
    wpAny (model X.prog X.w) X.A (forIn ifs true fun c r => if r = true then do let ok ← isTrue c X.env (eval c X.env); pure (ForInStep.yield ok) else pure (ForInStep.yield r)) (TP X pins σ Q) X.xe s
def tAll : TT := fun _ H Q => Q true H
theorem pts_nil {X : Cx} : PTs X [] tAll := fun _ _ _ H _ I h => wpAny_tests_nil ⟨H, I, h⟩

/-- how a block goes: W by the turn, a measure, the block's names, the items so far, the heap -/
def CGo (J : It) (D : Addr) (g : TG) (tc : TT) (te : TE) (Q : VK) (σ : St) (H : Hp) : Prop :=
  ∃ W : Nat → Nat → St → List V → Hp → Prop, (∃ m, W 0 m σ [] (upd H D (.lst []))) ∧ ∀ i m τ ys H, W i m τ ys H → H D = some (.lst ys) ∧
    ((J.stop i H ∧ Q (.ref D) H) ∨ (J.go i H ∧ ∀ v H', J.yld i H v H' → g v τ H' fun τ2 H2 => tc τ2 H2 fun b H3 =>
      if b = true then te τ2 H3 fun y H4 => H4 D = some (.lst ys) ∧ ys.length < sizeLine ∧ ∃ m', m' < m ∧ W (i + 1) m' τ2 (ys ++ [y]) (upd H4 D (.lst (ys ++ [y])))
      else ∃ m', m' < m ∧ W (i + 1) m' τ2 ys H3))
def tComp (wi : TI) (n : Nat) (ix : List Nat) (g : TG) (tc : TT) (te : TE) : TE := fun σ H Q => wi σ H fun J H1 => ∀ D, H1 D = none → CGo J D g tc te Q (List.replicate n none ++ sub ix σ) H1

theorem append_ok {X : Cx} {pins : List (Addr × Obj)} {σ : St} {H : Hp} {s : Shared} {D : Addr} {ys : List V} {y : V} {u : Value} {Q : Value → Shared → Prop} {E : Value → Shared → Prop} (I : Inv X pins σ H s) (hD : H D = some (.lst ys)) (hz : ys.length < sizeLine) (r : RelV y u)
    (h : ∀ s', Inv X pins σ (upd H D (.lst (ys ++ [y]))) s' → Q .none s') : wpAny (model X.prog X.w) X.A (call (.builtin "list.append") [.ref D, u]) Q E s := by
  obtain ⟨z, its, n, rr, hl, e⟩ := I.lstM hD
  refine call_meets F.slot_list_append ⟨_, e, rfl⟩ F.entry_list_append (F.args_list_append_2 _ _) (PySem.list_append D its.toArray n u (by rw [List.size_toArray]; omega)) ⟨e, ?_⟩
  refine h _ (I.lset (its' := its ++ [u]) hD e (by simp) (rr.append (.cons r .nil)) ?_)
  rw [List.length_append, List.length_singleton]
  omega

theorem comp_block {X : Cx} {pins : List (Addr × Obj)} {σ : St} {H : Hp} {s : Shared} {sc : Scope} {TN F : List Str} {ix : List Nat} {elt tg iter : Expr} {ifs : List Expr} {pos : Pos} {g : TG} {tc : TT} {te : TE} {J : It} {fp : List Addr} {it : Addr} {tn : Nat → Heap → Prop} {Q : VK}
    {RR : Value → Addr → Result → Shared → Prop} {E : Value → Shared → Prop}
    (S : CScope X.env.scope sc TN F) (hix : ix.map (fun i => X.N[i]?) = F.map some) (hc : X.calm = true) (I : Inv X pins σ H s) (T : Turn X.prog X.w X.K tg J fp it tn) (st : tn 0 s.heap) (hf : ∀ b ∈ fp, FpOk X pins H b)
    (hg : ∀ cl C fp s3 H3 xe, PG (cxC X (TN ++ F) sc cl C fp s3 H3 xe) tg g) (ht : ∀ cl C fp s3 H3 xe, PTs (cxC X (TN ++ F) sc cl C fp s3 H3 xe) ifs tc) (he : ∀ cl C fp s3 H3 xe, PE (cxC X (TN ++ F) sc cl C fp s3 H3 xe) elt te)
    (hW : ∀ D, H D = none → CGo J D g tc te Q (List.replicate TN.length none ++ sub ix σ) H)
    (fin : ∀ D C H' s', Inv X pins σ H' s' → (∃ m, s'.heap.Ns C m) → H' C = none → C ≠ X.env.locals → X.s₀.heap.objs.size ≤ C → (∀ x c, X.env.cells.lookup x = some c → c ≠ C) → (∀ p ∈ X.pn ++ pins, p.1 ≠ C) → Q (.ref D) H' → RR (.ref D) C (.ok .next) s') :
    wpAny (model X.prog X.w) X.A (newList []) (fun acc s₃ => wpAny (model X.prog X.w) X.A (newFunctionEnv sc X.env.globals (cloF X.env sc.names []) [] X.env.qual none .none (some X.env)) (fun cenv s₄ =>
      codeAny (model X.prog X.w) X.A (.compStart (.ListComp elt [⟨tg, iter, ifs, 0⟩] sc pos) 0 (.ref it) acc { cenv with scope := relabel sc X.env }) (RR acc cenv.locals) s₄) E s₃) E s := by
  have hfo : ∀ b ∈ fp, ∃ o, s.heap.get? b = some o := fun b hb => let ⟨o, e, _⟩ := T.obj 0 _ st b hb; ⟨o, e⟩
  refine wpAny_newObj_type ?_
  obtain ⟨W, ⟨m0, w0⟩, go⟩ := hW s.heap.objs.size I.fresh
  have I3 : Inv X pins σ (upd H s.heap.objs.size (.lst [])) { s with heap := s.heap.push { cls := .type "list", data := .seq ([] : List Value).toArray } } := I.lnew (its := []) (ys := []) (t' := s.toks) .nil (Nat.zero_le _)
  generalize hs3 : ({ s with heap := s.heap.push { cls := .type "list", data := .seq ([] : List Value).toArray } } : Shared) = s3 at I3
  have hk3 : ∀ b o, s.heap.get? b = some o → s3.heap.get? b = some o := fun b o e => by
    rw [← hs3]
    exact Heap.get?_push_of_some _ e
  have hf3 : ∀ b ∈ fp, FpOk X pins (upd H s.heap.objs.size (.lst [])) b := fun b hb => by
    obtain ⟨o, e⟩ := hfo b hb
    exact ⟨by rw [upd_ne (Nat.ne_of_lt (Heap.lt_size e))]; exact (hf b hb).1, (hf b hb).2⟩
  have st3 : tn 0 s3.heap := T.keep 0 _ _ st fun b hb o e => hk3 b o e
  show wpAny _ _ _ _ _ s3
  refine wpAny_newFunctionEnv S.nocell (by intro y hy; simp at hy) (fun h4 hn4 hsb => ?_) S.kind
  have hk4 : ∀ b o, s3.heap.get? b = some o → h4.get? b = some o := fun b o e => (hsb.2 b (Nat.ne_of_lt (Heap.lt_size e))).trans (Heap.get?_push_of_some _ e)
  generalize hR : RR (.ref s.heap.objs.size) s3.heap.objs.size = R
  have loop : ∀ s4 : Shared, s4 = { s3 with heap := h4, toks := s3.toks + ([] : List (Str × Value)).length } →
      codeAny (model X.prog X.w) X.A (.compLoop (.ListComp elt [⟨tg, iter, ifs, 0⟩] sc pos) 0 (.ref it) (.ref s.heap.objs.size) (compEnvC sc (cloF X.env sc.names []) s3.heap.objs.size X.env)) R s4 := by
    rintro s4 rfl
    let X' : Cx := cxC X (TN ++ F) sc (cloF X.env sc.names []) s3.heap.objs.size fp s3 (upd H s.heap.objs.size (.lst [])) (notedBy (model X.prog X.w) X.A (compEnvC sc (cloF X.env sc.names []) s3.heap.objs.size X.env) fun e s' => R (.error e) s')
    have I4 : Inv X' [] (List.replicate TN.length none ++ sub ix σ) (upd H s.heap.objs.size (.lst [])) { s3 with heap := h4, toks := s3.toks + ([] : List (Str × Value)).length } :=
      inv_comp S hix I3 hf3 (fun b hb => let ⟨o, e⟩ := hfo b hb; ⟨o, hk3 b o e⟩) hk4 hn4
    have fpx : ∀ {H' : Hp}, (∀ b ∈ fp, H' b = none) → ∀ b ∈ fp, FpOk X' [] H' b := fun {H'} hn b hb => by
      refine ⟨hn b hb, (I4.ok.exf b hb).1, fun z => I4.ok.exfs b hb z, .inl hb, fun x c e => (I4.ok.exf b hb).2 x c e, fun p hp => absurd (show p ∈ ([] : List (Addr × Obj)) from hp) (by simp)⟩
    refine comp_loop (fun n s' => ∃ i τ ys H', Inv X' [] τ H' s' ∧ tn i s'.heap ∧ (∀ b ∈ fp, H' b = none) ∧ W i n τ ys H') ?_ m0 ⟨0, _, [], _, I4, T.keep 0 _ _ st3 fun b hb o e => hk4 b o e, fun b hb => (hf3 b hb).1, w0⟩
    rintro n s5 ⟨i, τ, ys, H5, I5, st5, fr5, w5⟩
    obtain ⟨hD, hgo⟩ := go i n τ ys H5 w5
    rcases hgo with ⟨stop, q⟩ | ⟨hgo, step⟩
    · refine thn (T.done X' rfl rfl rfl hc i [] s5 τ H5 X'.xe I5 (fpx fr5) st5 stop) fun r s6 ⟨hr, I6⟩ => ?_
      subst hr
      show R (.ok .next) s6
      rw [← hR]
      have J6 : Inv X pins σ H5 s6 := I3.call' (ch := fp) I6.os I6.base I6.hok I6.bare fun b hb => ⟨(hf3 b hb).2.2.2.1, (hf3 b hb).2.1, (hf3 b hb).2.2.2.2.1, (hf3 b hb).2.2.2.2.2⟩
      refine fin s.heap.objs.size s3.heap.objs.size H5 s6 J6 (let ⟨m, hn, _⟩ := I6.loc; ⟨m, hn⟩) I6.free (Nat.ne_of_gt I3.lt) I3.sz (fun x c e z => ?_) (fun p hp z => ?_) q
      · obtain ⟨v, o, ho, _⟩ := I3.cell x c e
        exact absurd (Heap.lt_size ho) (by rw [z]; exact Nat.lt_irrefl _)
      · exact absurd (Heap.lt_size (I3.pin p hp).1) (by rw [z]; exact Nat.lt_irrefl _)
    · refine thn (T.item X' rfl rfl rfl hc i [] s5 τ H5 X'.xe I5 (fpx fr5) st5 hgo) fun r s6 ⟨u, hr, h6⟩ => ?_
      subst hr
      refine thn h6 fun _ s7 ⟨v, H7, I7, r7, y7, st7, fr7⟩ => ?_
      have I7' := I7.pinned (fpx fr7) (T.obj _ _ st7)
      refine thn (hg _ _ _ _ _ _ _ s7 τ H7 v u _ I7' r7 (step v H7 y7)) fun _ s8 ⟨τ8, H8, I8, q8⟩ => ?_
      refine thn (ht _ _ _ _ _ _ _ s8 τ8 H8 _ I8 q8) fun ok s9 ⟨H9, I9, q9⟩ => ?_
      have again : ∀ {ys' : List V} {H' : Hp} {s' : Shared}, Inv X' ([] ++ pinsAt fp s7.heap) τ8 H' s' → (∃ m', m' < n ∧ W (i + 1) m' τ8 ys' H') → ∃ m, m < n ∧ ∃ i τ ys H'', Inv X' [] τ H'' s' ∧ tn i s'.heap ∧ (∀ b ∈ fp, H'' b = none) ∧ W i m τ ys H'' := fun {ys' H' s'} I' ⟨m', hm, w'⟩ => by
        refine ⟨m', hm, i + 1, τ8, ys', H', I'.unpinned, T.keep _ _ _ st7 fun b hb o e => (I'.pin (b, o) (List.mem_append_right _ (List.mem_append_right _ (mem_pinsAt hb e)))).1, fun b hb => ?_, w'⟩
        obtain ⟨o, e, d⟩ := T.obj _ _ st7 b hb
        exact (I'.pin (b, o) (List.mem_append_right _ (List.mem_append_right _ (mem_pinsAt hb e)))).2.1
      cases ok with
      | false =>
        exact again I9 q9
      | true =>
        refine thn (he _ _ _ _ _ _ _ s9 τ8 H9 _ I9 q9) fun x s10 ⟨y, H10, I10, r10, hD10, hz10, q10⟩ => ?_
        exact append_ok (X := X') I10 hD10 hz10 r10 fun s11 I11 => again I11 q10
  subst hR
  exact codeAny_compStart_list (loop _ rfl) (T.self X.A 0 _ _ _ (T.keep 0 _ _ st3 fun b hb o e => hk4 b o e) (loop _ rfl))

section
variable {X : Cx} {sc : Scope} {TN F : List Str} {ix : List Nat} {elt tg iter : Expr} {ifs : List Expr} {pos : Pos} {g : TG} {tc : TT} {te : TE} {wi : TI}
theorem closure_of (S : CScope X.env.scope sc TN F) {pins : List (Addr × Obj)} {σ : St} {H : Hp} {s : Shared} (I : Inv X pins σ H s) : closureFor sc X.env = pure (cloF X.env sc.names []) :=
  closure_eq fun x hx hk => I.ok.has x.1 (.inl (S.fr x hx hk).1)
/-- [elt for tg in iter ..] -/
theorem pe_comp (S : CScope X.env.scope sc TN F) (hix : ix.map (fun i => X.N[i]?) = F.map some) (hc : X.calm = true) (hi : PI X tg iter wi)
    (hg : ∀ cl C fp s3 H3 xe, PG (cxC X (TN ++ F) sc cl C fp s3 H3 xe) tg g) (ht : ∀ cl C fp s3 H3 xe, PTs (cxC X (TN ++ F) sc cl C fp s3 H3 xe) ifs tc) (he : ∀ cl C fp s3 H3 xe, PE (cxC X (TN ++ F) sc cl C fp s3 H3 xe) elt te)
    (hs : ∀ x, foldedSetIterable iter X.env x = pure x := by intro _; rfl) : PE X (.ListComp elt [⟨tg, iter, ifs, 0⟩] sc pos) (tComp wi TN.length ix g tc te) := by
  intro pins s σ H Q I h
  rw [eval_ListComp]
  refine wpAny_comprehension_free (use := none) rfl hs (closure_of S I) S.kind S.names (thn (hi pins s σ H _ I h) fun v s1 h1 => thn h1 fun itv s2 h2 => ?_)
  obtain ⟨it, fp, tn, J, H2, e, I2, T, st2, f2, q2⟩ := h2
  subst e
  refine comp_block (RR := fun acc C => compPost (model X.prog X.w) X.A X.xe none (EP X pins σ Q) acc C) S hix hc I2 T st2 f2 hg ht he q2 fun D C H' s' I' hn hC1 hC2 hC3 hC4 hC5 q => ?_
  obtain ⟨m, hn⟩ := hn
  exact ⟨m, hn, fun h' hs' => ⟨.ref D, H', I'.turned (t' := s'.toks) (fun b o hb e => (hs'.2 b hb).trans e) hC1 hC2 (.inr hC3) hC4 hC5, rfl, q⟩⟩
/-- y = [elt for tg in iter ..], y a plain name of the def on the comprehension's own line -/
theorem ps_setC {i : Nat} {y : Str} {py spos : Pos} (hN : X.N.Nodup) (hiy : X.N[i]? = some y) (hy : X.env.scope.names.lookup y = some .local) (S : CScope X.env.scope sc TN F) (hix : ix.map (fun i => X.N[i]?) = F.map some) (hc : X.calm = true) (hi : PI X tg iter wi)
    (hg : ∀ cl C fp s3 H3 xe, PG (cxC X (TN ++ F) sc cl C fp s3 H3 xe) tg g) (ht : ∀ cl C fp s3 H3 xe, PTs (cxC X (TN ++ F) sc cl C fp s3 H3 xe) ifs tc) (he : ∀ cl C fp s3 H3 xe, PE (cxC X (TN ++ F) sc cl C fp s3 H3 xe) elt te)
    (hsw : swapsWith (.ListComp elt [⟨tg, iter, ifs, 0⟩] sc pos) (some (.Name y py)) spos.line X.env = pure true := by rfl)
    (hs : ∀ x, foldedSetIterable iter X.env x = pure x := by intro _; rfl) : PS X (.Assign [.Name y py] (.ListComp elt [⟨tg, iter, ifs, 0⟩] sc pos) spos) (tAsg (tComp wi TN.length ix g tc te) (gName i)) := by
  intro pins s σ H D I h
  rw [exec_Assign_Name_used _ _ _ _ hsw]; refine wpAny_bind (wpAny_standAt (wpAny_bind ?_))
  show wpAny _ X.A (do let _ ← comprehension (.ListComp elt [⟨tg, iter, ifs, 0⟩] sc pos) sc X.env _ (newList []) false (eval iter X.env) (some (assign (.Name y py) X.env))) _ _ s
  refine wpAny_bind (wpAny_mono (wpAny_comprehension_free (use := some (assign (.Name y py) X.env)) (Q := fun _ s' => SP X pins D .next s') rfl hs (closure_of S I) S.kind S.names
    (thn (hi pins s σ H _ I h) fun v s1 h1 => thn h1 fun itv s2 h2 => ?_)) (fun _ s' hq => wpAny_pure (wpAny_pure hq)) fun _ _ e => e)
  obtain ⟨it, fp, tn, J, H2, e, I2, T, st2, f2, q2⟩ := h2
  subst e
  refine comp_block (RR := fun acc C => compPost (model X.prog X.w) X.A X.xe (some (assign (.Name y py) X.env)) (fun _ s' => SP X pins D .next s') acc C) S hix hc I2 T st2 f2 hg ht he q2 fun Dl C H' s' I' hn hC1 hC2 hC3 hC4 hC5 q => ?_
  obtain ⟨m, hn⟩ := hn
  show wpAny _ X.A (assign (.Name y py) X.env (.ref Dl)) _ _ _
  refine wpAny_assign_Name (store_ok2 I' hN hiy (.inl hy) (show RelV (.ref Dl) (.ref Dl) from rfl) (fun s'' I'' ⟨a, hsb, ha⟩ => ?_) (.inr hy))
  have haC : C ≠ a := by
    rcases ha with z | z
    · rw [z]; exact hC2
    · exact fun z' => hC4 y a z z'.symm
  refine ⟨m, hn.sameBut hsb haC, fun h' hs' => ?_⟩
  exact ⟨_, H', I''.turned (t' := s''.toks) (fun b o hb e => (hs'.2 b hb).trans e) hC1 hC2 (.inr hC3) hC4 hC5, q⟩
end
end L2

set_option Elab.async false
set_option linter.all false
set_option maxRecDepth 100000
namespace L2
open PySem PySem.Spec PyProof.Rows
/-! ### readings that reckon -/
def seqAt (H : Hp) (p : Addr) : Option (List V) := match H p with
  | some (.lst xs) => some xs
  | some (.tup xs) => some xs
  | _ => none
def dAt (H : Hp) (x y : V) : Option V := match x, y with
  | .ref p, .int i => (seqAt H p).bind fun xs => atI xs i
  | _, _ => none
def rIxd : R2 := fun x y H Q => ∃ v, dAt H x y = some v ∧ Q v H
section
variable {X : Cx}
theorem ix_d : IxR X rIxd := by
  intro value slice pins s σ H x y v u Q I rx ry h hs
  refine ix_seq value slice pins s σ H x y v u Q I rx ry ?_ hs
  obtain ⟨z, e, q⟩ := h
  unfold dAt at e
  split at e
  case h_2 => cases e
  case h_1 p i =>
    unfold seqAt at e
    split at e
    case h_1 xs hp => exact .inl ⟨_, xs, _, z, rfl, rfl, SqL.of hp, e, q⟩
    case h_2 xs hp => exact .inr (.inl ⟨_, xs, _, z, rfl, rfl, SqT.of hp, e, q⟩)
    case h_3 => cases e
def dSet (H : Hp) (o i v : V) : Option Hp := match o, i with
  | .ref p, .int k => match H p with
    | some (.lst xs) => (ixN xs.length k).map fun j => upd H p (.lst (xs.set j v))
    | _ => none
  | _, _ => none
def rSetd : V → V → V → Hp → (Hp → Prop) → Prop := fun o i v H Q => ∃ H', dSet H o i v = some H' ∧ Q H'
theorem set_d : PSet X rSetd := by
  intro pins s σ H o i v ov iv u Q I ro ri rv h
  refine set_list pins s σ H o i v ov iv u Q I ro ri rv ?_
  obtain ⟨H', e, q⟩ := h
  unfold dSet at e
  split at e
  case h_2 => cases e
  case h_1 p k =>
    split at e
    case h_2 => cases e
    case h_1 xs hp =>
      cases ej : ixN xs.length k with
      | none => rw [ej] at e; cases e
      | some j =>
        rw [ej] at e
        cases e
        exact ⟨p, xs, k, j, rfl, rfl, hp, ej, q⟩
end
end L2
namespace L2
open PySem PySem.Spec PyProof.Rows
/-! ### steps of a reading -/
section
variable {σ : St} {H : Hp} {Q : VK} {D : Ends} {t u : TS} {te ta tb : TE} {tr : TA} {g : TG} {r : R2} {x y v : V} {c : TT} {QB : Bool → Hp → Prop} {QL : List V → Hp → Prop} {QG : St → Hp → Prop} {n : Nat}
theorem w_seq (h : t { D with nx := u D } σ H) : tSeq t u D σ H := h
theorem w_next (h : D.nx σ H) : tNext D σ H := h
theorem w_asg (h : te σ H fun x H1 => g x σ H1 D.nx) : tAsg te g D σ H := h
theorem w_gname {i : Nat} (h : QG (σ.set i (some v)) H) : gName i v σ H QG := h
theorem w_op (h : ta σ H fun x H1 => tb σ H1 fun y H2 => r x y H2 Q) : tOp r ta tb σ H Q := h
theorem w_var {i : Nat} (e : σ[i]? = some (some v)) (h : Q v H) : tVar i σ H Q := ⟨v, e, h⟩
theorem w_c (h : Q v H) : tC v σ H Q := h
theorem w_rI0 {k : Int → Int → V} {i j : Int} (h : Q (k i j) H) : rI0 k (.int i) (.int j) H Q := ⟨i, j, rfl, rfl, h⟩
theorem w_rI {C : Int → Int → Prop} {k : Int → Int → V} {i j : Int} (hc : C i j) (h : Q (k i j) H) : rI C k (.int i) (.int j) H Q := ⟨i, j, rfl, rfl, hc, h⟩
theorem w_ifs {b : TS} (h : c σ H fun b' H1 => if b' = true then t D σ H1 else b D σ H1) : tIfS c t b D σ H := h
theorem w_ife (h : c σ H fun b' H1 => if b' = true then ta σ H1 Q else tb σ H1 Q) : tIf c ta tb σ H Q := h
theorem w_test (h : te σ H fun x H' => ∃ k, x = .bl k ∧ QB k H') : tTest te σ H QB := h
theorem w_tb (h : te σ H fun x H' => ∃ k, x = .bl k ∧ QB k H') : tB te σ H QB := h
theorem w_bl {b : Bool} {P : Bool → Prop} (h : P b) : ∃ k, V.bl b = .bl k ∧ P k := ⟨b, rfl, h⟩
theorem w_not (h : c σ H fun b H1 => QB (!b) H1) : tNot c σ H QB := h
theorem w_ret (h : te σ H D.rt) : tRet te D σ H := h
theorem w_nil (h : QL [] H) : tNil σ H QL := h
theorem w_cons (h : te σ H fun x H1 => tr σ H1 fun xs H2 => QL (x :: xs) H2) : tCons te tr σ H QL := h
theorem w_lst (h : tr σ H fun xs H1 => xs.length ≤ sizeLine ∧ ∀ p, H1 p = none → Q (.ref p) (upd H1 p (.lst xs))) : tLst tr σ H Q := h
theorem w_tup (h : tr σ H fun xs H1 => xs.length ≤ sizeLine ∧ ∀ p, H1 p = none → Q (.ref p) (upd H1 p (.tup xs))) : tTup tr σ H Q := h
theorem w_cb {r : List V → Hp → VK → Prop} (h : tr σ H fun vs H1 => r vs H1 Q) : tCB r tr σ H Q := h
theorem w_call {sp : Sp} {dvs : List V} {E : XK} (h : tr σ H fun vs H1 => sp (vs ++ dvs) H1 Q E) : tCall sp dvs E tr σ H Q := h
theorem w_gsub {to ti : TE} {ts : TSet} (h : to σ H fun o H1 => ti σ H1 fun i H2 => ts o i v H2 fun H3 => QG σ H3) : gSub to ti ts v σ H QG := h
theorem w_ixL {p : Addr} {xs : List V} {i : Int} (hp : H p = some (.lst xs)) (e : atI xs i = some v) (h : Q v H) : rIxd (.ref p) (.int i) H Q := ⟨v, by simp only [dAt, seqAt, hp, Option.bind_some, e], h⟩
theorem w_ixT {p : Addr} {xs : List V} {i : Int} (hp : H p = some (.tup xs)) (e : atI xs i = some v) (h : Q v H) : rIxd (.ref p) (.int i) H Q := ⟨v, by simp only [dAt, seqAt, hp, Option.bind_some, e], h⟩
theorem w_set {p : Addr} {xs : List V} {i : Int} {j : Nat} {QH : Hp → Prop} (hp : H p = some (.lst xs)) (e : ixN xs.length i = some j) (h : QH (upd H p (.lst (xs.set j v)))) : rSetd (.ref p) (.int i) v H QH :=
  ⟨_, by simp only [dSet, hp, e, Option.map_some], h⟩
theorem w_or {c d : TT} (h : c σ H fun b H1 => if b = true then QB true H1 else d σ H1 QB) : tOr c d σ H QB := h
theorem iteD {p A B : Prop} [Decidable p] (h1 : p → A) (h2 : ¬ p → B) : if decide p = true then A else B := by
  by_cases h : p
  · rw [decide_eq_true h, if_pos rfl]
    exact h1 h
  · rw [decide_eq_false h, if_neg Bool.false_ne_true]
    exact h2 h
theorem iteDN {p A B : Prop} [Decidable p] (h1 : ¬ p → A) (h2 : p → B) : if (!decide p) = true then A else B := by
  by_cases h : p
  · rw [decide_eq_true h]
    exact iteF (h2 h)
  · rw [decide_eq_false h]
    exact iteT (h1 h)
end
end L2
namespace L2
open PySem PySem.Spec PyProof.Rows
/-- a def of the text that is there and keeps its promise -/
def Has (P : Program) (w : World) (K : PySem.W.Frag) (mg : Str → Option Value) (base : Heap) (k : Nat) (x : Str) (ps : List Str) (sp : Sp) : Prop :=
  ∃ f fd, FnOk P w K mg base CX0 k f fd ps sp ∧ mg x = some (.ref f) ∧ PySem.W.keepIn K (.ref f) = true ∧ Binds K fd ps []
theorem pe_fn {X : Cx} {k j : Nat} {x : Str} {ps : List Str} {sp : Sp} {e : Expr} {es : List Expr} {t : TA} {p pos : Pos} (h : Has X.prog X.w X.K X.mg X.base k x ps sp) (hr : Room j X.A) (hkj : k ≤ j) (ha : PA X (e :: es) t) (hg : Gl X x := by rfl)
    (hdb : (x == ("__debug__" : Str)) = false := by decide) (he : starEach (e :: es) X.env = (false, eval e X.env) :: starEach es X.env := by rfl) (hpl : (backTo pos (starEach es X.env)).any (·.1) = false := by rfl) :
    PE X (.Call (.Name x p) (e :: es) [] pos) (tCall sp [] E0 t) := by
  obtain ⟨f, fd, F, hm, hk, hb⟩ := h
  exact pe_call F (hr.mono hkj) hg hm hk hb .nil pass0 ha hdb he hpl
section
variable {lo : Int} {n : Nat} {D : Addr} {te : TE} {tc : TT} {Q : VK} {ρ : St} {H : Hp}
/-- a block over a range, one name -/
theorem cgo_range (Pv : Nat → List V → Hp → Prop) (h0 : Pv 0 [] (upd H D (.lst [])))
    (hs : ∀ i ys H', i < n → Pv i ys H' → H' D = some (.lst ys) → ∀ (R : V → Hp → Prop) (S : Hp → Prop), (∀ y H4, H4 D = some (.lst ys) → ys.length < sizeLine → Pv (i + 1) (ys ++ [y]) (upd H4 D (.lst (ys ++ [y]))) → R y H4) → (∀ H3, H3 D = some (.lst ys) → Pv (i + 1) ys H3 → S H3) →
      tc (some (.int (lo + i)) :: ρ) H' fun b H3 => if b = true then te (some (.int (lo + i)) :: ρ) H3 R else S H3)
    (hd : ∀ ys H', Pv n ys H' → H' D = some (.lst ys) → Q (.ref D) H') : CGo (Itr lo n) D (gName 0) tc te Q (none :: ρ) H := by
  refine ⟨fun i m τ ys H' => m = n - i ∧ i ≤ n ∧ (∃ tv, τ = tv :: ρ) ∧ Pv i ys H' ∧ H' D = some (.lst ys), ⟨n, by omega, Nat.zero_le _, ⟨_, rfl⟩, h0, upd_same⟩, ?_⟩
  rintro i m τ ys H' ⟨rfl, hi, ⟨tv, rfl⟩, hp, hD⟩
  refine ⟨hD, ?_⟩
  by_cases hlt : i < n
  · refine .inr ⟨hlt, ?_⟩
    rintro v H'' ⟨rfl, rfl⟩
    show tc (some (.int (lo + i)) :: ρ) _ _
    exact hs i ys _ hlt hp hD _ _ (fun y H4 a b c => ⟨a, b, n - (i + 1), by omega, rfl, hlt, ⟨_, rfl⟩, c, upd_same⟩) fun H3 a c => ⟨n - (i + 1), by omega, rfl, hlt, ⟨_, rfl⟩, c, a⟩
  · have e : i = n := by omega
    subst e
    exact .inl ⟨Nat.le_refl _, hd ys _ hp hD⟩
/-- a block over a tuple, one name -/
theorem cgo_tup {K : PySem.W.Frag} {a : Addr} {xs : List V} (Pv : Nat → List V → Hp → Prop) (h0 : Pv 0 [] (upd H D (.lst []))) (hl : ∀ i ys H', i ≤ xs.length → Pv i ys H' → SqT K H' a xs)
    (hs : ∀ i x ys H', xs[i]? = some x → Pv i ys H' → H' D = some (.lst ys) → ∀ (R : V → Hp → Prop) (S : Hp → Prop), (∀ y H4, H4 D = some (.lst ys) → ys.length < sizeLine → Pv (i + 1) (ys ++ [y]) (upd H4 D (.lst (ys ++ [y]))) → R y H4) → (∀ H3, H3 D = some (.lst ys) → Pv (i + 1) ys H3 → S H3) →
      tc (some x :: ρ) H' fun b H3 => if b = true then te (some x :: ρ) H3 R else S H3)
    (hd : ∀ ys H', Pv xs.length ys H' → H' D = some (.lst ys) → Q (.ref D) H') : CGo (Itt K a) D (gName 0) tc te Q (none :: ρ) H := by
  refine ⟨fun i m τ ys H' => m = xs.length - i ∧ i ≤ xs.length ∧ (∃ tv, τ = tv :: ρ) ∧ Pv i ys H' ∧ H' D = some (.lst ys), ⟨xs.length, by omega, Nat.zero_le _, ⟨_, rfl⟩, h0, upd_same⟩, ?_⟩
  rintro i m τ ys H' ⟨rfl, hi, ⟨tv, rfl⟩, hp, hD⟩
  refine ⟨hD, ?_⟩
  have sq := hl i ys H' hi hp
  by_cases hlt : i < xs.length
  · refine .inr ⟨⟨xs, xs[i], sq, by simp [hlt]⟩, ?_⟩
    rintro v H'' ⟨rfl, hv⟩
    have hv' := hv xs sq
    show tc (some v :: ρ) _ _
    exact hs i v ys _ hv' hp hD _ _ (fun y H4 a b c => ⟨a, b, xs.length - (i + 1), by omega, rfl, hlt, ⟨_, rfl⟩, c, upd_same⟩) fun H3 a c => ⟨xs.length - (i + 1), by omega, rfl, hlt, ⟨_, rfl⟩, c, a⟩
  · have e : i = xs.length := by omega
    subst e
    exact .inl ⟨⟨xs, sq, Nat.le_refl _⟩, hd ys _ hp hD⟩
end
theorem w_all {σ : St} {H : Hp} {Q : Bool → Hp → Prop} (h : Q true H) : tAll σ H Q := h
end L2
namespace L2
open PySem PySem.Spec PyProof.Rows
def relabelS (sc o : Scope) : Scope :=
  { sc with names := sc.names.map fun (n, k) => if (k == .free && o.kind == .function && o.names.lookup n == some .cell) then (n, .cell) else (n, k) }
instance {sc : Scope} {x : Str} : Decidable (Vis sc x) := by unfold Vis; infer_instance
/-- a block's scope, with all that its names want; G: the module's names that it reads -/
structure BScope (o sc : Scope) (TN F G : List Str) : Prop extends CScope o sc TN F where
  nd : (TN ++ F).Nodup
  vis : ∀ x ∈ TN ++ F, Vis (relabelS sc o) x
  loc : ∀ x ∈ TN, (relabelS sc o).names.lookup x = some .local
  gl : ∀ x ∈ G, (relabelS sc o).names.lookup x = some .globalImplicit
section
variable {X : Cx} {sc : Scope} {TN F G : List Str} {cl : List (Str × Addr)} {C : Addr} {fp : List Addr} {s3 : Shared} {H3 : Hp} {xe : Value → Shared → Prop} {x : Str} {pos : Pos}
theorem pvb (S : BScope X.env.scope sc TN F G) (i : Nat) (hN : (TN ++ F)[i]? = some x := by rfl) (hd : (x == ("__debug__" : Str)) = false := by decide) (hcd : (x == ("__classdict__" : Str)) = false := by decide) : PE (cxC X (TN ++ F) sc cl C fp s3 H3 xe) (.Name x pos) (tVar i) :=
  pe_var hN (S.vis x (List.mem_of_getElem? hN)) hd hcd
theorem pgb (S : BScope X.env.scope sc TN F G) (i : Nat) (hN : (TN ++ F)[i]? = some x := by rfl) (hT : TN[i]? = some x := by rfl) : PG (cxC X (TN ++ F) sc cl C fp s3 H3 xe) (.Name x pos) (gName i) :=
  pg_name S.nd hN (.inl (S.loc x (List.mem_of_getElem? hT))) (.inr (S.loc x (List.mem_of_getElem? hT)))
theorem BScope.g (S : BScope X.env.scope sc TN F G) (i : Nat) (hG : G[i]? = some x := by rfl) : Gl (cxC X (TN ++ F) sc cl C fp s3 H3 xe) x := S.gl x (List.mem_of_getElem? hG)
end
end L2
namespace L2
open PySem PySem.Spec PyProof.Rows
/-! ### rows of written constants -/
def constV : Expr → Option V
  | .Constant (.int n) _ _ => some (.int n)
  | .Constant (.str y) _ _ => some (.str y)
  | .Constant (.bool b) _ _ => some (.bl b)
  | .Constant .none _ _ => some .non
  | _ => none
def constsOf : List Expr → Option (List V)
  | [] => some []
  | e :: r => match constV e, constsOf r with
    | some v, some vs => some (v :: vs)
    | _, _ => none
def tVals (vs : List V) : TA := fun _ H Q => Q vs H
theorem pa_consts {X : Cx} : ∀ {es : List Expr} {vs : List V}, constsOf es = some vs → PA X es (tVals vs)
  | [], vs, h => by
    cases h
    exact pa_nil
  | e :: r, vs, h => by
    unfold constsOf at h
    split at h
    case h_2 => cases h
    case h_1 v vs' h1 h2 =>
      cases h
      have ih := pa_consts (X := X) h2
      have go : ∀ {te : TE}, PE X e te → (starEach (e :: r) X.env = (false, eval e X.env) :: starEach r X.env) → (∀ σ H Q, Q v H → te σ H Q) → PA X (e :: r) (tVals (v :: vs')) := fun {te} he hs hq => by
        have q := pa_cons he ih hs
        intro pos pins s σ H Q I hh
        exact q pos pins s σ H Q I (hq σ H _ hh)
      unfold constV at h1
      split at h1
      case h_1 => cases h1; exact go pe_int rfl fun _ _ _ h => h
      case h_2 => cases h1; exact go pe_str rfl fun _ _ _ h => h
      case h_3 => cases h1; exact go pe_bl rfl fun _ _ _ h => h
      case h_4 => cases h1; exact go pe_non rfl fun _ _ _ h => h
      case h_5 => cases h1
theorem pe_lstC {X : Cx} {es : List Expr} {pos : Pos} {vs : List V} (h : constsOf es = some vs) : PE X (.List es pos) (tLst (tVals vs)) := pe_lst (pa_consts h)
theorem w_vals {vs : List V} {σ : St} {H : Hp} {Q : List V → Hp → Prop} (h : Q vs H) : tVals vs σ H Q := h
end L2
namespace L2
open PySem PySem.Spec PyProof.Rows
instance {sc : Scope} {x : Str} : Decidable (Loc sc x) := by unfold Loc; infer_instance
/-- a def's names -/
structure Nm (N : List Str) (sc : Scope) : Prop where
  nd : N.Nodup
  loc : ∀ x ∈ N, Loc sc x
section
variable {X : Cx} {x : Str} {pos : Pos}
theorem Loc.vis {sc : Scope} (h : Loc sc x) : Vis sc x := h.elim .inl fun z => .inr (.inl z)
theorem pvd (M : Nm X.N X.env.scope) (i : Nat) (hN : X.N[i]? = some x := by rfl) (hd : (x == ("__debug__" : Str)) = false := by decide) (hcd : (x == ("__classdict__" : Str)) = false := by decide) : PE X (.Name x pos) (tVar i) :=
  pe_var hN (M.loc x (List.mem_of_getElem? hN)).vis hd hcd
theorem ps_setD {e : Expr} {te : TE} {pos' : Pos} (M : Nm X.N X.env.scope) (i : Nat) (he : PE X e te) (hi : X.N[i]? = some x := by rfl) (hs : swapsWith e (some (.Name x pos')) pos.line X.env = pure false := by rfl) (hf : X.fn x = true := by rfl) :
    PS X (.Assign [.Name x pos'] e pos) (tAsg te (gName i)) := ps_set M.nd hi (M.loc x (List.mem_of_getElem? hi)) he hs (.inl hf)
theorem pgd (M : Nm X.N X.env.scope) (i : Nat) (hi : X.N[i]? = some x := by rfl) (hf : X.fn x = true := by rfl) : PG X (.Name x pos) (gName i) := pg_name M.nd hi (M.loc x (List.mem_of_getElem? hi)) (.inl hf)
end
end L2
namespace L2
open PySem PySem.Spec PyProof.Rows
section
variable {X : Cx} {l rest : List Stmt} {st : Stmt} {t u : TS} {e e' : Expr} {te : TE}
end
end L2
namespace L2
open PySem PySem.Spec PyProof.Rows
section
variable {ta : TA} {tl : TE} {n : Nat} {ix : List Nat} {g : TG} {tc : TT} {te : TE} {σ : St} {H : Hp} {Q : VK}
theorem w_compR (h : ta σ H fun vs H1 => ∃ j : Int, vs = [.int j] ∧ -(2 ^ 62) ≤ j ∧ j < 2 ^ 62 ∧ ∀ D, H1 D = none → CGo (Itr 0 j.toNat) D g tc te Q (List.replicate n none ++ sub ix σ) H1) : tComp (iRng1 ta) n ix g tc te σ H Q := h
theorem w_compT {K : PySem.W.Frag} (h : tl σ H fun x H1 => ∃ a, x = .ref a ∧ (∃ xs, SqT K H1 a xs) ∧ ∀ D, H1 D = none → CGo (Itt K a) D g tc te Q (List.replicate n none ++ sub ix σ) H1) : tComp (iTup K tl) n ix g tc te σ H Q := h
end
end L2
namespace L2
open PySem PySem.Spec PyProof.Rows
/-- a loop's reading, the iterator J at hand -/
def ForJ (J : It) (g : TG) (tb : TS) (D : Ends) (σ : St) (H1 : Hp) : Prop := ∃ W : Nat → Nat → St → Hp → Prop, (∃ m, W 0 m σ H1) ∧ ∀ i m σ H, W i m σ H →
  (J.stop i H ∧ D.nx σ H) ∨ (J.go i H ∧ ∃ N : St → Hp → Prop, (∀ σ' H', N σ' H' → ∃ m', m' < m ∧ W (i + 1) m' σ' H') ∧ ∀ x H', J.yld i H x H' → g x σ H' fun σ2 H2 => tb { D with nx := N, ct := N, bk := D.nx } σ2 H2)
theorem w_forR {ta : TA} {g : TG} {tb : TS} {D : Ends} {σ : St} {H : Hp} (h : ta σ H fun vs H1 => ∃ j : Int, vs = [.int j] ∧ -(2 ^ 62) ≤ j ∧ j < 2 ^ 62 ∧ ForJ (Itr 0 j.toNat) g tb D σ H1) : tFor (iRng1 ta) g tb D σ H := h
theorem w_forT {K : PySem.W.Frag} {tl : TE} {g : TG} {tb : TS} {D : Ends} {σ : St} {H : Hp} (h : tl σ H fun x H1 => ∃ a, x = .ref a ∧ (∃ xs, SqT K H1 a xs) ∧ ForJ (Itt K a) g tb D σ H1) : tFor (iTup K tl) g tb D σ H := h
theorem w_forL {K : PySem.W.Frag} {tl : TE} {g : TG} {tb : TS} {D : Ends} {σ : St} {H : Hp} (h : tl σ H fun x H1 => ∃ a, x = .ref a ∧ (∃ xs, SqL K H1 a xs) ∧ ForJ (Itl K a) g tb D σ H1) : tFor (iList K tl) g tb D σ H := h
end L2
namespace L2
open PySem PySem.Spec PyProof.Rows
/-! ### arguments, without running them -/
def isStar : Expr → Bool
  | .Starred .. => true
  | _ => false
theorem star1 {e : Expr} {es : List Expr} {env : Env} (h : isStar e = false) : starEach (e :: es) env = (false, eval e env) :: starEach es env := by
  cases e <;> first | rfl | cases h
theorem star_any {env : Env} {pos : Pos} : ∀ {es : List Expr}, es.all (fun e => !isStar e) = true → (backTo pos (starEach es env)).any (·.1) = false
  | [], _ => rfl
  | e :: es, h => by
    rw [List.all_cons, Bool.and_eq_true] at h; rw [star1 (by simpa using h.1)]
    cases es with
    | nil => rfl
    | cons a r =>
      have ih := star_any (env := env) (pos := pos) (es := a :: r) h.2
      rw [star1 (by simpa using (by simpa using h.2 : isStar a = false ∧ _).1)] at ih ⊢
      exact ih
end L2
namespace L2
open PySem PySem.Spec PyProof.Rows
section
variable {X : Cx} {e a : Expr} {es : List Expr} {te : TE} {t ta : TA} {x : Str} {p pos : Pos} {tg : Expr} {id T : String} {r : List V → Hp → VK → Prop}
theorem pa_c (ha : PE X e te) (hr : PA X es t) (h : isStar e = false := by rfl) : PA X (e :: es) (tCons te t) := pa_cons ha hr (star1 h)
theorem pi_r1 (hm : X.mg "range" = none) (ha : PA X [a] ta) (hg : Gl X "range" := by rfl) (h : isStar a = false := by rfl) : PI X tg (.Call (.Name "range" p) [a] [] pos) (iRng1 ta) := pi_range1 hg hm ha (star1 h)
theorem pe_cB (hc : CallR X (.builtin id) r) (hm : X.mg x = none) (hv : bootBuiltins x = some (.builtin id)) (ha : PA X (e :: es) t) (hg : Gl X x := by rfl) (h : isStar e = false := by rfl) (h2 : es.all (fun e => !isStar e) = true := by rfl) (hn : x ≠ "__name__" := by decide) (hdb : (x == ("__debug__" : Str)) = false := by decide) :
    PE X (.Call (.Name x p) (e :: es) [] pos) (tCB r t) := pe_callB hc hg hm hv ha hn hdb (star1 h) (star_any h2)
theorem pe_cT (hc : CallR X (.type T) r) (hm : X.mg x = none) (hv : bootBuiltins x = some (.type T)) (ha : PA X (e :: es) t) (hg : Gl X x := by rfl) (h : isStar e = false := by rfl) (h2 : es.all (fun e => !isStar e) = true := by rfl) (hn : x ≠ "__name__" := by decide) (hdb : (x == ("__debug__" : Str)) = false := by decide) :
    PE X (.Call (.Name x p) (e :: es) [] pos) (tCB r t) := pe_callTy hc hg hm hv ha hn hdb (star1 h) (star_any h2)
theorem pe_f {k j : Nat} {ps : List Str} {sp : Sp} (h : Has X.prog X.w X.K X.mg X.base k x ps sp) (hr : Room j X.A) (hkj : k ≤ j) (ha : PA X (e :: es) t) (hg : Gl X x := by rfl) (h1 : isStar e = false := by rfl) (h2 : es.all (fun e => !isStar e) = true := by rfl)
    (hdb : (x == ("__debug__" : Str)) = false := by decide) : PE X (.Call (.Name x p) (e :: es) [] pos) (tCall sp [] E0 t) := pe_fn h hr hkj ha hg hdb (star1 h1) (star_any h2)
end
end L2
namespace L2
theorem pa_1 {X : Cx} {e : PySem.Expr} {te : TE} (ha : PE X e te) (h : isStar e = false := by rfl) : PA X [e] (tCons te tNil) := pa_c ha pa_nil h
theorem pa_2 {X : Cx} {e e' : PySem.Expr} {te te' : TE} (ha : PE X e te) (hb : PE X e' te') (h : isStar e = false := by rfl) (h' : isStar e' = false := by rfl) : PA X [e, e'] (tCons te (tCons te' tNil)) := pa_c ha (pa_1 hb h') h
end L2
namespace L2
open PySem PySem.Spec PyProof.Rows
theorem w_drop {te : TE} {D : Ends} {σ : St} {H : Hp} (h : te σ H fun _ H1 => D.nx σ H1) : tDrop te D σ H := h
theorem w_bm {K : PySem.W.Frag} {T : String} {r : V → List V → Hp → VK → Prop} {to : TE} {t : TA} {σ : St} {H : Hp} {Q : VK} (h : to σ H fun x H1 => tyV K T x H1 ∧ t σ H1 fun xs H2 => r x xs H2 Q) : tBM K T r to t σ H Q := h
end L2

set_option Elab.async false
set_option linter.all false
set_option maxRecDepth 100000
namespace K03
open PySem L2
local macro_rules | `(tactic| walk_at "v") => `(tactic| repeat (with_reducible first
  | refine w_seq ?_ | refine w_asg ?_ | refine w_gname ?_ | refine w_op ?_ | refine w_var rfl ?_ | refine w_c ?_ | refine w_rI0 ?_ | refine w_ifs ?_ | refine w_ife ?_ | refine w_test ?_ | refine w_tb ?_ | refine w_bl ?_ | refine w_not ?_ | refine w_ret ?_ | refine w_retN ?_
  | refine w_nil ?_ | refine w_cons ?_ | refine w_lst ?_ | refine w_tup ?_ | refine w_cb ?_ | refine w_call ?_ | refine w_gsub ?_ | refine w_and ?_ | refine w_or ?_ | refine w_next ?_ | refine w_all ?_ | refine w_vals ?_ | refine w_compR ?_ | refine w_compT ?_ | refine w_forR ?_ | refine w_forT ?_ | refine w_forL ?_ | refine w_drop ?_ | refine w_bm ?_ | refine iteT ?_ | refine iteF ?_))
def top (i : Nat) : Stmt := PySem.Challenge.pw_dropsums_k03_pots_written_and_read.main.body.getD i (.Pass ⟨0, 0, 0, 0⟩)
abbrev sFeed : Stmt := top 44
abbrev sDraw : Stmt := top 45
/-- a feed stands at p -/
def FeedAt (H : Hp) (p : Addr) : Prop := ∃ a b c : Int, H p = some (.lst [.int a, .int b, .int c])
theorem FeedAt.here {H : Hp} {p : Addr} {x y z : Int} : FeedAt (upd H p (.lst [.int x, .int y, .int z])) p := ⟨x, y, z, upd_same⟩
def spFeed (K : PySem.W.Frag) : Sp := fun vs H Q _ => ∃ (a : Addr) (ns : List Int) (k : Nat), vs = [.ref a, .int k] ∧ SqL K H a (ns.map V.int) ∧ ns.length ≤ 63 ∧ ∀ p x y z, H p = none → Q (.ref p) (upd H p (.lst [.int x, .int y, .int z]))
def spDraw : Sp := fun vs H Q _ => ∃ (p : Addr) (m : Int), vs = [.ref p, .int m] ∧ FeedAt H p ∧ 0 < m ∧ m < 1000000 ∧ ∀ (r x y z : Int), 0 ≤ r → r < m → Q (.int r) (upd H p (.lst [.int x, .int y, .int z]))
theorem md {i j : Int} (h : 0 < j) : 0 ≤ i % j ∧ i % j < j := ⟨Int.emod_nonneg _ (Int.ne_of_gt h), Int.emod_lt_of_pos _ h⟩
theorem mulL {i j : Int} (h1 : 0 ≤ i) (h2 : i < 4000000000) : CMul i j := .inl ⟨by omega, by omega⟩
section
variable {P : Program} {w : World} {K : PySem.W.Frag} {mg : Str → Option Value} {base : Heap}
theorem scDraw : FnScope ["_law_feed_here", "_law_many", "_law_found", "_law_mixed"] ["_law_feed_here", "_law_many"] (defScope sDraw) := ⟨rfl, rfl, rfl, by decide +kernel, rfl, by decide +kernel, by decide +kernel⟩
theorem ok_draw {f : Addr} {fd : FuncData} (F : Fun K "_law_draw" "_law_draw" sDraw f fd) : FnOk P w K mg base CX0 1 f fd ["_law_feed_here", "_law_many"] spDraw := by
  refine F.ok scDraw (fun vs H Q E h => ?_) (fun cdv A outer s H vs Q E hr h => ?_)
  · obtain ⟨p, m, rfl, _⟩ := h
    rfl
  · obtain ⟨p, m, rfl, ⟨a, b, c, hp⟩, hm, hm2, k⟩ := h
    refine ⟨_, pss_cons (ps_asg (pe_op op_add (pe_ix ix_d (pv 0) pe_int (fun _ _ => rfl)) pe_int) (pg_sub (pv 0) pe_int set_d))
      (pss_cons (ps_if (pt_cmpR op_gt (pe_ix ix_d (pv 0) pe_int (fun _ _ => rfl)) pe_int (nomark _))
        (pss_cons (ps_set (i := 2) scDraw.nd rfl (Or.inl rfl) (pe_op op_mod (pe_ix ix_d (pv 0) pe_int (fun _ _ => rfl)) (pv 1)))
        (pss_cons (ps_asg (pe_op op_fdiv (pe_ix ix_d (pv 0) pe_int (fun _ _ => rfl)) (pv 1)) (pg_sub (pv 0) pe_int set_d))
        (pss_one (ps_ret (pv 2))))) pss_nil)
      (pss_cons (ps_set (i := 3) scDraw.nd rfl (Or.inl rfl) (pe_op op_mod (pe_op op_mul (pe_op op_mod (pe_op op_add (pe_ix ix_d (pv 0) pe_int (fun _ _ => rfl)) (pe_op op_mul pe_int (pe_ix ix_d (pv 0) pe_int (fun _ _ => rfl)))) pe_int) pe_int) pe_int))
      (pss_cons (ps_set (i := 3) scDraw.nd rfl (Or.inl rfl) (pe_op op_mod (pe_op op_mul (pv 3) (pe_op op_add (pv 3) pe_int)) pe_int))
      (pss_one (ps_ret (pe_op op_mod (pe_op op_fdiv (pe_op op_mod (pe_op op_mul (pv 3) pe_int) pe_int) pe_int) (pv 1))))))), ?_⟩
    walk_at "v"
    refine w_ixL hp rfl ?_
    walk_at "v"
    refine w_set hp rfl ?_
    walk_at "v"
    refine w_ixL upd_same rfl ?_
    walk_at "v"
    refine iteD (fun _ => ?_) (fun _ => ?_)
    · walk_at "v"
      refine w_ixL upd_same rfl ?_
      walk_at "v"
      refine w_rI hm ?_
      walk_at "v"
      refine w_ixL upd_same rfl ?_
      walk_at "v"
      refine w_rI ⟨hm, by omega⟩ ?_
      walk_at "v"
      refine w_set upd_same rfl ?_
      walk_at "v"
      rw [upd_upd]
      exact k _ _ _ _ (md hm).1 (md hm).2
    · walk_at "v"
      refine w_ixL upd_same rfl ?_
      walk_at "v"
      refine w_ixL upd_same rfl ?_
      refine w_rI (mulL (by decide) (by decide)) ?_
      walk_at "v"
      refine w_rI (by decide) ?_
      walk_at "v"
      refine w_rI (mulL (md (by decide)).1 (by have := (md (i := b + 40692 * (c + 1)) (j := 2147483399) (by decide)).2; omega)) ?_
      walk_at "v"
      refine w_rI (by decide) ?_
      generalize hx : (b + 40692 * (c + 1)) % 2147483399 * 48271 % 2147483647 = x
      have h1 := md (i := (b + 40692 * (c + 1)) % 2147483399 * 48271) (j := 2147483647) (by decide)
      rw [hx] at h1
      walk_at "v"
      refine w_rI (mulL h1.1 (by omega)) ?_
      walk_at "v"
      refine w_rI (by decide) ?_
      generalize hy : x * (x + 7919) % 2147483587 = y
      have h2 := md (i := x * (x + 7919)) (j := 2147483587) (by decide)
      rw [hy] at h2
      walk_at "v"
      refine w_rI (mulL h2.1 (by omega)) ?_
      walk_at "v"
      refine w_rI (by decide) ?_
      walk_at "v"
      refine w_rI ⟨by decide, by decide⟩ ?_
      walk_at "v"
      refine w_rI hm ?_
      exact k _ _ _ _ (md hm).1 (md hm).2
theorem scFeed : FnScope ["_law_script", "_law_k", "_law_cell", "_law_left"] ["_law_script", "_law_k"] (defScope sFeed) := ⟨rfl, rfl, rfl, by decide +kernel, rfl, by decide +kernel, by decide +kernel⟩
theorem ok_feed {f : Addr} {fd : FuncData} (hlen : mg "len" = none) (F : Fun K "_law_feed" "_law_feed" sFeed f fd) : FnOk P w K mg base CX0 1 f fd ["_law_script", "_law_k"] (spFeed K) := by
  refine F.ok scFeed (fun vs H Q E h => ?_) (fun cdv A outer s H vs Q E hr h => ?_)
  · obtain ⟨a, ns, k, rfl, _⟩ := h
    rfl
  · obtain ⟨a, ns, k, rfl, hS, hl, q⟩ := h
    refine ⟨_, pss_cons (ps_set (i := 2) scFeed.nd rfl (Or.inl rfl) (pe_op op_add (pe_op op_mul pe_int (pv 1)) pe_int))
      (pss_cons (ps_if (pt_cmpR op_gt (pe_callB call_len_seq (by rfl) hlen PySem.boot_len (pa_cons (pv 0) pa_nil)) pe_int (nomark _))
        (pss_one (ps_set (i := 2) scFeed.nd rfl (Or.inl rfl) (pe_op op_add (pe_ix ix_list (pv 0) (pe_op op_mod (pv 1) (pe_callB call_len_seq (by rfl) hlen PySem.boot_len (pa_cons (pv 0) pa_nil))) (fun _ _ => rfl))
          (pe_op op_mul pe_int (pe_op op_fdiv (pv 1) (pe_callB call_len_seq (by rfl) hlen PySem.boot_len (pa_cons (pv 0) pa_nil)))))))
        pss_nil)
      (pss_cons (ps_set (i := 3) scFeed.nd rfl (Or.inl rfl) (pe_ifExp (pt_cmpR op_ge (pv 2) (pe_op op_pow pe_int pe_int) (nomark _)) (pv 2) pe_int))
      (pss_one (ps_ret (pe_lst (pa_cons (pv 3) (pa_cons (pe_op op_add (pe_op op_add (pe_op op_mod (pv 2) pe_int) (pe_op op_mul pe_int (pv 1))) pe_int) (pa_cons pe_int pa_nil)))))))), ?_⟩
    walk_at "v"
    refine w_rI (mulL (by decide) (by decide)) ?_
    walk_at "v"
    refine ⟨a, _, rfl, .inl hS, ?_⟩
    walk_at "v"
    refine iteD (fun h0 => ?_) (fun _ => ?_)
    · walk_at "v"
      refine ⟨a, _, rfl, .inl hS, ?_⟩
      rw [List.length_map] at h0 ⊢
      have h0' : 0 < ns.length := by omega
      refine w_rI h0 ?_
      obtain ⟨j, hj⟩ : ∃ j : Nat, (k : Int) % (ns.length : Int) = (j : Int) := ⟨k % ns.length, by omega⟩
      have hjl : j < ns.length := by
        have := (md (i := (k : Int)) h0).2
        omega
      refine ⟨a, _, _, .int ns[j], rfl, rfl, hS, ?_, ?_⟩
      · rw [hj]
        exact atI_nat (by simp [hjl])
      · walk_at "v"
        refine ⟨a, _, rfl, .inl hS, ?_⟩
        rw [List.length_map]
        refine w_rI ⟨h0, by omega⟩ ?_
        refine w_rI (mulL (by decide) (by decide)) ?_
        walk_at "v"
        refine w_rI ⟨by decide, by decide, by decide⟩ ?_
        walk_at "v"
        refine iteD (fun _ => ?_) (fun _ => ?_)
        all_goals
          walk_at "v"
          refine w_rI (by decide) ?_
          walk_at "v"
          refine w_rI (mulL (by decide) (by decide)) ?_
          walk_at "v"
          exact ⟨by show 3 ≤ sizeLine; decide, fun p hp => q p _ _ _ hp⟩
    · walk_at "v"
      refine w_rI ⟨by decide, by decide, by decide⟩ ?_
      walk_at "v"
      refine iteD (fun _ => ?_) (fun _ => ?_)
      all_goals
        walk_at "v"
        refine w_rI (by decide) ?_
        walk_at "v"
        refine w_rI (mulL (by decide) (by decide)) ?_
        walk_at "v"
        exact ⟨by show 3 ≤ sizeLine; decide, fun p hp => q p _ _ _ hp⟩
end
end K03

set_option Elab.async false
set_option linter.all false
set_option maxRecDepth 100000
namespace K03
open PySem L2
local macro_rules | `(tactic| walk_at "v") => `(tactic| repeat (with_reducible first
  | refine w_seq ?_ | refine w_asg ?_ | refine w_gname ?_ | refine w_op ?_ | refine w_var rfl ?_ | refine w_c ?_ | refine w_rI0 ?_ | refine w_ifs ?_ | refine w_ife ?_ | refine w_test ?_ | refine w_tb ?_ | refine w_bl ?_ | refine w_not ?_ | refine w_ret ?_ | refine w_retN ?_
  | refine w_nil ?_ | refine w_cons ?_ | refine w_lst ?_ | refine w_tup ?_ | refine w_cb ?_ | refine w_call ?_ | refine w_gsub ?_ | refine w_and ?_ | refine w_or ?_ | refine w_next ?_ | refine w_all ?_ | refine w_vals ?_ | refine w_compR ?_ | refine w_compT ?_ | refine w_forR ?_ | refine w_forT ?_ | refine w_forL ?_ | refine w_drop ?_ | refine w_bm ?_ | refine iteT ?_ | refine iteF ?_))
abbrev sNames : Stmt := top 46
def names12 : List Str := ["a", "ab", "abc", "insort", "outer", "ruler", "tone", "begins", "sort", "b", "zzzzzzzz", "x"]
def nmOf (st sp k : Nat) : Str := names12.getD ((st + sp * k) % 12) ""
/-- all that was tracked is as it was, but at p -/
def But (p : Addr) (H H' : Hp) : Prop := ∀ q o, H q = some o → q ≠ p → H' q = some o
theorem But.refl {p : Addr} {H : Hp} : But p H H := fun _ _ h _ => h
theorem But.new {p a : Addr} {H H' : Hp} {o : HO} (b : But p H H') (h : H' a = none) : But p H (upd H' a o) := fun q u e hq => by
  have e' := b q u e hq
  rw [upd_ne (ne_of_none e' h)]
  exact e'
theorem But.at {p : Addr} {H H' : Hp} {o : HO} (b : But p H H') : But p H (upd H' p o) := fun q u e hq => by
  rw [upd_ne hq]
  exact b q u e hq
theorem But.put {p a : Addr} {H H' : Hp} {o : HO} (b : But p H H') (h : H a = none) : But p H (upd H' a o) := fun q u e hq => by
  rw [upd_ne (ne_of_none e h)]
  exact b q u e hq
theorem But.trans {p : Addr} {H H1 H2 : Hp} (a : But p H H1) (b : But p H1 H2) : But p H H2 := fun q o e hq => b q o (a q o e hq) hq
theorem But.free {p a : Addr} {H H' : Hp} (b : But p H H') (hp : p ≠ a) (h : H' a = none) : H a = none := by
  cases e : H a with
  | none => rfl
  | some o => rw [b a o e (Ne.symm hp)] at h; cases h
theorem FeedAt.ne {H : Hp} {p a : Addr} (F : FeedAt H p) (h : H a = none) : p ≠ a := by
  obtain ⟨x, y, z, e⟩ := F
  exact ne_of_none e h
theorem FeedAt.new {H : Hp} {p a : Addr} {o : HO} (F : FeedAt H p) (h : p ≠ a) : FeedAt (upd H a o) p := by
  obtain ⟨x, y, z, e⟩ := F
  exact ⟨x, y, z, by rw [upd_ne h]; exact e⟩
theorem Nat.ofI {r : Int} (h : 0 ≤ r) : ∃ n : Nat, r = (n : Int) := ⟨r.toNat, by omega⟩
/-- what names there may be -/
def Names (m : Nat) (nm : List Str) : Prop := nm.length = m ∧ nm.Nodup ∧ ∀ x ∈ nm, x ∈ names12
theorem ix_ok : ∀ st < 12, ∀ sp ∈ [1, 5, 7, 11], ∀ m < 13, ((List.range m).map fun k => (st + sp * k) % 12).Nodup := by decide +kernel
theorem names12_nd : names12.Nodup := by decide +kernel
theorem names_ok {st sp m : Nat} (h1 : st < 12) (h2 : sp ∈ [1, 5, 7, 11]) (h3 : m < 13) : ((List.range m).map (nmOf st sp)).Nodup := by
  have h := ix_ok st h1 sp h2 m h3
  have e : (List.range m).map (nmOf st sp) = ((List.range m).map fun k => (st + sp * k) % 12).map fun j => names12.getD j "" := by
    rw [List.map_map]
    rfl
  rw [e]
  refine List.Pairwise.map _ (R := fun a b => a ≠ b ∧ a < 12 ∧ b < 12) (fun a b ⟨hab, ha, hb⟩ hc => ?_) ?_
  · have hl : names12.length = 12 := rfl
    simp only [List.getD_eq_getElem?_getD, List.getElem?_eq_getElem (show a < names12.length by omega), List.getElem?_eq_getElem (show b < names12.length by omega), Option.getD_some] at hc
    exact hab ((List.getElem_inj names12_nd).mp hc)
  · refine List.Pairwise.imp_of_mem (R := fun a b => a ≠ b) (fun {a b} ha hb hab => ⟨hab, ?_, ?_⟩) h
    · obtain ⟨k, _, rfl⟩ := List.mem_map.mp ha
      omega
    · obtain ⟨k, _, rfl⟩ := List.mem_map.mp hb
      omega
theorem names_in {st sp m : Nat} : ∀ x ∈ (List.range m).map (nmOf st sp), x ∈ names12 := fun x hx => by
  obtain ⟨k, _, rfl⟩ := List.mem_map.mp hx
  show names12.getD ((st + sp * k) % 12) "" ∈ names12
  have hl : names12.length = 12 := rfl
  have hk : (st + sp * k) % 12 < names12.length := by omega
  rw [List.getD_eq_getElem?_getD, List.getElem?_eq_getElem hk]
  exact List.getElem_mem hk
def spNames : Sp := fun vs H Q _ => ∃ (p : Addr) (m : Nat), vs = [.ref p, .int m] ∧ FeedAt H p ∧ 0 < m ∧ m ≤ 12 ∧ ∀ (l : Addr) (nm : List Str) (H' : Hp), H l = none → Names m nm → FeedAt H' p → But p H H' → H' l = some (.lst (nm.map V.str)) → Q (.ref l) H'
section
variable {P : Program} {w : World} {K : PySem.W.Frag} {mg : Str → Option Value} {base : Heap}
abbrev nNames : List Str := ["_law_feed_here", "_law_many", "_law_some", "_law_start", "_law_step"]
theorem nmNames : Nm nNames (defScope sNames) := ⟨by decide +kernel, by decide +kernel⟩
theorem scNames : FnScope nNames ["_law_feed_here", "_law_many"] (defScope sNames) := ⟨rfl, rfl, rfl, by decide +kernel, rfl, by decide +kernel, by decide +kernel⟩
/-- the scope of the comprehension in the n-th statement, as a value that is returned -/
def retComp (s : Stmt) : Scope := match s with
  | .Return (some (.ListComp _ _ sc _)) _ => sc
  | _ => { kind := .function, names := [], isGenerator := false, isCoroutine := false }
abbrev cNames : Scope := retComp ((defBody sNames).getD 3 (.Pass ⟨0, 0, 0, 0⟩))
theorem bsNames : BScope (defScope sNames) cNames ["_law_k"] ["_law_some", "_law_start", "_law_step"] [] := { okind := by decide +kernel, kind := by decide +kernel, nocell := by decide +kernel, names := by decide +kernel, fr := by decide +kernel, ff := by decide +kernel, nd := by decide +kernel, vis := by decide +kernel, loc := by decide +kernel, gl := by decide +kernel }
set_option maxHeartbeats 200000 in
theorem ok_names {f : Addr} {fd : FuncData} (hrange : mg "range" = none) (D : Has P w K mg base 1 "_law_draw" ["_law_feed_here", "_law_many"] spDraw) (F : Fun K "_law_names" "_law_names" sNames f fd) : FnOk P w K mg base CX0 2 f fd ["_law_feed_here", "_law_many"] spNames := by
  refine F.ok scNames (fun vs H Q E h => ?_) (fun cdv A outer s H vs Q E hr h => ?_)
  · obtain ⟨p, m, rfl, _⟩ := h
    rfl
  · obtain ⟨p, m, rfl, hF, h1, h8, k⟩ := h
    refine' ⟨_, ?hb, ?rd⟩
    case hb =>
      refine' pss_cons ?s1 ?r1
      case' r1 => refine' pss_cons ?s2 ?r2
      case' r2 => refine' pss_cons ?s3 ?r3
      case' r3 => refine' pss_one ?s4
      case s1 =>
        refine' ps_setD nmNames 2 ?p1
        case p1 =>
          refine pe_lstC (vs := names12.map V.str) ?_
          decide +kernel
      case s2 =>
        refine' ps_setD nmNames 3 ?p2
        case p2 => exact pe_fn D hr (by decide) (pa_cons (pvd nmNames 0) (pa_cons pe_int pa_nil))
      case s3 =>
        refine' ps_setD nmNames 4 ?p3
        case p3 =>
          refine' pe_ix ix_d ?a3 (pe_fn D hr (by decide) (pa_cons (pvd nmNames 0) (pa_cons pe_int pa_nil))) (fun _ _ => rfl)
          case a3 =>
            refine pe_lstC (vs := [.int 1, .int 5, .int 7, .int 11]) ?_
            decide +kernel
      case s4 =>
        refine' ps_ret ?p4
        case p4 =>
          refine' pe_comp (ix := [2, 3, 4]) bsNames.toCScope rfl rfl ?h3 ?h4 ?h5 ?h6
          case h3 => exact pi_range1 rfl hrange (pa_cons (pvd nmNames 1) pa_nil)
          case h4 => exact fun _ _ _ _ _ _ => pgb bsNames 0
          case h5 => exact fun _ _ _ _ _ _ => pts_nil
          case h6 => exact fun _ _ _ _ _ _ => pe_ix ix_d (pvb bsNames 1) (pe_op op_mod (pe_op op_add (pvb bsNames 2) (pe_op op_mul (pvb bsNames 3) (pvb bsNames 0))) pe_int) (fun _ _ => rfl)
    case rd =>
      walk_at "v"
      refine ⟨by show 12 ≤ sizeLine; decide, fun a1 ha1 => ?_⟩
      walk_at "v"
      refine ⟨p, 12, rfl, hF.new (hF.ne ha1), by decide, by decide, fun r x y z r0 r1 => ?_⟩
      walk_at "v"
      refine ⟨by show 4 ≤ sizeLine; decide, fun a2 ha2 => ?_⟩
      walk_at "v"
      have np1 : p ≠ a1 := hF.ne ha1
      have np2 : p ≠ a2 := by
        intro e
        rw [← e, upd_same] at ha2
        cases ha2
      refine ⟨p, 4, rfl, FeedAt.here.new np2, by decide, by decide, fun r' x' y' z' r0' r1' => ?_⟩
      obtain ⟨st, rfl⟩ := Nat.ofI r0
      obtain ⟨j, rfl⟩ := Nat.ofI r0'
      obtain ⟨sp, hsp, hat⟩ : ∃ sp : Nat, sp ∈ [1, 5, 7, 11] ∧ atI ([.int 1, .int 5, .int 7, .int 11] : List V) (j : Int) = some (.int sp) := by
        have : j = 0 ∨ j = 1 ∨ j = 2 ∨ j = 3 := by omega
        rcases this with rfl | rfl | rfl | rfl
        · exact ⟨1, by decide, rfl⟩
        · exact ⟨5, by decide, rfl⟩
        · exact ⟨7, by decide, rfl⟩
        · exact ⟨11, by decide, rfl⟩
      refine w_ixL (by rw [upd_ne (Ne.symm np2), upd_same]) hat ?_
      walk_at "v"
      refine ⟨m, rfl, by omega, by omega, fun l hl => ?_⟩
      generalize hH3 : upd (upd (upd (upd H a1 (HO.lst (List.map V.str names12))) p (HO.lst [V.int x, V.int y, V.int z])) a2 (HO.lst [V.int 1, V.int 5, V.int 7, V.int 11])) p (HO.lst [V.int x', V.int y', V.int z']) = H3 at hl ⊢
      have hlp : l ≠ p := by
        intro e
        rw [e, ← hH3, upd_same] at hl
        cases hl
      have ha12 : a1 ≠ a2 := by
        intro e
        rw [← e, upd_ne (Ne.symm np1), upd_same] at ha2
        cases ha2
      have hl1 : l ≠ a1 := by
        intro e
        rw [e, ← hH3, upd_ne (Ne.symm np1), upd_ne ha12, upd_ne (Ne.symm np1), upd_same] at hl
        cases hl
      have hl2 : l ≠ a2 := by
        intro e
        rw [e, ← hH3, upd_ne (Ne.symm np2), upd_same] at hl
        cases hl
      have h3s : H3 a1 = some (.lst (names12.map V.str)) := by
        rw [← hH3, upd_ne (Ne.symm np1), upd_ne ha12, upd_ne (Ne.symm np1), upd_same]
      refine cgo_range (ρ := [some (.ref a1), some (.int st), some (.int sp)]) (fun i ys H' => ys = ((List.range i).map (nmOf st sp)).map V.str ∧ H' = upd H3 l (.lst ys)) ⟨rfl, rfl⟩ ?_ ?_
      · rintro i ys H' hi ⟨rfl, rfl⟩ hD R S kR _
        walk_at "v"
        refine w_rI (mulL (by omega) (by simp only [List.mem_cons, List.not_mem_nil, or_false] at hsp; omega)) ?_
        walk_at "v"
        refine w_rI (by decide) ?_
        have e1 : ((st : Int) + (sp : Int) * (0 + (i : Int))) % 12 = (((st + sp * i) % 12 : Nat) : Int) := by
          rw [Int.zero_add]
          norm_cast
        rw [e1]
        refine w_ixL (v := .str (nmOf st sp i)) (by rw [upd_ne (Ne.symm hl1)]; exact h3s) (atI_nat ?_) ?_
        · rw [List.getElem?_map]
          unfold nmOf
          have hlt : (st + sp * i) % 12 < names12.length := Nat.mod_lt _ (by decide)
          rw [List.getD_eq_getElem?_getD, List.getElem?_eq_getElem hlt]
          rfl
        · refine kR _ _ hD (by simp only [List.length_map, List.length_range]; exact small1000 (by omega)) ⟨?_, upd_upd⟩
          rw [List.range_succ, List.map_append, List.map_append]
          rfl
      · rintro ys H' ⟨rfl, rfl⟩ hD
        refine k l ((List.range m).map (nmOf st sp)) _ ?_ ⟨by simp, names_ok (by omega) hsp (by omega), names_in⟩ ?_ ?_ upd_same
        · cases e : H l with
          | none => rfl
          | some o =>
            rw [← hH3, upd_ne hlp, upd_ne hl2, upd_ne hlp, upd_ne hl1, e] at hl
            cases hl
        · rw [← hH3]
          exact FeedAt.here.new (Ne.symm hlp)
        · intro q o e hq
          have hq1 : q ≠ a1 := ne_of_none e ha1
          have hq2 : q ≠ a2 := by
            intro z
            rw [← z, upd_ne hq, upd_ne hq1, e] at ha2
            cases ha2
          have hql : q ≠ l := by
            intro z
            rw [← z, ← hH3, upd_ne hq, upd_ne hq2, upd_ne hq, upd_ne hq1, e] at hl
            cases hl
          rw [upd_ne hql, ← hH3, upd_ne hq, upd_ne hq2, upd_ne hq, upd_ne hq1]
          exact e
end
end K03

set_option Elab.async false
set_option linter.all false
set_option maxRecDepth 100000
namespace L2
open PySem PySem.Spec PyProof.Rows
/-! ### data: what a value reads as -/
mutual
inductive RdV (H : Hp) : V → PyData → Prop
  | non : RdV H .non .none
  | bl (b : Bool) : RdV H (.bl b) (.bool b)
  | int (i : Int) : RdV H (.int i) (.int i)
  | str (x : Str) : RdV H (.str x) (.str x)
  | lst {p : Addr} {xs : List V} {ds : List PyData} : H p = some (.lst xs) → RdVs H xs ds → RdV H (.ref p) (.list ds)
  | tup {p : Addr} {xs : List V} {ds : List PyData} : H p = some (.tup xs) → RdVs H xs ds → RdV H (.ref p) (.tuple ds)
  | ftup {p : Addr} {o : Obj} {xs : List V} {ds : List PyData} : H p = some (.frz o (.tup xs)) → RdVs H xs ds → RdV H (.ref p) (.tuple ds)
inductive RdVs (H : Hp) : List V → List PyData → Prop
  | nil : RdVs H [] []
  | cons {v : V} {d : PyData} {vs : List V} {ds : List PyData} : RdV H v d → RdVs H vs ds → RdVs H (v :: vs) (d :: ds)
end
section
variable {X : Cx} {pins : List (Addr × Obj)} {σ : St} {H : Hp} {s : Shared}
mutual
theorem RdV.reads (I : Inv X pins σ H s) {v : V} {d : PyData} : RdV H v d → ∀ {u : Value}, RelV v u → ∃ as, Reads s.heap u d as
  | .non, u, r => by
    cases r
    exact ⟨[], .none⟩
  | .bl b, u, r => by
    cases r
    exact ⟨[], .bool b⟩
  | .int i, u, r => by
    obtain ⟨t, rfl⟩ := r
    exact ⟨[], .int i t⟩
  | .str x, u, r => by
    obtain ⟨t, rfl⟩ := r
    exact ⟨[], .str x t⟩
  | .lst (p := p) hp h, u, r => by
    cases r
    obtain ⟨its, n, rv, e, z⟩ := I.lst hp
    obtain ⟨as, q⟩ := RdVs.reads I h rv
    exact ⟨p :: as, .list e rfl rfl (by simpa using q)⟩
  | .tup (p := p) hp h, u, r => by
    cases r
    obtain ⟨z, its, rv, o, e, c, n, d⟩ := I.hok p _ hp
    obtain ⟨as, q⟩ := RdVs.reads I h rv
    exact ⟨as, .tuple e c d (by simpa using q)⟩
  | .ftup (p := p) hp h, u, r => by
    cases r
    obtain ⟨_, z, its, rv, o, e, c, n, d⟩ := I.hok p _ hp
    obtain ⟨as, q⟩ := RdVs.reads I h rv
    exact ⟨as, .tuple e c d (by simpa using q)⟩
theorem RdVs.reads (I : Inv X pins σ H s) {vs : List V} {ds : List PyData} : RdVs H vs ds → ∀ {us : List Value}, Vals vs us → ∃ as, ReadsAll s.heap us ds as
  | .nil, us, r => by
    cases r
    exact ⟨[], .nil⟩
  | .cons h hs, us, r => by
    cases r with
    | cons r1 r2 =>
      obtain ⟨as, q⟩ := RdV.reads I h r1
      obtain ⟨bs, q2⟩ := RdVs.reads I hs r2
      exact ⟨as ++ bs, .cons q q2⟩
end
end
theorem rdInts {H : Hp} : ∀ (ns : List Int), RdVs H (ns.map V.int) (ns.map PyData.int)
  | [] => .nil
  | n :: ns => .cons (.int n) (rdInts ns)
end L2
namespace L2
open PySem PySem.Spec PyProof.Rows
section
variable {X : Cx} {k : Nat}
def rEqD : R2 := fun x y H Q => ∃ dx dy, RdV H x dx ∧ RdV H y dy ∧ dx.canLay0 = true ∧ dy.canLay0 = true ∧ dx.depth ≤ 60 ∧ Q (.bl (PyData.eqv dx dy)) H
theorem op_eqD (hr : Room k X.A) : OpR X (compareOp .Eq) rEqD := by
  intro pins s σ H x y v u Q I rx ry h
  obtain ⟨dx, dy, hx, hy, cx, cy, hd, q⟩ := h
  obtain ⟨as, ra⟩ := hx.reads I rx
  obtain ⟨bs, rb⟩ := hy.reads I ry
  have := hr.units
  exact SeqAt.compareEq_reads ra rb cx cy (by omega) ⟨.bl _, H, I, rfl, q⟩
def rRepr : List V → Hp → VK → Prop := fun xs H Q => ∃ v d, xs = [v] ∧ RdV H v d ∧ d.showable = true ∧ d.hasDict = false ∧ d.depth ≤ 50 ∧ d.shown.length ≤ sizeLine ∧ Q (.str d.shown) H
theorem call_repr (hr : Room k X.A) : CallR X (.builtin "repr") rRepr := by
  intro pins s σ H xs us Q I r h
  obtain ⟨v, d, rfl, hv, h1, h2, h3, h4, q⟩ := h
  obtain ⟨u, rfl, ru⟩ := r.one
  have hu := hr.units
  cases hv with
  | non =>
    cases ru
    exact PySem.P.repr_of_none ⟨.str _, H, I.tok _, ⟨_, rfl⟩, q⟩
  | bl b =>
    cases ru
    exact PySem.P.repr_of_bool ⟨.str _, H, I.tok _, ⟨_, rfl⟩, q⟩
  | int i =>
    obtain ⟨t, rfl⟩ := ru
    exact PySem.P.repr_of_int (by simpa [PyData.showable] using h1) ⟨.str _, H, I.tok _, ⟨_, rfl⟩, q⟩
  | str x =>
    obtain ⟨t, rfl⟩ := ru
    exact PySem.P.repr_of_str ⟨.str _, H, I.tok _, ⟨_, rfl⟩, q⟩ h4
  | lst hp hs =>
    obtain ⟨as, ra⟩ := RdV.reads I (.lst hp hs) ru
    cases ru
    exact repr_of_reads' ra h1 (fun z => by rw [h2] at z; cases z) hr.gd (by omega) (fun _ _ e => e) (fun h' u tk hk => ⟨.str _, H, I.kept hk, ⟨_, rfl⟩, q⟩) h4
  | tup hp hs =>
    obtain ⟨as, ra⟩ := RdV.reads I (.tup hp hs) ru
    cases ru
    exact repr_of_reads' ra h1 (fun z => by rw [h2] at z; cases z) hr.gd (by omega) (fun _ _ e => e) (fun h' u tk hk => ⟨.str _, H, I.kept hk, ⟨_, rfl⟩, q⟩) h4
  | ftup hp hs =>
    obtain ⟨as, ra⟩ := RdV.reads I (.ftup hp hs) ru
    cases ru
    exact repr_of_reads' ra h1 (fun z => by rw [h2] at z; cases z) hr.gd (by omega) (fun _ _ e => e) (fun h' u tk hk => ⟨.str _, H, I.kept hk, ⟨_, rfl⟩, q⟩) h4
end
end L2
namespace L2
open PySem PySem.Spec PyProof.Rows
theorem eqv_ints : ∀ (ns ms : List Int), PyData.eqvAll (ns.map PyData.int) (ms.map PyData.int) = decide (ns = ms)
  | [], [] => by simp only [List.map_nil, PyData.eqvAll, decide_true]
  | [], m :: ms => by simp [PyData.eqvAll]
  | n :: ns, [] => by simp [PyData.eqvAll]
  | n :: ns, m :: ms => by
    simp only [List.map_cons, PyData.eqvAll, PyData.eqv, eqv_ints ns ms]
    by_cases h : n = m
    · subst h; simp
    · simp [h]
theorem lay_ints : ∀ (ns : List Int), PyData.canLayAll0 (ns.map PyData.int) = true
  | [] => rfl
  | n :: ns => by simp [PyData.canLayAll0, PyData.canLay0, lay_ints ns]
theorem depth_ints : ∀ (ns : List Int), PyData.depthAll (ns.map PyData.int) = 0
  | [] => rfl
  | n :: ns => by simp [PyData.depthAll, PyData.depth, depth_ints ns]
/-- two lists of ints -/
theorem w_eqL {H : Hp} {Q : VK} {p q : Addr} {ns ms : List Int} (hp : H p = some (.lst (ns.map V.int))) (hq : H q = some (.lst (ms.map V.int))) (h : Q (.bl (decide (ns = ms))) H) : rEqD (.ref p) (.ref q) H Q := by
  refine ⟨_, _, .lst hp (rdInts ns), .lst hq (rdInts ms), lay_ints ns, lay_ints ms, ?_, ?_⟩
  · show PyData.depthAll _ + 1 ≤ 60
    rw [depth_ints]
    decide
  · show Q (.bl (PyData.eqvAll _ _)) H
    rw [eqv_ints]
    exact h
end L2
namespace L2
open PySem PySem.Spec PyProof.Rows
section
variable {X : Cx}
theorem vals_of : ∀ {xs : List V} {us : List Value}, xs.length = us.length → (∀ (j : Nat) (x : V) (u : Value), xs[j]? = some x → us[j]? = some u → RelV x u) → Vals xs us
  | [], [], _, _ => .nil
  | [], v :: vs, h, _ => absurd h (by simp)
  | v :: vs, [], h, _ => absurd h (by simp)
  | x :: xs, u :: us, h, k => .cons (k 0 x u rfl rfl) (vals_of (by simpa using h) fun j y v e1 e2 => k (j + 1) y v (by simpa using e1) (by simpa using e2))
/-- range(n), as a thing of its own -/
def rRange : List V → Hp → VK → Prop := fun xs H Q => ∃ j : Int, xs = [.int j] ∧ ∀ r, H r = none → Q (.ref r) (upd H r (.rng 0 j))
theorem call_rangeV : CallR X (.type "range") rRange := by
  intro pins s σ H xs us Q I r h
  obtain ⟨j, rfl, q⟩ := h
  obtain ⟨u, rfl, ru⟩ := r.one
  obtain ⟨t, rfl⟩ := ru
  refine call_range_1 ⟨.ref _, _, I.laid (fun b o e => Heap.get?_push_of_some _ e) (Nat.le_refl _) ?_, rfl, q _ I.fresh⟩
  exact ⟨_, _, _, Heap.get?_push_size _ rfl⟩
def rListR : List V → Hp → VK → Prop := fun xs H Q => ∃ (p : Addr) (n : Nat), xs = [.ref p] ∧ H p = some (.rng 0 (n : Int)) ∧ n ≤ 1000 ∧ ∀ l, H l = none → Q (.ref l) (upd H l (.lst ((List.range n).map fun (i : Nat) => V.int (i : Int))))
theorem call_listRng (hc : X.calm = true) : CallR X (.type "list") rListR := by
  intro pins s σ H xs us Q I r h
  obtain ⟨p, n, rfl, hp, hn, q⟩ := h
  obtain ⟨u, rfl, ru⟩ := r.one
  cases ru
  obtain ⟨t, u, v, e⟩ := I.hok p _ hp
  refine call_list_range (n := n) (I.ok.hd hc) e (small_one (by omega) (by omega) (by omega) (by omega)) (by rw [rangeSize_one]; split <;> omega) (by omega) fun h' tk acc' c' hk hS hacc => ?_
  refine ⟨.ref _, _, I.laid (t' := tk) hk (Nat.le_refl _) ?_, rfl, q _ I.fresh⟩
  obtain ⟨hsz, hit⟩ := hacc
  refine ⟨by rw [List.length_map, List.length_range]; exact Nat.le_of_lt (small1000 hn), acc'.toList, c', vals_of (by simp [hsz]) fun j x u ex eu => ?_, hS⟩
  have hj : j < n := by
    have := (List.getElem?_eq_some_iff.mp ex).1
    simpa using this
  rw [List.getElem?_map, List.getElem?_range hj] at ex
  have ex' : V.int (j : Int) = x := Option.some.inj ex
  subst ex'
  obtain ⟨t, ht⟩ := hit j u (by simpa using eu)
  exact ⟨t, by rw [ht]; congr 1; omega⟩
end
end L2

set_option Elab.async false
set_option linter.all false
set_option maxRecDepth 100000
namespace L2
open PySem PySem.Spec PyProof.Rows
section
variable {X : Cx}
def rSum : List V → Hp → VK → Prop := fun xs H Q => ∃ (p : Addr) (ns : List Int), xs = [.ref p] ∧ H p = some (.lst (ns.map V.int)) ∧ Q (.int ns.sum) H
end
end L2

set_option Elab.async false
set_option linter.all false
set_option maxRecDepth 100000
namespace L2
open PySem PySem.Spec PyProof.Rows
section
variable {prog : Program} {w : World} {A : Around} {E : Value → Shared → Prop} {s : Shared}
/-- the next of a tuple's iterator, as another iterator draws it -/
theorem nextT_item {j t : Addr} {i : Nat} {its : Array Value} {v : Value} {Q : Value → Shared → Prop} (J : s.heap.IsTupleIter j t i) (T : s.heap.IsTuple t its) (e : its[i]? = some v)
    (k : ∀ h', h'.IsTupleIter j t (i + 1) → Heap.SameBut j s.heap h' → Q v { s with heap := h' }) : wpAny (model prog w) A (Builtin.SmallTypes.nextOf (.ref j)) Q E s := by
  obtain ⟨o, ho, hc, hd⟩ := id J; obtain ⟨ot, hot, _, n, hdt⟩ := T
  unfold Builtin.SmallTypes.nextOf; refine wpAny_bind (wpAny_callSpecial?_slot (name := Str.ofString "__next__") J.typeIs F.slot_tuple_iterator_next (wpAny_call_entry F.slot_tuple_iterator_next J.typeIs F.entry_tuple_iterator_next ?_ (F.args_tuple_iterator_next_1 _)))
  show wpAny _ _ (field (.ref j) 0 >>= _) _ _ s; refine wpAny_bind (wpAny_field ho hd (x := .ref t) rfl ?_)
  show wpAny _ _ (if (Value.ref t == Value.none) = true then _ else _) _ _ s; rw [if_neg (show ¬ ((Value.ref t == Value.none) = true) from Bool.false_ne_true)]
  show wpAny _ _ (field (.ref j) 1 >>= _) _ _ s; refine wpAny_bind (wpAny_field ho hd (x := .int i 0) rfl ?_)
  show wpAny _ _ (seqItems? (.ref t) >>= _) _ _ s; refine wpAny_bind (wpAny_seqItems hot hdt ?_)
  simp only [Int.toNat_natCast, e]
  refine wpAny_bind (wpAny_setField ho hd (by simp) (wpAny_pure ⟨v, rfl, wpAny_pure (k _ ?_ (Heap.SameBut.update ..))⟩))
  exact ⟨_, Heap.get?_update_self _ ho (Obj.isFreed_of_fields (Obj.data_mapFields hd _)), (Obj.cls_mapFields ..).trans hc, by rw [Obj.data_mapFields hd]; simp [rawInt]⟩
theorem nextT_end {j t : Addr} {i : Nat} {its : Array Value} {Q : Value → Shared → Prop} (hh : A.handled = none) (J : s.heap.IsTupleIter j t i) (T : s.heap.IsTuple t its) (e : its[i]? = none)
    (k : ∀ h' x, Heap.ExtBut j s.heap h' → (∃ o, h'.get? x = some o ∧ o.cls = .type "StopIteration") → E (.ref x) { s with heap := h' }) : wpAny (model prog w) A (Builtin.SmallTypes.nextOf (.ref j)) Q E s := by
  obtain ⟨o, ho, hc, hd⟩ := id J; obtain ⟨ot, hot, _, n, hdt⟩ := T
  unfold Builtin.SmallTypes.nextOf; refine wpAny_bind (wpAny_callSpecial?_slot (name := Str.ofString "__next__") J.typeIs F.slot_tuple_iterator_next (wpAny_call_entry F.slot_tuple_iterator_next J.typeIs F.entry_tuple_iterator_next ?_ (F.args_tuple_iterator_next_1 _)))
  show wpAny _ _ (field (.ref j) 0 >>= _) _ _ s; refine wpAny_bind (wpAny_field ho hd (x := .ref t) rfl ?_)
  show wpAny _ _ (if (Value.ref t == Value.none) = true then _ else _) _ _ s; rw [if_neg (show ¬ ((Value.ref t == Value.none) = true) from Bool.false_ne_true)]
  show wpAny _ _ (field (.ref j) 1 >>= _) _ _ s; refine wpAny_bind (wpAny_field ho hd (x := .int i 0) rfl ?_)
  show wpAny _ _ (seqItems? (.ref t) >>= _) _ _ s; refine wpAny_bind (wpAny_seqItems hot hdt ?_)
  simp only [Int.toNat_natCast, e]; refine wpAny_bind (wpAny_rule (wpAny_bind (wpAny_setField ho hd (by simp) ?_)))
  show wpAny _ _ (newExc (.type "StopIteration") [] >>= _) _ _ _; refine wpAny_bind ?_; simp only [newExc, newTuple]
  refine wpAny_bind (wpAny_newObj_type ?_ (by size_fits)); refine wpAny_bind (m := firstArgMember _ _) (wpAny_of_eq (a := Value.none) (by first | rfl | (simp only [firstArgMember]; rfl)) ?_)
  refine wpAny_newObj_type ?_ (by size_fits); simp only [raiseNew]; refine wpAny_bind (wpAny_handled ?_)
  (first | rw [show A.in1.handled = none from hh] | rw [hh]); refine wpAny_bind (wpAny_pure (wpAny_throw ?_)); exact k _ _ (((Heap.SameBut.update ..).extBut.push _).push _) ⟨_, Heap.get?_push_size _ rfl, rfl⟩
end
end L2

set_option Elab.async false
set_option linter.all false
set_option maxRecDepth 100000
namespace L2
open PySem PySem.Spec PyProof.Rows
abbrev enuH (h : Heap) (t : Addr) : Heap := h.push { cls := .type "tuple_iterator", data := .fields #[.ref t, .int 0 0] }
abbrev enuH2 (h : Heap) (t : Addr) : Heap := (enuH h t).push { cls := .type "enumerate", data := .fields #[.none, .bool false, .ref h.objs.size, rawInt 0, .none, .none] }
section
variable {prog : Program} {w : World} {A : Around} {E : Value → Shared → Prop} {s : Shared}
end
end L2
namespace L2
open PySem PySem.Spec PyProof.Rows
section
variable {X : Cx} {pins : List (Addr × Obj)} {σ : St} {H : Hp} {s : Shared}
/-- records of ours have turned, and a new tuple is laid -/
theorem Inv.turnNew {h' : Heap} {tk : Nat} {ch : List Addr} {T : Addr} {xs : List V} {vals : List Value} (I : Inv X pins σ H s) (hf : ∀ b ∈ ch, FpOk X pins H b) (k : ∀ b o, b ∉ ch → s.heap.get? b = some o → h'.get? b = some o) (ht : ∀ b ∈ ch, ∃ o, h'.get? b = some o)
    (hT : s.heap.objs.size ≤ T) (r : Vals xs vals) (hz : xs.length ≤ sizeLine) (hv : h'.IsTuple T vals.toArray) : Inv X pins σ (upd H T (.tup xs)) { s with heap := h', toks := tk } := by
  have hn : H T = none := I.hok.fresh hT
  have nT : ∀ b o, s.heap.get? b = some o → b ≠ T := fun b o e z => absurd (Nat.lt_of_lt_of_le (Heap.lt_size e) (z ▸ hT)) (Nat.lt_irrefl _)
  have nc : ∀ b u, H b = some u → b ∉ ch := fun b u e z => by rw [(hf b z).1] at e; cases e
  refine I.step (g' := s.gens) (d' := s.drawn) (ch := ch) (fun b hb => ⟨(hf b hb).2.2.2.1, (hf b hb).2.1, (hf b hb).2.2.2.2.1, (hf b hb).2.2.2.2.2⟩) (fun b o _ _ hc e _ => k b o hc e) (fun b o _ _ hc e _ => ⟨o.slots, k b o hc e⟩)
    (fun b o _ e n => by rw [upd_ne (nT b o e)]; exact n) (fun b o hc e => ⟨o, k b o hc e⟩) (fun b ys e => by rw [upd_ne (ne_of_none e hn)]; exact e) (fun b o u e => by rw [upd_ne (ne_of_none e hn)]; exact e)
    (fun b ps e => ⟨#[], by rw [upd_ne (ne_of_none e hn), e]; simp⟩) (fun m hm => ?_) (fun b u e => ?_) I.bare
  · obtain ⟨o, es, ep, ho, q⟩ := hm
    exact ⟨o, es, ep, k _ o (fun z => (hf _ z).2.1 rfl) ho, q⟩
  · by_cases hb : b = T
    · subst hb
      rw [upd_same] at e
      cases e
      exact ⟨hz, vals, r, hv⟩
    · rw [upd_ne hb] at e
      refine (I.hok b u e).stay (fun c v hc q => k c v ?_ q) (fun c q => by rw [upd_ne (ne_of_none q hn)]; exact q) fun c ys q => by rw [upd_ne (ne_of_none q hn)]; exact q
      rcases hc with z | z
      · rw [z]; exact nc b u e
      · exact nc c _ z
/-- records of ours have turned -/
theorem Inv.turnOnly {h' : Heap} {tk : Nat} {ch : List Addr} (I : Inv X pins σ H s) (hf : ∀ b ∈ ch, FpOk X pins H b) (k : ∀ b o, b ∉ ch → s.heap.get? b = some o → h'.get? b = some o) : Inv X pins σ H { s with heap := h', toks := tk } := by
  have nc : ∀ b u, H b = some u → b ∉ ch := fun b u e z => by rw [(hf b z).1] at e; cases e
  refine I.step (g' := s.gens) (d' := s.drawn) (ch := ch) (fun b hb => ⟨(hf b hb).2.2.2.1, (hf b hb).2.1, (hf b hb).2.2.2.2.1, (hf b hb).2.2.2.2.2⟩) (fun b o _ _ hc e _ => k b o hc e) (fun b o _ _ hc e _ => ⟨o.slots, k b o hc e⟩)
    (fun b o _ e n => n) (fun b o hc e => ⟨o, k b o hc e⟩) (fun b ys e => e) (fun b o u e => e) (fun b ps e => ⟨#[], by rw [e]; simp⟩) (fun m hm => ?_) (fun b u e => ?_) I.bare
  · obtain ⟨o, es, ep, ho, q⟩ := hm
    exact ⟨o, es, ep, k _ o (fun z => (hf _ z).2.1 rfl) ho, q⟩
  · refine (I.hok b u e).stay (fun c v hc q => k c v ?_ q) (fun c q => q) fun c ys q => q
    rcases hc with z | z
    · rw [z]; exact nc b u e
    · exact nc c _ z
end
/-- enumerate over the tuple at a -/
def Ite (K : PySem.W.Frag) (a : Addr) : It :=
  ⟨fun i H => ∃ xs x, SqT K H a xs ∧ xs[i]? = some x, fun i H v H' => ∃ p x, v = .ref p ∧ H p = none ∧ H' = upd H p (.tup [.int (i : Int), x]) ∧ ∀ xs, SqT K H a xs → xs[i]? = some x, fun i H => ∃ xs, SqT K H a xs ∧ xs.length = i⟩

section
variable {X : Cx} {es : List Expr} {kt : Nat} {pt : Pos}
def iEnu (K : PySem.W.Frag) (ta : TA) : TI := fun σ H R => ta σ H fun vs H1 => ∃ a, vs = [.ref a] ∧ (∃ xs, SqT K H1 a xs) ∧ R (Ite K a) H1
end
end L2

set_option Elab.async false
set_option linter.all false
set_option maxRecDepth 100000
namespace L2
open PySem PySem.Spec PyProof.Rows
section
variable {prog : Program} {w : World} {A : Around} {E : Value → Shared → Prop} {s : Shared}
theorem tupX {h h' : Heap} {t a : Addr} {its : Array Value} (T : h.IsTuple t its) (x : Heap.ExtBut a h h') (n : t ≠ a) : h'.IsTuple t its := let ⟨o, e, r⟩ := T; ⟨o, x t o n e, r⟩
theorem tupJ {h h' : Heap} {j t a : Addr} {i : Nat} (J : h.IsTupleIter j t i) (x : Heap.ExtBut a h h') (n : j ≠ a) : h'.IsTupleIter j t i := J.at fun o e => x j o n e
/-- a zip of two tuples yields -/
theorem zipT_item {z TI TO i1 i2 l1 l2 : Addr} {k1 k2 : Nat} {xs ys : Array Value} {x y a b : Value} {Q : Value → Shared → Prop} (D : ZipApart z TI TO i1 i2 l1 l2) (hz : IsZip s.heap z TI TO .none) (hTI : IsPair s.heap TI (.ref i1) (.ref i2)) (hTO : IsPair s.heap TO a b)
    (h1 : s.heap.IsTupleIter i1 l1 k1) (h2 : s.heap.IsTupleIter i2 l2 k2) (hl1 : s.heap.IsTuple l1 xs) (hl2 : s.heap.IsTuple l2 ys) (hx : xs[k1]? = some x) (hy : ys[k2]? = some y)
    (hQ : ∀ h', IsZip h' z TI TO (rawInt s.heap.objs.size) → IsPair h' TO x y → h'.IsTupleIter i1 l1 (k1 + 1) → h'.IsTupleIter i2 l2 (k2 + 1) → IsPair h' s.heap.objs.size x y →
      (∀ d o, d ≠ z → d ≠ TO → d ≠ i1 → d ≠ i2 → s.heap.get? d = some o → h'.get? d = some o) → Q (.ref s.heap.objs.size) { s with heap := h' }) :
    wpAny (model prog w) A (Builtin.«zip.__next__» ⟨[.ref z], []⟩) (fun f s' => ∃ v, f = .done (.ret v) ∧ Q v s') E s := by
  show wpAny _ _ (field (.ref z) 2 >>= _) _ _ _; refine wpAny_bind (wpAny_field hz rfl (x := .bool false) rfl ?_)
  show wpAny _ _ (field (.ref z) 3 >>= _) _ _ _; refine wpAny_bind (wpAny_field hz rfl (x := .ref TI) rfl ?_)
  refine wpAny_bind (wpAny_seqItems hTI rfl ?_); show wpAny _ _ (Builtin.SmallTypes.ownedTupleIsFree (.ref z) >>= _) _ _ _
  refine wpAny_bind ?_; unfold Builtin.SmallTypes.ownedTupleIsFree
  refine wpAny_bind (wpAny_field hz rfl (x := .none) rfl (wpAny_pure ?_)); simp only [if_true]
  refine wpAny_bind (wpAny_rule ?_); refine wpAny_bind (wpAny_field hz rfl (x := .ref TO) rfl ?_)
  refine wpAny_bind (wpAny_setField_rec hz (by simp) fun g1 zz1 s1 => ?_); replace zz1 : IsZip g1 z TI TO .ellipsis := zz1
  refine wpAny_bind ?_; simp only [List.zipIdx_cons, List.zipIdx_nil, List.forIn_cons, List.forIn_nil]
  refine wpAny_bind (wpAny_bind (wpAny_onRaise ?_)); show wpAny _ _ (Builtin.SmallTypes.nextOf (.ref i1) >>= _) _ _ _
  refine wpAny_bind (nextT_item (tupJ h1 s1.extBut D.i1z) (tupX hl1 s1.extBut D.l1z) hx fun g2 j2 s2 => wpAny_pure ?_)
  have o2 : IsPair g2 TO a b := s2.extBut _ _ D.TOi1 (s1.extBut _ _ D.TOz hTO)
  refine wpAny_bind (wpAny_seqItems o2 rfl ?_); refine wpAny_bind (wpAny_updateSeq_pair o2 fun g3 o3 s3 => ?_); replace o3 : IsPair g3 TO x b := o3
  refine wpAny_bind (wpAny_letGo (wpAny_pure ?_)); refine wpAny_bind (wpAny_bind (wpAny_onRaise ?_)); show wpAny _ _ (Builtin.SmallTypes.nextOf (.ref i2) >>= _) _ _ _
  refine wpAny_bind (nextT_item (tupJ (tupJ (tupJ h2 s1.extBut D.i2z) s2.extBut D.i12.symm) s3.extBut D.TOi2.symm) (tupX (tupX (tupX hl2 s1.extBut D.l2z) s2.extBut D.l2i1) s3.extBut D.l2TO) hy fun g4 j4 s4 => wpAny_pure ?_)
  have o4 : IsPair g4 TO x b := s4.extBut _ _ D.TOi2 o3
  refine wpAny_bind (wpAny_seqItems o4 rfl ?_); refine wpAny_bind (wpAny_updateSeq_pair o4 fun g5 o5 s5 => ?_); replace o5 : IsPair g5 TO x y := o5
  refine wpAny_bind (wpAny_letGo (wpAny_pure (wpAny_pure ?_))); refine wpAny_bind (wpAny_seqItems o5 rfl ?_); refine wpAny_bind (wpAny_newTuple ?_)
  have sz : g5.objs.size = s.heap.objs.size := by rw [s5.1, s4.1, s3.1, s2.1, s1.1]
  have z5 : IsZip g5 z TI TO .ellipsis := s5.extBut _ _ D.TOz.symm (s4.extBut _ _ D.i2z.symm (s3.extBut _ _ D.TOz.symm (s2.extBut _ _ D.i1z.symm zz1)))
  have k5 : ∀ c o, c ≠ z → c ≠ TO → c ≠ i1 → c ≠ i2 → s.heap.get? c = some o → g5.get? c = some o := fun c o c1 c2 c3 c4 q => s5.extBut _ _ c2 (s4.extBut _ _ c4 (s3.extBut _ _ c2 (s2.extBut _ _ c3 (s1.extBut _ _ c1 q))))
  have a5 : g5.IsTupleIter i1 l1 (k1 + 1) := tupJ (tupJ (tupJ j2 s3.extBut D.TOi1.symm) s4.extBut D.i12) s5.extBut D.TOi1.symm
  have b5 : g5.IsTupleIter i2 l2 (k2 + 1) := tupJ j4 s5.extBut D.TOi2.symm
  have zlt : z < g5.objs.size := Heap.lt_size z5
  show wpAny _ _ (Builtin.SmallTypes.ownedTupleHandOut (.ref z) (.ref g5.objs.size) >>= _) _ _ _; refine wpAny_bind ?_; unfold Builtin.SmallTypes.ownedTupleHandOut
  have z6 : IsZip (g5.push { cls := .type "tuple", data := .seq #[x, y] }) z TI TO .ellipsis := Heap.get?_push_of_some _ z5
  refine wpAny_bind (wpAny_setField_rec z6 (by simp) fun g7 z7 s7 => ?_); replace z7 : IsZip g7 z TI TO (rawInt g5.objs.size) := z7
  refine wpAny_setField_rec z7 (by simp) fun g8 z8 s8 => ?_; replace z8 : IsZip g8 z TI TO (rawInt g5.objs.size) := z8
  have up : ∀ c o, c ≠ z → g5.get? c = some o → g8.get? c = some o := fun c o c1 q => s8.extBut _ _ c1 (s7.extBut _ _ c1 (Heap.get?_push_of_some _ q))
  have t8 : IsPair g8 g5.objs.size x y := s8.extBut _ _ (Nat.ne_of_gt zlt) (s7.extBut _ _ (Nat.ne_of_gt zlt) (Heap.get?_push_size _ rfl))
  rw [sz] at z8 t8; refine wpAny_pure ⟨_, rfl, ?_⟩; show Q (.ref g5.objs.size) _; rw [sz]
  exact hQ g8 z8 (up _ _ D.TOz o5) (a5.at fun o q => up _ o D.i1z q) (b5.at fun o q => up _ o D.i2z q) t8 fun c o c1 c2 c3 c4 q => up c o c1 (k5 c o c1 c2 c3 c4 q)
/-- .. and ends -/
theorem zipT_end {z TI TO i1 i2 l1 l2 : Addr} {k1 k2 : Nat} {xs ys : Array Value} {a b : Value} {Q : Fin → Shared → Prop} (hh : A.handled = none) (D : ZipApart z TI TO i1 i2 l1 l2) (hz : IsZip s.heap z TI TO .none) (hTI : IsPair s.heap TI (.ref i1) (.ref i2)) (hTO : IsPair s.heap TO a b)
    (h1 : s.heap.IsTupleIter i1 l1 k1) (h2 : s.heap.IsTupleIter i2 l2 k2) (hl1 : s.heap.IsTuple l1 xs) (hl2 : s.heap.IsTuple l2 ys) (hend : xs[k1]? = none ∨ ys[k2]? = none)
    (hE : ∀ h' e, (∀ d o, d ≠ z → d ≠ TO → d ≠ i1 → d ≠ i2 → s.heap.get? d = some o → h'.get? d = some o) → (∃ o, h'.get? e = some o ∧ o.cls = .type "StopIteration") → E (.ref e) { s with heap := h' }) : wpAny (model prog w) A (Builtin.«zip.__next__» ⟨[.ref z], []⟩) Q E s := by
  show wpAny _ _ (field (.ref z) 2 >>= _) _ _ _; refine wpAny_bind (wpAny_field hz rfl (x := .bool false) rfl ?_)
  show wpAny _ _ (field (.ref z) 3 >>= _) _ _ _; refine wpAny_bind (wpAny_field hz rfl (x := .ref TI) rfl ?_)
  refine wpAny_bind (wpAny_seqItems hTI rfl ?_); show wpAny _ _ (Builtin.SmallTypes.ownedTupleIsFree (.ref z) >>= _) _ _ _
  refine wpAny_bind ?_; unfold Builtin.SmallTypes.ownedTupleIsFree
  refine wpAny_bind (wpAny_field hz rfl (x := .none) rfl (wpAny_pure ?_)); simp only [if_true]
  refine wpAny_bind (wpAny_rule ?_); refine wpAny_bind (wpAny_field hz rfl (x := .ref TO) rfl ?_)
  refine wpAny_bind (wpAny_setField_rec hz (by simp) fun g1 zz1 s1 => ?_); replace zz1 : IsZip g1 z TI TO .ellipsis := zz1
  refine wpAny_bind ?_; simp only [List.zipIdx_cons, List.zipIdx_nil, List.forIn_cons, List.forIn_nil]
  refine wpAny_bind (wpAny_bind (wpAny_onRaise ?_)); show wpAny _ _ (Builtin.SmallTypes.nextOf (.ref i1) >>= _) _ _ _
  cases hx : xs[k1]? with
  | none =>
    refine wpAny_bind (nextT_end hh (tupJ h1 s1.extBut D.i1z) (tupX hl1 s1.extBut D.l1z) hx fun g2 e s2 he => ?_)
    obtain ⟨oe, hoe, hce⟩ := he; have z2 : IsZip g2 z TI TO .ellipsis := s2 _ _ D.i1z.symm zz1
    have ez : e ≠ z := fun q => by subst q; rw [z2] at hoe; cases hoe; simp at hce
    refine wpAny_setField_rec z2 (by simp) fun g3 _ s3 => hE g3 e (fun c o c1 _ c3 _ q => s3.extBut _ _ c1 (s2 _ _ c3 (s1.extBut _ _ c1 q))) ⟨oe, s3.extBut _ _ ez hoe, hce⟩
  | some x =>
    have hy : ys[k2]? = none := by rcases hend with q | q; rw [hx] at q; cases q; exact q
    refine wpAny_bind (nextT_item (tupJ h1 s1.extBut D.i1z) (tupX hl1 s1.extBut D.l1z) hx fun g2 j2 s2 => wpAny_pure ?_)
    have o2 : IsPair g2 TO a b := s2.extBut _ _ D.TOi1 (s1.extBut _ _ D.TOz hTO)
    refine wpAny_bind (wpAny_seqItems o2 rfl ?_); refine wpAny_bind (wpAny_updateSeq_pair o2 fun g3 o3 s3 => ?_); refine wpAny_bind (wpAny_letGo (wpAny_pure ?_))
    refine wpAny_bind (wpAny_bind (wpAny_onRaise ?_)); show wpAny _ _ (Builtin.SmallTypes.nextOf (.ref i2) >>= _) _ _ _
    refine wpAny_bind (nextT_end hh (tupJ (tupJ (tupJ h2 s1.extBut D.i2z) s2.extBut D.i12.symm) s3.extBut D.TOi2.symm) (tupX (tupX (tupX hl2 s1.extBut D.l2z) s2.extBut D.l2i1) s3.extBut D.l2TO) hy fun g4 e s4 he => ?_)
    obtain ⟨oe, hoe, hce⟩ := he; have z4 : IsZip g4 z TI TO .ellipsis := s4 _ _ D.i2z.symm (s3.extBut _ _ D.TOz.symm (s2.extBut _ _ D.i1z.symm zz1))
    have ez : e ≠ z := fun q => by subst q; rw [z4] at hoe; cases hoe; simp at hce
    refine wpAny_setField_rec z4 (by simp) fun g5 _ s5 => hE g5 e (fun c o c1 c2 c3 c4 q => s5.extBut _ _ c1 (s4 _ _ c4 (s3.extBut _ _ c2 (s2.extBut _ _ c3 (s1.extBut _ _ c1 q))))) ⟨oe, s5.extBut _ _ ez hoe, hce⟩
end
end L2
namespace L2
open PySem PySem.Spec PyProof.Rows
abbrev zpH1 (h : Heap) (a : Addr) : Heap := h.push { cls := .type "tuple_iterator", data := .fields #[.ref a, .int 0 0] }
abbrev zpH2 (h : Heap) (a b : Addr) : Heap := (zpH1 h a).push { cls := .type "tuple_iterator", data := .fields #[.ref b, .int 0 0] }
abbrev zpH3 (h : Heap) (a b : Addr) : Heap := (zpH2 h a b).push { cls := .type "tuple", data := .seq #[.ref h.objs.size, .ref (zpH1 h a).objs.size] }
abbrev zpH4 (h : Heap) (a b : Addr) : Heap := (zpH3 h a b).push { cls := .type "tuple", data := .seq #[.none, .none] }
abbrev zpH5 (h : Heap) (a b : Addr) : Heap := (zpH4 h a b).push { cls := .type "zip", data := .fields #[.none, .bool false, .bool false, .ref (zpH2 h a b).objs.size, .ref (zpH3 h a b).objs.size] }
/-- zip(a, b), both tuples -/
theorem zp_new (a b : Addr) (xs ys : Array Value) : Meets (Builtin.«zip.__new__» ⟨[.type "zip", .ref a, .ref b], []⟩) (fun _ R s => s.heap.IsTuple a xs ∧ s.heap.IsTuple b ys ∧ R (.ok (.ret (.ref (zpH4 s.heap a b).objs.size))) { s with heap := zpH5 s.heap a b }) :=
  .of_wp fun prog w A R s h => by
    obtain ⟨hp, g, d, tk, os⟩ := s; obtain ⟨hA, hB, h⟩ := h; have hsub := sub_zip
    have tA : Heap.IsTuple (Shared.heap ⟨hp, g, d, tk, os⟩) a xs := hA
    have tB : Heap.IsTuple (Shared.heap ⟨hp.push { cls := .type "tuple_iterator", data := .fields #[.ref a, .int 0 0] }, g, d, tk, os⟩) b ys := let ⟨o, e, r⟩ := hB; ⟨o, Heap.get?_push_of_some _ e, r⟩
    wp_walk using wpAny_pyIter_tuple tA, wpAny_pyIter_tuple tB
    exact ⟨_, rfl, h⟩
section
variable {prog : Program} {w : World} {A : Around} {E : Value → Shared → Prop} {s : Shared}
theorem call_zp {a b : Addr} {xs ys : Array Value} {Q : Value → Shared → Prop} (hA : s.heap.IsTuple a xs) (hB : s.heap.IsTuple b ys)
    (k : ∀ h', IsZip h' (s.heap.objs.size + 4) (s.heap.objs.size + 2) (s.heap.objs.size + 3) .none → IsPair h' (s.heap.objs.size + 2) (.ref s.heap.objs.size) (.ref (s.heap.objs.size + 1)) → IsPair h' (s.heap.objs.size + 3) .none .none →
      h'.IsTupleIter s.heap.objs.size a 0 → h'.IsTupleIter (s.heap.objs.size + 1) b 0 → (∀ c o, s.heap.get? c = some o → h'.get? c = some o) → Q (.ref (s.heap.objs.size + 4)) { s with heap := h' }) :
    wpAny (model prog w) A (call (.type "zip") [.ref a, .ref b]) Q E s := by
  refine callType_new F.called_zip (by decide) (F.typeCall_zip_2 _ _) (F.newCall_zip_2 _ _) (fun obj => F.args_object_init_3 obj _ _) F.entry_zip_new (zp_new a b xs ys) ⟨hA, hB, ?_⟩
  have z1 : (zpH1 s.heap a).objs.size = s.heap.objs.size + 1 := Heap.size_push ..
  have z2 : (zpH2 s.heap a b).objs.size = s.heap.objs.size + 2 := by rw [Heap.size_push, z1]
  have z3 : (zpH3 s.heap a b).objs.size = s.heap.objs.size + 3 := by rw [Heap.size_push, z2]
  have z4 : (zpH4 s.heap a b).objs.size = s.heap.objs.size + 4 := by rw [Heap.size_push, z3]
  have g5 : (zpH5 s.heap a b).get? (zpH4 s.heap a b).objs.size = some _ := Heap.get?_push_size _ rfl
  have g4 : (zpH5 s.heap a b).get? (zpH3 s.heap a b).objs.size = some _ := Heap.get?_push_of_some _ (Heap.get?_push_size _ rfl)
  have g3 : (zpH5 s.heap a b).get? (zpH2 s.heap a b).objs.size = some _ := Heap.get?_push_of_some _ (Heap.get?_push_of_some _ (Heap.get?_push_size _ rfl))
  have g2 : (zpH5 s.heap a b).get? (zpH1 s.heap a).objs.size = some _ := Heap.get?_push_of_some _ (Heap.get?_push_of_some _ (Heap.get?_push_of_some _ (Heap.get?_push_size _ rfl)))
  have g1 : (zpH5 s.heap a b).get? s.heap.objs.size = some _ := Heap.get?_push_of_some _ (Heap.get?_push_of_some _ (Heap.get?_push_of_some _ (Heap.get?_push_of_some _ (Heap.get?_push_size _ rfl))))
  show _ ∧ _
  rw [z2, z3, z4] at g5; rw [z1, z2] at g3; rw [z3] at g4; rw [z1] at g2
  have kk : ∀ c o, s.heap.get? c = some o → (zpH5 s.heap a b).get? c = some o := fun c o q => Heap.get?_push_of_some _ (Heap.get?_push_of_some _ (Heap.get?_push_of_some _ (Heap.get?_push_of_some _ (Heap.get?_push_of_some _ q))))
  rw [z4]
  exact ⟨⟨_, g5, rfl⟩, k _ g5 g3 g4 ⟨_, g1, rfl, rfl⟩ ⟨_, g2, rfl, rfl⟩ kk⟩
end
end L2

set_option Elab.async false
set_option linter.all false
set_option maxRecDepth 100000
namespace L2
open PySem PySem.Spec PyProof.Rows
/-- zip over the tuples at a and b -/
def Itz (K : PySem.W.Frag) (a b : Addr) : It :=
  ⟨fun i H => ∃ xs ys x y, SqT K H a xs ∧ SqT K H b ys ∧ xs[i]? = some x ∧ ys[i]? = some y, fun i H v H' => ∃ p x y, v = .ref p ∧ H p = none ∧ H' = upd H p (.tup [x, y]) ∧ (∀ xs, SqT K H a xs → xs[i]? = some x) ∧ ∀ ys, SqT K H b ys → ys[i]? = some y,
    fun i H => ∃ xs ys, SqT K H a xs ∧ SqT K H b ys ∧ (xs.length ≤ i ∨ ys.length ≤ i)⟩
theorem turn_zp {P : Program} {w : World} {K : PySem.W.Frag} {es : List Expr} {kt : Nat} {pt : Pos} (a b z TI TO i1 i2 : Addr) (D : ZipApart z TI TO i1 i2 a b) :
    Turn P w K (.Tuple es kt pt) (Itz K a b) [z, TI, TO, i1, i2] z (fun i h => IsZip h z TI TO .none ∧ IsPair h TI (.ref i1) (.ref i2) ∧ (∃ u v, IsPair h TO u v) ∧ h.IsTupleIter i1 a i ∧ h.IsTupleIter i2 b i) where
  mem := by simp
  obj := fun i h st q hq => by
    obtain ⟨hz, hI, ⟨u, v, hO⟩, ⟨o1, e1, c1, d1⟩, ⟨o2, e2, c2, d2⟩⟩ := st
    simp only [List.mem_cons, List.not_mem_nil, or_false] at hq
    rcases hq with rfl | rfl | rfl | rfl | rfl
    · exact ⟨_, hz, fun v y => by have y' : Data.fields _ = Data.cell v := y; cases y'⟩
    · exact ⟨_, hI, fun v y => by have y' : Data.seq _ _ = Data.cell v := y; cases y'⟩
    · exact ⟨_, hO, fun v y => by have y' : Data.seq _ _ = Data.cell v := y; cases y'⟩
    · exact ⟨o1, e1, fun v y => by rw [d1] at y; cases y⟩
    · exact ⟨o2, e2, fun v y => by rw [d2] at y; cases y⟩
  keep := fun i h h' st k => ⟨k z (by simp) _ st.1, k TI (by simp) _ st.2.1, let ⟨u, v, q⟩ := st.2.2.1; ⟨u, v, k TO (by simp) _ q⟩, st.2.2.2.1.at fun o x => k i1 (by simp) o x, st.2.2.2.2.at fun o x => k i2 (by simp) o x⟩
  item := by
    intro X hP hw hK hc i pins s σ H E I hf st hg
    subst hP hw hK
    obtain ⟨xs, ys, x, y, hqa, hqb, hx, hy⟩ := hg
    obtain ⟨ia, rva, pa, za⟩ := I.tuple hqa
    obtain ⟨ib, rvb, pb, zb⟩ := I.tuple hqb
    obtain ⟨u, hu, ru⟩ := rva.get hx
    obtain ⟨v, hv, rv⟩ := rvb.get hy
    obtain ⟨hz, hI, ⟨ou, ov, hO⟩, h1, h2⟩ := st
    have hT : s.TypeIs (.ref z) "zip" := ⟨_, hz, rfl⟩; unfold pyNext
    refine wpAny_bind (wpAny_attempt (wpAny_callSpecial?_slot (name := Str.ofString "__next__") hT F.slot_zip_next (wpAny_call_entry F.slot_zip_next hT F.entry_zip_next
      (zipT_item D hz hI hO h1 h2 pa pb (x := u) (y := v) (by simpa using hu) (by simpa using hv) fun h' z' o' a' b' t' k' => wpAny_pure ?_) (F.args_zip_next_1 _))))
    refine ⟨_, rfl, wpAny_letOwnedTupleGo_zip z' fun h'' z'' sb => ?_⟩
    have nz : s.heap.objs.size ≠ z := Nat.ne_of_gt (Heap.lt_size hz)
    have nTO : s.heap.objs.size ≠ TO := Nat.ne_of_gt (Heap.lt_size hO)
    have nTI : s.heap.objs.size ≠ TI := Nat.ne_of_gt (Heap.lt_size hI)
    have n1 : s.heap.objs.size ≠ i1 := by obtain ⟨o, e, _⟩ := h1; exact Nat.ne_of_gt (Heap.lt_size e)
    have n2 : s.heap.objs.size ≠ i2 := by obtain ⟨o, e, _⟩ := h2; exact Nat.ne_of_gt (Heap.lt_size e)
    have up : ∀ q o, q ≠ z → h'.get? q = some o → h''.get? q = some o := fun q o hq e => (sb.2 q hq).trans e
    have hI'' : IsPair h'' TI (.ref i1) (.ref i2) := up _ _ D.TIz (k' TI _ D.TIz D.TITO D.TIi1 D.TIi2 hI)
    have I2 : Inv X pins σ (upd H s.heap.objs.size (.tup [x, y])) { s with heap := h'', toks := s.toks } := I.turnNew (ch := [z, TI, TO, i1, i2]) hf (fun q o hq e => by
      simp only [List.mem_cons, List.not_mem_nil, or_false, not_or] at hq
      exact up q o hq.1 (k' q o hq.1 hq.2.2.1 hq.2.2.2.1 hq.2.2.2.2 e)) (fun q hq => by
      simp only [List.mem_cons, List.not_mem_nil, or_false] at hq
      rcases hq with rfl | rfl | rfl | rfl | rfl
      · exact ⟨_, z''⟩
      · exact ⟨_, hI''⟩
      · exact ⟨_, up _ _ D.TOz o'⟩
      · obtain ⟨o, e, _⟩ := a'; exact ⟨o, up _ o D.i1z e⟩
      · obtain ⟨o, e, _⟩ := b'; exact ⟨o, up _ o D.i2z e⟩) (Nat.le_refl _) (vals := [u, v]) (.cons ru (.cons rv .nil)) (by show 2 ≤ sizeLine; decide) ⟨_, up _ _ nz t', rfl, _, rfl⟩
    refine ⟨.ref s.heap.objs.size, _, I2, rfl, ⟨_, x, y, rfl, I.fresh, rfl, fun zs hzs => by rw [I.tuple_inj hzs hqa]; exact hx, fun zs hzs => by rw [I.tuple_inj hzs hqb]; exact hy⟩,
      ⟨z'', hI'', ⟨_, _, up _ _ D.TOz o'⟩, a'.at fun o e => up _ o D.i1z e, b'.at fun o e => up _ o D.i2z e⟩, fun q hq => ?_⟩
    have hq0 := (hf q hq).1
    simp only [List.mem_cons, List.not_mem_nil, or_false] at hq
    rw [upd_ne]
    · exact hq0
    · rcases hq with rfl | rfl | rfl | rfl | rfl
      · exact Ne.symm nz
      · exact Ne.symm nTI
      · exact Ne.symm nTO
      · exact Ne.symm n1
      · exact Ne.symm n2
  done := by
    intro X hP hw hK hc i pins s σ H E I hf st hg
    subst hP hw hK
    obtain ⟨xs, ys, hqa, hqb, hx⟩ := hg
    obtain ⟨ia, rva, pa, za⟩ := I.tuple hqa
    obtain ⟨ib, rvb, pb, zb⟩ := I.tuple hqb
    obtain ⟨hz, hI, ⟨ou, ov, hO⟩, h1, h2⟩ := st
    have la := rva.length
    have lb := rvb.length
    have hT : s.TypeIs (.ref z) "zip" := ⟨_, hz, rfl⟩; unfold pyNext
    refine wpAny_bind (wpAny_attempt (wpAny_callSpecial?_slot (name := Str.ofString "__next__") hT F.slot_zip_next (wpAny_call_entry F.slot_zip_next hT F.entry_zip_next
      (zipT_end (I.ok.hd hc) D hz hI hO h1 h2 pa pb (hx.elim (fun q => .inl (by simp; omega)) fun q => .inr (by simp; omega)) fun h' e k' he => ?_) (F.args_zip_next_1 _))))
    obtain ⟨o, ho, hcl⟩ := he
    refine wpAny_bind (wpAny_isInstance (T := "StopIteration") (b := true) ⟨o, ho, hcl⟩ isSubtype_stop ?_)
    refine wpAny_pure ⟨rfl, I.turnOnly (tk := s.toks) hf fun q o hq e => ?_⟩
    simp only [List.mem_cons, List.not_mem_nil, or_false, not_or] at hq
    exact k' q o hq.1 hq.2.2.1 hq.2.2.2.1 hq.2.2.2.2 e
  self := fun _ _ s _ _ st h => wpAny_pyIter_zip st.1 h
section
variable {X : Cx} {es : List Expr} {kt : Nat} {pt : Pos}
def iZp (K : PySem.W.Frag) (ta : TA) : TI := fun σ H R => ta σ H fun vs H1 => ∃ a b, vs = [.ref a, .ref b] ∧ (∃ xs, SqT K H1 a xs) ∧ (∃ ys, SqT K H1 b ys) ∧ R (Itz K a b) H1
/-- for x, y in zip(a, b), both tuples -/
theorem pi_zp {e e' : Expr} {ta : TA} {p pos : Pos} (hm : X.mg "zip" = none) (ha : PA X [e, e'] ta) (hg : Gl X "zip" := by rfl) (h : isStar e = false := by rfl) (h' : isStar e' = false := by rfl) : PI X (.Tuple es kt pt) (.Call (.Name "zip" p) [e, e'] [] pos) (iZp X.K ta) := by
  intro pins s σ H R I hh
  refine Call_ (ld_blt I hg hm boot_zip (PyProof.Rows.callWith_type1 (thn (ha pos pins s σ H _ I hh) fun us s1 ⟨vs, H1, I1, r1, q1⟩ => ?_) (star1 h) (star_any (by simp [h']))))
  obtain ⟨a, b, rfl, ⟨xs, hqa⟩, ⟨ys, hqb⟩, q⟩ := q1
  cases r1 with
  | cons ru r2 =>
    cases r2 with
    | cons rv r3 =>
      cases r3
      cases ru
      cases rv
      obtain ⟨ia, rva, pa, za⟩ := I1.tuple hqa
      obtain ⟨ib, rvb, pb, zb⟩ := I1.tuple hqb
      have la : a < s1.heap.objs.size := by obtain ⟨o, e, _⟩ := pa; exact Heap.lt_size e
      have lb : b < s1.heap.objs.size := by obtain ⟨o, e, _⟩ := pb; exact Heap.lt_size e
      refine call_zp (xs := ia.toArray) (ys := ib.toArray) pa pb fun g hz hI hO j1 j2 hk => wpAny_pyIter_zip hz ?_
      refine ⟨_, [s1.heap.objs.size + 4, s1.heap.objs.size + 2, s1.heap.objs.size + 3, s1.heap.objs.size, s1.heap.objs.size + 1], _, _, H1, rfl, I1.kept (t' := s1.toks) hk, turn_zp a b _ _ _ _ _ (zipApart_new la lb), ⟨hz, hI, ⟨_, _, hO⟩, j1, j2⟩, fun q hq => ?_, by assumption⟩
      have hq' : s1.heap.objs.size ≤ q := by
        simp only [List.mem_cons, List.not_mem_nil, or_false] at hq
        rcases hq with z | z | z | z | z <;> rw [z] <;> first | exact Nat.le_refl _ | exact Nat.le_add_right _ _
      exact I1.fpOk hq' (I1.hok.fresh hq')
end
end L2

set_option Elab.async false
set_option linter.all false
set_option maxRecDepth 100000
namespace L2
open PySem PySem.Spec PyProof.Rows
section
variable {D : Addr} {te : TE} {tc : TT} {Q : VK} {ρ : St} {H : Hp}
end
section
variable {ta : TA} {tl : TE} {n : Nat} {ix : List Nat} {g : TG} {tc : TT} {te : TE} {σ : St} {H : Hp} {Q : VK}
end
section
variable {X : Cx}
/-- isinstance(x, T), T a type of the language -/
def rIsI (K : PySem.W.Frag) : List V → Hp → VK → Prop := fun xs H Q => ∃ v n t b, xs = [v, .ty n] ∧ TyOf K H v t ∧ PySem.W.kitOne K t (.type n) = some b ∧ Q (.bl b) H
theorem call_isI : CallR X (.builtin "isinstance") (rIsI X.K) := by
  intro pins s σ H xs us Q I r h
  obtain ⟨v, n, t, b, rfl, ty, e, q⟩ := h
  cases r with
  | cons r1 r2 =>
    obtain ⟨u, rfl, ru⟩ := Vals.one r2
    cases ru
    exact isinst_ok I r1 ty e fun tk => ⟨.bl b, H, I.kept (t' := tk) fun _ _ e => e, rfl, q⟩
end
section
variable {σ : St} {H : Hp} {Q : VK} {te ta tb tc : TE} {r r' : R2} {tl th : TO}
theorem w_chain (h : ta σ H fun x H1 => tb σ H1 fun y H2 => r x y H2 fun z H3 => ∃ k, z = .bl k ∧ (if k = true then tc σ H3 fun w' H4 => r' y w' H4 Q else Q (.bl false) H3)) : tChain r r' ta tb tc σ H Q := h
theorem w_part {QO : Option Int → Hp → Prop} (h : te σ H fun x H1 => ∃ i, x = .int i ∧ QO (some i) H1) : tPart te σ H QO := h
end
theorem seq_post {t u : TS} {D : Ends} {σ : St} {H : Hp} (Post : St → Hp → Prop) (h2 : ∀ σ' H', Post σ' H' → u D σ' H') (h1 : (∀ σ' H', Post σ' H' → u D σ' H') → t { D with nx := u D } σ H) : tSeq t u D σ H := h1 h2
end L2

set_option Elab.async false
set_option linter.all false
set_option maxRecDepth 100000
namespace K03
open PySem L2
local macro_rules | `(tactic| walk_at "v") => `(tactic| repeat (with_reducible first
  | refine w_seq ?_ | refine w_asg ?_ | refine w_gname ?_ | refine w_op ?_ | refine w_var rfl ?_ | refine w_c ?_ | refine w_rI0 ?_ | refine w_ifs ?_ | refine w_ife ?_ | refine w_test ?_ | refine w_tb ?_ | refine w_bl ?_ | refine w_not ?_ | refine w_ret ?_ | refine w_retN ?_
  | refine w_nil ?_ | refine w_cons ?_ | refine w_lst ?_ | refine w_tup ?_ | refine w_cb ?_ | refine w_call ?_ | refine w_gsub ?_ | refine w_and ?_ | refine w_or ?_ | refine w_next ?_ | refine w_all ?_ | refine w_vals ?_ | refine w_compR ?_ | refine w_compT ?_ | refine w_forR ?_ | refine w_forT ?_ | refine w_forL ?_ | refine w_drop ?_ | refine w_bm ?_ | refine iteT ?_ | refine iteF ?_))
abbrev sRule : Stmt := top 47
abbrev nRule : List Str := ["_law_feed_here", "_law_many", "_law_takes", "_law_gives", "_law_j", "_law_sort", "_law_way"]
theorem nmRule : Nm nRule (defScope sRule) := ⟨by decide +kernel, by decide +kernel⟩
theorem scRule : FnScope nRule ["_law_feed_here", "_law_many"] (defScope sRule) := ⟨rfl, rfl, rfl, by decide +kernel, rfl, by decide +kernel, by decide +kernel⟩
def asgComp (s : Stmt) : Scope := match s with
  | .Assign _ (.ListComp _ _ sc _) _ => sc
  | _ => { kind := .function, names := [], isGenerator := false, isCoroutine := false }
abbrev cRule (i : Nat) : Scope := asgComp ((defBody sRule).getD i (.Pass ⟨0, 0, 0, 0⟩))
theorem bsRule0 : BScope (defScope sRule) (cRule 0) ["_law_sort"] [] [] := { okind := by decide +kernel, kind := by decide +kernel, nocell := by decide +kernel, names := by decide +kernel, fr := by decide +kernel, ff := by decide +kernel, nd := by decide +kernel, vis := by decide +kernel, loc := by decide +kernel, gl := by decide +kernel }
theorem bsRule1 : BScope (defScope sRule) (cRule 1) ["_law_sort"] [] [] := { okind := by decide +kernel, kind := by decide +kernel, nocell := by decide +kernel, names := by decide +kernel, fr := by decide +kernel, ff := by decide +kernel, nd := by decide +kernel, vis := by decide +kernel, loc := by decide +kernel, gl := by decide +kernel }
theorem locRule : (defScope sRule).names.lookup ("_law_takes" : Str) = some .local ∧ (defScope sRule).names.lookup ("_law_gives" : Str) = some .local := by decide +kernel
def Ns (lo hi : Int) (m : Nat) (ns : List Int) : Prop := ns.length = m ∧ ∀ n ∈ ns, lo ≤ n ∧ n ≤ hi
/-- a rule: so many counts, some of them taken, not both sides alike -/
structure RuOk (m : Nat) (ts gs : List Int) : Prop where
  a : Ns 0 9 m ts
  b : Ns 0 9 m gs
  pos : ∃ x ∈ ts, 0 < x
  ne : ts ≠ gs
def RuleAt (m : Nat) (H : Hp) (r : Addr) : Prop := ∃ (a b : Addr) (ts gs : List Int), H r = some (.tup [.ref a, .ref b]) ∧ H a = some (.tup (ts.map V.int)) ∧ H b = some (.tup (gs.map V.int)) ∧ RuOk m ts gs
def spRule : Sp := fun vs H Q _ => ∃ (p : Addr) (m : Nat), vs = [.ref p, .int m] ∧ FeedAt H p ∧ 0 < m ∧ m ≤ 8 ∧ ∀ (r : Addr) (H' : Hp), H r = none → RuleAt m H' r → FeedAt H' p → But p H H' → Q (.ref r) H'

theorem w_zeros {m : Nat} {H : Hp} {Q : VK} (hm : m ≤ 1000) (h : ∀ l, H l = none → Q (.ref l) (upd H l (.lst ((List.replicate m (0 : Int)).map V.int)))) :
    ∃ j : Int, [V.int (m : Int)] = [.int j] ∧ -(2 ^ 62) ≤ j ∧ j < 2 ^ 62 ∧ ∀ D, H D = none → CGo (Itr 0 j.toNat) D (gName 0) tAll (tC (V.int 0)) Q [none] H := by
  refine ⟨m, rfl, by omega, by omega, fun l hl => ?_⟩
  refine cgo_range (ρ := []) (fun i ys H' => ys = (List.replicate i (0 : Int)).map V.int ∧ H' = upd H l (.lst ys)) ⟨rfl, rfl⟩ ?_ ?_
  · rintro i ys H' hi ⟨rfl, rfl⟩ hD R S kR _
    walk_at "v"
    have hi' : i < m := by
      rw [Int.toNat_natCast] at hi
      exact hi
    refine kR _ _ hD (by rw [List.length_map, List.length_replicate]; exact small1000 (by omega)) ⟨?_, upd_upd⟩
    rw [List.replicate_succ', List.map_append]
    rfl
  · rintro ys H' ⟨rfl, rfl⟩ hD
    rw [Int.toNat_natCast]
    exact h l hl
/-- where a rule is being made: the feed at p, ts at a, gs at b; H0 the heap at the entry -/
structure RS (p a b : Addr) (H0 H : Hp) (ts gs : List Int) : Prop where
  fd : FeedAt H p
  ea : H a = some (.lst (ts.map V.int))
  eb : H b = some (.lst (gs.map V.int))
  pa : p ≠ a
  pb : p ≠ b
  ab : a ≠ b
  bt : But p H0 H
  na : H0 a = none
  nb : H0 b = none
section
variable {p a b : Addr} {H0 H : Hp} {ts gs : List Int}
theorem RS.draw (r : RS p a b H0 H ts gs) {x y z : Int} : RS p a b H0 (upd H p (.lst [.int x, .int y, .int z])) ts gs :=
  ⟨FeedAt.here, by rw [upd_ne (Ne.symm r.pa)]; exact r.ea, by rw [upd_ne (Ne.symm r.pb)]; exact r.eb, r.pa, r.pb, r.ab, r.bt.at, r.na, r.nb⟩
theorem RS.new (r : RS p a b H0 H ts gs) {l : Addr} {o : HO} (h : H l = none) : RS p a b H0 (upd H l o) ts gs :=
  ⟨r.fd.new (r.fd.ne h), by rw [upd_ne (ne_of_none r.ea h)]; exact r.ea, by rw [upd_ne (ne_of_none r.eb h)]; exact r.eb, r.pa, r.pb, r.ab, r.bt.new h, r.na, r.nb⟩
theorem RS.setA (r : RS p a b H0 H ts gs) {j : Nat} {v : Int} : RS p a b H0 (upd H a (.lst ((ts.map V.int).set j (.int v)))) (ts.set j v) gs :=
  ⟨r.fd.new r.pa, by rw [upd_same, List.map_set], by rw [upd_ne (Ne.symm r.ab)]; exact r.eb, r.pa, r.pb, r.ab, r.bt.put r.na, r.na, r.nb⟩
theorem RS.setB (r : RS p a b H0 H ts gs) {j : Nat} {v : Int} : RS p a b H0 (upd H b (.lst ((gs.map V.int).set j (.int v)))) ts (gs.set j v) :=
  ⟨r.fd.new r.pb, by rw [upd_ne r.ab]; exact r.ea, by rw [upd_same, List.map_set], r.pa, r.pb, r.ab, r.bt.put r.nb, r.na, r.nb⟩
theorem Ns.set {lo hi : Int} {m j : Nat} {ns : List Int} {v : Int} (h : Ns lo hi m ns) (hv : lo ≤ v ∧ v ≤ hi) : Ns lo hi m (ns.set j v) := ⟨by rw [List.length_set]; exact h.1, fun n hn => by
  rcases List.mem_or_eq_of_mem_set hn with z | z
  · exact h.2 n z
  · rw [z]; exact hv⟩
theorem Ns.up {lo hi hi' : Int} {m : Nat} {ns : List Int} (h : Ns lo hi m ns) (hh : hi ≤ hi') : Ns lo hi' m ns := ⟨h.1, fun n hn => ⟨(h.2 n hn).1, Int.le_trans (h.2 n hn).2 hh⟩⟩
/-- a drawn place of a row -/
theorem place {ns : List Int} {m : Nat} {r : Int} (hl : ns.length = m) (h0 : 0 ≤ r) (h1 : r < m) : ∃ (j : Nat) (hj : j < ns.length), r = (j : Int) ∧ atI (ns.map V.int) r = some (.int ns[j]) ∧ ixN (ns.map V.int).length r = some j := by
  obtain ⟨j, rfl⟩ := Nat.ofI h0
  have hj : j < ns.length := by omega
  refine ⟨j, hj, rfl, atI_nat (by simp [hj]), ?_⟩
  rw [List.length_map]
  unfold ixN
  rw [if_pos h0, if_pos (by omega)]
  rfl
theorem pos_set {ns : List Int} {j : Nat} {v : Int} (hj : j < ns.length) (hv : 0 < v) : ∃ x ∈ ns.set j v, 0 < x := ⟨v, List.mem_iff_getElem.mpr ⟨j, by rw [List.length_set]; exact hj, by simp⟩, hv⟩
theorem ne_at {xs ys : List Int} {j : Nat} (h1 : j < xs.length) (h2 : j < ys.length) (h : xs[j] ≠ ys[j]) : xs ≠ ys := fun e => h (by subst e; rfl)
end
section
variable {P : Program} {w : World} {K : PySem.W.Frag} {mg : Str → Option Value} {base : Heap}
structure Blt (mg : Str → Option Value) : Prop where
  len : mg "len" = none
  range : mg "range" = none
  tuple : mg "tuple" = none
  int : mg "int" = none
theorem ok_rule {f : Addr} {fd : FuncData} (B : Blt mg) (D : Has P w K mg base 1 "_law_draw" ["_law_feed_here", "_law_many"] spDraw) (F : Fun K "_law_rule" "_law_rule" sRule f fd) : FnOk P w K mg base CX0 2 f fd ["_law_feed_here", "_law_many"] spRule := by
  refine F.ok scRule (fun vs H Q E h => ?_) (fun cdv A outer s H vs Q E hr h => ?_)
  · obtain ⟨p, m, rfl, _⟩ := h
    rfl
  · obtain ⟨p, m, rfl, hF, h1, h8, k⟩ := h
    refine' ⟨_, ?hb, ?rd⟩
    case hb =>
      refine' pss_cons ?s1 ?r1
      case' r1 => refine' pss_cons ?s2 ?r2
      case' r2 => refine' pss_cons ?s3 ?r3
      case' r3 => refine' pss_cons ?s4 ?r4
      case' r4 => refine' pss_cons ?s5 ?r5
      case' r5 => refine' pss_cons ?s6 ?r6
      case' r6 => refine' pss_cons ?s7 ?r7
      case' r7 => refine' pss_cons ?s8 ?r8
      case' r8 => refine' pss_cons ?s9 ?r9
      case' r9 => refine' pss_one ?s10
      case s1 =>
        refine' ps_setC (i := 2) (ix := []) nmRule.nd rfl locRule.1 bsRule0.toCScope rfl rfl ?h3 ?h4 ?h5 ?h6
        case h3 => exact pi_range1 rfl B.range (pa_cons (pvd nmRule 1) pa_nil)
        case h4 => exact fun _ _ _ _ _ _ => pgb bsRule0 0
        case h5 => exact fun _ _ _ _ _ _ => pts_nil
        case h6 => exact fun _ _ _ _ _ _ => pe_int
      case s2 =>
        refine' ps_setC (i := 3) (ix := []) nmRule.nd rfl locRule.2 bsRule1.toCScope rfl rfl ?h3 ?h4 ?h5 ?h6
        case h3 => exact pi_range1 rfl B.range (pa_cons (pvd nmRule 1) pa_nil)
        case h4 => exact fun _ _ _ _ _ _ => pgb bsRule1 0
        case h5 => exact fun _ _ _ _ _ _ => pts_nil
        case h6 => exact fun _ _ _ _ _ _ => pe_int
      case s3 =>
        refine' ps_for PassesOwn.never rfl (pi_range1 rfl B.range (pa_cons (pe_op op_add pe_int (pe_fn D hr (by decide) (pa_cons (pvd nmRule 0) (pa_cons pe_int pa_nil)))) pa_nil)) (pgd nmRule 4) ?b3
        case b3 =>
          refine' pss_cons ?t1 ?u1
          case t1 => exact ps_setD nmRule 5 (pe_fn D hr (by decide) (pa_cons (pvd nmRule 0) (pa_cons (pvd nmRule 1) pa_nil)))
          case u1 =>
            refine' pss_one ?t2
            case t2 => exact ps_asg (pe_op op_add (pe_op op_add (pe_ix ix_d (pvd nmRule 2) (pvd nmRule 5) (fun _ _ => rfl)) pe_int) (pe_fn D hr (by decide) (pa_cons (pvd nmRule 0) (pa_cons pe_int pa_nil)))) (pg_sub (pvd nmRule 2) (pvd nmRule 5) set_d)
      case s4 =>
        refine' ps_for PassesOwn.never rfl (pi_range1 rfl B.range (pa_cons (pe_fn D hr (by decide) (pa_cons (pvd nmRule 0) (pa_cons pe_int pa_nil))) pa_nil)) (pgd nmRule 4) ?b4
        case b4 =>
          refine' pss_cons ?t1 ?u1
          case t1 => exact ps_setD nmRule 5 (pe_fn D hr (by decide) (pa_cons (pvd nmRule 0) (pa_cons (pvd nmRule 1) pa_nil)))
          case u1 =>
            refine' pss_one ?t2
            case t2 => exact ps_asg (pe_op op_add (pe_op op_add (pe_ix ix_d (pvd nmRule 3) (pvd nmRule 5) (fun _ _ => rfl)) pe_int) (pe_fn D hr (by decide) (pa_cons (pvd nmRule 0) (pa_cons pe_int pa_nil)))) (pg_sub (pvd nmRule 3) (pvd nmRule 5) set_d)
      case s5 => exact ps_setD nmRule 6 (pe_fn D hr (by decide) (pa_cons (pvd nmRule 0) (pa_cons pe_int pa_nil)))
      case s6 => exact ps_setD nmRule 5 (pe_fn D hr (by decide) (pa_cons (pvd nmRule 0) (pa_cons (pvd nmRule 1) pa_nil)))
      case s7 => exact ps_if (pt_cmpR op_lt (pvd nmRule 6) pe_int (nomark _)) (pss_one (ps_asg (pe_ix ix_d (pvd nmRule 2) (pvd nmRule 5) (fun _ _ => rfl)) (pg_sub (pvd nmRule 3) (pvd nmRule 5) set_d))) pss_nil
      case s8 => exact ps_if (pt_cmpR op_eq (pvd nmRule 6) pe_int (nomark _)) (pss_one (ps_asg pe_int (pg_sub (pvd nmRule 2) (pvd nmRule 5) set_d))) pss_nil
      case s9 => exact ps_if (pt_cmpR (op_eqD hr) (pvd nmRule 2) (pvd nmRule 3) (nomark _)) (pss_one (ps_asg (pe_ix ix_d (pe_lst (pa_cons (pe_op op_add (pe_ix ix_d (pvd nmRule 3) (pvd nmRule 5) (fun _ _ => rfl)) pe_int) (pa_cons pe_int pa_nil)))
          (pe_callTy call_int1 rfl B.int PyProof.Rows.boot_int (pa_cons (pe_cmpR op_eq (pe_ix ix_d (pvd nmRule 2) (pvd nmRule 5) (fun _ _ => rfl)) pe_int (nomark _)) pa_nil)) (fun _ _ => rfl)) (pg_sub (pvd nmRule 3) (pvd nmRule 5) set_d))) pss_nil
      case s10 => exact ps_ret (pe_tup (pa_cons (pe_callTy call_tuple_of rfl B.tuple PyProof.Rows.boot_tuple (pa_cons (pvd nmRule 2) pa_nil)) (pa_cons (pe_callTy call_tuple_of rfl B.tuple PyProof.Rows.boot_tuple (pa_cons (pvd nmRule 3) pa_nil)) pa_nil)))
    case rd =>
      have hm : ((m : Nat) : Int) < 1000000 := by omega
      have hm0 : (0 : Int) < (m : Int) := by omega
      walk_at "v"
      refine w_zeros (m := m) (by omega) fun a ha => ?_
      walk_at "v"
      refine w_zeros (m := m) (by omega) fun b hb => ?_
      have hpa : p ≠ a := hF.ne ha
      have hpb : p ≠ b := (hF.new hpa).ne hb
      have hab : a ≠ b := ne_of_none upd_same hb
      have R0 : RS p a b H (upd (upd H a (.lst ((List.replicate m (0 : Int)).map V.int))) b (.lst ((List.replicate m (0 : Int)).map V.int))) (List.replicate m 0) (List.replicate m 0) :=
        ⟨(hF.new hpa).new hpb, by rw [upd_ne hab, upd_same], upd_same, hpa, hpb, hab, (But.refl.new ha).new hb, ha, by rw [upd_ne (Ne.symm hab)] at hb; exact hb⟩
      have z0 : Ns 0 0 m (List.replicate m 0) := ⟨List.length_replicate, fun n h => by rw [List.eq_of_mem_replicate h]; exact ⟨by decide, by decide⟩⟩
      generalize upd (upd H a (.lst ((List.replicate m (0 : Int)).map V.int))) b (.lst ((List.replicate m (0 : Int)).map V.int)) = H1 at R0 ⊢
      walk_at "v"
      refine ⟨p, 3, rfl, R0.fd, by decide, by decide, fun r x y z r0 r1 => ?_⟩
      have R1 := R0.draw (x := x) (y := y) (z := z)
      generalize upd H1 p (.lst [.int x, .int y, .int z]) = H2 at R1 ⊢
      walk_at "v"
      refine ⟨_, rfl, by omega, by omega, ?_⟩
      refine for_range (fun i σ H' => ∃ u v ts, σ = [some (.ref p), some (.int m), some (.ref a), some (.ref b), u, v, none] ∧ RS p a b H H' ts (List.replicate m 0) ∧ Ns 0 (2 * (i : Int)) m ts ∧ (0 < i → ∃ x ∈ ts, 0 < x)) ⟨none, none, _, rfl, R1, z0.up (by omega), fun h => absurd h (by omega)⟩ ?_ ?_
      · rintro i σ H' hi ⟨u, v, ts, rfl, R, hN, hP⟩
        walk_at "v"
        refine ⟨p, m, rfl, R.fd, hm0, hm, fun r x y z r0 r1 => ?_⟩
        have R' := R.draw (x := x) (y := y) (z := z)
        generalize upd H' p (.lst [.int x, .int y, .int z]) = H2 at R' ⊢
        walk_at "v"
        obtain ⟨j, hj, _, ea, ei⟩ := place hN.1 r0 r1
        have hb := hN.2 _ (List.getElem_mem hj)
        refine w_ixL R'.ea ea ?_
        walk_at "v"
        refine ⟨p, 2, rfl, R'.fd, by decide, by decide, fun r2 x2 y2 z2 r20 r21 => ?_⟩
        have R2 := R'.draw (x := x2) (y := y2) (z := z2)
        generalize upd H2 p (.lst [.int x2, .int y2, .int z2]) = H3 at R2 ⊢
        walk_at "v"
        refine w_set R2.ea ei ?_
        exact ⟨_, _, _, rfl, R2.setA, (hN.up (hi' := 2 * ((i + 1 : Nat) : Int)) (by omega)).set ⟨by omega, by omega⟩, fun _ => pos_set hj (by omega)⟩
      · rintro σ H' ⟨u, v, ts, rfl, R, hN, hP⟩
        clear R0 R1
        have hP' := hP (by omega)
        replace hN := hN.up (hi' := 6) (by omega)
        clear hP
        walk_at "v"
        refine ⟨p, 4, rfl, R.fd, by decide, by decide, fun r x y z r0 r1 => ?_⟩
        have R1 := R.draw (x := x) (y := y) (z := z)
        generalize upd H' p (.lst [.int x, .int y, .int z]) = H2 at R1 ⊢
        walk_at "v"
        refine ⟨_, rfl, by omega, by omega, ?_⟩
        refine for_range (fun i σ H' => ∃ u v gs, σ = [some (.ref p), some (.int m), some (.ref a), some (.ref b), u, v, none] ∧ RS p a b H H' ts gs ∧ Ns 0 (3 * (i : Int)) m gs) ⟨u, v, _, rfl, R1, z0.up (by omega)⟩ ?_ ?_
        · rintro i σ H' hi ⟨u, v, gs, rfl, R, hG⟩
          walk_at "v"
          refine ⟨p, m, rfl, R.fd, hm0, hm, fun r x y z r0 r1 => ?_⟩
          have R' := R.draw (x := x) (y := y) (z := z)
          generalize upd H' p (.lst [.int x, .int y, .int z]) = H2 at R' ⊢
          walk_at "v"
          obtain ⟨j, hj, _, ea, ei⟩ := place hG.1 r0 r1
          have hb := hG.2 _ (List.getElem_mem hj)
          refine w_ixL R'.eb ea ?_
          walk_at "v"
          refine ⟨p, 3, rfl, R'.fd, by decide, by decide, fun r2 x2 y2 z2 r20 r21 => ?_⟩
          have R2 := R'.draw (x := x2) (y := y2) (z := z2)
          generalize upd H2 p (.lst [.int x2, .int y2, .int z2]) = H3 at R2 ⊢
          walk_at "v"
          refine w_set R2.eb ei ?_
          exact ⟨_, _, _, rfl, R2.setB, (hG.up (hi' := 3 * ((i + 1 : Nat) : Int)) (by omega)).set ⟨by omega, by omega⟩⟩
        · rintro σ H' ⟨u, v, gs, rfl, R, hG⟩
          clear R1
          replace hG := hG.up (hi' := 9) (by omega)
          replace hN := hN.up (hi' := 9) (by omega)
          walk_at "v"
          refine ⟨p, 8, rfl, R.fd, by decide, by decide, fun way x y z w0 w1 => ?_⟩
          have R1 := R.draw (x := x) (y := y) (z := z)
          generalize upd H' p (.lst [.int x, .int y, .int z]) = H2 at R1 ⊢
          walk_at "v"
          refine ⟨p, m, rfl, R1.fd, hm0, hm, fun r x y z r0 r1 => ?_⟩
          have R2 := R1.draw (x := x) (y := y) (z := z)
          generalize upd H2 p (.lst [.int x, .int y, .int z]) = H3 at R2 ⊢
          refine w_gname ?_
          with_reducible refine seq_post (fun σ' H4 => ∃ gs, σ' = [some (.ref p), some (.int m), some (.ref a), some (.ref b), u, some (.int r), some (.int way)] ∧ RS p a b H H4 ts gs ∧ Ns 0 9 m gs) ?_ fun rest => ?_
          rotate_left
          · walk_at "v"
            refine iteD (fun _ => ?_) (fun _ => ?_)
            · walk_at "v"
              obtain ⟨j, hj, _, ea, ei⟩ := place hN.1 r0 r1
              refine w_ixL R2.ea ea ?_
              walk_at "v"
              obtain ⟨j', hj', _, ea', ei'⟩ := place hG.1 r0 r1
              refine w_set R2.eb ei' ?_
              exact rest _ _ ⟨_, rfl, R2.setB, hG.set (hN.2 _ (List.getElem_mem hj))⟩
            · exact rest _ _ ⟨_, rfl, R2, hG⟩
          rintro σ' H4 ⟨gs, rfl, R3, hG⟩
          with_reducible refine seq_post (fun σ' H5 => ∃ ts, σ' = [some (.ref p), some (.int m), some (.ref a), some (.ref b), u, some (.int r), some (.int way)] ∧ RS p a b H H5 ts gs ∧ Ns 0 9 m ts ∧ ∃ x ∈ ts, 0 < x) ?_ fun rest => ?_
          rotate_left
          · walk_at "v"
            refine ⟨rfl, ?_⟩
            walk_at "v"
            refine iteD (fun _ => ?_) (fun _ => ?_)
            · walk_at "v"
              obtain ⟨j, hj, _, ea, ei⟩ := place hN.1 r0 r1
              refine w_set R3.ea ei ?_
              exact rest _ _ ⟨_, rfl, R3.setA, hN.set ⟨by decide, by decide⟩, pos_set hj (by decide)⟩
            · exact rest _ _ ⟨_, rfl, R3, hN, hP'⟩
          rintro σ' H5 ⟨ts, rfl, R4, hN, hP⟩
          with_reducible refine seq_post (fun σ' H7 => ∃ gs, σ' = [some (.ref p), some (.int m), some (.ref a), some (.ref b), u, some (.int r), some (.int way)] ∧ RS p a b H H7 ts gs ∧ RuOk m ts gs) ?_ fun rest => ?_
          rotate_left
          · walk_at "v"
            refine w_eqL R4.ea R4.eb ?_
            walk_at "v"
            refine iteD (fun heq => ?_) (fun hne => ?_)
            rotate_left
            · exact rest _ _ ⟨_, rfl, R4, hN, hG, hP, hne⟩
            walk_at "v"
            obtain ⟨j, hj, ej, ea, ei⟩ := place hG.1 r0 r1
            refine w_ixL R4.eb ea ?_
            walk_at "v"
            refine ⟨by show 2 ≤ sizeLine; decide, fun c hc => ?_⟩
            have R5 := R4.new (o := .lst [.int (gs[j] + 1), .int 0]) hc
            have hcc : upd H5 c (.lst [.int (gs[j] + 1), .int 0]) c = some (.lst [.int (gs[j] + 1), .int 0]) := upd_same
            generalize upd H5 c (.lst [.int (gs[j] + 1), .int 0]) = H6 at R5 hcc ⊢
            walk_at "v"
            obtain ⟨j2, hj2, ej2, ea2, ei2⟩ := place hN.1 r0 r1
            refine w_ixL R5.ea ea2 ?_
            have hjj : j2 = j := by omega
            subst hjj
            walk_at "v"
            refine ⟨rfl, ?_⟩
            walk_at "v"
            refine .inr ⟨_, rfl, ?_⟩
            have hb := hG.2 _ (List.getElem_mem hj)
            have hsame : ts[j2] = gs[j2] := by simp only [heq]
            obtain ⟨q, hq0, hqn, hq⟩ : ∃ q : Int, (0 ≤ q ∧ q ≤ 9) ∧ q ≠ ts[j2] ∧ atI ([.int (gs[j2] + 1), .int 0] : List V) (if decide (V.int ts[j2] = V.int 9) = true then 1 else 0) = some (.int q) := by
              by_cases h9 : decide (V.int ts[j2] = V.int 9) = true
              · have := V.int.inj (of_decide_eq_true h9)
                rw [if_pos h9]
                exact ⟨0, ⟨by decide, by decide⟩, by omega, rfl⟩
              · have h9' : ts[j2] ≠ 9 := fun z => h9 (by rw [z]; exact decide_eq_true rfl)
                rw [if_neg h9]
                exact ⟨gs[j2] + 1, ⟨by omega, by omega⟩, by omega, rfl⟩
            refine w_ixL hcc hq ?_
            walk_at "v"
            refine w_set R5.eb ei ?_
            refine rest _ _ ⟨_, rfl, R5.setB, hN, hG.set hq0, hP, ne_at hj2 (by rw [List.length_set]; exact hj) ?_⟩
            rw [List.getElem_set_self]
            exact Ne.symm hqn
          rintro σ' H7 ⟨gs, rfl, R6, hR⟩
          walk_at "v"
          refine ⟨a, _, rfl, .inl ⟨SqL.of R6.ea, fun ta hta => ?_⟩⟩
          walk_at "v"
          have nb : b ≠ ta := ne_of_none R6.eb hta
          refine ⟨b, _, rfl, .inl ⟨SqL.of (by rw [upd_ne nb]; exact R6.eb), fun tb htb => ?_⟩⟩
          walk_at "v"
          refine ⟨by show 2 ≤ sizeLine; decide, fun rr hrr => ?_⟩
          have nt : ta ≠ tb := by
            intro z
            rw [← z, upd_same] at htb
            cases htb
          have nrb : tb ≠ rr := by
            intro z
            rw [← z, upd_same] at hrr
            cases hrr
          have nra : ta ≠ rr := by
            intro z
            rw [← z, upd_ne nt, upd_same] at hrr
            cases hrr
          have R7 := (R6.new (o := .tup (ts.map V.int)) hta).new (o := .tup (gs.map V.int)) htb
          have R8 := R7.new (o := .tup [.ref ta, .ref tb]) hrr
          refine k rr _ ?_ ⟨ta, tb, ts, gs, upd_same, ?_, ?_, hR⟩ R8.fd R8.bt
          · cases e : H rr with
            | none => rfl
            | some o =>
              have hrp : rr ≠ p := by
                intro z
                exact R7.fd.ne hrr z.symm
              rw [R7.bt rr o e hrp] at hrr
              cases hrr
          · rw [upd_ne nra, upd_ne nt, upd_same]
          · rw [upd_ne nrb, upd_same]
end
end K03

set_option Elab.async false
set_option linter.all false
set_option maxRecDepth 100000
namespace L2
open PySem PySem.Spec PyProof.Rows
section
variable {X : Cx}
/-- tuple(xs), xs a list: a tuple that is known as an object (so that its methods may be called) -/
def rTupF (K : PySem.W.Frag) : List V → Hp → VK → Prop := fun xs H Q => ∃ p ys, xs = [.ref p] ∧ SqL K H p ys ∧ ∀ l o, H l = none → o.dict = none → o.cls = .type "tuple" → Q (.ref l) (upd H l (.frz o (.tup ys)))
theorem call_tupleF : CallR X (.type "tuple") (rTupF X.K) := by
  intro pins s σ H xs us Q I r h
  obtain ⟨p, ys, rfl, hq, q⟩ := h
  obtain ⟨u, rfl, rx⟩ := r.one
  cases rx
  obtain ⟨its, r', pl, hz⟩ := I.list hq
  have hlen := r'.length
  refine call_tuple_list pl.isList (fun h' kp => ?_) (by simp only [List.size_toArray] <;> omega)
  have I1 : Inv X pins σ H { s with heap := h' } := I.kept (t' := s.toks) kp
  have g : (h'.push { cls := .type "tuple", data := .seq its.toArray }).get? h'.objs.size = some { cls := .type "tuple", data := .seq its.toArray } := Heap.get?_push_size _ rfl
  have I2 : Inv X pins σ (upd H h'.objs.size (.frz { cls := .type "tuple", data := .seq its.toArray } (.tup ys))) { s with heap := h'.push { cls := .type "tuple", data := .seq its.toArray } } :=
    I1.laid (t' := s.toks) (fun b o e => Heap.get?_push_of_some _ e) (Nat.le_refl _) ⟨g, hz, its, r', ⟨_, g, rfl, _, rfl⟩⟩
  exact ⟨.ref h'.objs.size, _, I2, rfl, q _ _ (I1.hok.fresh (Nat.le_refl _)) rfl rfl⟩
end
section
variable {prog : Program} {w : World} {A : Around} {E : Value → Shared → Prop} {s : Shared}
theorem tup_index {l : Addr} {o : Obj} {items : Array Value} {n : Nat} {x : Value} {e : Nat → Bool} {j : Nat} {Q : Value → Shared → Prop} (ho : s.heap.get? l = some o) (hd : o.data = .seq items n) (hj : j < items.size) (hit : e j = true) (hno : ∀ m, m < j → e m = false)
    (he : ∀ i (hi : i < items.size), SeqAt.EqAt A s items[i] x (e i)) (h : Q (.int j s.toks) { s with toks := s.toks + 1 }) :
    wpAny (model prog w) A (Builtin.«tuple.index» ⟨[.ref l, x], []⟩) (fun f s' => ∃ v, f = .done (.ret v) ∧ Q v s') E s := by
  unfold Builtin.«tuple.index»
  refine wpAny_bind (wpAny_of_eq (a := (Value.ref l, [x])) rfl ?_)
  dsimp only
  unfold PySem.Builtin.Tuple.tupleItemsOf
  refine wpAny_bind (wpAny_bind (wpAny_seqItems ho hd (wpAny_pure ?_)))
  refine wpAny_bind (wpAny_pure (wpAny_bind (wpAny_pure ?_))); refine wpAny_bind ?_; rw [Std.Legacy.Range.forIn_eq_forIn_range']
  simp only [Std.Legacy.Range.size, Nat.sub_zero, Nat.add_sub_cancel, Nat.div_one, Nat.min_self]
  have go : ∀ (k i : Nat), i + k = j → wpAny (model prog w) A
      (forIn (List.range' i (items.size - i)) ((none : Option PySem.Fin), ()) fun (i : Nat) _ => match items[i]? with
        | some y => do
          let b ← eqBool y x
          if b = true then do
            let rr ← retInt (i : Int)
            pure (ForInStep.done (some rr, ()))
          else pure (ForInStep.yield (none, ()))
        | _ => pure (ForInStep.yield (none, ())))
      (fun a s' => a.1 = some (.done (.ret (.int j s.toks))) ∧ s' = { s with toks := s.toks + 1 }) E s := by
    intro k
    induction k with
    | zero =>
      intro i hi
      have e : i = j := by omega
      subst e
      rw [show items.size - i = (items.size - (i + 1)) + 1 by omega, List.range'_succ, List.forIn_cons]
      simp only [Array.getElem?_eq_getElem hj]
      refine wpAny_bind (wpAny_bind (he _ hj prog w _ _ ?_))
      rw [hit]
      simp only [if_true]
      exact wpAny_bind (wpAny_bind (wpAny_mkInt (wpAny_pure (wpAny_pure (wpAny_pure ⟨rfl, rfl⟩)))))
    | succ k ih =>
      intro i hi
      have hlt : i < items.size := Nat.lt_of_le_of_lt (by omega : i ≤ j) hj
      rw [show items.size - i = (items.size - (i + 1)) + 1 by omega, List.range'_succ, List.forIn_cons]
      simp only [Array.getElem?_eq_getElem hlt]; refine wpAny_bind (wpAny_bind (he _ hlt prog w _ _ ?_))
      rw [hno i (by omega)]
      simp only [Bool.false_eq_true, if_false]; exact wpAny_pure (ih (i + 1) (by omega))
  refine wpAny_mono (go j 0 (by omega)) (fun a s' ⟨h1, h2⟩ => ?_) fun _ _ z => z
  subst h2
  rw [h1]
  exact wpAny_pure ⟨_, rfl, h⟩
end

/-- a tuple that is known as an object -/
def TupF (H : Hp) (l : Addr) (ys : List V) : Prop := ∃ o, H l = some (.frz o (.tup ys)) ∧ o.dict = none ∧ o.cls = .type "tuple"
theorem TupF.sq {K : PySem.W.Frag} {H : Hp} {l : Addr} {ys : List V} (t : TupF H l ys) : SqT K H l ys := let ⟨o, e, _⟩ := t; .inl (.inr ⟨o, e⟩)
section
variable {X : Cx} {o e : Expr} {to : TE} {ta : TA} {apos cpos : Pos}
/-- t.index(e), t a known tuple of flat items: the first place where it stands -/
def tIndex (to : TE) (ta : TA) : TE := fun σ H Q => to σ H fun x H1 => (∃ l ys, x = .ref l ∧ TupF H1 l ys) ∧ ta σ H1 fun vs H2 => ∃ (l : Addr) (ys : List V) (v : V) (k : Nat) (hk : k < ys.length), vs = [v] ∧ x = .ref l ∧ TupF H2 l ys ∧ flatV v = true ∧ (∀ y ∈ ys, flatV y = true) ∧
  eqV ys[k] v = true ∧ (∀ i (hi : i < ys.length), i < k → eqV ys[i] v = false) ∧ Q (.int (k : Int)) H2
theorem pe_index (ho : PE X o to) (ha : PA X [e] ta) (hbase : attributeBase o "index" X.env (eval o X.env) = eval o X.env := by rfl)
    (hfew : ((backTo cpos (starEach [e] X.env)).all (fun x => !x.1) && (backToKw cpos (keywordEach [] X.env)).all (fun x => x.1.isSome) && decide ([e].length + ([] : List Keyword).length + (if ([] : List Keyword).isEmpty then 0 else 1) < 30)) = true := by rfl)
    (hline : (apos.endLine == cpos.line) = true := by rfl) (hst : isStar e = false := by rfl) : PE X (.Call (.Attribute o "index" apos) [e] [] cpos) (tIndex to ta) := by
  intro pins s σ H Q I h
  refine wpAny_Call_method_late hbase hfew hline rfl (thn (ho pins s σ H _ I h) fun v s1 ⟨x, H1, I1, r1, ⟨l, ys, ex, ob, e1, hd, hc⟩, q1⟩ => ?_)
  subst ex
  obtain rfl : v = Value.ref l := r1
  obtain ⟨g1, _⟩ := I1.hok l _ e1
  refine ⟨"tuple", "tuple.index", PySem.F.plainAttrs_tuple, PySem.F.slot_tuple_index, PySem.F.type_tuple_index, ⟨ob, g1, hc⟩, fun a ea => ?_, ?_⟩
  · cases ea
    exact ⟨ob, g1, hd⟩
  have hA := ha cpos pins s1 σ H1 _ I1 q1
  rw [star1 hst] at hA ⊢
  refine Calls.callWith_builtin (by rfl) (Calls.evalArgs_plain ?_)
  refine thn hA fun us s2 ⟨vs, H2, I2, r2, q2⟩ => ?_
  obtain ⟨l', zs, v, k, hk, rfl, el, ⟨ob2, e2, hd2, hc2⟩, fv, fz, hit, hno, q⟩ := q2
  cases el
  obtain ⟨u, rfl, ru⟩ := r2.one
  obtain ⟨g2, z2, its, rv, ot, et, ct, n, dt⟩ := I2.hok l _ e2
  have hl := rv.length
  have eqs : ∀ i (h1 : i < zs.length) (h2 : i < its.length), RelV zs[i] its[i] := fun i h1 h2 => by
    obtain ⟨w', ew, rw'⟩ := rv.get (show zs[i]? = some zs[i] by simp [h1])
    rw [List.getElem?_eq_getElem h2] at ew
    rw [Option.some.inj ew]
    exact rw'
  have hT : s2.TypeIs (.ref l) "tuple" := ⟨ot, et, ct⟩
  refine wpAny_call_entry PySem.F.slot_tuple_index hT PySem.F.entry_tuple_index (tup_index (e := fun i => eqV (zs.getD i .non) v) (j := k) et dt (by simp; omega) ?_ (fun i hi => ?_) (fun i hi => ?_) ⟨.int k, H2, I2.tok _, ⟨_, rfl⟩, q⟩) (PySem.F.args_tuple_index_2 _ _)
  · show eqV (zs.getD k .non) v = true
    rw [List.getD_eq_getElem?_getD, List.getElem?_eq_getElem hk]
    exact hit
  · show eqV (zs.getD i .non) v = false
    rw [List.getD_eq_getElem?_getD, List.getElem?_eq_getElem (show i < zs.length by omega)]
    exact hno i (by omega) hi
  · have hi2 : i < its.length := by simpa using hi
    have hi1 : i < zs.length := by omega
    have q := eqAt_V (A := X.A.in1) (s := s2) (eqs i hi1 hi2) ru (fz _ (List.getElem_mem hi1)) fv
    show SeqAt.EqAt _ _ its.toArray[i] u (eqV (zs.getD i .non) v)
    rw [List.getD_eq_getElem?_getD, List.getElem?_eq_getElem hi1]
    simpa using q
end
end L2

set_option Elab.async false
set_option linter.all false
set_option maxRecDepth 100000
namespace K03
open PySem L2
local macro_rules | `(tactic| walk_at "v") => `(tactic| repeat (with_reducible first
  | refine w_seq ?_ | refine w_asg ?_ | refine w_gname ?_ | refine w_op ?_ | refine w_var rfl ?_ | refine w_c ?_ | refine w_rI0 ?_ | refine w_ifs ?_ | refine w_ife ?_ | refine w_test ?_ | refine w_tb ?_ | refine w_bl ?_ | refine w_not ?_ | refine w_ret ?_ | refine w_retN ?_
  | refine w_nil ?_ | refine w_cons ?_ | refine w_lst ?_ | refine w_tup ?_ | refine w_cb ?_ | refine w_call ?_ | refine w_gsub ?_ | refine w_and ?_ | refine w_or ?_ | refine w_next ?_ | refine w_all ?_ | refine w_vals ?_ | refine w_compR ?_ | refine w_compT ?_ | refine w_forR ?_ | refine w_forT ?_ | refine w_forL ?_ | refine w_drop ?_ | refine w_bm ?_ | refine iteT ?_ | refine iteF ?_))
abbrev sPot : Stmt := top 48
abbrev nPot : List Str := ["_law_feed_here", "_law_many", "_law_sorts", "_law_rules", "_law_left", "_law_inputs", "_law_k", "_law_begin"]
theorem nmPot : Nm nPot (defScope sPot) := ⟨by decide +kernel, by decide +kernel⟩
theorem scPot : FnScope nPot ["_law_feed_here"] (defScope sPot) := ⟨rfl, rfl, rfl, by decide +kernel, rfl, by decide +kernel, by decide +kernel⟩
/-- the comprehension that a call of the n-th statement is handed -/
def callComp (s : Stmt) : Scope := match s with
  | .Assign _ (.Call _ [.ListComp _ _ sc _] _ _) _ => sc
  | _ => { kind := .function, names := [], isGenerator := false, isCoroutine := false }
abbrev cPot (i : Nat) : Scope := callComp ((defBody sPot).getD i (.Pass ⟨0, 0, 0, 0⟩))
theorem bsPot2 : BScope (defScope sPot) (cPot 2) ["_law_k"] ["_law_feed_here", "_law_many"] ["_law_rule"] := { okind := by decide +kernel, kind := by decide +kernel, nocell := by decide +kernel, names := by decide +kernel, fr := by decide +kernel, ff := by decide +kernel, nd := by decide +kernel, vis := by decide +kernel, loc := by decide +kernel, gl := by decide +kernel }
theorem bsPot6 : BScope (defScope sPot) (cPot 6) ["_law_sort"] ["_law_feed_here"] ["_law_draw"] := { okind := by decide +kernel, kind := by decide +kernel, nocell := by decide +kernel, names := by decide +kernel, fr := by decide +kernel, ff := by decide +kernel, nd := by decide +kernel, vis := by decide +kernel, loc := by decide +kernel, gl := by decide +kernel }


/-- tuples stay -/
structure TK (H H' : Hp) : Prop where
  t : ∀ q xs, H q = some (.tup xs) → H' q = some (.tup xs)
  f : ∀ q o u, H q = some (.frz o u) → H' q = some (.frz o u)
structure SS (p : Addr) (H0 H : Hp) : Prop where
  fd : FeedAt H p
  bt : But p H0 H
section
variable {p l : Addr} {H0 H H' H'' : Hp} {o : HO}
theorem TK.refl : TK H H := ⟨fun _ _ e => e, fun _ _ _ e => e⟩
theorem TK.trans (a : TK H H') (b : TK H' H'') : TK H H'' := ⟨fun q xs e => b.t q xs (a.t q xs e), fun q o u e => b.f q o u (a.f q o u e)⟩
theorem TK.new (h : H l = none) : TK H (upd H l o) := ⟨fun q xs e => by rw [upd_ne (ne_of_none e h)]; exact e, fun q ob u e => by rw [upd_ne (ne_of_none e h)]; exact e⟩
theorem TK.lst {ys : List V} (h : H l = some (.lst ys)) : TK H (upd H l o) := ⟨fun q xs e => by rw [upd_ne (ne_of e h (by intro z; cases z))]; exact e, fun q ob u e => by rw [upd_ne (ne_of e h (by intro z; cases z))]; exact e⟩
theorem TK.feed (F : FeedAt H p) : TK H (upd H p o) := by
  obtain ⟨x, y, z, e⟩ := F
  exact TK.lst e
theorem TK.but (F : FeedAt H p) (b : But p H H') : TK H H' := by
  obtain ⟨x, y, z, ep⟩ := F
  exact ⟨fun q xs e => b q _ e (ne_of e ep (by intro z; cases z)), fun q ob u e => b q _ e (ne_of e ep (by intro z; cases z))⟩
theorem SS.draw (r : SS p H0 H) {x y z : Int} : SS p H0 (upd H p (.lst [.int x, .int y, .int z])) := ⟨FeedAt.here, r.bt.at⟩
theorem SS.new (r : SS p H0 H) (h : H l = none) : SS p H0 (upd H l o) := ⟨r.fd.new (r.fd.ne h), r.bt.new h⟩
theorem SS.put (r : SS p H0 H) (h : H0 l = none) (hl : p ≠ l) : SS p H0 (upd H l o) := ⟨r.fd.new hl, r.bt.put h⟩
theorem SS.call (r : SS p H0 H) (f : FeedAt H' p) (b : But p H H') : SS p H0 H' := ⟨f, r.bt.trans b⟩
theorem SS.none (r : SS p H0 H) (h : H l = none) : H0 l = none := r.bt.free (r.fd.ne h) h
theorem RuleAt.tk {m : Nat} {r : Addr} (k : TK H H') (R : RuleAt m H r) : RuleAt m H' r := by
  obtain ⟨a, b, ts, gs, e, et, eg, h⟩ := R
  exact ⟨a, b, ts, gs, k.t _ _ e, k.t _ _ et, k.t _ _ eg, h⟩
end
theorem map_erase {α β : Type} (f : α → β) : ∀ (xs : List α) (j : Nat), (xs.map f).eraseIdx j = (xs.eraseIdx j).map f
  | [], _ => rfl
  | _ :: _, 0 => rfl
  | x :: xs, j + 1 => by
    show f x :: (xs.map f).eraseIdx j = f x :: (xs.eraseIdx j).map f
    rw [map_erase f xs j]
theorem nd_rng (m : Nat) : (((List.range m).map fun (i : Nat) => (i : Int)) ++ []).Nodup := by
  rw [List.append_nil]
  exact List.Pairwise.map _ (fun a b h z => h (by omega)) List.nodup_range
theorem perm_pop : ∀ (lf : List Int) (j : Nat) (hj : j < lf.length), (lf[j] :: lf.eraseIdx j).Perm lf
  | x :: xs, 0, _ => List.Perm.refl _
  | x :: xs, j + 1, hj => (List.Perm.swap x _ _).trans ((perm_pop xs j (by simpa using hj)).cons x)
theorem nd_pop {lf is : List Int} {j : Nat} (hj : j < lf.length) (h : (lf ++ is).Nodup) : (lf.eraseIdx j ++ (is ++ [lf[j]])).Nodup := by
  have p1 : (lf[j] :: lf.eraseIdx j).Perm lf := perm_pop lf j hj
  have p2 : (lf.eraseIdx j ++ (is ++ [lf[j]])).Perm (lf ++ is) := by
    rw [← List.append_assoc]
    exact List.perm_append_comm.trans (p1.append_right is)
  exact p2.nodup_iff.mpr h
theorem pick8 {r : Int} (h0 : 0 ≤ r) (h1 : r < 8) : ∃ m : Nat, 0 < m ∧ m ≤ 8 ∧ atI ([.int 1, .int 2, .int 3, .int 3, .int 4, .int 5, .int 6, .int 8] : List V) r = some (.int (m : Int)) := by
  obtain ⟨j, rfl⟩ := Nat.ofI h0
  have : j = 0 ∨ j = 1 ∨ j = 2 ∨ j = 3 ∨ j = 4 ∨ j = 5 ∨ j = 6 ∨ j = 7 := by omega
  rcases this with rfl | rfl | rfl | rfl | rfl | rfl | rfl | rfl
  · exact ⟨1, by decide, by decide, rfl⟩
  · exact ⟨2, by decide, by decide, rfl⟩
  · exact ⟨3, by decide, by decide, rfl⟩
  · exact ⟨3, by decide, by decide, rfl⟩
  · exact ⟨4, by decide, by decide, rfl⟩
  · exact ⟨5, by decide, by decide, rfl⟩
  · exact ⟨6, by decide, by decide, rfl⟩
  · exact ⟨8, by decide, by decide, rfl⟩
theorem pickR {r : Int} (h0 : 0 ≤ r) (h1 : r < 8) : ∃ m : Nat, m ≤ 8 ∧ atI ([.int 0, .int 1, .int 2, .int 2, .int 3, .int 4, .int 5, .int 8] : List V) r = some (.int (m : Int)) := by
  obtain ⟨j, rfl⟩ := Nat.ofI h0
  have : j = 0 ∨ j = 1 ∨ j = 2 ∨ j = 3 ∨ j = 4 ∨ j = 5 ∨ j = 6 ∨ j = 7 := by omega
  rcases this with rfl | rfl | rfl | rfl | rfl | rfl | rfl | rfl
  · exact ⟨0, by decide, rfl⟩
  · exact ⟨1, by decide, rfl⟩
  · exact ⟨2, by decide, rfl⟩
  · exact ⟨2, by decide, rfl⟩
  · exact ⟨3, by decide, rfl⟩
  · exact ⟨4, by decide, rfl⟩
  · exact ⟨5, by decide, rfl⟩
  · exact ⟨8, by decide, rfl⟩
theorem pickI {r : Int} (h0 : 0 ≤ r) (h1 : r < 5) : ∃ m : Nat, m ≤ 3 ∧ atI ([.int 0, .int 1, .int 2, .int 2, .int 3] : List V) r = some (.int (m : Int)) := by
  obtain ⟨j, rfl⟩ := Nat.ofI h0
  have : j = 0 ∨ j = 1 ∨ j = 2 ∨ j = 3 ∨ j = 4 := by omega
  rcases this with rfl | rfl | rfl | rfl | rfl
  · exact ⟨0, by decide, rfl⟩
  · exact ⟨1, by decide, rfl⟩
  · exact ⟨2, by decide, rfl⟩
  · exact ⟨2, by decide, rfl⟩
  · exact ⟨3, by decide, rfl⟩
theorem pickB {r b : Int} (h0 : 0 ≤ r) (h1 : r < 6) (b0 : 0 ≤ b) (b1 : b < 100) : ∃ m : Int, 0 ≤ m ∧ m ≤ 99 ∧ atI ([.int 0, .int 0, .int 1, .int 2, .int 99, .int b] : List V) r = some (.int m) := by
  obtain ⟨j, rfl⟩ := Nat.ofI h0
  have : j = 0 ∨ j = 1 ∨ j = 2 ∨ j = 3 ∨ j = 4 ∨ j = 5 := by omega
  rcases this with rfl | rfl | rfl | rfl | rfl | rfl
  · exact ⟨0, by decide, by decide, rfl⟩
  · exact ⟨0, by decide, by decide, rfl⟩
  · exact ⟨1, by decide, by decide, rfl⟩
  · exact ⟨2, by decide, by decide, rfl⟩
  · exact ⟨99, by decide, by decide, rfl⟩
  · exact ⟨b, by omega, by omega, rfl⟩
/-- what a drawn pot is -/
structure PotAt (H : Hp) (p : Addr) (nm : List Str) (ins beg : List Int) (ans : Int) (m : Nat) : Prop where
  ex : ∃ (ps pr pin pb : Addr) (rs : List Addr), H p = some (.tup [.ref ps, .ref pr, .ref pin, .ref pb, .int ans]) ∧ H ps = some (.tup (nm.map V.str)) ∧ H pr = some (.tup (rs.map V.ref)) ∧ (∀ r ∈ rs, RuleAt m H r) ∧ rs.length ≤ 8 ∧
    H pin = some (.tup (ins.map V.int)) ∧ H pb = some (.tup (beg.map V.int))
  hn : Names m nm
  m0 : 0 < m
  m8 : m ≤ 8
  hi : ∀ i ∈ ins, 0 ≤ i ∧ i < m
  i3 : ins.length ≤ 3
  nd : ins.Nodup
  bl : beg.length = m
  hb : ∀ b ∈ beg, 0 ≤ b ∧ b ≤ 99
  ha : 0 ≤ ans ∧ ans < m
def spPot : Sp := fun vs H Q _ => ∃ (p : Addr), vs = [.ref p] ∧ FeedAt H p ∧ ∀ (l : Addr) (H' : Hp) (nm : List Str) (ins beg : List Int) (ans : Int) (m : Nat), H l = none → PotAt H' l nm ins beg ans m → FeedAt H' p → But p H H' → Q (.ref l) H'
section
variable {P : Program} {w : World} {K : PySem.W.Frag} {mg : Str → Option Value} {base : Heap}
structure Blt2 (mg : Str → Option Value) : Prop extends Blt mg where
  list : mg "list" = none
  min : mg "min" = none
set_option maxHeartbeats 2000000 in
theorem ok_pot {f : Addr} {fd : FuncData} (B : Blt2 mg) (D : Has P w K mg base 1 "_law_draw" ["_law_feed_here", "_law_many"] spDraw) (N : Has P w K mg base 2 "_law_names" ["_law_feed_here", "_law_many"] spNames)
    (R : Has P w K mg base 2 "_law_rule" ["_law_feed_here", "_law_many"] spRule) (F : Fun K "_law_pot" "_law_pot" sPot f fd) : FnOk P w K mg base CX0 3 f fd ["_law_feed_here"] spPot := by
  refine F.ok scPot (fun vs H Q E h => ?_) (fun cdv A outer s H vs Q E hr h => ?_)
  · obtain ⟨p, rfl, _⟩ := h
    rfl
  · obtain ⟨p, rfl, hF, k⟩ := h
    refine' ⟨_, ?hb, ?rd⟩
    case hb =>
      refine' pss_cons ?s1 ?r1
      case' r1 => refine' pss_cons ?s2 ?r2
      case' r2 => refine' pss_cons ?s3 ?r3
      case' r3 => refine' pss_cons ?s4 ?r4
      case' r4 => refine' pss_cons ?s5 ?r5
      case' r5 => refine' pss_cons ?s6 ?r6
      case' r6 => refine' pss_cons ?s7 ?r7
      case' r7 => refine' pss_one ?s8
      case s1 =>
        refine' ps_setD nmPot 1 ?p1
        case p1 =>
          refine' pe_ix ix_d ?a1 (pe_f D hr (by decide) (pa_2 (pvd nmPot 0) pe_int)) (fun _ _ => rfl)
          case a1 =>
            refine pe_lstC (vs := [.int 1, .int 2, .int 3, .int 3, .int 4, .int 5, .int 6, .int 8]) ?_
            decide +kernel
      case s2 => exact ps_setD nmPot 2 (pe_cT call_tuple_of B.tuple PyProof.Rows.boot_tuple (pa_1 (pe_f N hr (by decide) (pa_2 (pvd nmPot 0) (pvd nmPot 1)))))
      case s3 =>
        refine' ps_setD nmPot 3 ?p3
        case p3 =>
          refine' pe_cT call_tuple_of B.tuple PyProof.Rows.boot_tuple ?qc3
          case' qc3 => refine' pa_1 ?c3
          case c3 =>
            refine' pe_comp (ix := [0, 1]) bsPot2.toCScope rfl rfl ?h3 ?h4 ?h5 ?h6
            case h3 =>
              refine' pi_r1 B.range ?pa3
              case' pa3 => refine' pa_1 ?i3
              case i3 =>
                refine' pe_ix ix_d ?l3 (pe_f D hr (by decide) (pa_2 (pvd nmPot 0) pe_int)) (fun _ _ => rfl)
                case l3 =>
                  refine pe_lstC (vs := [.int 0, .int 1, .int 2, .int 2, .int 3, .int 4, .int 5, .int 8]) ?_
                  decide +kernel
            case h4 => exact fun _ _ _ _ _ _ => pgb bsPot2 0
            case h5 => exact fun _ _ _ _ _ _ => pts_nil
            case h6 => exact fun _ _ _ _ _ _ => pe_f R hr (by decide) (pa_2 (pvb bsPot2 1) (pvb bsPot2 2)) (bsPot2.g 0)
      case s4 =>
        refine' ps_setD nmPot 4 ?p4
        case' p4 => refine' pe_cT (call_listRng rfl) B.list PyProof.Rows.boot_list ?q4
        case' q4 => refine' pa_1 ?u4
        case u4 => exact pe_cT call_rangeV B.range PyProof.Rows.boot_range (pa_1 (pvd nmPot 1))
      case s5 => exact ps_setD nmPot 5 (pe_lst pa_nil)
      case s6 =>
        refine' ps_for PassesOwn.never rfl ?i6 (pgd nmPot 6) ?b6
        case i6 =>
          refine' pi_r1 B.range ?pa6
          case' pa6 => refine' pa_1 ?j6
          case j6 =>
            refine' pe_cB (call_min2 rfl) B.min PyProof.Rows.boot_min ?q6
            case' q6 => refine' pa_2 ?m6a ?m6
            case m6a => exact pvd nmPot 1
            case m6 =>
              refine' pe_ix ix_d ?l6 (pe_f D hr (by decide) (pa_2 (pvd nmPot 0) pe_int)) (fun _ _ => rfl)
              case l6 =>
                refine pe_lstC (vs := [.int 0, .int 1, .int 2, .int 2, .int 3]) ?_
                decide +kernel
        case b6 =>
          refine' pss_one ?b6a
          case' b6a => refine' ps_expr ?b6b
          case' b6b => refine' pe_bm PySem.F.plainAttrs_list PySem.F.slot_list_append PySem.F.type_list_append mt_append (pvd nmPot 5) ?b6c
          case' b6c => refine' pa_1 ?b6d
          case' b6d => refine' pe_bm PySem.F.plainAttrs_list PySem.F.slot_list_pop PySem.F.type_list_pop mt_popAt (pvd nmPot 4) ?b6e
          case' b6e => refine' pa_1 ?b6f
          case' b6f => refine' pe_f D hr (by decide) ?b6g
          case' b6g => refine' pa_2 (pvd nmPot 0) ?b6h
          case b6h => exact pe_cB call_len_seq B.len PySem.boot_len (pa_1 (pvd nmPot 4))
      case s7 =>
        refine' ps_setD nmPot 7 ?p7
        case p7 =>
          refine' pe_cT call_tuple_of B.tuple PyProof.Rows.boot_tuple ?qc7
          case' qc7 => refine' pa_1 ?c7
          case c7 =>
            refine' pe_comp (ix := [0]) bsPot6.toCScope rfl rfl ?h3 ?h4 ?h5 ?h6
            case h3 => exact pi_tup (pvd nmPot 2)
            case h4 => exact fun _ _ _ _ _ _ => pgb bsPot6 0
            case h5 => exact fun _ _ _ _ _ _ => pts_nil
            case h6 =>
              intro _ _ _ _ _ _
              refine' pe_ix ix_d ?e7 ?g7 (fun _ _ => rfl)
              case g7 => exact pe_f D hr (by decide) (pa_2 (pvb bsPot6 1) pe_int) (bsPot6.g 0)
              case e7 =>
                refine' pe_lst ?e7a
                case' e7a => refine' pa_c pe_int ?e7b
                case' e7b => refine' pa_c pe_int ?e7c
                case' e7c => refine' pa_c pe_int ?e7d
                case' e7d => refine' pa_c pe_int ?e7e
                case' e7e => refine' pa_c pe_int ?e7f
                case' e7f => refine' pa_1 ?e7g
                case e7g => exact pe_f D hr (by decide) (pa_2 (pvb bsPot6 1) pe_int) (bsPot6.g 0)
      case s8 => exact ps_ret (pe_tup (pa_c (pvd nmPot 2) (pa_c (pvd nmPot 3) (pa_c (pe_cT call_tuple_of B.tuple PyProof.Rows.boot_tuple (pa_1 (pvd nmPot 5))) (pa_c (pvd nmPot 7) (pa_c (pe_f D hr (by decide) (pa_2 (pvd nmPot 0) (pvd nmPot 1))) pa_nil))))))
    case rd =>
      have S0 : SS p H H := ⟨hF, But.refl⟩
      walk_at "v"
      refine ⟨by show 8 ≤ sizeLine; decide, fun a1 ha1 => ?_⟩
      have S1 := S0.new (o := .lst [.int 1, .int 2, .int 3, .int 3, .int 4, .int 5, .int 6, .int 8]) ha1
      have np1 := S0.fd.ne ha1
      walk_at "v"
      refine ⟨p, 8, rfl, S1.fd, by decide, by decide, fun r x y z r0 r1 => ?_⟩
      obtain ⟨m, m0, m8, hat⟩ := pick8 r0 r1
      refine w_ixL (by rw [upd_ne (Ne.symm np1), upd_same]) hat ?_
      have S2 := S1.draw (x := x) (y := y) (z := z)
      generalize upd (upd H a1 (.lst [.int 1, .int 2, .int 3, .int 3, .int 4, .int 5, .int 6, .int 8])) p (.lst [.int x, .int y, .int z]) = H2 at S2 ⊢
      clear S1 hat r0 r1
      have hm : ((m : Nat) : Int) < 1000000 := by omega
      have hm0 : (0 : Int) < (m : Int) := by omega
      walk_at "v"
      refine ⟨p, m, rfl, S2.fd, m0, by omega, fun l nm H3 hl hN hF3 hB3 hl3 => ?_⟩
      have S3 := S2.call hF3 hB3
      walk_at "v"
      refine ⟨l, _, rfl, .inl ⟨SqL.of hl3, fun ps hps => ?_⟩⟩
      have S4 := S3.new (o := .tup (nm.map V.str)) hps
      have ep : upd H3 ps (.tup (nm.map V.str)) ps = some (.tup (nm.map V.str)) := upd_same
      generalize upd H3 ps (.tup (nm.map V.str)) = H4 at S4 ep ⊢
      clear S3 S2 hl hF3 hB3 hl3 hps
      walk_at "v"
      refine ⟨by show 8 ≤ sizeLine; decide, fun a3 ha3 => ?_⟩
      have S5 := S4.new (o := .lst [.int 0, .int 1, .int 2, .int 2, .int 3, .int 4, .int 5, .int 8]) ha3
      have np3 := S4.fd.ne ha3
      walk_at "v"
      refine ⟨p, 8, rfl, S5.fd, by decide, by decide, fun r x y z r0 r1 => ?_⟩
      obtain ⟨n, n8, hat⟩ := pickR r0 r1
      refine w_ixL (by rw [upd_ne (Ne.symm np3), upd_same]) hat ?_
      have S6 := S5.draw (x := x) (y := y) (z := z)
      have ep6 := ((TK.new (o := .lst [.int 0, .int 1, .int 2, .int 2, .int 3, .int 4, .int 5, .int 8]) ha3).trans (TK.feed (o := .lst [.int x, .int y, .int z]) S5.fd)).t _ _ ep
      generalize upd (upd H4 a3 (.lst [.int 0, .int 1, .int 2, .int 2, .int 3, .int 4, .int 5, .int 8])) p (.lst [.int x, .int y, .int z]) = H6 at S6 ep6 ⊢
      clear S5 hat r0 r1 ep S4 ha3 np3 np1 ha1
      walk_at "v"
      refine ⟨n, rfl, by omega, by omega, fun dr hdr => ?_⟩
      have ndr := S6.none hdr
      have pdr := S6.fd.ne hdr
      refine cgo_range (ρ := [some (.ref p), some (.int m)]) (fun i ys H' => ∃ rs : List Addr, ys = rs.map V.ref ∧ rs.length = i ∧ (∀ r ∈ rs, RuleAt m H' r) ∧ SS p H H' ∧ TK H6 H') ⟨[], rfl, rfl, (fun r h => by cases h), S6.new hdr, TK.new hdr⟩ ?_ ?_
      · rintro i ys H' hi ⟨rs, rfl, hlen, hrs, S, T⟩ hD R' S' kR _
        walk_at "v"
        refine ⟨p, m, rfl, S.fd, m0, m8, fun r H'' hr0 hR hF' hB => ?_⟩
        have S7 := S.call hF' hB
        have hD' := hB dr _ hD (Ne.symm pdr)
        have T7 := TK.but S.fd hB
        have T8 : TK H'' (upd H'' dr (.lst (rs.map V.ref ++ [.ref r]))) := TK.lst hD'
        refine kR _ _ hD' (by rw [List.length_map]; exact small1000 (by rw [Int.toNat_natCast] at hi; omega)) ⟨rs ++ [r], by rw [List.map_append]; rfl, by simp [hlen], fun q hq => ?_, S7.put ndr pdr, (T.trans T7).trans T8⟩
        rcases List.mem_append.mp hq with old | new
        · exact ((hrs q old).tk T7).tk T8
        · rw [List.mem_singleton.mp new]
          exact hR.tk T8
      · rintro ys H' ⟨rs, rfl, hlen, hrs, S, T⟩ hD
        rw [Int.toNat_natCast] at hlen
        have ep7 := T.t _ _ ep6
        clear ep6 T S6
        walk_at "v"
        refine ⟨dr, _, rfl, .inl ⟨SqL.of hD, fun pr hpr => ?_⟩⟩
        have S8 := S.new (o := .tup (rs.map V.ref)) hpr
        have T8 : TK H' (upd H' pr (.tup (rs.map V.ref))) := TK.new hpr
        have ep8 := T8.t _ _ ep7
        have hrs8 : ∀ r ∈ rs, RuleAt m (upd H' pr (.tup (rs.map V.ref))) r := fun r h => (hrs r h).tk T8
        have er8 : upd H' pr (.tup (rs.map V.ref)) pr = some (.tup (rs.map V.ref)) := upd_same
        generalize upd H' pr (.tup (rs.map V.ref)) = H8 at S8 ep8 er8 hrs8 ⊢
        clear S T8 ep7 hD hrs hpr
        walk_at "v"
        refine ⟨m, rfl, fun rg hrg => ?_⟩
        have S9 := S8.new (o := .rng 0 m) hrg
        have T9 : TK H8 (upd H8 rg (.rng 0 m)) := TK.new hrg
        have erg : upd H8 rg (.rng 0 m) rg = some (.rng 0 m) := upd_same
        generalize upd H8 rg (.rng 0 m) = H9 at S9 T9 erg ⊢
        walk_at "v"
        refine ⟨rg, m, rfl, erg, by omega, fun pl hpl => ?_⟩
        have S10 := S9.new (o := .lst ((List.range m).map fun (i : Nat) => V.int (i : Int))) hpl
        have T10 := T9.trans (TK.new (o := .lst ((List.range m).map fun (i : Nat) => V.int (i : Int))) hpl)
        have npl := S9.none hpl
        have ppl := S9.fd.ne hpl
        have el : upd H9 pl (.lst ((List.range m).map fun (i : Nat) => V.int (i : Int))) pl = some (.lst (((List.range m).map fun (i : Nat) => (i : Int)).map V.int)) := by rw [upd_same, List.map_map]; rfl
        generalize upd H9 pl (.lst ((List.range m).map fun (i : Nat) => V.int (i : Int))) = H10 at S10 T10 el ⊢
        clear S9 T9 erg hpl hrg S8
        walk_at "v"
        refine ⟨Nat.zero_le _, fun pi hpi => ?_⟩
        have S11 := S10.new (o := .lst []) hpi
        have T11 := T10.trans (TK.new (o := .lst []) hpi)
        have npi := S10.none hpi
        have ppi := S10.fd.ne hpi
        have nli : pl ≠ pi := ne_of_none el hpi
        have el11 : upd H10 pi (.lst []) pl = some (.lst (((List.range m).map fun (i : Nat) => (i : Int)).map V.int)) := by rw [upd_ne nli]; exact el
        have ei11 : upd H10 pi (.lst []) pi = some (.lst (([] : List Int).map V.int)) := upd_same
        generalize upd H10 pi (.lst []) = H11 at S11 T11 el11 ei11 ⊢
        clear S10 T10 el hpi
        walk_at "v"
        refine ⟨by show 5 ≤ sizeLine; decide, fun a5 ha5 => ?_⟩
        have S12 := S11.new (o := .lst [.int 0, .int 1, .int 2, .int 2, .int 3]) ha5
        have np5 := S11.fd.ne ha5
        walk_at "v"
        refine ⟨p, 5, rfl, S12.fd, by decide, by decide, fun r x y z r0 r1 => ?_⟩
        obtain ⟨c, c3, hat⟩ := pickI r0 r1
        refine w_ixL (by rw [upd_ne (Ne.symm np5), upd_same]) hat ?_
        have S13 := S12.draw (x := x) (y := y) (z := z)
        have T13 := (T11.trans (TK.new (o := .lst [.int 0, .int 1, .int 2, .int 2, .int 3]) ha5)).trans (TK.feed (o := .lst [.int x, .int y, .int z]) S12.fd)
        have el13 : upd (upd H11 a5 (.lst [.int 0, .int 1, .int 2, .int 2, .int 3])) p (.lst [.int x, .int y, .int z]) pl = some (.lst (((List.range m).map fun (i : Nat) => (i : Int)).map V.int)) := by rw [upd_ne (Ne.symm ppl), upd_ne (ne_of_none el11 ha5)]; exact el11
        have ei13 : upd (upd H11 a5 (.lst [.int 0, .int 1, .int 2, .int 2, .int 3])) p (.lst [.int x, .int y, .int z]) pi = some (.lst (([] : List Int).map V.int)) := by rw [upd_ne (Ne.symm ppi), upd_ne (ne_of_none ei11 ha5)]; exact ei11
        generalize upd (upd H11 a5 (.lst [.int 0, .int 1, .int 2, .int 2, .int 3])) p (.lst [.int x, .int y, .int z]) = H13 at S13 T13 el13 ei13 ⊢
        clear S12 S11 T11 el11 ei11 ha5 np5 hat r0 r1
        walk_at "v"
        refine ⟨m, c, rfl, ?_⟩
        have ec : (if (c : Int) < (m : Int) then (c : Int) else (m : Int)) = ((min c m : Nat) : Int) := by
          by_cases h : (c : Int) < (m : Int)
          · rw [if_pos h]; omega
          · rw [if_neg h]; omega
        rw [ec]
        walk_at "v"
        refine ⟨_, rfl, by omega, by omega, ?_⟩
        rw [Int.toNat_natCast]
        refine for_range (fun i σ H' => ∃ (u : Option V) (lf is : List Int), σ = [some (.ref p), some (.int m), some (.ref ps), some (.ref pr), some (.ref pl), some (.ref pi), u, none] ∧ H' pl = some (.lst (lf.map V.int)) ∧ H' pi = some (.lst (is.map V.int)) ∧
            lf.length + i = m ∧ is.length = i ∧ (∀ j ∈ lf, 0 ≤ j ∧ j < (m : Int)) ∧ (∀ j ∈ is, 0 ≤ j ∧ j < (m : Int)) ∧ SS p H H' ∧ TK H8 H' ∧ (lf ++ is).Nodup)
          ⟨none, _, [], rfl, el13, ei13, by simp, rfl, fun j hj => by
            obtain ⟨q, hq, rfl⟩ := List.mem_map.mp hj
            have := List.mem_range.mp hq
            omega, (fun j hj => by cases hj), S13, T13, nd_rng m⟩ ?_ ?_
        · rintro i σ H' hi ⟨u, lf, is, rfl, el, ei, hlen1, hlen2, hlf, his, S, T, hnd⟩
          walk_at "v"
          refine ⟨.inl ⟨rfl, _, SqL.of ei⟩, ?_⟩
          walk_at "v"
          refine ⟨.inl ⟨rfl, _, SqL.of el⟩, ?_⟩
          walk_at "v"
          refine ⟨pl, _, rfl, .inl (SqL.of el), ?_⟩
          rw [List.length_map]
          refine ⟨p, lf.length, rfl, S.fd, by omega, by omega, fun r x y z r0 r1 => ?_⟩
          have S' := S.draw (x := x) (y := y) (z := z)
          have T' := T.trans (TK.feed (o := .lst [.int x, .int y, .int z]) S.fd)
          have el' : upd H' p (.lst [.int x, .int y, .int z]) pl = some (.lst (lf.map V.int)) := by rw [upd_ne (Ne.symm ppl)]; exact el
          have ei' : upd H' p (.lst [.int x, .int y, .int z]) pi = some (.lst (is.map V.int)) := by rw [upd_ne (Ne.symm ppi)]; exact ei
          generalize upd H' p (.lst [.int x, .int y, .int z]) = H2 at S' T' el' ei' ⊢
          obtain ⟨j, rfl⟩ := Nat.ofI r0
          have hj : j < lf.length := by omega
          have hix : ixN (lf.map V.int).length (j : Int) = some j := by
            rw [List.length_map]
            unfold ixN
            rw [if_pos r0, if_pos r1]
            rfl
          walk_at "v"
          refine ⟨pl, _, _, j, .int lf[j], rfl, rfl, el', by omega, by omega, (ixN_seq hix).1, by simp [hj], ?_⟩
          have S'' := S'.put (o := .lst ((lf.map V.int).eraseIdx j)) npl ppl
          have T'' := T'.trans (TK.lst (o := .lst ((lf.map V.int).eraseIdx j)) el')
          have el'' : upd H2 pl (.lst ((lf.map V.int).eraseIdx j)) pl = some (.lst ((lf.eraseIdx j).map V.int)) := by rw [upd_same, map_erase]
          have ei'' : upd H2 pl (.lst ((lf.map V.int).eraseIdx j)) pi = some (.lst (is.map V.int)) := by rw [upd_ne (Ne.symm nli)]; exact ei'
          generalize upd H2 pl (.lst ((lf.map V.int).eraseIdx j)) = H3' at S'' T'' el'' ei'' ⊢
          walk_at "v"
          refine ⟨pi, _, _, rfl, rfl, ei'', by rw [List.length_map]; exact small1000 (by omega), ?_⟩
          refine ⟨_, lf.eraseIdx j, is ++ [lf[j]], rfl, by rw [upd_ne nli]; exact el'', by rw [upd_same, List.map_append]; rfl, ?_, by simp [hlen2], ?_, ?_, S''.put npi ppi, T''.trans (TK.lst ei''), nd_pop hj hnd⟩
          · rw [List.length_eraseIdx_of_lt hj]
            omega
          · exact fun q hq => hlf q (List.mem_of_mem_eraseIdx hq)
          · intro q hq
            rcases List.mem_append.mp hq with old | new
            · exact his q old
            · rw [List.mem_singleton.mp new]
              exact hlf _ (List.getElem_mem hj)
        · rintro σ H14 ⟨u, lf, is, rfl, el, ei, hlen1, hlen2, hlf, his, S14, T14, hnd⟩
          have ep14 := T14.t _ _ ep8
          have hi3 : is.length ≤ 3 := by omega
          clear S13 T13 el13 ei13 el hlf hlen1
          walk_at "v"
          refine ⟨ps, rfl, ⟨_, SqT.of ep14⟩, fun db hdb => ?_⟩
          have ndb := S14.none hdb
          have pdb := S14.fd.ne hdb
          have idb : pi ≠ db := ne_of_none ei hdb
          refine cgo_tup (xs := nm.map V.str) (ρ := [some (.ref p)]) (fun i ys H' => ∃ bs : List Int, ys = bs.map V.int ∧ bs.length = i ∧ (∀ b ∈ bs, 0 ≤ b ∧ b ≤ 99) ∧ SS p H H' ∧ TK H14 H' ∧ H' pi = some (.lst (is.map V.int)))
            ⟨[], rfl, rfl, (fun b hb => by cases hb), S14.new hdb, TK.new hdb, by rw [upd_ne idb]; exact ei⟩ (fun i ys H' _ ⟨_, _, _, _, _, T, _⟩ => SqT.of (T.t _ _ ep14)) ?_ ?_
          · rintro i xv ys H' hxi ⟨bs, rfl, hbl, hbs, S, T, eI⟩ hD R' S' kR _
            have hi8 : i < 8 := by
              have := (List.getElem?_eq_some_iff.mp hxi).1
              rw [List.length_map, hN.1] at this
              omega
            walk_at "v"
            refine ⟨p, 100, rfl, S.fd, by decide, by decide, fun r x y z r0 r1 => ?_⟩
            have S2 := S.draw (x := x) (y := y) (z := z)
            have T2 := T.trans (TK.feed (o := .lst [.int x, .int y, .int z]) S.fd)
            have eI2 : upd H' p (.lst [.int x, .int y, .int z]) pi = some (.lst (is.map V.int)) := by rw [upd_ne (Ne.symm ppi)]; exact eI
            have hD2 : upd H' p (.lst [.int x, .int y, .int z]) db = some (.lst (bs.map V.int)) := by rw [upd_ne (Ne.symm pdb)]; exact hD
            generalize upd H' p (.lst [.int x, .int y, .int z]) = H2 at S2 T2 eI2 hD2 ⊢
            walk_at "v"
            refine ⟨by show 6 ≤ sizeLine; decide, fun a6 ha6 => ?_⟩
            have S3 := S2.new (o := .lst [.int 0, .int 0, .int 1, .int 2, .int 99, .int r]) ha6
            have T3 := T2.trans (TK.new (o := .lst [.int 0, .int 0, .int 1, .int 2, .int 99, .int r]) ha6)
            have p6 := S2.fd.ne ha6
            have eI3 : upd H2 a6 (.lst [.int 0, .int 0, .int 1, .int 2, .int 99, .int r]) pi = some (.lst (is.map V.int)) := by rw [upd_ne (ne_of_none eI2 ha6)]; exact eI2
            have hD3 : upd H2 a6 (.lst [.int 0, .int 0, .int 1, .int 2, .int 99, .int r]) db = some (.lst (bs.map V.int)) := by rw [upd_ne (ne_of_none hD2 ha6)]; exact hD2
            have e6 : upd H2 a6 (.lst [.int 0, .int 0, .int 1, .int 2, .int 99, .int r]) a6 = some (.lst [.int 0, .int 0, .int 1, .int 2, .int 99, .int r]) := upd_same
            generalize upd H2 a6 (.lst [.int 0, .int 0, .int 1, .int 2, .int 99, .int r]) = H3' at S3 T3 eI3 hD3 e6 ⊢
            walk_at "v"
            refine ⟨p, 6, rfl, S3.fd, by decide, by decide, fun r' x' y' z' r0' r1' => ?_⟩
            obtain ⟨bv, b0, b1, hat⟩ := pickB r0' r1' r0 r1
            refine w_ixL (by rw [upd_ne (Ne.symm p6)]; exact e6) hat ?_
            have hD4 : upd H3' p (.lst [.int x', .int y', .int z']) db = some (.lst (bs.map V.int)) := by rw [upd_ne (Ne.symm pdb)]; exact hD3
            refine kR _ _ hD4 (by rw [List.length_map]; exact small1000 (by omega)) ⟨bs ++ [bv], by rw [List.map_append]; rfl, by simp [hbl], fun b hb => ?_, S3.draw.put ndb pdb, (T3.trans (TK.feed S3.fd)).trans (TK.lst hD4), by rw [upd_ne idb, upd_ne (Ne.symm ppi)]; exact eI3⟩
            rcases List.mem_append.mp hb with old | new
            · exact hbs b old
            · rw [List.mem_singleton.mp new]
              exact ⟨b0, b1⟩
          · rintro ys H15 ⟨bs, rfl, hbl, hbs, S15, T15, eI⟩ hD
            rw [List.length_map, hN.1] at hbl
            walk_at "v"
            refine ⟨db, _, rfl, .inl ⟨SqL.of hD, fun pb hpb => ?_⟩⟩
            have S16 := S15.new (o := .tup (bs.map V.int)) hpb
            have T16 := (T14.trans T15).trans (TK.new (o := .tup (bs.map V.int)) hpb)
            have eI16 : upd H15 pb (.tup (bs.map V.int)) pi = some (.lst (is.map V.int)) := by rw [upd_ne (ne_of_none eI hpb)]; exact eI
            have eb16 : upd H15 pb (.tup (bs.map V.int)) pb = some (.tup (bs.map V.int)) := upd_same
            generalize upd H15 pb (.tup (bs.map V.int)) = H16 at S16 T16 eI16 eb16 ⊢
            clear S15 T15 eI hD hpb
            walk_at "v"
            refine ⟨pi, _, rfl, .inl ⟨SqL.of eI16, fun pin hpin => ?_⟩⟩
            have S17 := S16.new (o := .tup (is.map V.int)) hpin
            have T17 : TK H16 (upd H16 pin (.tup (is.map V.int))) := TK.new hpin
            have ein : upd H16 pin (.tup (is.map V.int)) pin = some (.tup (is.map V.int)) := upd_same
            generalize upd H16 pin (.tup (is.map V.int)) = H17 at S17 T17 ein ⊢
            walk_at "v"
            refine ⟨p, m, rfl, S17.fd, hm0, hm, fun ans x y z a0 a1 => ?_⟩
            have S18 := S17.draw (x := x) (y := y) (z := z)
            have T18 : TK H17 (upd H17 p (.lst [.int x, .int y, .int z])) := TK.feed S17.fd
            generalize upd H17 p (.lst [.int x, .int y, .int z]) = H18 at S18 T18 ⊢
            walk_at "v"
            refine ⟨by show 5 ≤ sizeLine; decide, fun l hl => ?_⟩
            have T19 : TK H18 (upd H18 l (.tup [.ref ps, .ref pr, .ref pin, .ref pb, .int ans])) := TK.new hl
            have S19 := S18.new (o := .tup [.ref ps, .ref pr, .ref pin, .ref pb, .int ans]) hl
            have TA : TK H8 (upd H18 l (.tup [.ref ps, .ref pr, .ref pin, .ref pb, .int ans])) := ((T16.trans T17).trans T18).trans T19
            refine k l _ nm is bs ans m (S18.none hl) ⟨⟨ps, pr, pin, pb, rs, upd_same, TA.t _ _ ep8, TA.t _ _ er8, fun r h => (hrs8 r h).tk TA, by omega, (T18.trans T19).t _ _ ein, ((T17.trans T18).trans T19).t _ _ eb16⟩, hN, m0, m8, his, hi3, (List.nodup_append.mp hnd).2.1, hbl, hbs, a0, a1⟩ S19.fd S19.bt
end
end K03

set_option Elab.async false
set_option linter.all false
set_option maxRecDepth 100000
namespace L2
open PySem PySem.Spec PyProof.Rows
/-! ### zip of three tuples -/
def IsTri (h : Heap) (T : Addr) (a b c : Value) : Prop := h.get? T = some { cls := .type "tuple", data := .seq #[a, b, c] }
structure Apart3 (z TI TO i1 i2 i3 l1 l2 l3 : Addr) : Prop where
  nz : TI ≠ z ∧ TO ≠ z ∧ i1 ≠ z ∧ i2 ≠ z ∧ i3 ≠ z
  nI : TI ≠ TO ∧ TI ≠ i1 ∧ TI ≠ i2 ∧ TI ≠ i3
  nO : TO ≠ i1 ∧ TO ≠ i2 ∧ TO ≠ i3
  ni : i1 ≠ i2 ∧ i1 ≠ i3 ∧ i2 ≠ i3
  l1 : l1 ≠ z ∧ l1 ≠ TO ∧ l1 ≠ i1 ∧ l1 ≠ i2 ∧ l1 ≠ i3
  l2 : l2 ≠ z ∧ l2 ≠ TO ∧ l2 ≠ i1 ∧ l2 ≠ i2 ∧ l2 ≠ i3
  l3 : l3 ≠ z ∧ l3 ≠ TO ∧ l3 ≠ i1 ∧ l3 ≠ i2 ∧ l3 ≠ i3
section
variable {prog : Program} {w : World} {A : Around} {E : Value → Shared → Prop} {s : Shared}
end
abbrev ztH1 (h : Heap) (a : Addr) : Heap := h.push { cls := .type "tuple_iterator", data := .fields #[.ref a, .int 0 0] }
abbrev ztH2 (h : Heap) (a b : Addr) : Heap := (ztH1 h a).push { cls := .type "tuple_iterator", data := .fields #[.ref b, .int 0 0] }
abbrev ztH3 (h : Heap) (a b c : Addr) : Heap := (ztH2 h a b).push { cls := .type "tuple_iterator", data := .fields #[.ref c, .int 0 0] }
abbrev ztH4 (h : Heap) (a b c : Addr) : Heap := (ztH3 h a b c).push { cls := .type "tuple", data := .seq #[.ref h.objs.size, .ref (ztH1 h a).objs.size, .ref (ztH2 h a b).objs.size] }
abbrev ztH5 (h : Heap) (a b c : Addr) : Heap := (ztH4 h a b c).push { cls := .type "tuple", data := .seq #[.none, .none, .none] }
abbrev ztH6 (h : Heap) (a b c : Addr) : Heap := (ztH5 h a b c).push { cls := .type "zip", data := .fields #[.none, .bool false, .bool false, .ref (ztH3 h a b c).objs.size, .ref (ztH4 h a b c).objs.size] }
end L2

set_option Elab.async false
set_option linter.all false
set_option maxRecDepth 100000
namespace L2
open PySem PySem.Spec PyProof.Rows
/-! ### displays of constants, numbers below nought too -/
def constW : Expr → Option V
  | .Constant (.int n) _ _ => some (.int n)
  | .Constant (.str y) _ _ => some (.str y)
  | .UnaryOp .USub (.Constant (.int n) _ _) _ => some (.int (-n))
  | _ => none
def constsW : List Expr → Option (List V)
  | [] => some []
  | e :: r => match constW e, constsW r with
    | some v, some vs => some (v :: vs)
    | _, _ => none
theorem w_unI {σ : St} {H : Hp} {Q : VK} {g : Int → V} {ta : TE} (h : ta σ H fun x H1 => ∃ i, x = .int i ∧ Q (g i) H1) : tUn (rU g) ta σ H Q := h
end L2
namespace G2
open PySem L2
theorem md {i j : Int} (h : 0 < j) : 0 ≤ i % j ∧ i % j < j := ⟨Int.emod_nonneg _ (Int.ne_of_gt h), Int.emod_lt_of_pos _ h⟩
theorem mulL {i j : Int} (h1 : -4000000000 < i) (h2 : i < 4000000000) : CMul i j := .inl ⟨by omega, by omega⟩
theorem ofI {r : Int} (h : 0 ≤ r) : ∃ n : Nat, r = (n : Int) := ⟨r.toNat, by omega⟩
/-- tuples stay, and what is known as an object -/
structure TK (H H' : Hp) : Prop where
  t : ∀ q xs, H q = some (.tup xs) → H' q = some (.tup xs)
  f : ∀ q o u, H q = some (.frz o u) → H' q = some (.frz o u)
section
variable {p l : Addr} {H H' H'' : Hp} {o : HO}
theorem TK.refl : TK H H := ⟨fun _ _ e => e, fun _ _ _ e => e⟩
theorem TK.trans (a : TK H H') (b : TK H' H'') : TK H H'' := ⟨fun q xs e => b.t q xs (a.t q xs e), fun q o u e => b.f q o u (a.f q o u e)⟩
theorem TK.new (h : H l = none) : TK H (upd H l o) := ⟨fun q xs e => by rw [upd_ne (ne_of_none e h)]; exact e, fun q ob u e => by rw [upd_ne (ne_of_none e h)]; exact e⟩
theorem TK.lst {ys : List V} (h : H l = some (.lst ys)) : TK H (upd H l o) := ⟨fun q xs e => by rw [upd_ne (ne_of e h (by intro z; cases z))]; exact e, fun q ob u e => by rw [upd_ne (ne_of e h (by intro z; cases z))]; exact e⟩
theorem TK.same (k : Same H H') : TK H H' := ⟨fun _ _ e => k _ _ e, fun _ _ _ e => k _ _ e⟩
end
theorem _root_.L2.Same.new {H H' : Hp} {l : Addr} {o : HO} (k : Same H H') (h : H' l = none) : Same H (upd H' l o) := fun b u e => by
  rw [upd_ne (ne_of_none (k b u e) h)]
  exact k b u e
theorem _root_.L2.Same.put {H H' : Hp} {l : Addr} {o : HO} (k : Same H H') (h : H l = none) : Same H (upd H' l o) := fun b u e => by
  rw [upd_ne (ne_of_none e h)]
  exact k b u e
/-- the script, known as an object -/
def SqF (K : PySem.W.Frag) (H : Hp) (a : Addr) (xs : List V) : Prop :=
  (∃ o, H a = some (.frz o (.lst xs))) ∨ ∃ (o : Obj) (its : Array Value) (n : Nat), K.lookup a = some o ∧ o.cls = .type "list" ∧ o.dict = none ∧ o.data = .seq its n ∧ its.size ≤ sizeLine ∧ Vals xs its.toList
theorem SqF.sq {K : PySem.W.Frag} {H : Hp} {a : Addr} {xs : List V} : SqF K H a xs → SqL K H a xs
  | .inl ⟨o, e⟩ => .inl (.inr ⟨o, e⟩)
  | .inr h => .inr h
theorem SqF.of {K : PySem.W.Frag} {H : Hp} {a : Addr} {xs : List V} (O : Only H) : SqL K H a xs → SqF K H a xs
  | .inl (.inl e) => by
    rcases O a with z | ⟨o, ys, z⟩
    · rw [e] at z; cases z
    · rw [e] at z; cases z
  | .inl (.inr h) => .inl h
  | .inr h => .inr h
theorem SqF.tk {K : PySem.W.Frag} {H H' : Hp} {a : Addr} {xs : List V} (k : TK H H') : SqF K H a xs → SqF K H' a xs
  | .inl ⟨o, e⟩ => .inl ⟨o, k.f _ _ _ e⟩
  | .inr h => .inr h
/-! ### a tape of draws -/
structure Tp (H : Hp) (p l : Addr) (ns : List Int) : Prop where
  ex : ∃ c e : Int, H p = some (.lst [.ref l, .int c, .int e])
  hl : H l = some (.lst (ns.map V.int))
  ne : p ≠ l
section
variable {p l a : Addr} {H H' : Hp} {o : HO} {ns : List Int}
theorem Tp.draw (t : Tp H p l ns) {c e : Int} : Tp (upd H p (.lst [.ref l, .int c, .int e])) p l ns := ⟨⟨c, e, upd_same⟩, by rw [upd_ne (Ne.symm t.ne)]; exact t.hl, t.ne⟩
theorem Tp.nl (t : Tp H p l ns) (h : H a = none) : l ≠ a := ne_of_none t.hl h
theorem Tp.new (t : Tp H p l ns) (h : H a = none) : Tp (upd H a o) p l ns := by
  obtain ⟨c, e, hp⟩ := t.ex
  exact ⟨⟨c, e, by rw [upd_ne (ne_of_none hp h)]; exact hp⟩, by rw [upd_ne (ne_of_none t.hl h)]; exact t.hl, t.ne⟩
theorem Tp.put (t : Tp H p l ns) (h1 : p ≠ a) (h2 : l ≠ a) : Tp (upd H a o) p l ns := by
  obtain ⟨c, e, hp⟩ := t.ex
  exact ⟨⟨c, e, by rw [upd_ne h1]; exact hp⟩, by rw [upd_ne h2]; exact t.hl, t.ne⟩
theorem Tp.same (t : Tp H p l ns) (k : Same H H') : Tp H' p l ns := by
  obtain ⟨c, e, hp⟩ := t.ex
  exact ⟨⟨c, e, k _ _ hp⟩, k _ _ t.hl, t.ne⟩
theorem Tp.tk (t : Tp H p l ns) : TK H (upd H p o) := let ⟨_, _, e⟩ := t.ex; TK.lst e
end
/-! ### texts -/
theorem log_small {n : Nat} (h : n < 1000000000000000) : n.log2 < 1920 := by
  by_cases h0 : n = 0
  · subst h0
    decide
  · exact (Nat.log2_lt h0).mpr (Nat.lt_of_lt_of_le h (by decide +kernel))
def Sm (i : Int) : Prop := -1000000000000000 < i ∧ i < 1000000000000000
theorem show_ints : ∀ (ns : List Int), (∀ n ∈ ns, Sm n) → PyData.showableAll (ns.map PyData.int) = true
  | [], _ => rfl
  | n :: ns, h => by
    obtain ⟨h0, h1⟩ := h n List.mem_cons_self
    have hs : n.natAbs.log2 < 1920 := log_small (by omega)
    simp only [List.map_cons, PyData.showableAll, PyData.showable, decide_eq_true hs, show_ints ns fun m hm => h m (List.mem_cons_of_mem _ hm), Bool.and_self]
theorem nodict_ints : ∀ (ns : List Int), PyData.hasDictAll (ns.map PyData.int) = false
  | [] => rfl
  | n :: ns => by simp only [List.map_cons, PyData.hasDictAll, PyData.hasDict, nodict_ints ns, Bool.or_self]
theorem len_int {n : Int} (h : Sm n) : (PyData.shown (.int n)).length ≤ 16 := by
  obtain ⟨h0, h1⟩ := h
  have := int_text_length_le10 (a := n) (k := 15) (by decide) (by omega)
  show (Str.ofString (toString n)).length ≤ 16
  rw [ofString_length]
  exact this
theorem len_ints : ∀ (ns : List Int), (∀ n ∈ ns, Sm n) → ((PyData.shownAll (ns.map PyData.int)).map (·.length)).sum ≤ 16 * ns.length ∧ (PyData.shownAll (ns.map PyData.int)).length = ns.length
  | [], _ => ⟨Nat.le_refl _, rfl⟩
  | n :: ns, h => by
    obtain ⟨i1, i2⟩ := len_ints ns fun m hm => h m (List.mem_cons_of_mem _ hm)
    have e := len_int (h n List.mem_cons_self)
    simp only [List.map_cons, PyData.shownAll, List.sum_cons, List.length_cons]
    exact ⟨by omega, by omega⟩
theorem len_tup (ds : List PyData) : (PyData.shown (.tuple ds)).length ≤ ((PyData.shownAll ds).map (·.length)).sum + 2 * (PyData.shownAll ds).length + 3 := tupleText_len_le _
/-- a thing that may be shown: at most n signs, at most h within one another -/
structure Shw (d : PyData) (n h : Nat) : Prop where
  s : d.showable = true
  nd : d.hasDict = false
  p : d.depth ≤ h
  l : d.shown.length ≤ n
theorem Shw.up {d : PyData} {n h m i : Nat} (x : Shw d n h) (h1 : n ≤ m) (h2 : h ≤ i) : Shw d m i := ⟨x.s, x.nd, Nat.le_trans x.p h2, Nat.le_trans x.l h1⟩
theorem Shw.int {i : Int} (h : Sm i) : Shw (.int i) 16 0 := ⟨by
  obtain ⟨h0, h1⟩ := h
  have hs : i.natAbs.log2 < 1920 := log_small (by omega)
  simp only [PyData.showable, decide_eq_true hs], rfl, Nat.zero_le _, len_int h⟩
theorem Shw.ints {ns : List Int} (h : ∀ n ∈ ns, Sm n) : Shw (.tuple (ns.map PyData.int)) (18 * ns.length + 3) 1 := ⟨by
    simp only [PyData.showable]
    exact show_ints ns h, by
    simp only [PyData.hasDict]
    exact nodict_ints ns, by
    show PyData.depthAll _ + 1 ≤ 1
    rw [depth_ints]
    decide, by
    have h1 := len_tup (ns.map PyData.int)
    obtain ⟨h2, h3⟩ := len_ints ns h
    omega⟩
theorem Shw.two {a b : PyData} {m n h : Nat} (ha : Shw a m h) (hb : Shw b n h) : Shw (.tuple [a, b]) (m + n + 7) (h + 1) := ⟨by
    simp only [PyData.showable, PyData.showableAll, ha.s, hb.s, Bool.and_self], by
    simp only [PyData.hasDict, PyData.hasDictAll, ha.nd, hb.nd, Bool.or_self], by
    show PyData.depthAll [a, b] + 1 ≤ h + 1
    have := ha.p
    have := hb.p
    simp only [PyData.depthAll]
    omega, by
    have h1 := len_tup [a, b]
    have := ha.l
    have := hb.l
    simp only [PyData.shownAll, List.map_cons, List.map_nil, List.sum_cons, List.sum_nil, List.length_cons, List.length_nil] at h1
    omega⟩
theorem Shw.three {a b c : PyData} {m n k h : Nat} (ha : Shw a m h) (hb : Shw b n h) (hc : Shw c k h) : Shw (.tuple [a, b, c]) (m + n + k + 9) (h + 1) := ⟨by
    simp only [PyData.showable, PyData.showableAll, ha.s, hb.s, hc.s, Bool.and_self], by
    simp only [PyData.hasDict, PyData.hasDictAll, ha.nd, hb.nd, hc.nd, Bool.or_self], by
    show PyData.depthAll [a, b, c] + 1 ≤ h + 1
    have := ha.p
    have := hb.p
    have := hc.p
    simp only [PyData.depthAll]
    omega, by
    have h1 := len_tup [a, b, c]
    have := ha.l
    have := hb.l
    have := hc.l
    simp only [PyData.shownAll, List.map_cons, List.map_nil, List.sum_cons, List.sum_nil, List.length_cons, List.length_nil] at h1
    omega⟩
theorem w_shw {H : Hp} {Q : VK} {v : V} {d : PyData} {n h : Nat} (r : RdV H v d) (x : Shw d n h) (hn : n ≤ 100000) (hh : h ≤ 50) (q : Q (.str d.shown) H) : rRepr [v] H Q :=
  ⟨v, d, rfl, r, x.s, x.nd, Nat.le_trans x.p hh, Nat.le_trans x.l (Nat.le_trans hn (by decide : 100000 ≤ sizeLine)), q⟩
/-- each of the ones times its other, added -/
def dot : List Int → List Int → Int
  | x :: xs, y :: ys => x * y + dot xs ys
  | _, _ => 0
/-- the two may be multiplied, item by item -/
def MulOk (xs ys : List Int) : Prop := ∀ (i : Nat) (x y : Int), xs[i]? = some x → ys[i]? = some y → CMul x y
end G2

set_option Elab.async false
set_option linter.all false
set_option maxRecDepth 100000
namespace L2
open PySem PySem.Spec PyProof.Rows
/-! ### products of great numbers -/
theorem w_gtup {K : PySem.W.Frag} {n : Nat} {t : TGs} {σ : St} {H : Hp} {Q : St → Hp → Prop} {a : Addr} {xs : List V} (h : H a = some (.tup xs)) (hn : xs.length = n) (q : t xs σ H Q) : gTup K n t (.ref a) σ H Q := ⟨a, xs, rfl, SqT.of h, hn, q⟩
end L2
namespace G2
open PySem L2
/-- at most ninety figures -/
def Bg (i : Int) : Prop := i.natAbs < 10 ^ 90
section
variable {D : Addr} {te : TE} {tc : TT} {Q : VK} {ρ : St} {H : Hp} {K : PySem.W.Frag} {a b : Addr}
end
/-! ### texts of great numbers -/
theorem Bg.len {n : Int} (h : Bg n) : (PyData.shown (.int n)).length ≤ 91 := by
  have := int_text_length_le10 (a := n) (k := 90) (by decide) h
  show (Str.ofString (toString n)).length ≤ 91
  rw [ofString_length]
  exact this
/-! ### lists and tuples compared -/
section
variable {X : Cx} {k : Nat}
def rNeD : R2 := fun x y H Q => ∃ dx dy, RdV H x dx ∧ RdV H y dy ∧ dx.canLay0 = true ∧ dy.canLay0 = true ∧ dx.depth ≤ 60 ∧ Q (.bl (!PyData.eqv dx dy)) H
theorem op_neD (hr : Room k X.A) : OpR X (compareOp .NotEq) rNeD := by
  intro pins s σ H x y v u Q I rx ry h
  obtain ⟨dx, dy, hx, hy, cx, cy, hd, q⟩ := h
  obtain ⟨as, ra⟩ := hx.reads I rx
  obtain ⟨bs, rb⟩ := hy.reads I ry
  have := hr.units
  exact SeqAt.compareNe_reads ra rb cx cy (by omega) ⟨.bl _, H, I, rfl, q⟩
end
/-! ### forms -/
structure Fm where
  ins : List Int
  sts : List Int
  plus : Int
def FmAt (H : Hp) (q : Addr) (f : Fm) : Prop := ∃ a b, H q = some (.tup [.ref a, .ref b, .int f.plus]) ∧ H a = some (.tup (f.ins.map V.int)) ∧ H b = some (.tup (f.sts.map V.int))
theorem FmAt.same {H H' : Hp} {q : Addr} {f : Fm} (k : Same H H') : FmAt H q f → FmAt H' q f
  | ⟨a, b, h1, h2, h3⟩ => ⟨a, b, k _ _ h1, k _ _ h2, k _ _ h3⟩
theorem FmAt.tk {H H' : Hp} {q : Addr} {f : Fm} (k : TK H H') : FmAt H q f → FmAt H' q f
  | ⟨a, b, h1, h2, h3⟩ => ⟨a, b, k.t _ _ h1, k.t _ _ h2, k.t _ _ h3⟩
def addF (f g : Fm) : Fm := ⟨List.zipWith (fun x y => x + y) f.ins g.ins, List.zipWith (fun x y => x + y) f.sts g.sts, f.plus + g.plus⟩
def oftF (t : Int) (f : Fm) : Fm := ⟨f.ins.map fun x => t * x, f.sts.map fun x => t * x, t * f.plus⟩
def moreF (n : Int) (f : Fm) : Fm := ⟨f.ins, f.sts, f.plus + n⟩
def fmV (f : Fm) (am st : List Int) : Int := dot f.ins am + dot f.sts st + f.plus
/-- its kind, and a bound of its numbers -/
structure FmOk (n m : Nat) (B : Int) (f : Fm) : Prop where
  li : f.ins.length = n
  ls : f.sts.length = m
  bi : ∀ x ∈ f.ins, -B ≤ x ∧ x ≤ B
  bs : ∀ x ∈ f.sts, -B ≤ x ∧ x ≤ B
  bp : -B ≤ f.plus ∧ f.plus ≤ B
def fmD (f : Fm) : PyData := .tuple [.tuple (f.ins.map .int), .tuple (f.sts.map .int), .int f.plus]
theorem fm_rd {H : Hp} {q : Addr} {f : Fm} : FmAt H q f → RdV H (.ref q) (fmD f)
  | ⟨_, _, hq, ha, hb⟩ => .tup hq (.cons (.tup ha (rdInts _)) (.cons (.tup hb (rdInts _)) (.cons (.int _) .nil)))
theorem Bg.of {x B : Int} (hB : B < 10 ^ 90) (h : -B ≤ x ∧ x ≤ B) : Bg x := by
  unfold Bg
  omega
end G2

set_option Elab.async false
set_option linter.all false
set_option maxRecDepth 100000
namespace L2
open PySem PySem.Spec PyProof.Rows
section
variable {prog : Program} {w : World} {A : Around} {E : Value → Shared → Prop} {s : Shared}
end
/-- zip over the tuples at a, b and c, all as long -/
def It3 (K : PySem.W.Frag) (a b c : Addr) : It :=
  ⟨fun i H => ∃ xs ys zs x y z, SqT K H a xs ∧ SqT K H b ys ∧ SqT K H c zs ∧ xs[i]? = some x ∧ ys[i]? = some y ∧ zs[i]? = some z,
   fun i H v H' => ∃ p x y z, v = .ref p ∧ H p = none ∧ H' = upd H p (.tup [x, y, z]) ∧ (∀ xs, SqT K H a xs → xs[i]? = some x) ∧ (∀ ys, SqT K H b ys → ys[i]? = some y) ∧ ∀ zs, SqT K H c zs → zs[i]? = some z,
   fun i H => ∃ xs, SqT K H a xs ∧ xs.length ≤ i⟩
section
variable {X : Cx} {es : List Expr} {kt : Nat} {pt : Pos}
def iZt (K : PySem.W.Frag) (ta : TA) : TI := fun σ H R => ta σ H fun vs H1 => ∃ a b c, vs = [.ref a, .ref b, .ref c] ∧ (∃ xs, SqT K H1 a xs) ∧ (∃ ys, SqT K H1 b ys) ∧ (∃ zs, SqT K H1 c zs) ∧ R (It3 K a b c) H1
end
end L2

set_option Elab.async false
set_option linter.all false
set_option maxRecDepth 100000
namespace L2
open PySem PySem.Spec PyProof.Rows
section
variable {X : Cx}
theorem bools_of : ∀ {bs : List Bool} {us : List Value}, Vals (bs.map V.bl) us → us = bs.map Value.bool
  | [], us, r => by
    cases r
    rfl
  | b :: bs, us, r => by
    cases r with
    | cons r1 r2 =>
      cases r1
      rw [bools_of r2]
      rfl
def rAll : List V → Hp → VK → Prop := fun xs H Q => ∃ (p : Addr) (bs : List Bool), xs = [.ref p] ∧ H p = some (.lst (bs.map V.bl)) ∧ Q (.bl (bs.all id)) H
theorem all_range (bs : List Bool) : (List.range bs.length).all (fun i => bs.getD i false) = bs.all id := by
  rw [Bool.eq_iff_iff, List.all_eq_true, List.all_eq_true]
  constructor
  · intro h b hb
    obtain ⟨i, hi, rfl⟩ := List.getElem_of_mem hb
    have := h i (List.mem_range.mpr hi)
    simpa [List.getD_eq_getElem?_getD, hi] using this
  · intro h i hi
    have hi' := List.mem_range.mp hi
    have := h bs[i] (List.getElem_mem hi')
    simpa [List.getD_eq_getElem?_getD, hi'] using this
theorem call_all (hc : X.calm = true) : CallR X (.builtin "all") rAll := by
  intro pins s σ H xs us Q I r h
  obtain ⟨p, bs, rfl, hp, q⟩ := h
  obtain ⟨u, rfl, ru⟩ := r.one
  cases ru
  obtain ⟨its, n, rv, e, z⟩ := I.lst hp
  have hits := bools_of rv
  subst hits
  have hl : s.heap.IsList p (bs.map Value.bool).toArray := ⟨_, e, rfl, n, rfl⟩
  refine call_all_walk (wpAny_pyIter_list hl ?_)
  refine ⟨_, _, _, _, _, _, fun i => bs.getD i false, rfl, Walks.list (A := X.A.in1) (I.ok.hd hc) _ p (Nat.ne_of_lt (Heap.lt_size e)) (bs.map Value.bool).toArray, ⟨⟨_, Heap.get?_push_size _ rfl, rfl, rfl⟩, hl.push _⟩, ?_, fun h' tk hk => ?_⟩
  · intro i v s' Q' E' hv hQ'
    have hv' : (bs.map Value.bool)[i]? = some v := by simpa using hv
    rw [List.getElem?_map] at hv'
    cases eb : bs[i]? with
    | none => rw [eb] at hv'; cases hv'
    | some b =>
      rw [eb] at hv'
      cases hv'
      have : bs.getD i false = b := by rw [List.getD_eq_getElem?_getD, eb]; rfl
      refine wpAny_truthy_bool ?_
      dsimp only at hQ'
      rw [this] at hQ'
      exact hQ'
  · have e1 : (List.range (bs.map Value.bool).toArray.size).all (fun i => bs.getD i false) = bs.all id := by simpa using all_range bs
    rw [e1]
    exact ⟨.bl _, H, I.kept (t' := tk) (old_kept (l := p) hk), rfl, q⟩
def rMinL : List V → Hp → VK → Prop := fun xs H Q => ∃ (p : Addr) (ns : List Int), xs = [.ref p] ∧ H p = some (.lst (ns.map V.int)) ∧ 0 < ns.length ∧ ∀ M, M ∈ ns → (∀ a ∈ ns, M ≤ a) → Q (.int M) H
end
end L2

set_option Elab.async false
set_option linter.all false
set_option maxRecDepth 100000
namespace L2
open PySem PySem.Spec PyProof.Rows
/-- enumerate over the list at a -/
def Itel (K : PySem.W.Frag) (a : Addr) : It :=
  ⟨fun i H => ∃ xs x, SqL K H a xs ∧ xs[i]? = some x, fun i H v H' => ∃ p x, v = .ref p ∧ H p = none ∧ H' = upd H p (.tup [.int (i : Int), x]) ∧ ∀ xs, SqL K H a xs → xs[i]? = some x, fun i H => ∃ xs, SqL K H a xs ∧ xs.length = i⟩

section
variable {X : Cx} {es : List Expr} {kt : Nat} {pt : Pos}
def iEnl (K : PySem.W.Frag) (ta : TA) : TI := fun σ H R => ta σ H fun vs H1 => ∃ a, vs = [.ref a] ∧ (∃ xs, SqL K H1 a xs) ∧ R (Itel K a) H1
end
end L2

set_option Elab.async false
set_option linter.all false
set_option maxRecDepth 100000
namespace L2
open PySem PySem.Spec PyProof.Rows
def isI (i : Int) : Value → Bool
  | .int a _ => a == i
  | _ => false
theorem map_erase (k : Nat) (xs : List Int) : (xs.map V.int).eraseIdx k = (xs.eraseIdx k).map V.int := by
  induction xs generalizing k with
  | nil => rfl
  | cons x xs ih => cases k with
    | zero => rfl
    | succ k => simp [ih]
section
variable {X : Cx}
/-- xs.remove(i), xs a list of ints -/
def rRem : V → List V → Hp → VK → Prop := fun x vs H Q => ∃ (l : Addr) (xs : List Int) (i : Int), x = .ref l ∧ vs = [.int i] ∧ H l = some (.lst (xs.map V.int)) ∧ i ∈ xs ∧ Q .non (upd H l (.lst ((xs.erase i).map V.int)))

end
end L2

set_option Elab.async false
set_option linter.all false
set_option maxRecDepth 100000
namespace L2
open PySem PySem.Spec PyProof.Rows
section
variable {X : Cx}
def rAny : List V → Hp → VK → Prop := fun xs H Q => ∃ (p : Addr) (bs : List Bool), xs = [.ref p] ∧ H p = some (.lst (bs.map V.bl)) ∧ Q (.bl (bs.any id)) H
def rMaxL : List V → Hp → VK → Prop := fun xs H Q => ∃ (p : Addr) (ns : List Int), xs = [.ref p] ∧ H p = some (.lst (ns.map V.int)) ∧ 0 < ns.length ∧ ∀ M, M ∈ ns → (∀ a ∈ ns, a ≤ M) → Q (.int M) H

/-- xs.insert(i, y), i at 0 or above -/
def rIns : V → List V → Hp → VK → Prop := fun x vs H Q => ∃ (l : Addr) (xs : List V) (i : Int) (y : V), x = .ref l ∧ vs = [.int i, y] ∧ H l = some (.lst xs) ∧ 0 ≤ i ∧ i ≤ xs.length ∧ xs.length < sizeLine ∧ Q .non (upd H l (.lst (xs.take i.toNat ++ y :: xs.drop i.toNat)))
end
end L2

set_option Elab.async false
set_option linter.all false
set_option maxRecDepth 100000
namespace L2
open PySem PySem.Spec PyProof.Rows
/-- zip over the lists at a and b -/
def Itzl (K : PySem.W.Frag) (a b : Addr) : It :=
  ⟨fun i H => ∃ xs ys x y, SqL K H a xs ∧ SqL K H b ys ∧ xs[i]? = some x ∧ ys[i]? = some y, fun i H v H' => ∃ p x y, v = .ref p ∧ H p = none ∧ H' = upd H p (.tup [x, y]) ∧ (∀ xs, SqL K H a xs → xs[i]? = some x) ∧ ∀ ys, SqL K H b ys → ys[i]? = some y,
    fun i H => ∃ xs ys, SqL K H a xs ∧ SqL K H b ys ∧ (xs.length ≤ i ∨ ys.length ≤ i)⟩
section
variable {X : Cx} {es : List Expr} {kt : Nat} {pt : Pos}
def iZpl (K : PySem.W.Frag) (ta : TA) : TI := fun σ H R => ta σ H fun vs H1 => ∃ a b, vs = [.ref a, .ref b] ∧ (∃ xs, SqL K H1 a xs) ∧ (∃ ys, SqL K H1 b ys) ∧ R (Itzl K a b) H1
end
section
variable {D : Addr} {te : TE} {tc : TT} {Q : VK} {ρ : St} {H : Hp}
end
end L2

set_option Elab.async false
set_option linter.all false
set_option maxRecDepth 100000
namespace G2
open PySem L2
end G2

set_option Elab.async false
set_option linter.all false
set_option maxRecDepth 100000
namespace L2
open PySem PySem.Spec PyProof.Rows
/-! ### comprehensions whose own names are read by one within them -/
structure NScope (o sc : Scope) (TN F : List Str) : Prop where
  okind : o.kind = .function
  kind : sc.kind = .function
  names : ∀ y ∈ sc.names, y.2 = .local → sc.names.lookup y.1 = some .local
  clN : ∀ y ∈ sc.names, y.2 = .cell → sc.names.lookup y.1 = some .cell
  fr : ∀ y ∈ sc.names, y.2 = .free → o.names.lookup y.1 = some .cell ∧ sc.names.lookup y.1 = some .free
  ff : ∀ y ∈ F, (y, NameKind.free) ∈ sc.names
theorem cellsFrom_name : ∀ (names : List (Str × NameKind)) (n : Nat) (acc : List (Str × Addr)) (x : Str) (c : Addr), (x, c) ∈ cellsFrom n names acc → (x, NameKind.cell) ∈ names ∨ (x, c) ∈ acc
  | [], n, acc, x, c, h => .inr h
  | (y, k) :: r, n, acc, x, c, h => by
    unfold cellsFrom at h
    split at h
    · rename_i hk
      have hk' : k = .cell := by simpa using hk
      subst hk'
      rcases cellsFrom_name r (n + 1) ((y, n) :: acc) x c h with z | z
      · exact .inl (List.mem_cons_of_mem _ z)
      · rcases List.mem_cons.mp z with e | z
        · cases e
          exact .inl List.mem_cons_self
        · exact .inr z
    · rcases cellsFrom_name r n acc x c h with z | z
      · exact .inl (List.mem_cons_of_mem _ z)
      · exact .inr z
/-- the cells of a block: its own, then those that it is given -/
def ownC (n : Nat) (sc : Scope) : List (Str × Addr) := cellsFrom (n + 1) sc.names []
def allC (env : Env) (n : Nat) (sc : Scope) : List (Str × Addr) := ownC n sc ++ cloF env sc.names []
theorem NScope.own {o sc : Scope} {TN F : List Str} (S : NScope o sc TN F) {n : Nat} {x : Str} {c : Addr} (h : (ownC n sc).lookup x = some c) : sc.names.lookup x = some .cell := by
  rcases cellsFrom_name sc.names (n + 1) [] x c (PySem.mem_of_lookup h) with z | z
  · exact S.clN _ z rfl
  · cases z
/-- the context of such a block -/
def cxN (X : Cx) (N : List Str) (sc : Scope) (cl : List (Str × Addr)) (C : Addr) (fp : List Addr) (s₃ : Shared) (H₃ : Hp) (xe : Value → Shared → Prop) : Cx :=
  { X with N := N, s₀ := s₃, H₀ := H₃, env := compEnvC sc cl C X.env, outer := X.stack, ex := fp, fn := fun y => sc.names.lookup y == some .cell, pn := [], xe := xe }



section
variable {X : Cx} {sc : Scope} {TN F : List Str} {ix : List Nat} {elt tg iter : Expr} {ifs : List Expr} {pos : Pos} {g : TG} {tc : TT} {te : TE} {wi : TI}
end
/-- such a block's names -/
structure NBScope (o sc : Scope) (TN F G : List Str) : Prop extends NScope o sc TN F where
  nd : (TN ++ F).Nodup
  vis : ∀ x ∈ TN ++ F, Vis (relabelS sc o) x
  loc : ∀ x ∈ TN, (relabelS sc o).names.lookup x = some .local ∨ ((relabelS sc o).names.lookup x = some .cell ∧ sc.names.lookup x = some .cell)
  gl : ∀ x ∈ G, (relabelS sc o).names.lookup x = some .globalImplicit
section
variable {X : Cx} {sc : Scope} {TN F G : List Str} {cl : List (Str × Addr)} {C : Addr} {fp : List Addr} {s3 : Shared} {H3 : Hp} {xe : Value → Shared → Prop} {x : Str} {pos : Pos}
theorem NBScope.g (S : NBScope X.env.scope sc TN F G) (i : Nat) (hG : G[i]? = some x := by rfl) : Gl (cxN X (TN ++ F) sc cl C fp s3 H3 xe) x := S.gl x (List.mem_of_getElem? hG)
end
end L2

set_option Elab.async false
set_option linter.all false
set_option maxRecDepth 100000
namespace PySem
open Sem (wp)
open Builtin
open AutoSeq1 (wpAny_loadPart')
end PySem
namespace L2
open PySem PySem.Spec PyProof.Rows
section
variable {X : Cx}
/-- a tuple times an int above 0; once: the tuple itself -/
def rRepT : R2 := fun x y H Q => ∃ a k xs, x = .ref a ∧ y = .int k ∧ H a = some (.tup xs) ∧ xs ≠ [] ∧ 0 < k ∧ k ≤ 1000 ∧ xs.length * k.toNat ≤ 1000 ∧ (k = 1 → Q (.ref a) H) ∧
  (k ≠ 1 → ∀ p, H p = none → Q (.ref p) (upd H p (.tup (List.replicate k.toNat xs).flatten)))
end
end L2

set_option Elab.async false
set_option linter.all false
set_option maxRecDepth 100000
namespace L2
open PySem PySem.Spec PyProof.Rows
section
variable {prog : Program} {w : World} {A : Around} {E : Value → Shared → Prop} {s : Shared}
end
end L2
namespace L2
open PySem PySem.Spec PyProof.Rows
abbrev zmH1 (h : Heap) (a : Addr) : Heap := h.push { cls := .type "tuple_iterator", data := .fields #[.ref a, .int 0 0] }
abbrev zmH2 (h : Heap) (a b : Addr) : Heap := (zmH1 h a).push { cls := .type "list_iterator", data := .fields #[.ref b, .int 0 0] }
abbrev zmH3 (h : Heap) (a b : Addr) : Heap := (zmH2 h a b).push { cls := .type "tuple", data := .seq #[.ref h.objs.size, .ref (zmH1 h a).objs.size] }
abbrev zmH4 (h : Heap) (a b : Addr) : Heap := (zmH3 h a b).push { cls := .type "tuple", data := .seq #[.none, .none] }
abbrev zmH5 (h : Heap) (a b : Addr) : Heap := (zmH4 h a b).push { cls := .type "zip", data := .fields #[.none, .bool false, .bool false, .ref (zmH2 h a b).objs.size, .ref (zmH3 h a b).objs.size] }
section
variable {prog : Program} {w : World} {A : Around} {E : Value → Shared → Prop} {s : Shared}
end
end L2
namespace L2
open PySem PySem.Spec PyProof.Rows
/-- zip over the tuples at a and b -/
def Itm (K : PySem.W.Frag) (a b : Addr) : It :=
  ⟨fun i H => ∃ xs ys x y, SqT K H a xs ∧ SqL K H b ys ∧ xs[i]? = some x ∧ ys[i]? = some y, fun i H v H' => ∃ p x y, v = .ref p ∧ H p = none ∧ H' = upd H p (.tup [x, y]) ∧ (∀ xs, SqT K H a xs → xs[i]? = some x) ∧ ∀ ys, SqL K H b ys → ys[i]? = some y,
    fun i H => ∃ xs ys, SqT K H a xs ∧ SqL K H b ys ∧ (xs.length ≤ i ∨ ys.length ≤ i)⟩
section
variable {X : Cx} {es : List Expr} {kt : Nat} {pt : Pos}
def iZm (K : PySem.W.Frag) (ta : TA) : TI := fun σ H R => ta σ H fun vs H1 => ∃ a b, vs = [.ref a, .ref b] ∧ (∃ xs, SqT K H1 a xs) ∧ (∃ ys, SqL K H1 b ys) ∧ R (Itm K a b) H1
end
section
variable {D : Addr} {te : TE} {tc : TT} {Q : VK} {ρ : St} {H : Hp}
end
end L2

set_option Elab.async false
set_option linter.all false
set_option maxRecDepth 100000
namespace HT
open PySem PyProof.Rows
section
variable {prog : Program} {w : World} {A : Around} {E : Value → Shared → Prop} {s : Shared}
end
end HT
namespace L2
open PySem PySem.Spec PyProof.Rows
section
variable {X : Cx}
/-- t[a:b], whatever it is -/
def rSlG : V → Option Int → Option Int → Hp → VK → Prop := fun x lo hi H Q => ∃ a xs, x = .ref a ∧ H a = some (.tup xs) ∧ ∀ q H', Same H H' → H' q = some (.tup (cutV xs lo hi)) → Q (.ref q) H'
/-- t + u, whatever they are -/
def rCatG : R2 := fun x y H Q => ∃ a b xs ys, x = .ref a ∧ y = .ref b ∧ H a = some (.tup xs) ∧ H b = some (.tup ys) ∧ xs.length + ys.length ≤ 1000 ∧ ∀ q H', Same H H' → H' q = some (.tup (xs ++ ys)) → Q (.ref q) H'
end
end L2
namespace PySem
open Sem (wp)
open Builtin
open AutoSeq1 (wpAny_loadPart')
end PySem
namespace L2
open PySem PySem.Spec PyProof.Rows
section
variable {X : Cx}
/-- (v,) times 0 or 1 -/
def rRepB : R2 := fun x y H Q => ∃ a k v, x = .ref a ∧ y = .int k ∧ H a = some (.tup [v]) ∧ (k = 0 ∨ k = 1) ∧ (k = 1 → Q (.ref a) H) ∧ (k = 0 → ∀ p, H p = none → Q (.ref p) (upd H p (.tup [])))
end
end L2

set_option Elab.async false
set_option linter.all false
set_option maxRecDepth 100000
namespace L2
open PySem PySem.Spec PyProof.Rows
theorem Same.none {H H' : Hp} {a : Addr} (k : Same H H') (h : H' a = .none) : H a = .none := by
  cases e : H a with
  | none => rfl
  | some o => rw [k _ _ e] at h; cases h
section
variable {X : Cx}
/-- (v,) times n, n from 0 on -/
def rRepG : R2 := fun x y H Q => ∃ (a : Addr) (k : Nat) (v : V), x = .ref a ∧ y = .int (k : Int) ∧ H a = some (.tup [v]) ∧ k ≤ 1000 ∧ ∀ q H', Same H H' → H' q = some (.tup (List.replicate k v)) → Q (.ref q) H'
/-- len of a tuple, in a block too -/
def rLnT : List V → Hp → VK → Prop := fun xs H Q => ∃ (p : Addr) (ys : List V), xs = [.ref p] ∧ H p = some (.tup ys) ∧ Q (.int ys.length) H
def rLnL : List V → Hp → VK → Prop := fun xs H Q => ∃ (p : Addr) (ys : List V), xs = [.ref p] ∧ H p = some (.lst ys) ∧ Q (.int ys.length) H
/-- tuple of a list, in a block too -/
def rTupL : List V → Hp → VK → Prop := fun xs H Q => ∃ (p : Addr) (ys : List V), xs = [.ref p] ∧ H p = some (.lst ys) ∧ ∀ q H', Same H H' → H' q = some (.tup ys) → Q (.ref q) H'
theorem call_tupL : CallR X (.type "tuple") rTupL := fun pins s σ H xs us Q I r h => call_tuple_of pins s σ H xs us Q I r (let ⟨p, ys, e, hp, q⟩ := h; ⟨p, ys, e, .inl ⟨SqL.of hp, fun l hl => q l _ (Same.new (Same.refl H) hl) upd_same⟩⟩)
end
end L2
namespace G2
open PySem L2
/-! ### rows of forms -/
def Fms (H : Hp) : List Addr → List Fm → Prop
  | [], [] => True
  | q :: qs, f :: fs => FmAt H q f ∧ Fms H qs fs
  | _, _ => False
theorem Fms.tk {H H' : Hp} (k : TK H H') : ∀ {qs : List Addr} {fs : List Fm}, Fms H qs fs → Fms H' qs fs
  | [], [], _ => trivial
  | q :: qs, f :: fs, h => ⟨h.1.tk k, Fms.tk k h.2⟩
  | [], _ :: _, h => h.elim
  | _ :: _, [], h => h.elim
theorem Fms.len {H : Hp} : ∀ {qs : List Addr} {fs : List Fm}, Fms H qs fs → qs.length = fs.length
  | [], [], _ => rfl
  | q :: qs, f :: fs, h => by rw [List.length_cons, List.length_cons, Fms.len h.2]
  | [], _ :: _, h => h.elim
  | _ :: _, [], h => h.elim
theorem Fms.rd {H : Hp} : ∀ {qs : List Addr} {fs : List Fm}, Fms H qs fs → RdVs H (qs.map V.ref) (fs.map fmD)
  | [], [], _ => .nil
  | q :: qs, f :: fs, h => .cons (fm_rd h.1) (Fms.rd h.2)
  | [], _ :: _, h => h.elim
  | _ :: _, [], h => h.elim
theorem Fms.one {H : Hp} {q : Addr} {f : Fm} (h : FmAt H q f) : Fms H [q] [f] := ⟨h, trivial⟩
theorem Fms.two {H : Hp} {q r : Addr} {f g : Fm} (h : FmAt H q f) (h' : FmAt H r g) : Fms H [q, r] [f, g] := ⟨h, h', trivial⟩
/-! ### what may be shown -/
theorem all_shw {n h : Nat} : ∀ ds : List PyData, (∀ d ∈ ds, Shw d n h) → PyData.showableAll ds = true ∧ PyData.hasDictAll ds = false ∧ PyData.depthAll ds ≤ h ∧ ((PyData.shownAll ds).map (·.length)).sum ≤ n * ds.length ∧ (PyData.shownAll ds).length = ds.length
  | [], _ => ⟨rfl, rfl, Nat.zero_le _, Nat.zero_le _, rfl⟩
  | d :: ds, k => by
    obtain ⟨h1, h2, h3, h4, h5⟩ := all_shw ds fun x hx => k x (List.mem_cons_of_mem _ hx)
    have e := k d List.mem_cons_self
    have e3 := e.p
    have e4 := e.l
    refine ⟨?_, ?_, ?_, ?_, ?_⟩
    · simp only [PyData.showableAll, e.s, h1, Bool.and_self]
    · simp only [PyData.hasDictAll, e.nd, h2, Bool.or_self]
    · simp only [PyData.depthAll]
      omega
    · simp only [PyData.shownAll, List.map_cons, List.sum_cons, List.length_cons, Nat.mul_succ]
      omega
    · simp only [PyData.shownAll, List.length_cons, h5]
theorem Shw.tups {n h : Nat} {ds : List PyData} (k : ∀ d ∈ ds, Shw d n h) : Shw (.tuple ds) ((n + 2) * ds.length + 3) (h + 1) := by
  obtain ⟨h1, h2, h3, h4, h5⟩ := all_shw ds k
  refine ⟨by simp only [PyData.showable]; exact h1, by simp only [PyData.hasDict]; exact h2, ?_, ?_⟩
  · show PyData.depthAll _ + 1 ≤ h + 1
    omega
  · have := len_tup ds
    rw [Nat.add_mul]
    omega
theorem Shw.lsts {n h : Nat} {ds : List PyData} (k : ∀ d ∈ ds, Shw d n h) : Shw (.list ds) ((n + 2) * ds.length + 3) (h + 1) := by
  obtain ⟨h1, h2, h3, h4, h5⟩ := all_shw ds k
  refine ⟨by simp only [PyData.showable]; exact h1, by simp only [PyData.hasDict]; exact h2, ?_, ?_⟩
  · show PyData.depthAll _ + 1 ≤ h + 1
    omega
  · have e : (PyData.shown (.list ds)).length ≤ ((PyData.shownAll ds).map (·.length)).sum + 2 * (PyData.shownAll ds).length + 3 := listText_len_le _
    rw [Nat.add_mul]
    omega
/-- a value reads as one thing, as long as tuples stay; it may be shown -/
def Rs (H : Hp) (v : V) (n h : Nat) : Prop := ∃ d, (∀ H', TK H H' → RdV H' v d) ∧ Shw d n h
theorem Rs.up {H : Hp} {v : V} {n h m i : Nat} (r : Rs H v n h) (h1 : n ≤ m) (h2 : h ≤ i) : Rs H v m i := let ⟨d, a, b⟩ := r; ⟨d, a, b.up h1 h2⟩
theorem Rs.int {H : Hp} {i : Int} (h : Sm i) : Rs H (.int i) 16 0 := ⟨_, fun _ _ => .int i, Shw.int h⟩
theorem Rs.all {H : Hp} {n h : Nat} : ∀ {vs : List V}, (∀ v ∈ vs, Rs H v n h) → ∃ ds : List PyData, ds.length = vs.length ∧ (∀ H', TK H H' → RdVs H' vs ds) ∧ ∀ d ∈ ds, Shw d n h
  | [], _ => ⟨[], rfl, fun _ _ => .nil, fun d hd => by cases hd⟩
  | v :: vs, k => by
    obtain ⟨ds, h1, h2, h3⟩ := Rs.all fun x hx => k x (List.mem_cons_of_mem _ hx)
    obtain ⟨d, a, b⟩ := k v List.mem_cons_self
    refine ⟨d :: ds, by rw [List.length_cons, List.length_cons, h1], fun H' t => .cons (a H' t) (h2 H' t), fun x hx => ?_⟩
    rcases List.mem_cons.mp hx with rfl | hx
    · exact b
    · exact h3 x hx
theorem Rs.tup {H : Hp} {n h : Nat} {p : Addr} {vs : List V} (e : H p = some (.tup vs)) (k : ∀ v ∈ vs, Rs H v n h) : Rs H (.ref p) ((n + 2) * vs.length + 3) (h + 1) := by
  obtain ⟨ds, h1, h2, h3⟩ := Rs.all k
  refine ⟨.tuple ds, fun H' t => .tup (t.t _ _ e) (h2 H' t), ?_⟩
  rw [← h1]
  exact Shw.tups h3
theorem Rs.tk {H H' : Hp} {v : V} {n h : Nat} (t : TK H H') (r : Rs H v n h) : Rs H' v n h := let ⟨d, a, b⟩ := r; ⟨d, fun H2 t2 => a H2 (t.trans t2), b⟩
section
variable {D : Addr} {te : TE} {tc : TT} {Q : VK} {ρ : St} {H : Hp} {K : PySem.W.Frag} {a b : Addr}
end
end G2

set_option Elab.async false
set_option linter.all false
set_option maxRecDepth 100000
namespace L2
open PySem PySem.Spec PyProof.Rows

/-! ### lists of pairs as tables -/
section
variable {κ : Type} [DecidableEq κ]
def valV (kvs : List (κ × V)) (k : κ) : Option V := (kvs.find? fun kv => decide (kv.1 = k)).map (·.2)
/-- in its place, or at the end -/
def putK (kvs : List (κ × V)) (k : κ) (v : V) : List (κ × V) :=
  if (kvs.any fun kv => decide (kv.1 = k)) = true then kvs.map (fun kv => if kv.1 = k then (kv.1, v) else kv) else kvs ++ [(k, v)]
def dropK (kvs : List (κ × V)) (k : κ) : List (κ × V) := kvs.filter fun kv => decide (kv.1 ≠ k)

theorem valV_pos {p : κ × V} {r : List (κ × V)} {k : κ} (e : p.1 = k) : valV (p :: r) k = some p.2 := by simp [valV, List.find?_cons, e]
theorem valV_neg {p : κ × V} {r : List (κ × V)} {k : κ} (e : ¬ p.1 = k) : valV (p :: r) k = valV r k := by simp [valV, List.find?_cons, e]
theorem valV_any (k : κ) : ∀ kvs : List (κ × V), (kvs.any fun kv => decide (kv.1 = k)) = (valV kvs k).isSome
  | [] => rfl
  | p :: r => by
    rw [List.any_cons]
    by_cases e : p.1 = k
    · simp only [valV_pos e, decide_eq_true e, Bool.true_or, Option.isSome_some]
    · rw [valV_neg e, decide_eq_false e, Bool.false_or]; exact valV_any k r

theorem RelO.isSome_eq {o : Option V} {u : Option Value} (r : RelO o u) : o.isSome = u.isSome := by
  cases o with
  | none => cases u with
    | none => rfl
    | some _ => exact (show False from r).elim
  | some _ => cases u with
    | none => exact (show False from r).elim
    | some _ => rfl
theorem RelO.getD {o : Option V} {u : Option Value} {d : V} {d' : Value} (r : RelO o u) (rd : RelV d d') : RelV (o.getD d) (u.getD d') := by
  cases o with
  | none => cases u with
    | none => exact rd
    | some _ => exact (show False from r).elim
  | some _ => cases u with
    | none => exact (show False from r).elim
    | some _ => exact r

/-- raw tables of the same keys -/
theorem KV.val {kvs : List (κ × V)} {vs : List (κ × Value)} (r : KV kvs vs) (k : κ) : RelO (valV kvs k) (valueAt vs k) := by
  unfold KV at r
  induction r with
  | nil => exact True.intro
  | @cons p q ps qs h t ih =>
    obtain ⟨h1, h2⟩ := h
    by_cases e : p.1 = k
    · have e' : q.1 = k := h1.symm.trans e
      have b : valueAt (q :: qs) k = some q.2 := by simp [valueAt, List.find?_cons, e']
      rw [valV_pos e, b]; exact h2
    · have e' : ¬ q.1 = k := fun z => e (h1.trans z)
      have b : valueAt (q :: qs) k = valueAt qs k := by simp [valueAt, List.find?_cons, e']
      rw [valV_neg e, b]; exact ih
theorem KV.any {kvs : List (κ × V)} {vs : List (κ × Value)} (r : KV kvs vs) (k : κ) : (kvs.any fun kv => decide (kv.1 = k)) = vs.any fun kv => decide (kv.1 = k) := by
  unfold KV at r
  induction r with
  | nil => rfl
  | cons h t ih => rw [List.any_cons, List.any_cons, ih, h.1]
theorem KV.repl {kvs : List (κ × V)} {vs : List (κ × Value)} (r : KV kvs vs) (k : κ) {y : V} {u : Value} (ry : RelV y u) :
    KV (kvs.map fun kv => if kv.1 = k then (kv.1, y) else kv) (vs.map fun kv => if kv.1 = k then (kv.1, u) else kv) := by
  unfold KV at r ⊢
  induction r with
  | nil => exact .nil
  | @cons p q ps qs h t ih =>
    rw [List.map_cons, List.map_cons]
    refine .cons ?_ ih
    obtain ⟨h1, h2⟩ := h
    by_cases e : p.1 = k
    · rw [if_pos e, if_pos (h1.symm.trans e)]; exact ⟨h1, ry⟩
    · rw [if_neg e, if_neg (fun z => e (h1.trans z))]; exact ⟨h1, h2⟩
theorem KV.put {kvs : List (κ × V)} {vs : List (κ × Value)} (r : KV kvs vs) (k : κ) {y : V} {u : Value} (ry : RelV y u) : KV (putK kvs k y) (stored vs k u) := by
  unfold putK stored
  rw [r.any k]
  by_cases e : (vs.any fun kv => decide (kv.1 = k)) = true
  · rw [if_pos e, if_pos e]; exact r.repl k ry
  · rw [if_neg e, if_neg e]; exact Paired.snoc r ⟨rfl, ry⟩
theorem KV.drop {kvs : List (κ × V)} {vs : List (κ × Value)} (r : KV kvs vs) (k : κ) : KV (dropK kvs k) (without vs k) := by
  unfold KV at r ⊢
  unfold dropK without
  induction r with
  | nil => exact .nil
  | @cons p q ps qs h t ih =>
    obtain ⟨h1, h2⟩ := h
    rw [List.filter_cons, List.filter_cons]
    by_cases e : p.1 = k
    · have a : ¬ decide (p.1 ≠ k) = true := by simp [e]
      have b : ¬ decide (q.1 ≠ k) = true := by simp [h1.symm.trans e]
      rw [if_neg a, if_neg b]; exact ih
    · have e' : ¬ q.1 = k := fun z => e (h1.trans z)
      have a : decide (p.1 ≠ k) = true := by simp [e]
      have b : decide (q.1 ≠ k) = true := by simp [e']
      rw [if_pos a, if_pos b]; exact .cons ⟨h1, h2⟩ ih
theorem KV.keys {kvs : List (κ × V)} {vs : List (κ × Value)} (r : KV kvs vs) : kvs.map (·.1) = vs.map (·.1) := by
  unfold KV at r
  induction r with
  | nil => rfl
  | cons h t ih => rw [List.map_cons, List.map_cons, ih, h.1]
theorem KV.length {kvs : List (κ × V)} {vs : List (κ × Value)} (r : KV kvs vs) : kvs.length = vs.length := Paired.length r
end


/-! ### a tracked dict, its keys ints and texts or tuples of these -/

/-- raw entries of a dict with tuple keys -/
abbrev KT (H : Hp) : List (List Key × V) → List (List Key × Addr × Value) → Prop := Paired fun p q => p.1 = q.1 ∧ H q.2.1 = some (.tup (p.1.map kV)) ∧ RelV p.2 q.2.2
theorem KT.val {H : Hp} {kvs : List (List Key × V)} {xs : List (List Key × Addr × Value)} (r : KT H kvs xs) (k : List Key) : RelO (valV kvs k) ((atKey xs k).map (·.2)) := by
  induction r with
  | nil => exact True.intro
  | @cons p q ps qs h t ih =>
    obtain ⟨h1, _, h2⟩ := h
    by_cases e : p.1 = k
    · have e' : q.1 = k := h1.symm.trans e
      have b : atKey (q :: qs) k = some q.2 := by simp [atKey, List.find?_cons, e']
      rw [valV_pos e, b]; exact h2
    · have e' : ¬ q.1 = k := fun z => e (h1.trans z)
      have b : atKey (q :: qs) k = atKey qs k := by simp [atKey, List.find?_cons, e']
      rw [valV_neg e, b]; exact ih
theorem KT.repl {H : Hp} {kvs : List (List Key × V)} {xs : List (List Key × Addr × Value)} (r : KT H kvs xs) (k : List Key) {y : V} {u : Value} (ry : RelV y u) :
    KT H (kvs.map fun kv => if kv.1 = k then (kv.1, y) else kv) (xs.map (putAt k u)) := by
  induction r with
  | nil => exact .nil
  | @cons p q ps qs h t ih =>
    rw [List.map_cons, List.map_cons]
    refine .cons ?_ ih
    obtain ⟨h1, h2, h3⟩ := h
    unfold putAt
    by_cases e : p.1 = k
    · rw [if_pos e, if_pos (h1.symm.trans e)]; exact ⟨h1, h2, ry⟩
    · rw [if_neg e, if_neg (fun z => e (h1.trans z))]; exact ⟨h1, h2, h3⟩
theorem KT.put {H : Hp} {kvs : List (List Key × V)} {xs : List (List Key × Addr × Value)} (r : KT H kvs xs) (k : List Key) {b : Addr} {y : V} {u : Value} (hb : H b = some (.tup (k.map kV))) (ry : RelV y u) :
    KT H (putK kvs k y) (storedH xs k b u) := by
  have e : (kvs.any fun kv => decide (kv.1 = k)) = (atKey xs k).isSome := by
    rw [valV_any, (r.val k).isSome_eq, Option.isSome_map]
  unfold putK storedH
  rw [e]
  by_cases q : (atKey xs k).isSome = true
  · rw [if_pos q, if_pos q]; exact r.repl k ry
  · rw [if_neg q, if_neg q]; exact Paired.snoc r ⟨rfl, hb, ry⟩
theorem KT.keeps {H H' : Hp} {kvs : List (List Key × V)} {xs : List (List Key × Addr × Value)} (r : KT H kvs xs) (ht : ∀ b ys, H b = some (.tup ys) → H' b = some (.tup ys)) : KT H' kvs xs :=
  Paired.mapP r fun _ _ z => ⟨z.1, ht _ _ z.2.1, z.2.2⟩

section
variable {P : Program} {w : World} {H : Hp} {h : Heap} {a : Addr}
end

/-- what the dict at a holds at the key y -/
def DGet (H : Hp) (a : Addr) (y : V) (r : Option V) : Prop :=
  (∃ kvs k, Rd H a (.dK kvs) ∧ y = kV k ∧ r = valV kvs k) ∨ ∃ kvs k b, Rd H a (.dT kvs) ∧ y = .ref b ∧ H b = some (.tup (k.map kV)) ∧ r = valV kvs k
/-- the heap behind a[y] = v -/
def DPut (H : Hp) (a : Addr) (y v : V) (H' : Hp) : Prop :=
  (∃ kvs k, H a = some (.dK kvs) ∧ y = kV k ∧ kvs.length < sizeLine ∧ H' = upd H a (.dK (putK kvs k v))) ∨
  ∃ kvs k b, H a = some (.dT kvs) ∧ y = .ref b ∧ H b = some (.tup (k.map kV)) ∧ kvs.length < sizeLine ∧ H' = upd H a (.dT (putK kvs k v))
theorem DGet.k {H : Hp} {a : Addr} {kvs : List (Key × V)} {k : Key} (e : H a = some (.dK kvs)) : DGet H a (kV k) (valV kvs k) := .inl ⟨kvs, k, .inl e, rfl, rfl⟩
theorem DGet.t {H : Hp} {a b : Addr} {kvs : List (List Key × V)} {k : List Key} (e : H a = some (.dT kvs)) (eb : H b = some (.tup (k.map kV))) : DGet H a (.ref b) (valV kvs k) := .inr ⟨kvs, k, b, .inl e, rfl, eb, rfl⟩
theorem DPut.k {H : Hp} {a : Addr} {kvs : List (Key × V)} {k : Key} {v : V} (e : H a = some (.dK kvs)) (hl : kvs.length < sizeLine) : DPut H a (kV k) v (upd H a (.dK (putK kvs k v))) := .inl ⟨kvs, k, e, rfl, hl, rfl⟩
theorem DPut.t {H : Hp} {a b : Addr} {kvs : List (List Key × V)} {k : List Key} {v : V} (e : H a = some (.dT kvs)) (eb : H b = some (.tup (k.map kV))) (hl : kvs.length < sizeLine) :
    DPut H a (.ref b) v (upd H a (.dT (putK kvs k v))) := .inr ⟨kvs, k, b, e, rfl, eb, hl, rfl⟩


section
variable {X : Cx} {pins : List (Addr × Obj)} {σ : St} {H : Hp} {s : Shared} {a : Addr} {y v : V} {u r : Value} {o : Option V} {A : Around} {E : Value → Shared → Prop}


end

section
variable {X : Cx} {pins : List (Addr × Obj)} {σ : St} {H : Hp} {s : Shared} {a : Addr} {kvs : List (Key × V)} {k : Key} {u : Value} {A : Around} {E : Value → Shared → Prop}
end


/-! ### readings and rules -/
/-- the element of a subscription, not a slice -/
def NoSl (i : Expr) : Prop := ∀ ov iv, subscripted i false ov iv = operate [ov, iv] (getItem ov iv)


/-- d[y] -/
def tDGet (td ty : TE) : TE := fun σ H Q => td σ H fun x H1 => ty σ H1 fun y H2 => ∃ a v, x = .ref a ∧ DGet H2 a y (some v) ∧ Q v H2
/-- y in d, y not in d -/
def tDIn (ty td : TE) : TE := fun σ H Q => ty σ H fun y H1 => td σ H1 fun x H2 => ∃ a o, x = .ref a ∧ DGet H2 a y o ∧ Q (.bl o.isSome) H2
def tDNotIn (ty td : TE) : TE := fun σ H Q => ty σ H fun y H1 => td σ H1 fun x H2 => ∃ a o, x = .ref a ∧ DGet H2 a y o ∧ Q (.bl (!o.isSome)) H2
/-- d[y] = v -/
def sDPut (td ty tv : TE) : TS := fun D σ H => tv σ H fun v H1 => td σ H1 fun x H2 => ty σ H2 fun y H3 => ∃ a H4, x = .ref a ∧ DPut H3 a y v H4 ∧ D.nx σ H4
/-- d[y] op= v -/
def sDAug (td ty tv : TE) (rd : V → V → Hp → VK → Prop) : TS := fun D σ H => td σ H fun x H1 => ty σ H1 fun y H2 => ∃ a v, x = .ref a ∧ DGet H2 a y (some v) ∧
  tv σ H2 fun y2 H3 => rd v y2 H3 fun z H4 => ∃ H5, DPut H4 a y z H5 ∧ D.nx σ H5
/-- del d[y] -/
def sDDel (td ty : TE) : TS := fun D σ H => td σ H fun x H1 => ty σ H1 fun y H2 => ∃ a kvs k, x = .ref a ∧ H2 a = some (.dK kvs) ∧ y = kV k ∧ (valV kvs k).isSome = true ∧ D.nx σ (upd H2 a (.dK (dropK kvs k)))

section
variable {X : Cx} {o i e value : Expr} {pos pos' tpos : Pos} {td ty tv : TE}
end


/-! ### displays -/
/-- {}, to be a dict of the kind that is wanted -/
def tDNewK : TE := fun _ H Q => ∀ p, H p = none → Q (.ref p) (upd H p (.dK []))
def tDNewT : TE := fun _ H Q => ∀ p, H p = none → Q (.ref p) (upd H p (.dT []))
section
variable {X : Cx} {pos : Pos}
end

/-- the pairs of a display, from the left -/
def tPairs : List (TE × TE) → St → Hp → (List (V × V) → Hp → Prop) → Prop
  | [], _, H, Q => Q [] H
  | (tk, tv) :: r, σ, H, Q => tk σ H fun x H1 => tv σ H1 fun y H2 => tPairs r σ H2 fun ps H3 => Q ((x, y) :: ps) H3
abbrev VV : List (V × V) → List (Value × Value) → Prop := Paired fun p q => RelV p.1 q.1 ∧ RelV p.2 q.2
def PPs (X : Cx) (pos : Pos) (keys : List (Option Expr)) (values : List Expr) (trs : List (TE × TE)) : Prop :=
  ∀ (pins : List (Addr × Obj)) (s : Shared) (σ : St) (H : Hp) (Q : List (V × V) → Hp → Prop), Inv X pins σ H s → tPairs trs σ H Q →
    wpAny (model X.prog X.w) X.A (evalPairs (pairTrees keys values X.env pos)) (fun vs s' => ∃ ps H', Inv X pins σ H' s' ∧ VV ps vs ∧ Q ps H') X.xe s

def mergeK (kvs more : List (Key × V)) : List (Key × V) := more.foldl (fun acc kv => putK acc kv.1 kv.2) kvs
/-- {k: v, ..} with keys ints and texts; the new dict stands empty while the pairs are made -/
def tDisp (trs : List (TE × TE)) : TE := fun σ H Q => ∀ p, H p = none → tPairs trs σ (upd H p (.dK [])) fun ps H2 => H2 p = some (.dK []) ∧ ∃ kvs : List (Key × V), ps = kvs.map (fun kv => (kV kv.1, kv.2)) ∧ kvs.length ≤ 15 ∧ Q (.ref p) (upd H2 p (.dK (mergeK [] kvs)))


/-! ### methods -/
/-- a method call o.m(e) of a built-in, with one argument: what must be seen of the text -/
structure M1 (X : Cx) (o : Expr) (m : Str) (apos : Pos) (e : Expr) (cpos : Pos) : Prop where
  base : attributeBase o m X.env (eval o X.env) = eval o X.env
  few : ((backTo cpos (starEach [e] X.env)).all (fun x => !x.1) && (backToKw cpos (keywordEach [] X.env)).all (fun x => x.1.isSome)
    && decide (([e] : List Expr).length + ([] : List Keyword).length + (if ([] : List Keyword).isEmpty then 0 else 1) < 30)) = true
  line : (apos.endLine == cpos.line) = true
  trees : backTo cpos (starEach [e] X.env) = [(false, eval e X.env)]
structure M2 (X : Cx) (o : Expr) (m : Str) (apos : Pos) (e f : Expr) (cpos : Pos) : Prop where
  base : attributeBase o m X.env (eval o X.env) = eval o X.env
  few : ((backTo cpos (starEach [e, f] X.env)).all (fun x => !x.1) && (backToKw cpos (keywordEach [] X.env)).all (fun x => x.1.isSome)
    && decide (([e, f] : List Expr).length + ([] : List Keyword).length + (if ([] : List Keyword).isEmpty then 0 else 1) < 30)) = true
  line : (apos.endLine == cpos.line) = true
  trees : backTo cpos (starEach [e, f] X.env) = [(false, eval e X.env), (false, eval f X.env)]

/-- a is a dict, whatever its keys -/
def IsD (H : Hp) (a : Addr) : Prop := (∃ kvs, Rd H a (.dK kvs)) ∨ ∃ kvs, Rd H a (.dT kvs)

section
variable {X : Cx} {pins : List (Addr × Obj)} {σ : St} {H : Hp} {s : Shared} {a : Addr} {y d : V} {u r : Value} {o : Option V} {A : Around} {E : Value → Shared → Prop}
end

def tDGet1 (td ty : TE) : TE := fun σ H Q => td σ H fun x H1 => ∃ a, x = .ref a ∧ IsD H1 a ∧ ty σ H1 fun y H2 => ∃ o, DGet H2 a y o ∧ Q (o.getD .non) H2
def tDGet2 (td ty tx : TE) : TE := fun σ H Q => td σ H fun x H1 => ∃ a, x = .ref a ∧ IsD H1 a ∧ ty σ H1 fun y H2 => tx σ H2 fun z H3 => ∃ o, DGet H3 a y o ∧ Q (o.getD z) H3
/-- d.pop(k): there; d.pop(k, x): there or not -/
def tDPop1 (td ty : TE) : TE := fun σ H Q => td σ H fun x H1 => ∃ a, x = .ref a ∧ IsD H1 a ∧ ty σ H1 fun y H2 => ∃ kvs k v, H2 a = some (.dK kvs) ∧ y = kV k ∧ valV kvs k = some v ∧ Q v (upd H2 a (.dK (dropK kvs k)))
def tDPop2 (td ty tx : TE) : TE := fun σ H Q => td σ H fun x H1 => ∃ a, x = .ref a ∧ IsD H1 a ∧ ty σ H1 fun y H2 => tx σ H2 fun z H3 => ∃ kvs k, H3 a = some (.dK kvs) ∧ y = kV k ∧
  (∀ v, valV kvs k = some v → Q v (upd H3 a (.dK (dropK kvs k)))) ∧ (valV kvs k = none → Q z H3)
section
variable {X : Cx} {o e f : Expr} {apos cpos : Pos} {td ty tx : TE}
end

/-! ### dict(d): a copy -/
section
variable {X : Cx} {pins : List (Addr × Obj)} {σ : St} {H : Hp} {s : Shared} {a : Addr} {kvs : List (Key × V)} {A : Around} {E : Value → Shared → Prop}
end


section
variable {X : Cx} {pins : List (Addr × Obj)} {σ : St} {H : Hp} {s : Shared} {a : Addr} {y : V} {u : Value} {A : Around} {E : Value → Shared → Prop}
end
end L2

set_option Elab.async false
set_option linter.all false
set_option maxRecDepth 100000
namespace L2
open PySem PySem.Spec PyProof.Rows
section
variable {X : Cx} {pins : List (Addr × Obj)} {σ : St} {H : Hp} {s : Shared} {a o : Addr} {kvs more : List (Key × V)} {A : Around} {E : Value → Shared → Prop}
end
/-- d.update(e) -/
def tDUpd (td ty : TE) : TE := fun σ H Q => td σ H fun x H1 => ∃ a, x = .ref a ∧ IsD H1 a ∧ ty σ H1 fun y H2 => ∃ o kvs more, y = .ref o ∧ H2 a = some (.dK kvs) ∧ H2 o = some (.dK more) ∧ a ≠ o ∧ kvs.length + more.length ≤ 1000 ∧ Q .non (upd H2 a (.dK (mergeK kvs more)))
end L2

set_option Elab.async false
set_option linter.all false
set_option maxRecDepth 100000
namespace L2
open PySem PySem.Spec PyProof.Rows
section
variable {X : Cx} {k : Nat}
/-- xs == [], whatever stands in xs -/
def rEqE : R2 := fun x y H Q => ∃ (a z : Addr) (xs : List V), x = .ref a ∧ y = .ref z ∧ H a = some (.lst xs) ∧ H z = some (.lst []) ∧ Q (.bl xs.isEmpty) H
def rNeE : R2 := fun x y H Q => ∃ (a z : Addr) (xs : List V), x = .ref a ∧ y = .ref z ∧ H a = some (.lst xs) ∧ H z = some (.lst []) ∧ Q (.bl (!xs.isEmpty)) H
/-- dict(d) -/
def rDictC : List V → Hp → VK → Prop := fun xs H Q => ∃ (a : Addr) (kvs : List (Key × V)), xs = [.ref a] ∧ H a = some (.dK kvs) ∧ ∀ p, H p = none → Q (.ref p) (upd H p (.dK kvs))
end
end L2

set_option Elab.async false
set_option linter.all false
set_option maxRecDepth 100000
namespace PySem.SeqAt
open PySem.MeetsSeq PySem PySem.Spec
section
variable {A : Around} {s : Shared}
end
end PySem.SeqAt
namespace HT
open PySem PySem.Spec PyProof.Rows
section
variable {prog : Program} {w : World} {A : Around} {E : Value → Shared → Prop} {s : Shared}
end
end HT
namespace L2
open PySem PySem.Spec PyProof.Rows
/-- t[::-1] -/
def tRev (te : TE) : TE := fun σ H Q => te σ H fun x H1 => ∃ (a : Addr) (xs : List V), x = .ref a ∧ H1 a = some (.tup xs) ∧ ∀ q, H1 q = none → Q (.ref q) (upd H1 q (.tup xs.reverse))
end L2

set_option Elab.async false
set_option linter.all false
set_option maxRecDepth 100000
namespace L2
open PySem PySem.Spec PyProof.Rows
/-! ### things of any kind -/
inductive Th where
  | non
  | bl (b : Bool)
  | int (i : Int)
  | str (s : Str)
  | tup (ts : List Th)
  | lst
  | dct
mutual
inductive ThAt (H : Hp) : V → Th → Prop
  | non : ThAt H .non .non
  | bl (b : Bool) : ThAt H (.bl b) (.bl b)
  | int (i : Int) : ThAt H (.int i) (.int i)
  | str (s : Str) : ThAt H (.str s) (.str s)
  | tup {p : Addr} {vs : List V} {ts : List Th} : H p = some (.tup vs) → ThsAt H vs ts → ThAt H (.ref p) (.tup ts)
  | lst {p : Addr} {vs : List V} : H p = some (.lst vs) → ThAt H (.ref p) .lst
  | dct {p : Addr} {kvs : List (Key × V)} : H p = some (.dK kvs) → ThAt H (.ref p) .dct
inductive ThsAt (H : Hp) : List V → List Th → Prop
  | nil : ThsAt H [] []
  | cons {v : V} {t : Th} {vs : List V} {ts : List Th} : ThAt H v t → ThsAt H vs ts → ThsAt H (v :: vs) (t :: ts)
end
/-- the kinds stay -/
structure KS (H H' : Hp) : Prop where
  t : ∀ q xs, H q = some (.tup xs) → H' q = some (.tup xs)
  l : ∀ q xs, H q = some (.lst xs) → ∃ ys, H' q = some (.lst ys)
  d : ∀ q xs, H q = some (.dK xs) → ∃ ys, H' q = some (.dK ys)
section
variable {H H' H'' : Hp} {a : Addr}
theorem KS.refl : KS H H := ⟨fun _ _ e => e, fun _ _ e => ⟨_, e⟩, fun _ _ e => ⟨_, e⟩⟩
theorem KS.same (k : Same H H') : KS H H' := ⟨fun _ _ e => k _ _ e, fun _ _ e => ⟨_, k _ _ e⟩, fun _ _ e => ⟨_, k _ _ e⟩⟩
theorem KS.trans (x : KS H H') (y : KS H' H'') : KS H H'' := ⟨fun q xs e => y.t _ _ (x.t _ _ e), fun q xs e => let ⟨ys, e'⟩ := x.l _ _ e; y.l _ _ e', fun q xs e => let ⟨ys, e'⟩ := x.d _ _ e; y.d _ _ e'⟩
theorem KS.new {o : HO} (h : H a = none) : KS H (upd H a o) := KS.same (Same.new (Same.refl H) h)
theorem KS.lst {xs ys : List V} (h : H a = some (.lst xs)) : KS H (upd H a (.lst ys)) :=
  ⟨fun q zs e => by rw [upd_ne (ne_of e h (by intro z; cases z))]; exact e, fun q zs e => by
    by_cases hq : q = a
    · subst hq
      exact ⟨_, upd_same⟩
    · exact ⟨_, by rw [upd_ne hq]; exact e⟩, fun q zs e => ⟨_, by rw [upd_ne (ne_of e h (by intro z; cases z))]; exact e⟩⟩
mutual
theorem ThAt.ks (k : KS H H') {v : V} {t : Th} : ThAt H v t → ThAt H' v t
  | .non => .non
  | .bl b => .bl b
  | .int i => .int i
  | .str s => .str s
  | .tup h hs => .tup (k.t _ _ h) (ThsAt.ks k hs)
  | .lst h => let ⟨_, h'⟩ := k.l _ _ h; .lst h'
  | .dct h => let ⟨_, h'⟩ := k.d _ _ h; .dct h'
theorem ThsAt.ks (k : KS H H') {vs : List V} {ts : List Th} : ThsAt H vs ts → ThsAt H' vs ts
  | .nil => .nil
  | .cons h hs => .cons (ThAt.ks k h) (ThsAt.ks k hs)
end
theorem ThsAt.len : ∀ {vs : List V} {ts : List Th}, ThsAt H vs ts → vs.length = ts.length
  | [], [], _ => rfl
  | v :: vs, t :: ts, .cons _ h => by rw [List.length_cons, List.length_cons, ThsAt.len h]
theorem ThsAt.at : ∀ {vs : List V} {ts : List Th}, ThsAt H vs ts → ∀ {i : Nat} {t : Th}, ts[i]? = some t → ∃ v, vs[i]? = some v ∧ ThAt H v t
  | v :: vs, t :: ts, .cons h hs, 0, u, e => ⟨v, rfl, by
    have : t = u := by simpa using e
    exact this ▸ h⟩
  | v :: vs, t :: ts, .cons h hs, i + 1, u, e => by
    obtain ⟨w, h1, h2⟩ := ThsAt.at hs (i := i) (t := u) (by simpa using e)
    exact ⟨w, by simpa using h1, h2⟩
  | [], [], .nil, i, u, e => by simp at e
theorem ThsAt.take : ∀ (n : Nat) {vs : List V} {ts : List Th}, ThsAt H vs ts → ThsAt H (vs.take n) (ts.take n)
  | 0, _, _, _ => by simpa using ThsAt.nil
  | n + 1, [], [], .nil => .nil
  | n + 1, _ :: _, _ :: _, .cons a b => .cons a (ThsAt.take n b)
theorem ThsAt.drop : ∀ (n : Nat) {vs : List V} {ts : List Th}, ThsAt H vs ts → ThsAt H (vs.drop n) (ts.drop n)
  | 0, _, _, h => h
  | n + 1, [], [], .nil => .nil
  | n + 1, _ :: _, _ :: _, .cons a b => ThsAt.drop n b
end
def cutT (ts : List Th) (lo hi : Option Int) : List Th := (ts.drop (HT.sIx ts.length 0 lo)).take (HT.sIx ts.length ts.length hi - HT.sIx ts.length 0 lo)
/-- the kinds -/
def Th.tn : Th → String
  | .non => "NoneType"
  | .bl _ => "bool"
  | .int _ => "int"
  | .str _ => "str"
  | .tup _ => "tuple"
  | .lst => "list"
  | .dct => "dict"
theorem ThAt.ty {K : PySem.W.Frag} {H : Hp} {v : V} {t : Th} (h : ThAt H v t) : TyOf K H v (.type t.tn) := by
  cases h with
  | non => exact .non
  | bl b => exact .bl b
  | int i => exact .int i
  | str s => exact .str s
  | tup h _ => exact .tup h
  | lst h => exact .lst h
  | dct h => exact .dK h
def Th.isI : Th → Bool
  | .bl _ => true
  | .int _ => true
  | _ => false
def Th.isB : Th → Bool
  | .bl _ => true
  | _ => false
def Th.isT : Th → Bool
  | .tup _ => true
  | _ => false
def Th.isS : Th → Bool
  | .str _ => true
  | _ => false
def Th.isL : Th → Bool
  | .lst => true
  | _ => false
def rIsTh (n : String) (f : Th → Bool) : List V → Hp → VK → Prop := fun xs H Q => ∃ v t, xs = [v, .ty n] ∧ ThAt H v t ∧ Q (.bl (f t)) H
section
variable {X : Cx} {k : Nat}
/-- x not in a tuple of words -/
def Th.inW (ws : List Str) : Th → Bool
  | .str s => ws.any fun a => a == s
  | _ => false
def eqT : Th → Value → Bool
  | .str s, .str a _ => a == s
  | _, _ => false
def rNotW (K : PySem.W.Frag) (ws : List Str) : R2 := fun x y H Q => ∃ a t, y = .ref a ∧ SqT K H a (ws.map V.str) ∧ ThAt H x t ∧ Q (.bl (!t.inW ws)) H
end
/-- a tuple that a module holds -/
def GTup (K : PySem.W.Frag) (mg : Str → Option Value) (x : Str) (vs : List V) : Prop := ∃ (a : Addr) (o : Obj) (its : Array Value) (n : Nat), mg x = some (.ref a) ∧ K.lookup a = some o ∧ o.cls = .type "tuple" ∧ o.data = .seq its n ∧ its.size ≤ sizeLine ∧ Vals vs its.toList
theorem GTup.sq {K : PySem.W.Frag} {mg : Str → Option Value} {x : Str} {vs : List V} (g : GTup K mg x vs) : ∃ a, mg x = some (.ref a) ∧ ∀ H, SqT K H a vs := by
  obtain ⟨a, o, its, n, h1, h2, h3, h4, h5, h6⟩ := g
  exact ⟨a, h1, fun H => .inr ⟨o, its, n, h2, h3, h4, h5, h6⟩⟩
/-- its name, its items -/
def tGT (K : PySem.W.Frag) (vs : List V) : TE := fun _ H Q => ∀ a, SqT K H a vs → Q (.ref a) H
theorem pe_gt {X : Cx} {x : Str} {vs : List V} {pos : Pos} (g : GTup X.K X.mg x vs) (hg : Gl X x := by rfl) (hd : (x == ("__debug__" : Str)) = false := by decide) : PE X (.Name x pos) (tGT X.K vs) := by
  obtain ⟨a, h1, h2⟩ := g.sq
  exact fun pins s σ H Q I h => pe_glob hg h1 (v := .ref a) rfl hd pins s σ H Q I (h a (h2 H))
end L2

set_option Elab.async false
set_option linter.all false
set_option maxRecDepth 100000
namespace L2
open PySem PySem.Spec PyProof.Rows Builtin Builtin.Str
/-! ### texts: split, join, startswith, str of an int, int of a text -/
theorem vals_texts : ∀ (l : List (Str × Tok)), Vals ((l.map (·.1)).map V.str) (strValues l)
  | [] => .nil
  | p :: l => .cons ⟨p.2, rfl⟩ (vals_texts l)
theorem texts_of : ∀ {xs : List Str} {us : List Value}, Vals (xs.map V.str) us → ∃ l : List (Str × Tok), us = strValues l ∧ l.map (·.1) = xs
  | [], _, .nil => ⟨[], rfl, rfl⟩
  | x :: xs, _, .cons r1 r2 => by
    obtain ⟨t, rfl⟩ := r1
    obtain ⟨l, rfl, e⟩ := texts_of r2
    exact ⟨(x, t) :: l, rfl, by rw [List.map_cons, e]⟩
section
variable {X : Cx}
/-- a.split(b) -/
def rSplit : V → List V → Hp → VK → Prop := fun x vs H Q => ∃ a b, x = .str a ∧ vs = [.str b] ∧ (b.length == 0) = false ∧ a.length ≤ 1000 ∧ ∀ l, H l = none → Q (.ref l) (upd H l (.lst ((Txt.split a b).map V.str)))
theorem mt_split : MtM X "str.split" rSplit := by
  intro pins s σ H x vs v us Q I rx rv h
  obtain ⟨a, b, rfl, rfl, hb, ha, q⟩ := h
  obtain ⟨t, rfl⟩ := rx
  obtain ⟨w, rfl, rw⟩ := rv.one
  obtain ⟨u, rfl⟩ := rw
  have hx : a.length ≤ sizeLine := by rw [sizeLine_eq]; omega
  have hl : (Txt.split a b).length ≤ sizeLine := by
    have := PyProof.Rows.split_le a b
    rw [sizeLine_eq]; omega
  have fin : ∀ (l : List (Str × Tok)) (k : Nat), l.map (·.1) = Txt.split a b → EP X pins σ Q (.ref s.heap.objs.size) { s with heap := s.heap.push { cls := .type "list", data := .seq (strValues l).toArray }, toks := k } := fun l k e => by
    have hv := vals_texts l
    rw [e] at hv
    exact ⟨.ref _, _, I.lnew (t' := k) hv (by rw [List.length_map]; exact hl), rfl, q _ I.fresh⟩
  cases h1 : (decide (a.length < b.length) || decide (Builtin.Str.strKind a < Builtin.Str.strKind b))
  · cases hf : (occurrences a b 0 a.length (a.length + 1)).isEmpty
    · have e : Txt.split a b = partsBetween a (occurrences a b 0 a.length (a.length + 1)) b.length := (if_neg (ne_true_of_eq_false h1)).trans (if_neg (ne_true_of_eq_false hf))
      refine call_meets F.slot_str_split (typeIs_str _ _ _) F.entry_str_split (F.args_str_split_2 _ _) (meets_str_split_sep a b t u h1 hb hf hx (by rw [← e]; exact hl)) ?_
      rw [strsFrom_eq]
      exact fin _ _ ((numbered_texts _ _).trans e.symm)
    · refine call_meets F.slot_str_split (typeIs_str _ _ _) F.entry_str_split (F.args_str_split_2 _ _) (meets_str_split_not_found a b t u h1 hb hf) ?_
      exact fin [(a, t)] _ ((if_neg (ne_true_of_eq_false h1)).trans (if_pos hf)).symm
  · refine call_meets F.slot_str_split (typeIs_str _ _ _) F.entry_str_split (F.args_str_split_2 _ _) (meets_str_split_cannot_occur a b t u h1) ?_
    exact fin [(a, t)] _ (if_pos h1).symm
/-- b.join(list of texts) -/
def rJoin : V → List V → Hp → VK → Prop := fun x vs H Q => ∃ b p xs, x = .str b ∧ vs = [.ref p] ∧ H p = some (.lst (xs.map V.str)) ∧ JoinOk b xs = true ∧ (Txt.join b xs).length ≤ sizeLine ∧ Q (.str (Txt.join b xs)) H
theorem mt_join : MtM X "str.join" rJoin := by
  intro pins s σ H x vs v us Q I rx rv h
  obtain ⟨b, p, xs, rfl, rfl, hp, hj, hz, q⟩ := h
  obtain ⟨t, rfl⟩ := rx
  obtain ⟨w, rfl, rw⟩ := rv.one
  cases rw
  obtain ⟨its, n, r, e, z⟩ := I.lst hp
  obtain ⟨l, rfl, rfl⟩ := texts_of r
  have hj' : tooLong ((l.map (·.1)).toArray.foldl (· + ·.length + b.length) 0) = false := by
    unfold JoinOk at hj
    simpa using hj
  refine call_meets F.slot_str_join (typeIs_str _ _ _) F.entry_str_join (F.args_str_join_2 _ _) (meets_str_join_list b t p l hj') ⟨⟨_, e, rfl, _, rfl⟩, ?_⟩
  match l, hz, q with
  | [], hz, q => exact ⟨hz, ⟨.str _, H, I.tok _, ⟨_, rfl⟩, q⟩⟩
  | [c], hz, q => exact ⟨.str _, H, I, ⟨_, rfl⟩, q⟩
  | c :: d :: l, hz, q => exact ⟨hz, ⟨.str _, H, I.tok _, ⟨_, rfl⟩, q⟩⟩
/-- a.startswith(b) -/
def rStarts : V → List V → Hp → VK → Prop := fun x vs H Q => ∃ a b, x = .str a ∧ vs = [.str b] ∧ Q (.bl (Txt.startswith a b)) H
/-- str(i) -/
theorem call_strI : CallR X (.type "str") (fun xs H Q => ∃ i : Int, xs = [.int i] ∧ i.natAbs.log2 < 1920 ∧ Q (.str (Str.ofString (toString i))) H) := by
  intro pins s σ H xs us Q I r h
  obtain ⟨i, rfl, hi, q⟩ := h
  obtain ⟨u, rfl, t, rfl⟩ := vals1 r
  exact P.str_of_int hi ⟨.str _, H, I.tok _, ⟨_, rfl⟩, q⟩
/-- int(text) -/
theorem call_intS : CallR X (.type "int") (fun xs H Q => ∃ (a : Str) (i : Int), xs = [.str a] ∧ PySem.intText? a = some i ∧ a.length ≤ 640 ∧ Q (.int i) H) := by
  intro pins s σ H xs us Q I r h
  obtain ⟨a, i, rfl, hn, hl, q⟩ := h
  obtain ⟨u, rfl, t, rfl⟩ := vals1 r
  exact PySem.W.KIN.call_text hn hl ⟨.int i, H, I.tok _, ⟨_, rfl⟩, q⟩
end
end L2

set_option Elab.async false
set_option linter.all false
namespace L2
open PySem
theorem cut_one {c : Nat} : ∀ {a b r s : List Nat}, c ∉ a → c ∉ b → a ++ c :: r = b ++ c :: s → a = b ∧ r = s
  | [], [], r, s, _, _, e => ⟨rfl, (List.cons.inj e).2⟩
  | [], x :: b, r, s, _, hb, e => by
    have := (List.cons.inj e).1
    exact absurd (this ▸ List.mem_cons_self) hb
  | x :: a, [], r, s, ha, _, e => by
    have := (List.cons.inj e).1
    exact absurd (this ▸ List.mem_cons_self) ha
  | x :: a, y :: b, r, s, ha, hb, e => by
    obtain ⟨h1, h2⟩ := List.cons.inj e
    obtain ⟨h3, h4⟩ := cut_one (fun h => ha (List.mem_cons_of_mem _ h)) (fun h => hb (List.mem_cons_of_mem _ h)) h2
    exact ⟨by rw [h1, h3], h4⟩
def jn (c : Nat) : List (List Nat) → List Nat
  | [] => []
  | [w] => w
  | w :: v :: r => w ++ c :: jn c (v :: r)
theorem jn_inj {c : Nat} : ∀ {as bs : List (List Nat)}, as ≠ [] → bs ≠ [] → (∀ w ∈ as, c ∉ w) → (∀ w ∈ bs, c ∉ w) → jn c as = jn c bs → as = bs
  | [], _, h, _, _, _, _ => absurd rfl h
  | _, [], _, h, _, _, _ => absurd rfl h
  | [a], [b], _, _, _, _, e => by
    have e : a = b := e
    rw [e]
  | [a], b :: b2 :: r, _, _, ha, _, e => by
    have e : a = b ++ c :: jn c (b2 :: r) := e
    exact absurd (by rw [e]; simp) (ha a (by simp))
  | a :: a2 :: r, [b], _, _, _, hb, e => by
    have e : a ++ c :: jn c (a2 :: r) = b := e
    exact absurd (by rw [← e]; simp) (hb b (by simp))
  | a :: a2 :: r, b :: b2 :: r', _, _, ha, hb, e => by
    have e : a ++ c :: jn c (a2 :: r) = b ++ c :: jn c (b2 :: r') := e
    obtain ⟨h1, h2⟩ := cut_one (ha a (by simp)) (hb b (by simp)) e
    have h3 := jn_inj (as := a2 :: r) (bs := b2 :: r') (by simp) (by simp) (fun w h => ha w (List.mem_cons_of_mem _ h)) (fun w h => hb w (List.mem_cons_of_mem _ h)) h2
    rw [h1, h3]
theorem join_list (c : Nat) : ∀ (ws : List Str), (Str.join ⟨#[c]⟩ ws).cps.toList = jn c (ws.map fun w => w.cps.toList)
  | [] => rfl
  | [w] => rfl
  | w :: v :: r => by
    have ih := join_list c (v :: r)
    show ((w ++ (⟨#[c]⟩ : Str) ++ Str.join ⟨#[c]⟩ (v :: r)).cps).toList = w.cps.toList ++ c :: jn c ((v :: r).map fun w => w.cps.toList)
    rw [← ih]
    show ((w.cps ++ #[c]) ++ (Str.join ⟨#[c]⟩ (v :: r)).cps).toList = _
    simp
theorem split_ne (x : Str) (c : Nat) : Txt.split x ⟨#[c]⟩ ≠ [] := fun e => by
  have := PyProof.Rows.split_pos x ⟨#[c]⟩
  rw [e] at this
  exact absurd this (by decide)
/-- what was joined is split again -/
theorem split_join (c : Nat) {ws : List Str} (hne : ws ≠ []) (h : ∀ w ∈ ws, c ∉ w.cps.toList) : Txt.split (Txt.join ⟨#[c]⟩ ws) ⟨#[c]⟩ = ws := by
  have e0 : Txt.join ⟨#[c]⟩ ws = Str.join ⟨#[c]⟩ ws := StrLaws.glued_eq_join _ _
  rw [e0]
  have e1 := congrArg (fun x => x.cps.toList) (StrLaws.join_split (Str.join ⟨#[c]⟩ ws) ⟨#[c]⟩)
  rw [join_list, join_list] at e1
  have e2 := jn_inj (by rw [Ne, List.map_eq_nil_iff]; exact split_ne _ c) (by rw [Ne, List.map_eq_nil_iff]; exact hne)
    (fun w hw => by obtain ⟨p, hp, rfl⟩ := List.mem_map.mp hw; exact StrLaws.split_free _ c p hp) (fun w hw => by obtain ⟨p, hp, rfl⟩ := List.mem_map.mp hw; exact h p hp) e1
  have inj : ∀ {as bs : List Str}, (as.map fun w => w.cps.toList) = (bs.map fun w => w.cps.toList) → as = bs := fun {as bs} e => by
    induction as generalizing bs with
    | nil => cases bs with
      | nil => rfl
      | cons b bs => cases e
    | cons a as ih => cases bs with
      | nil => cases e
      | cons b bs =>
        obtain ⟨h1, h2⟩ := List.cons.inj e
        have h3 : a = b := by
          apply Str.ext'
          exact Array.toList_inj.mp h1
        rw [h3, ih h2]
  exact inj e2
end L2

set_option Elab.async false
set_option linter.all false
set_option maxRecDepth 100000
/-! texts, walked sign by sign -/
namespace L2
open PySem PyProof.Rows
def sg (x : Str) : List Str := x.cps.toList.map fun c => ⟨#[c]⟩
theorem sg_len (x : Str) : (sg x).length = x.cps.size := by unfold sg; rw [List.length_map, Array.length_toList]
theorem sg_at {x : Str} {i : Nat} {c : Nat} (h : x.cps[i]? = some c) : (sg x)[i]? = some ⟨#[c]⟩ := by
  unfold sg
  rw [List.getElem?_map, Array.getElem?_toList, h]
  rfl
def Its (x : Str) : It := ⟨fun i _ => i < x.cps.size, fun i H v H' => H' = H ∧ ∃ y, (sg x)[i]? = some y ∧ v = .str y, fun i _ => x.cps.size ≤ i⟩
section
variable {P : Program} {w : World} {K : PySem.W.Frag} {tg : Expr}
theorem turn_sa (x : Str) (t : Tok) (it : Addr) : Turn P w K tg (Its x) [it] it (fun i h => h.IsStrIter it "str_ascii_iterator" x t i) where
  mem := by simp
  obj := fun i h st b hb => by
    obtain rfl : b = it := by simpa using hb
    obtain ⟨o, e, c, d⟩ := st
    exact ⟨o, e, fun v z => by rw [d] at z; cases z⟩
  keep := fun i h h' st k => let ⟨o, e, c, d⟩ := st; ⟨o, k it (by simp) o e, c, d⟩
  item := by
    intro X hP hw hK hc i pins s σ H E I hf st hg
    subst hP hw hK
    obtain ⟨cp, hx⟩ : ∃ cp, x.cps[i]? = some cp := ⟨x.cps[i]'hg, Array.getElem?_eq_getElem hg⟩
    obtain ⟨f0, f1, f2, f3, f4, f5⟩ := hf it (by simp)
    refine wpAny_pyNext_ascii_item st hx fun h1 st1 sb => ?_
    have I1 : Inv X pins σ H { s with heap := h1, toks := s.toks + 1 } := I.turned (t' := s.toks + 1) (fun b o hb e => (sb.2 b hb).trans e) f0 f1 f3 f4 f5
    obtain ⟨o, e, c, d⟩ := id st1
    exact ⟨_, rfl, go_of (s := { s with heap := h1, toks := s.toks + 1 }) e c d (by decide) ⟨.str ⟨#[cp]⟩, H, I1, ⟨_, rfl⟩, ⟨rfl, _, sg_at hx, rfl⟩, st1, fun b hb => (hf b hb).1⟩⟩
  done := by
    intro X hP hw hK hc i pins s σ H E I hf st hg
    subst hP hw hK
    obtain ⟨f0, f1, f2, f3, f4, f5⟩ := hf it (by simp)
    exact wpAny_pyNext_ascii_end (I.ok.hd hc) st (by simp; exact hg) fun h1 eb => ⟨rfl, I.turned (t' := s.toks) (fun b o hb e => eb b o hb e) f0 f1 f3 f4 f5⟩
  self := fun _ _ _ _ _ st h => wpAny_pyIter_striter_ascii st h
theorem turn_sw (x : Str) (t : Tok) (it : Addr) : Turn P w K tg (Its x) [it] it (fun i h => h.IsStrIter it "str_iterator" x t i) where
  mem := by simp
  obj := fun i h st b hb => by
    obtain rfl : b = it := by simpa using hb
    obtain ⟨o, e, c, d⟩ := st
    exact ⟨o, e, fun v z => by rw [d] at z; cases z⟩
  keep := fun i h h' st k => let ⟨o, e, c, d⟩ := st; ⟨o, k it (by simp) o e, c, d⟩
  item := by
    intro X hP hw hK hc i pins s σ H E I hf st hg
    subst hP hw hK
    obtain ⟨cp, hx⟩ : ∃ cp, x.cps[i]? = some cp := ⟨x.cps[i]'hg, Array.getElem?_eq_getElem hg⟩
    obtain ⟨f0, f1, f2, f3, f4, f5⟩ := hf it (by simp)
    refine wpAny_pyNext_wide_item st hx fun h1 st1 sb => ?_
    have I1 : Inv X pins σ H { s with heap := h1, toks := s.toks + 1 } := I.turned (t' := s.toks + 1) (fun b o hb e => (sb.2 b hb).trans e) f0 f1 f3 f4 f5
    obtain ⟨o, e, c, d⟩ := id st1
    exact ⟨_, rfl, go_of (s := { s with heap := h1, toks := s.toks + 1 }) e c d (by decide) ⟨.str ⟨#[cp]⟩, H, I1, ⟨_, rfl⟩, ⟨rfl, _, sg_at hx, rfl⟩, st1, fun b hb => (hf b hb).1⟩⟩
  done := by
    intro X hP hw hK hc i pins s σ H E I hf st hg
    subst hP hw hK
    obtain ⟨f0, f1, f2, f3, f4, f5⟩ := hf it (by simp)
    exact wpAny_pyNext_wide_end (I.ok.hd hc) st (by simp; exact hg) fun h1 eb => ⟨rfl, I.turned (t' := s.toks) (fun b o hb e => eb b o hb e) f0 f1 f3 f4 f5⟩
  self := fun _ _ _ _ _ st h => wpAny_pyIter_striter_wide st h
end
section
variable {X : Cx} {tg : Expr}
def iTx (te : TE) : TI := fun σ H R => te σ H fun v H1 => ∃ x, v = .str x ∧ R (Its x) H1
theorem pi_tx {l : Expr} {tl : TE} (hl : PE X l tl) : PI X tg l (iTx tl) := by
  intro pins s σ H R I h
  refine thn (hl pins s σ H _ I h) fun v s1 ⟨x, H1, I1, r1, q1⟩ => ?_
  obtain ⟨y, rfl, q⟩ := q1
  obtain ⟨t, rfl⟩ := r1
  have new : ∀ b, b ∈ [s1.heap.objs.size] → FpOk X pins H1 b := fun b hb => by
    obtain rfl : b = s1.heap.objs.size := by simpa using hb
    exact I1.fpOk (Nat.le_refl _) (I1.hok.fresh (Nat.le_refl _))
  cases ha : y.cps.all (· < 128) with
  | true =>
    refine wpAny_pyIter_ascii ha ?_
    exact ⟨s1.heap.objs.size, [s1.heap.objs.size], _, _, H1, rfl, I1.kept (t' := s1.toks) fun b o e => Heap.get?_push_of_some _ e, turn_sa y t _, ⟨_, Heap.get?_push_size _ rfl, rfl, rfl⟩, new, q⟩
  | false =>
    refine wpAny_pyIter_wide ha ?_
    exact ⟨s1.heap.objs.size, [s1.heap.objs.size], _, _, H1, rfl, I1.kept (t' := s1.toks) fun b o e => Heap.get?_push_of_some _ e, turn_sw y t _, ⟨_, Heap.get?_push_size _ rfl, rfl, rfl⟩, new, q⟩
end
theorem w_compX {te : TE} {n : Nat} {ix : List Nat} {g : TG} {tc : TT} {te' : TE} {σ : St} {H : Hp} {Q : VK} (h : te σ H fun v H1 => ∃ x, v = .str x ∧ ∀ D, H1 D = none → CGo (Its x) D g tc te' Q (List.replicate n none ++ sub ix σ) H1) : tComp (iTx te) n ix g tc te' σ H Q := h
theorem cgo_tx {D : Addr} {tc : TT} {te : TE} {Q : VK} {ρ : St} {H : Hp} {x : Str} (Pv : Nat → List V → Hp → Prop) (h0 : Pv 0 [] (upd H D (.lst [])))
    (hs : ∀ i y ys H', (sg x)[i]? = some y → Pv i ys H' → H' D = some (.lst ys) → ∀ (R : V → Hp → Prop) (S : Hp → Prop), (∀ z H4, H4 D = some (.lst ys) → ys.length < sizeLine → Pv (i + 1) (ys ++ [z]) (upd H4 D (.lst (ys ++ [z]))) → R z H4) → (∀ H3, H3 D = some (.lst ys) → Pv (i + 1) ys H3 → S H3) →
      tc (some (.str y) :: ρ) H' fun b H3 => if b = true then te (some (.str y) :: ρ) H3 R else S H3)
    (hd : ∀ ys H', Pv (sg x).length ys H' → H' D = some (.lst ys) → Q (.ref D) H') : CGo (Its x) D (gName 0) tc te Q (none :: ρ) H := by
  have hl := sg_len x
  refine ⟨fun i m τ ys H' => m = x.cps.size - i ∧ i ≤ x.cps.size ∧ (∃ tv, τ = tv :: ρ) ∧ Pv i ys H' ∧ H' D = some (.lst ys), ⟨x.cps.size, by omega, Nat.zero_le _, ⟨_, rfl⟩, h0, upd_same⟩, ?_⟩
  rintro i m τ ys H' ⟨rfl, hi, ⟨tv, rfl⟩, hp, hD⟩
  refine ⟨hD, ?_⟩
  by_cases hlt : i < x.cps.size
  · refine .inr ⟨hlt, ?_⟩
    rintro v H2 ⟨rfl, y, hy, rfl⟩
    refine hs i y ys _ hy hp hD _ _ (fun z H4 e4 hz p4 => ?_) (fun H3 e3 p3 => ?_)
    · exact ⟨e4, hz, x.cps.size - (i + 1), by omega, rfl, by omega, ⟨_, rfl⟩, p4, upd_same⟩
    · exact ⟨x.cps.size - (i + 1), by omega, rfl, by omega, ⟨_, rfl⟩, p3, e3⟩
  · have e : i = (sg x).length := by omega
    subst e
    exact .inl ⟨by show x.cps.size ≤ _; omega, hd ys H' hp hD⟩
end L2

set_option Elab.async false
set_option linter.all false
set_option maxRecDepth 100000
namespace PySem.W
open PySem PySem.Calls PyProof.Rows
/-- the sort by known answers -/
def KasT.eval {α : Type} (lt : Nat → Nat → Bool) : KasT α → α
  | .ret a => a
  | .ask i j k => (k (lt i j)).eval lt
/-- what it asks on that way lies below n -/
def KasT.okFor {α : Type} (lt : Nat → Nat → Bool) (n : Nat) : KasT α → Bool
  | .ret _ => true
  | .ask i j k => decide (i < n) && (decide (j < n) && (k (lt i j)).okFor lt n)
/-- rows of numbers, one below the other -/
def lexI (fin : Bool) : List Int → List Int → Bool
  | x :: xs, y :: ys => if x = y then lexI fin xs ys else decide (x < y)
  | _, _ => fin
inductive Nums : List Value → List Int → Prop
  | nil : Nums [] []
  | cons {i : Int} {t : Tok} {us : List Value} {ns : List Int} : Nums us ns → Nums (.int i t :: us) (i :: ns)
theorem Nums.len : ∀ {us : List Value} {ns : List Int}, Nums us ns → us.length = ns.length
  | _, _, .nil => rfl
  | _, _, .cons h => by rw [List.length_cons, List.length_cons, Nums.len h]
section
variable {prog : Program} {w : World} {A : Around} {E : Value → Shared → Prop} {s : Shared}
end
end PySem.W

set_option Elab.async false
set_option linter.all false
set_option maxRecDepth 100000
namespace PySem
open Sem (wp)
open AutoSeq1 (wpAny_loadPart')
section
variable {prog : Program} {w : World} {A : Around} {E : Value → Shared → Prop} {s : Shared}
end
end PySem
namespace L2
open PySem PySem.Spec PyProof.Rows
section
variable {X : Cx} {k : Nat}
/-- tuple(range(n)) of a range that stands -/
def rTupR : List V → Hp → VK → Prop := fun xs H Q => ∃ (p : Addr) (n : Nat), xs = [.ref p] ∧ H p = some (.rng 0 (n : Int)) ∧ n ≤ 1000 ∧ ∀ l, H l = none → Q (.ref l) (upd H l (.tup ((List.range n).map fun (i : Nat) => V.int (i : Int))))
/-- tuple of a text: its signs -/
def rTupS : List V → Hp → VK → Prop := fun xs H Q => ∃ (x : Str), xs = [.str x] ∧ x.cps.size ≤ 1000 ∧ ∀ l, H l = none → Q (.ref l) (upd H l (.tup (x.cps.toList.map fun c => V.str ⟨#[c]⟩)))
/-- rows of numbers, one by one -/
def RowsAt (H : Hp) : List Addr → List (List Int) → Prop
  | [], [] => True
  | a :: as, ks :: kss => H a = some (.tup (ks.map V.int)) ∧ RowsAt H as kss
  | _, _ => False
theorem RowsAt.tk {H H' : Hp} (k : ∀ q xs, H q = some (.tup xs) → H' q = some (.tup xs)) : ∀ {as : List Addr} {kss : List (List Int)}, RowsAt H as kss → RowsAt H' as kss
  | [], [], _ => trivial
  | a :: as, ks :: kss, h => ⟨k _ _ h.1, RowsAt.tk k h.2⟩
  | [], _ :: _, h => h.elim
  | _ :: _, [], h => h.elim
theorem RowsAt.len {H : Hp} : ∀ {as : List Addr} {kss : List (List Int)}, RowsAt H as kss → as.length = kss.length
  | [], [], _ => rfl
  | a :: as, ks :: kss, h => by rw [List.length_cons, List.length_cons, RowsAt.len h.2]
  | [], _ :: _, h => h.elim
  | _ :: _, [], h => h.elim
theorem RowsAt.at {H : Hp} : ∀ {as : List Addr} {kss : List (List Int)}, RowsAt H as kss → ∀ {i : Nat} {a : Addr}, as[i]? = some a → ∃ ks, kss[i]? = some ks ∧ H a = some (.tup (ks.map V.int))
  | a :: as, ks :: kss, h, 0, b, e => ⟨ks, rfl, by
    have : a = b := by simpa using e
    exact this ▸ h.1⟩
  | a :: as, ks :: kss, h, i + 1, b, e => by
    obtain ⟨k', h1, h2⟩ := RowsAt.at h.2 (i := i) (a := b) (by simpa using e)
    exact ⟨k', by simpa using h1, h2⟩
  | [], [], _, i, b, e => by simp at e
  | [], _ :: _, h, _, _, _ => h.elim
  | _ :: _, [], h, _, _, _ => h.elim
def ltK (keys : List (List Int)) : Nat → Nat → Bool := fun i j => PySem.W.lexI (decide ((keys.getD i []).length < (keys.getD j []).length)) (keys.getD i []) (keys.getD j [])
def permK (keys : List (List Int)) : List Nat := ((PySem.W.kas_sort keys.length).eval (ltK keys)).toList
theorem Vals.getD {xs : List V} {us : List Value} (r : Vals xs us) (i : Nat) : RelV (xs.getD i .non) (us.getD i .none) := by
  induction r generalizing i with
  | nil => rfl
  | cons h _ ih =>
    cases i with
    | zero => simpa using h
    | succ i => simpa using ih i
/-- sorted(xs), xs a list of rows of numbers -/
def rSorted : List V → Hp → VK → Prop := fun xs H Q => ∃ (l : Addr) (as : List Addr) (keys : List (List Int)), xs = [.ref l] ∧ H l = some (.lst (as.map V.ref)) ∧ RowsAt H as keys ∧ (∀ ks ∈ keys, ks ≠ []) ∧ 2 ≤ keys.length ∧ keys.length < 64 ∧ (PySem.W.kas_sort keys.length).okFor (ltK keys) keys.length = true ∧ (permK keys).length = keys.length ∧
  ∀ D, H D = none → Q (.ref D) (upd H D (.lst ((permK keys).map fun i => (as.map V.ref).getD i .non)))
end
end L2

set_option Elab.async false
set_option linter.all false
set_option maxRecDepth 100000
namespace L2
open PySem PySem.Spec PyProof.Rows
section
variable {X : Cx}
/-- x[a:b] of a text -/
def rSlS : V → Option Int → Option Int → Hp → VK → Prop := fun x lo hi H Q => ∃ z, x = .str z ∧ z.length ≤ 1000 ∧ Q (.str (Txt.slice z lo hi)) H
end
end L2

set_option Elab.async false
set_option linter.all false
set_option maxRecDepth 100000
namespace L2
open PySem PySem.Spec PyProof.Rows
/-! ### an exception on its way -/
/-- the exception's object at a: its class, its dict; its traceback (where there is one) at T, fl: the frame in which it is in flight; all of it is made at lo or later, and untracked -/
structure Fly (lo : Nat) (h : Heap) (H : Hp) (a : Addr) (T : Option Addr) (C : Value) (d : Option Addr) (fl : Value) : Prop where
  at_ : ∃ (vs : Array Value) (sl : Array (Option Value)), h.get? a = some ⟨C, d, .fields vs, sl⟩ ∧
    (match T with
      | none => vs[1]? = some .none
      | some t => vs[1]? = some (.ref t) ∧ t ≠ a ∧ ∃ oT ts, h.get? t = some oT ∧ oT.data = .fields ts ∧ ts[3]? = some fl)
  lo : ∀ b ∈ a :: T.toList, lo ≤ b ∧ H b = none
theorem Fly.mono {lo lo' : Nat} {h : Heap} {H : Hp} {a : Addr} {T : Option Addr} {C : Value} {d : Option Addr} {fl : Value} (f : Fly lo h H a T C d fl) (hl : lo' ≤ lo) : Fly lo' h H a T C d fl :=
  ⟨f.at_, fun b hb => ⟨Nat.le_trans hl (f.lo b hb).1, (f.lo b hb).2⟩⟩
section
variable {M : Model} {A : Around} {E : Value → Shared → Prop} {s : Shared} {base : Heap} {env : Env} {outer : List Env} {L a : Addr} {T : Option Addr} {C : Value} {d : Option Addr} {H : Hp} {lo : Nat} {fl : Value} {Q : Unit → Shared → Prop}
end
end L2

set_option Elab.async false
set_option linter.all false
set_option maxRecDepth 100000
namespace L2
open PySem PySem.Spec PyProof.Rows
/-! ### how an exception lies behind a call -/
def CXE (P : Program) (w : World) : CXT := fun outer H s E e s' => ∃ (a : Addr) (T : Option Addr) (C : Value) (d : Option Addr) (H' : Hp), e = .ref a ∧ s'.os = s.os ∧ AllBare s'.gens ∧ Un (frs outer) [] H H' s.heap s'.heap ∧
  HOk P w H' s'.heap ∧ Fly s.heap.objs.size s'.heap H' a T C d .none ∧ E C d H'
/-- an exception that is wanted lands: EX tells what is wanted, by the values of the names -/
def Lands (X : Cx) (EX : St → XK) : Prop := ∀ (pins : List (Addr × Obj)) (σ : St) (H : Hp) (s : Shared) (a : Addr) (T : Option Addr) (C : Value) (d : Option Addr), Inv X pins σ H s → Fly X.s₀.heap.objs.size s.heap H a T C d .none →
  (∀ p ∈ X.pn, p.1 ∉ a :: T.toList) → EX σ C d H → X.xe (.ref a) s
theorem Un.more {fs : List Addr} {H H' : Hp} {h h' h'' : Heap} (u : Un fs [] H H' h h') (k : ∀ b o, b < h.objs.size → h'.get? b = some o → b ∉ fs → h''.get? b = some o) (sl : ∀ b o, b < h.objs.size → h'.get? b = some o → ∃ z, h''.get? b = some { o with slots := z }) : Un fs [] H H' h h'' where
  keep := fun b o q n hb hx => k b o (Heap.lt_size q) (u.keep b o q n hb hx) hb
  slot := fun b o q n hb hx => by
    obtain ⟨z, e⟩ := u.slot b o q n hb hx
    obtain ⟨z', e'⟩ := sl b _ (Heap.lt_size q) e
    exact ⟨z', e'⟩
  free := u.free
  there := fun b o q hx => by
    obtain ⟨o', e⟩ := u.there b o q hx
    obtain ⟨z, e'⟩ := sl b _ (Heap.lt_size q) e
    exact ⟨_, e'⟩
  tups := u.tups
  frzs := u.frzs
  tbls := u.tbls
/-- out of a call -/
theorem Lands.passes {X : Cx} {EX : St → XK} (L : Lands X EX) {pins : List (Addr × Obj)} {σ : St} {H : Hp} {s s' : Shared} {e : Value} (I : Inv X pins σ H s) (h : CXE X.prog X.w X.stack H s (EX σ) e s') : X.xe e s' := by
  obtain ⟨a, T, C, d, H', rfl, os, bare, un, hok, F, hE⟩ := h
  have I' : Inv X pins σ H' s' := I.call' (ch := []) os un hok bare fun b hb => nomatch hb
  refine L pins σ H' s' a T C d I' (F.mono I.sz) (fun p hp hc => ?_) hE
  have q := (I.pin p (List.mem_append_left _ hp)).1
  exact absurd (Nat.lt_of_lt_of_le (Heap.lt_size q) (F.lo _ hc).1) (Nat.lt_irrefl _)
/-! ### calls of defs that may raise -/
def tCallX (sp : Sp) (EX : St → XK) (t : TA) : TE := fun σ H Q => t σ H fun vs H1 => sp vs H1 Q (EX σ)
section
variable {X : Cx} {EX : St → XK} {k j : Nat} {f : Addr} {fd : FuncData} {ps : List Str} {sp : Sp} {x : Str} {p pos : Pos} {e : Expr} {es : List Expr} {t : TA}
/-- a def that may raise -/
def HasX (P : Program) (w : World) (K : PySem.W.Frag) (mg : Str → Option Value) (base : Heap) (k : Nat) (x : Str) (ps : List Str) (sp : Sp) : Prop :=
  ∃ (f : Addr) (fd : FuncData), FnOk P w K mg base (CXE P w) k f fd ps sp ∧ mg x = some (.ref f) ∧ PySem.W.keepIn K (.ref f) = true ∧ Binds K fd ps []
/-- called where it does not raise -/
theorem FnOk.calm {P : Program} {w : World} {K : PySem.W.Frag} {mg : Str → Option Value} {base : Heap} (F : FnOk P w K mg base (CXE P w) k f fd ps sp) : FnOk P w K mg base CX0 k f fd ps (fun vs H Q _ => sp vs H Q E0) := by
  refine ⟨fun vs H Q E h => F.len vs H Q E0 h, fun A outer s H args us vs Q E hr he hb hv hs => codeAny_mono (F.run A outer s H args us vs Q E0 hr he hb hv hs) fun r s' hq => ?_⟩
  cases r with
  | error e =>
    obtain ⟨_, _, _, _, _, _, _, _, _, _, _, h⟩ := hq
    exact False.elim h
  | ok fl => cases fl <;> exact hq
theorem HasX.calm {P : Program} {w : World} {K : PySem.W.Frag} {mg : Str → Option Value} {base : Heap} (h : HasX P w K mg base k x ps sp) : Has P w K mg base k x ps (fun vs H Q _ => sp vs H Q E0) := by
  obtain ⟨f, fd, F, hm, hk, hb⟩ := h
  exact ⟨f, fd, F.calm, hm, hk, hb⟩
end
end L2

set_option Elab.async false
set_option linter.all false
set_option maxRecDepth 100000
namespace L2
open PySem PySem.Spec PyProof.Rows
open Builtin Builtin.ObjectAttr
/-! ### own exception classes over ValueError -/
abbrev bmV : List Value := [.type "ValueError", .type "Exception", .type "BaseException", .type "object"]
inductive OverV : List Value → Prop
  | base : OverV bmV
  | own (a : Addr) {l : List Value} : OverV l → OverV (.ref a :: l)
theorem OverV.has {l : List Value} (h : OverV l) {X : String} {b : Bool} (hb : bmV.contains (.type X) = b) : l.contains (.type X) = b := by
  induction h with
  | base => exact hb
  | own a _ ih => rw [List.contains_cons, ih]; rfl
theorem OverV.passes {l : List Value} (h : OverV l) (self : Value) : refuseLoop self "__setattr__" l = pure () := by
  induction h with
  | base => exact PySem.F.store_ValueError.passes self
  | own a _ ih => rw [refuseLoop_ref]; exact ih
structure XC (K : PySem.W.Frag) (C : Addr) (bm : List Value) : Prop where
  at_ : ∃ (nm q : Str) (N : Addr) (bs : List Value) (sn : List Str) (sub : List Value) (ab : Bool) (col : Option Bool) (dd : Option Addr) (k0 k1 k2 k3 k5 : Option Value),
    K.lookup C = some (excClassObj nm q C N bs bm true sn sub ab col dd k0 k1 k2 k3 k5 "ValueError.__new__")
  ov : OverV bm
/-- its attributes are stored and read as those of any exception -/
structure XA (K : PySem.W.Frag) (C : Addr) : Prop where
  bm : ∃ bm, XC K C bm
  ga : PySem.W.findIn K (.ref C) "__getattribute__" = some (some (.builtin "BaseException.__getattribute__"))
  gt : PySem.W.findIn K (.ref C) "__getattr__" = some none
  sa : PySem.W.findIn K (.ref C) "__setattr__" = some (some (.builtin "object.__setattr__"))
  cl : PySem.W.findIn K (.ref C) "__class__" = some (some (.builtin "object.__class__"))
  sg : PySem.W.specialIn K (.builtin "object.__class__") "__get__" = some (some (.builtin "getset_descriptor.__get__"))
  tk : PySem.W.takesIn K (.builtin "object.__class__") = some true
end L2
namespace PySem
open Sem (wp)
open Builtin Builtin.ObjectAttr
open L2 (OverV)
section
variable {prog : Program} {w : World} {A : Around} {E : Value → Shared → Prop} {h : Heap} {g : Array GenState} {d : Drawn} {t : Nat} {os : OsState}
variable {nm q : Str} {C N : Addr} {bs bm : List Value} {sn : List Str} {sub : List Value} {ab : Bool} {col : Option Bool} {dd : Option Addr} {k0 k1 k2 k3 k5 : Option Value}
/-- what is wanted of the end of a call -/
abbrev EndX (prog : Program) (w : World) (A : Around) (R : Result → Shared → Prop) (fin : Fin) (s' : Shared) : Prop := match fin with
  | .done f => R (.ok f) s'
  | .again c' => c'.quiet = true ∧ codeAny (model prog w) A c' R s'
end
end PySem

set_option Elab.async false
set_option linter.all false
set_option maxRecDepth 100000
namespace PySem
open Sem (wp)
open Builtin Builtin.ObjectAttr
open L2 (OverV XC XA bmV)
section
variable {prog : Program} {w : World} {A : Around} {E : Value → Shared → Prop} {h : Heap} {g : Array GenState} {d : Drawn} {t : Nat} {os : OsState}
variable {nm q : Str} {C N x : Addr} {bs bm : List Value} {sn : List Str} {sub : List Value} {ab : Bool} {col : Option Bool} {dd : Option Addr} {k0 k1 k2 k3 k5 : Option Value}
  {mA : Str → Option Value} {name : Str} {v : Value}
end
section
variable {prog : Program} {w : World} {A : Around} {E : Value → Shared → Prop} {h : Heap} {g : Array GenState} {d : Drawn} {t : Nat} {os : OsState} {K : PySem.W.Frag}
variable {nm q : Str} {C N x : Addr} {bs bm : List Value} {sn : List Str} {sub : List Value} {ab : Bool} {col : Option Bool} {dd : Option Addr} {k0 k1 k2 k3 k5 : Option Value}
  {name : Str} {v : Value} {ox : Obj} {od : Option Obj}
end
end PySem

set_option Elab.async false
set_option linter.all false
set_option maxRecDepth 100000
namespace L2
open PySem PySem.Spec PyProof.Rows
/-! ### exceptions in the abstract heap -/
def XObj (a C : Addr) (d : Option Addr) (vs : Array Value) : HO := .ext fun h => ∃ sl, h.get? a = some ⟨.ref C, d, .fields vs, sl⟩
def XDct (dx : Addr) (fs : List (Str × V)) : HO := .ext fun h => ∃ mA, h.Ns1 dx mA ∧ (∀ f, RelO (fs.lookup f) (mA f)) ∧ PySem.Within mA (fs.map (·.1))
section
variable {P : Program} {w : World} {H : Hp} {h : Heap} {a C dx : Addr} {d : Option Addr} {vs : Array Value} {fs : List (Str × V)}
end
section
variable {X : Cx} {pins : List (Addr × Obj)} {σ : St} {H : Hp} {s : Shared} {h' : Heap}
theorem Inv.two {a dx : Addr} {o o' : HO} {φ : Heap → Prop} {t' : Nat} (I : Inv X pins σ H s) (mu : H a = some (.ext φ)) (hdx : s.heap.objs.size ≤ dx) (k : ∀ b u, b ≠ a → s.heap.get? b = some u → h'.get? b = some u) (ha : ∃ u, h'.get? a = some u)
    (n1 : ObjOk X.prog X.w (upd (upd H dx o) a o') h' dx o) (n2 : ObjOk X.prog X.w (upd (upd H dx o) a o') h' a o') : Inv X pins σ (upd (upd H dx o) a o') { s with heap := h', toks := t' } := by
  have hn : H dx = none := I.hok.fresh hdx
  have up : ∀ b, b ≠ a → b ≠ dx → upd (upd H dx o) a o' b = H b := fun b h1 h2 => by rw [upd_ne h1, upd_ne h2]
  have nea : ∀ b u, H b = some u → (∀ φ, u ≠ .ext φ) → b ≠ a ∧ b ≠ dx := fun b u e hu => ⟨fun z => by rw [z, mu] at e; exact hu φ (Option.some.inj e).symm, ne_of_none e hn⟩
  refine I.un ⟨fun b ob e n _ _ => k b ob (fun z => by rw [z, mu] at n; cases n) e, fun b ob e n _ _ => ⟨ob.slots, k b ob (fun z => by rw [z, mu] at n; cases n) e⟩, fun b ob e n _ => ?_, fun b ob e _ => ?_, fun b xs e => ?_, fun b ob u e => ?_, fun b ps e => ⟨#[], ?_⟩⟩ fun b u e => ?_
  · rw [up b (fun z => by rw [z, mu] at n; cases n) fun z => absurd (Nat.lt_of_lt_of_le (Heap.lt_size e) (z ▸ hdx)) (Nat.lt_irrefl _)]; exact n
  · by_cases q : b = a
    · rw [q]; exact ha
    · exact ⟨ob, k b ob q e⟩
  · have q := nea b _ e (fun _ z => by cases z); rw [up b q.1 q.2]; exact e
  · have q := nea b _ e (fun _ z => by cases z); rw [up b q.1 q.2]; exact e
  · have q := nea b _ e (fun _ z => by cases z); rw [up b q.1 q.2, e]; simp
  · by_cases q : b = a
    · rw [q, upd_same] at e; cases e; rw [q]; exact n2
    · by_cases q2 : b = dx
      · rw [q2] at q; rw [q2, upd_ne q, upd_same] at e; cases e; rw [q2]; exact n1
      · rw [up b q q2] at e
        refine (I.hok b u e).stay (fun c v hc z => k c v (fun y => ?_) z) (fun c z => ?_) fun c xs z => ?_
        · rcases hc with hc | hc
          · exact q (hc ▸ y)
          · rw [y, mu] at hc; cases hc
        · have q := nea c _ z (fun _ z => by cases z); rw [up c q.1 q.2]; exact z
        · have q := nea c _ z (fun _ z => by cases z); rw [up c q.1 q.2]; exact z
/-- behind a store -/
def XSt (H : Hp) (a C : Addr) (d : Option Addr) (vs : Array Value) (f : Str) (y : V) (G : Hp → Prop) : Prop := match d with
  | none => ∀ dx, H dx = none → dx ≠ a → G (upd (upd H dx (XDct dx [(f, y)])) a (XObj a C (some dx) vs))
  | some dx => ∃ fs, H dx = some (XDct dx fs) ∧ fs.length < 100 ∧ G (upd H dx (XDct dx (putF f y fs)))
end
/-! ### fields of exceptions -/
def sXf (K : PySem.W.Frag) (ta tv : TE) (f : Str) : TS := fun D σ H => tv σ H fun y H1 => ta σ H1 fun x H2 => ∃ (a C : Addr) (d : Option Addr) (vs : Array Value), x = .ref a ∧ H2 a = some (XObj a C d vs) ∧ XA K C ∧ NoAttr K C f ∧ XSt H2 a C d vs f y (D.nx σ)
def tXf (K : PySem.W.Frag) (ta : TE) (f : Str) : TE := fun σ H Q => ta σ H fun x H1 => ∃ (a C dx : Addr) (vs : Array Value) (fs : List (Str × V)) (v : V), x = .ref a ∧ H1 a = some (XObj a C (some dx) vs) ∧ H1 dx = some (XDct dx fs) ∧ XA K C ∧ NoAttr K C f ∧ fs.lookup f = some v ∧ Q v H1
section
variable {X : Cx} {e o value : Expr} {ta tv : TE} {f : Str} {pos pos' : Pos}
end
end L2

set_option Elab.async false
set_option linter.all false
set_option maxRecDepth 100000
namespace PySem
open Sem (wp)
open L2 (OverV)
section
variable {M : Model} {A : Around} {E : Value → Shared → Prop} {env : Env}
variable {nm q : Str} {C N : Addr} {bs bm : List Value} {sn : List Str} {sub : List Value} {ab : Bool} {col : Option Bool} {dd : Option Addr} {k0 k1 k2 k3 k5 : Option Value}
end
end PySem
namespace L2
open PySem PySem.Spec PyProof.Rows
/-! ### an exception is made and raised -/
def unt (H : Hp) (a : Addr) : Hp := fun b => if b = a then none else H b
theorem unt_same {H : Hp} {a : Addr} : unt H a a = none := if_pos rfl
theorem unt_ne {H : Hp} {a b : Addr} (h : b ≠ a) : unt H a b = H b := if_neg h
structure XMk (K : PySem.W.Frag) (C f : Addr) : Prop where
  init : PySem.W.findIn K (.ref C) "__init__" = some (some (.ref f))
  fn : PySem.W.isFn K (.ref f) = true
  kp : PySem.W.keepIn K (.ref C) = true
  xa : XA K C
section
variable {X : Cx} {pins : List (Addr × Obj)} {σ : St} {H : Hp} {s : Shared}
theorem Inv.drop {a : Addr} {φ : Heap → Prop} (I : Inv X pins σ H s) (e : H a = some (.ext φ)) : Inv X pins σ (unt H a) s := by
  have nea : ∀ b u, H b = some u → (∀ φ, u ≠ .ext φ) → b ≠ a := fun b u h hu z => by rw [z, e] at h; exact hu φ (Option.some.inj h).symm
  have nn : ∀ b, H b = none → unt H a b = none := fun b h => by
    by_cases q : b = a
    · rw [q]; exact unt_same
    · rw [unt_ne q]; exact h
  refine ⟨I.ok, I.os, I.bare, ⟨I.base.keep, I.base.slot, fun b o q n hx => nn b (I.base.free b o q n hx), I.base.there, fun b xs q => ?_, fun b o u q => ?_, fun b ps q => ?_⟩, I.loc, I.cell, nn _ I.free, fun x c q => nn _ (I.freeC x c q), fun p hp => ?_, fun b u q => ?_, I.len⟩
  · have z := I.base.tups b xs q; rw [unt_ne (nea b _ z fun _ y => by cases y)]; exact z
  · have z := I.base.frzs b o u q; rw [unt_ne (nea b _ z fun _ y => by cases y)]; exact z
  · obtain ⟨m, z⟩ := I.base.tbls b ps q; exact ⟨m, by rw [unt_ne (nea b _ z fun _ y => by cases y)]; exact z⟩
  · obtain ⟨p1, p2, p3⟩ := I.pin p hp; exact ⟨p1, nn _ p2, p3⟩
  · by_cases z : b = a
    · rw [z, unt_same] at q; cases q
    · rw [unt_ne z] at q
      refine (I.hok b u q).stay (fun c v _ y => y) (fun c y => ?_) fun c xs y => ?_
      · rw [unt_ne (nea c _ y fun _ w => by cases w)]; exact y
      · rw [unt_ne (nea c _ y fun _ w => by cases w)]; exact y
end
def tRaise (C : Addr) (sp : Sp) (EX : St → XK) (t : TA) : TS := fun _ σ H => t σ H fun vs H1 => vs.length ≤ 1000 ∧ ∀ a v0, H1 a = none →
  sp (.ref a :: vs) (upd H1 a (XObj a C none v0)) (fun v H2 => v = .non ∧ ∃ d, H2 a = some (XObj a C d v0) ∧ EX σ (.ref C) d (unt H2 a)) E0
/-- a class that may be raised: its __init__ -/
def HasC (P : Program) (w : World) (K : PySem.W.Frag) (mg : Str → Option Value) (base : Heap) (k : Nat) (x : Str) (C : Addr) (ps : List Str) (sp : Sp) : Prop :=
  ∃ (f : Addr) (fd : FuncData), XMk K C f ∧ FnOk P w K mg base CX0 k f fd ps sp ∧ mg x = some (.ref C) ∧ Binds K fd ps []
/-! ### the promise of an __init__ that keeps its fields -/
def spXi (K : PySem.W.Frag) (fs : List Str) : Sp := fun vs H Q _ => ∃ (a C : Addr) (v0 : Array Value) (us : List V), vs = .ref a :: us ∧ us.length = fs.length ∧ H a = some (XObj a C none v0) ∧ XA K C ∧ (∀ f ∈ fs, NoAttr K C f) ∧
  ∀ dx, H dx = none → dx ≠ a → Q .non (upd (upd H dx (XDct dx (fs.zip us))) a (XObj a C (some dx) v0))
end L2

set_option Elab.async false
set_option linter.all false
set_option maxRecDepth 100000
namespace PySem
open Sem (wp)
open L2 (OverV)
end PySem
namespace L2
open PySem PySem.Spec PyProof.Rows
/-! ### try, except -/
abbrev Cx.tr (X : Cx) (pn : List (Addr × Obj)) (xe : Value → Shared → Prop) : Cx := { X with pn := pn, xe := xe }
abbrev Cx.hdl (X : Cx) (a : Addr) : Cx := { X with A := X.A.mark (some (.ref a)), calm := false, xe := fun _ _ => False }
section
variable {X : Cx} {pins q : List (Addr × Obj)} {σ : St} {H : Hp} {s : Shared} {xe : Value → Shared → Prop}
theorem Cx.Ok.tr (ok : X.Ok) (pn : List (Addr × Obj)) (xe : Value → Shared → Prop) : (X.tr pn xe).Ok :=
  ⟨ok.mod, ok.kind, ok.glob, ok.blt, ok.above, ok.inj, ok.has, ok.cab, ok.hd, ok.frames, ok.stk, ok.exf, ok.bs, ok.bsz, ok.noex, ok.exfs, ok.funs, ok.frf⟩
theorem Cx.Ok.hdl (ok : X.Ok) (a : Addr) : (X.hdl a).Ok :=
  ⟨ok.mod, ok.kind, ok.glob, ok.blt, ok.above, ok.inj, ok.has, ok.cab, fun z => (nomatch z), ok.frames, ok.stk, ok.exf, ok.bs, ok.bsz, ok.noex, ok.exfs, ok.funs, ok.frf⟩
theorem Inv.tr (I : Inv X pins σ H s) (xe : Value → Shared → Prop) : Inv (X.tr (X.pn ++ pins) xe) [] σ H s := ⟨I.ok.tr _ _, I.os, I.bare, I.base, I.loc, I.cell, I.free, I.freeC, fun p hp => I.pin p (by rw [List.append_nil] at hp; exact hp), I.hok, I.len⟩
theorem Inv.hdl (I : Inv X pins σ H s) (a : Addr) : Inv (X.hdl a) pins σ H s := ⟨I.ok.hdl a, I.os, I.bare, I.base, I.loc, I.cell, I.free, I.freeC, I.pin, I.hok, I.len⟩
end
def unE (i : Nat) (D : Ends) : Ends := { nx := fun σ H => D.nx (σ.set i none) H, rt := D.rt, bk := fun σ H => D.bk (σ.set i none) H, ct := fun σ H => D.ct (σ.set i none) H }
/-- try: body, except D as (slot i): suite; what comes out of the body is a D -/
def tTry (K : PySem.W.Frag) (D : Addr) (i : Nat) (tb : (St → XK) → TS) (ts : TS) : TS := fun Dn σ H => tb (fun σ' C d H' => ∃ (c : Addr) (bm : List Value), C = .ref c ∧ XC K c bm ∧ (Value.ref c :: bm).contains (.ref D) = true ∧
  ∀ a vs, H' a = none → ts (unE i Dn) (σ'.set i (some (.ref a))) (upd H' a (XObj a c d vs))) Dn σ H
end L2

set_option Elab.async false
set_option linter.all false
set_option maxRecDepth 100000
namespace PySem
open Sem (wp)
open Builtin Builtin.ObjectAttr
open L2 (OverV XC XA bmV)
section
variable {prog : Program} {w : World} {A : Around} {E : Value → Shared → Prop} {h : Heap} {g : Array GenState} {d : Drawn} {t : Nat} {os : OsState} {K : PySem.W.Frag}
variable {nm q : Str} {C N x : Addr} {bs bm : List Value} {sn : List Str} {sub : List Value} {ab : Bool} {col : Option Bool} {dd : Option Addr} {k0 k1 k2 k3 k5 : Option Value}
  {ox : Obj} {od : Option Obj}
end
end PySem

set_option Elab.async false
set_option linter.all false
set_option maxRecDepth 100000
namespace L2
open PySem PySem.Spec PyProof.Rows
/-! ### isinstance of an exception -/
theorem XC.cls {K : PySem.W.Frag} {C : Addr} {bm : List Value} (x : XC K C bm) : ∃ cd, PySem.W.clsIn K C = some cd ∧ cd.mro = .ref C :: bm ∧ PySem.W.typeIn K (.ref C) = some (.type "type") := by
  obtain ⟨nm, q, N, bs, sn, sub, ab, col, dd, k0, k1, k2, k3, k5, hl⟩ := x.at_
  refine ⟨{ name := nm, bases := bs, mro := .ref C :: bm, ns := N, qualname := q, hasDict := true, slotNames := sn, subclasses := sub, abstract := ab, collection := col, hasDel := false }, ?_, rfl, ?_⟩
  · unfold PySem.W.clsIn
    rw [hl]
  · unfold PySem.W.typeIn
    simp only [hl]
    rfl
theorem XC.mro {K : PySem.W.Frag} {C : Addr} {bm : List Value} (x : XC K C bm) (v : Value) : PySem.W.mroIn K C v = some ((Value.ref C :: bm).contains v) := by
  obtain ⟨cd, h1, h2, _⟩ := x.cls
  unfold PySem.W.mroIn
  rw [h1, Option.bind_some, h2, if_neg (by simp)]
section
variable {X : Cx} {pins : List (Addr × Obj)} {σ : St} {H : Hp} {s : Shared}
end
/-- isinstance(e, C), isinstance(e, ValueError) -/
def rIsX (K : PySem.W.Frag) : List V → Hp → VK → Prop := fun xs H Q => ∃ (a C dx : Addr) (vs : Array Value) (fs : List (Str × V)) (c : V) (b : Bool), xs = [.ref a, c] ∧ H a = some (XObj a C (some dx) vs) ∧ H dx = some (XDct dx fs) ∧ XA K C ∧
  (∀ u, RelV c u → PySem.W.kitOne K (.ref C) u = some b) ∧ Q (.bl b) H
/-- isinstance(e, (C, ..)) -/
def rIsXT (K : PySem.W.Frag) : List V → Hp → VK → Prop := fun xs H Q => ∃ (a C dx p : Addr) (vs : Array Value) (fs : List (Str × V)) (cs : List V) (b : Bool), xs = [.ref a, .ref p] ∧ H a = some (XObj a C (some dx) vs) ∧ H dx = some (XDct dx fs) ∧ XA K C ∧
  H p = some (.tup cs) ∧ (∀ us, Vals cs us → PySem.W.kitAny K (.ref C) us = some b) ∧ Q (.bl b) H
/-- repr of an int, in an except suite too -/
def rReprI : List V → Hp → VK → Prop := fun xs H Q => ∃ i, xs = [.int i] ∧ (PyData.int i).showable = true ∧ Q (.str (PyData.int i).shown) H
end L2

set_option Elab.async false
set_option linter.all false
set_option maxRecDepth 100000
namespace L2
open PySem PySem.Spec PyProof.Rows
/-! ### steps of readings -/
/-! ### the rules where the context is a block's or a suite's -/
/-! ### own classes: where their defs stand -/
def methOf (s : Stmt) (i : Nat) : Stmt := match s with
  | .ClassDef _ _ _ body _ _ _ _ _ _ _ => body.getD i (.Pass ⟨0, 0, 0, 0⟩)
  | _ => .Pass ⟨0, 0, 0, 0⟩
/-- an exception of a class, its fields in its dict, behind an except -/
theorem XObj.ne {a C : Addr} {d : Option Addr} {vs : Array Value} {H : Hp} {b : Addr} (e : H a = some (XObj a C d vs)) (h : H b = none) : a ≠ b := ne_of_none e h
/-- the nine classes -/
structure XUni (K : PySem.W.Frag) (mg : Str → Option Value) (D : Addr) (cs : List (Str × Addr)) : Prop where
  base : XC K D bmV
  mD : mg "DropError" = some (.ref D)
  cls : ∀ c ∈ cs, mg c.1 = some (.ref c.2) ∧ XC K c.2 (.ref D :: bmV) ∧ XA K c.2
  nd : (D :: cs.map (·.2)).Nodup
end L2

set_option Elab.async false
set_option linter.all false
set_option maxRecDepth 100000
namespace L2
open PySem PySem.Spec PyProof.Rows
/-! ### a def that a name holds is called -/
def tCallV (P : Program) (w : World) (K : PySem.W.Frag) (mg : Str → Option Value) (base : Heap) (j i : Nat) (EX : St → XK) (t : TA) : TE := fun σ H Q => ∃ (f : Addr) (fd : FuncData) (k : Nat) (ps : List Str) (sp : Sp), σ[i]? = some (some (.ref f)) ∧ k ≤ j ∧
  FnOk P w K mg base (CXE P w) k f fd ps sp ∧ PySem.W.keepIn K (.ref f) = true ∧ Binds K fd ps [] ∧ t σ H fun vs H1 => sp vs H1 Q (EX σ)
/-! ### enumerate of a tuple or of a list -/
def iEn2 (K : PySem.W.Frag) (ta : TA) : TI := fun σ H R => iEnu K ta σ H R ∨ iEnl K ta σ H R
/-- a tuple or a list -/
def SqA (H : Hp) (a : Addr) (xs : List V) : Prop := H a = some (.tup xs) ∨ H a = some (.lst xs)
theorem SqA.same {H H' : Hp} {a : Addr} {xs : List V} (k : Same H H') (h : SqA H a xs) : SqA H' a xs := h.elim (fun z => .inl (k _ _ z)) fun z => .inr (k _ _ z)
end L2

set_option Elab.async false
set_option linter.all false
set_option maxRecDepth 100000
namespace PySem
open Sem (wp)
open L2 (OverV bmV)
section
variable {prog : Program} {w : World} {A : Around} {E : Value → Shared → Prop} {h : Heap} {g : Array GenState} {d : Drawn} {t : Nat} {os : OsState}
variable {nm q : Str} {C N : Addr} {bs : List Value} {sn : List Str} {sub : List Value} {ab : Bool} {col : Option Bool} {dd : Option Addr} {k0 k1 k2 k3 k5 : Option Value}
/-- what is made stands behind all that was there -/
abbrev MadeB (h : Heap) (C : Addr) (Q : Value → Heap → Prop) : Prop := ∀ h' tt, (∀ b o, h.get? b = some o → h'.get? b = some o) → h'.get? (h.objs.size + 1) = some { cls := .ref C, data := .fields #[.ref tt, .none, .none, .none, .bool false, .none] } → Q (.ref (h.objs.size + 1)) h'
end
end PySem
namespace L2
open PySem PySem.Spec PyProof.Rows
/-! ### defs that are called in an except suite -/
structure FnOkH (P : Program) (w : World) (K : PySem.W.Frag) (mg : Str → Option Value) (base : Heap) (k : Nat) (f : Addr) (fd : FuncData) (ps : List Str) (sp : Sp) : Prop where
  len : ∀ vs H Q E, sp vs H Q E → vs.length = ps.length
  run : ∀ (A : Around) (a : Addr) (outer : List Env) (s : Shared) (H : Hp) (args : Args) (us : List Value) (vs : List V) (Q : VK), Room k A → Env0 P w K mg base A outer s H → BindsTo s fd args (ps.zip us) → Vals vs us → sp vs H Q E0 →
    codeAny (model P w) (A.mark (some (.ref a))) (.call (.ref f) args) (CR CX0 outer P w H s Q E0) s
def HasH (P : Program) (w : World) (K : PySem.W.Frag) (mg : Str → Option Value) (base : Heap) (k : Nat) (x : Str) (ps : List Str) (sp : Sp) : Prop :=
  ∃ (f : Addr) (fd : FuncData), FnOkH P w K mg base k f fd ps sp ∧ mg x = some (.ref f) ∧ PySem.W.keepIn K (.ref f) = true ∧ Binds K fd ps []
def tCallH (sp : Sp) (t : TA) : TE := fun σ H Q => t σ H fun vs H1 => sp vs H1 Q E0
section
variable {X : Cx} {k j : Nat} {f a : Addr} {fd : FuncData} {ps : List Str} {sp : Sp} {x : Str} {p pos : Pos} {e : Expr} {es : List Expr} {t : TA}
end
/-! ### isinstance of an exception, with fields or without -/
def XAt (H : Hp) (a C : Addr) (d : Option Addr) : Prop := (∃ vs, H a = some (XObj a C d vs)) ∧ (d = none ∨ ∃ dx fs, d = some dx ∧ H dx = some (XDct dx fs))
theorem XAt.same {H H' : Hp} {a C : Addr} {d : Option Addr} (k : Same H H') (h : XAt H a C d) : XAt H' a C d := ⟨let ⟨vs, e⟩ := h.1; ⟨vs, k _ _ e⟩, h.2.elim .inl fun ⟨dx, fs, e, z⟩ => .inr ⟨dx, fs, e, k _ _ z⟩⟩
def rIsY (K : PySem.W.Frag) : List V → Hp → VK → Prop := fun xs H Q => ∃ (a C : Addr) (d : Option Addr) (c : V) (b : Bool), xs = [.ref a, c] ∧ XAt H a C d ∧ XA K C ∧ (∀ u, RelV c u → PySem.W.kitOne K (.ref C) u = some b) ∧ Q (.bl b) H
/-! ### an own class without an own __init__ is raised -/
structure XBase (K : PySem.W.Frag) (C : Addr) : Prop where
  at_ : ∃ (nm q : Str) (N : Addr) (bs : List Value) (sn : List Str) (sub : List Value) (ab : Bool) (col : Option Bool) (dd : Option Addr) (k0 k1 k2 k3 k5 : Option Value),
    K.lookup C = some (excClassObj nm q C N bs bmV true sn sub ab col dd k0 k1 k2 k3 k5 "ValueError.__new__")
  fi : PySem.W.findIn K (.ref C) "__init__" = some (some (.builtin "ValueError.__init__"))
  kp : PySem.W.keepIn K (.ref C) = true
def tRaiseB (C : Addr) (EX : St → XK) (t : TA) : TS := fun _ σ H => t σ H fun vs H1 => vs.length ≤ 1000 ∧ EX σ (.ref C) none H1
end L2

set_option Elab.async false
set_option linter.all false
set_option maxRecDepth 100000
namespace L2
open PySem PySem.Spec PyProof.Rows
section
variable {X : Cx} {k : Nat}
/-- t != (), t == (), whatever stands in t -/
def rNeT : R2 := fun x y H Q => ∃ (a z : Addr) (xs : List V), x = .ref a ∧ y = .ref z ∧ H a = some (.tup xs) ∧ H z = some (.tup []) ∧ Q (.bl (!xs.isEmpty)) H
end
end L2

set_option Elab.async false
set_option linter.all false
set_option maxRecDepth 100000
/-! set(t), t a tuple of ints and texts; how many are in it -/
namespace L2
open PySem PySem.Spec PyProof.Rows
def hasK (ks : List Key) (k : Key) : Bool := ks.any fun a => decide (a = k)
def metK (val : Nat → Key) : Nat → List Key
  | 0 => []
  | i + 1 => if hasK (metK val i) (val i) = true then metK val i else metK val i ++ [val i]
section
variable {pr : Program} {wo : World} {Ar : Around} {R : Result → Shared → Prop} {I : Addr} {fp wr : List Addr} {G : Array GenState → Array GenState → Prop} {n : Nat} {P : Nat → Value → Prop} {St : Nat → Shared → Prop}
end
section
variable {pr : Program} {wo : World} {Ar : Around} {E : Value → Shared → Prop} {s : Shared}
abbrev eS (led : Bool) : Obj := { cls := .type "set", dict := none, data := .set #[] 0 (.fresh 0 0 led) }
end
/-- set(t), t of ints and texts: a new thing that has so many -/
def SetK (P : Program) (w : World) (a : Addr) (n : Nat) : HO := .ext fun h => ∃ S, h.SetOf (mixKind P w) a S n
def keyV : V → Bool
  | .int _ => true
  | .str _ => true
  | _ => false
def toK : V → Key
  | .int i => .inl i
  | .str x => .inr x
  | _ => .inl 0
def rSetT (X : Cx) : List V → Hp → VK → Prop := fun xs H Q => ∃ (p : Addr) (ys : List V), xs = [.ref p] ∧ H p = some (.tup ys) ∧ ys.all keyV = true ∧ ys.length ≤ 100 ∧ ∀ q, H q = none → Q (.ref q) (upd H q (SetK X.prog X.w q (metK (fun i => (ys.map toK).getD i (.inl 0)) ys.length).length))
def rLenK (X : Cx) : List V → Hp → VK → Prop := fun xs H Q => ∃ (p : Addr) (n : Nat), xs = [.ref p] ∧ H p = some (SetK X.prog X.w p n) ∧ n ≤ 100 ∧ Q (.int (n : Int)) H
end L2

set_option Elab.async false
set_option linter.all false
set_option maxRecDepth 100000
namespace L2
open PySem
/-- names of the language that the program leaves alone -/
structure Bl (mg : Str → Option Value) : Prop where
  len : mg "len" = none
  range : mg "range" = none
  tuple : mg "tuple" = none
  int : mg "int" = none
  bool : mg "bool" = none
  list : mg "list" = none
  str : mg "str" = none
  all : mg "all" = none
  any : mg "any" = none
  isi : mg "isinstance" = none
  repr : mg "repr" = none
  zip : mg "zip" = none
  min : mg "min" = none
  max : mg "max" = none
  sum : mg "sum" = none
  enu : mg "enumerate" = none
  sorted : mg "sorted" = none
  set : mg "set" = none
  dict : mg "dict" = none
  abs : mg "abs" = none
def Kn (mg : Str → Option Value) (x : Str) (i : Int) : Prop := ∃ t, mg x = some (Value.int i t)
def KnS (mg : Str → Option Value) (x : Str) (a : Str) : Prop := ∃ t, mg x = some (Value.str a t)
theorem pe_k {X : Cx} {x : Str} {i : Int} {pos : Pos} (h : Kn X.mg x i) (hg : Gl X x := by rfl) (hd : (x == ("__debug__" : Str)) = false := by decide) : PE X (.Name x pos) (tC (.int i)) := by
  obtain ⟨t, e⟩ := h
  exact pe_glob hg e ⟨t, rfl⟩ hd
theorem pe_ks {X : Cx} {x a : Str} {pos : Pos} (h : KnS X.mg x a) (hg : Gl X x := by rfl) (hd : (x == ("__debug__" : Str)) = false := by decide) : PE X (.Name x pos) (tC (.str a)) := by
  obtain ⟨t, e⟩ := h
  exact pe_glob hg e ⟨t, rfl⟩ hd
/-- range(a, b) that is gone through -/
theorem pi_r2 {X : Cx} {a b tg : Expr} {ta : TA} {p pos : Pos} (hm : X.mg "range" = none) (ha : PA X [a, b] ta) (hg : Gl X "range" := by rfl) (h : isStar a = false := by rfl) (h' : isStar b = false := by rfl) : PI X tg (.Call (.Name "range" p) [a, b] [] pos) (iRng2 ta) := pi_range2 hg hm ha (by rw [star1 h, star1 h']; rfl) (by rw [star1 h']; rfl)
theorem w_forR2 {ta : TA} {g : TG} {tb : TS} {D : Ends} {σ : St} {H : Hp} (h : ta σ H fun vs H1 => ∃ i j : Int, vs = [.int i, .int j] ∧ (-(2 ^ 62) ≤ i ∧ i < 2 ^ 62 ∧ -(2 ^ 62) ≤ j ∧ j < 2 ^ 62) ∧ ForJ (Itr i (j - i).toNat) g tb D σ H1) : tFor (iRng2 ta) g tb D σ H := h
theorem w_compR2 {ta : TA} {n : Nat} {ix : List Nat} {g : TG} {tc : TT} {te : TE} {σ : St} {H : Hp} {Q : VK} (h : ta σ H fun vs H1 => ∃ i j : Int, vs = [.int i, .int j] ∧ (-(2 ^ 62) ≤ i ∧ i < 2 ^ 62 ∧ -(2 ^ 62) ≤ j ∧ j < 2 ^ 62) ∧ ∀ D, H1 D = none → CGo (Itr i (j - i).toNat) D g tc te Q (List.replicate n none ++ sub ix σ) H1) : tComp (iRng2 ta) n ix g tc te σ H Q := h
theorem w_gt {K : PySem.W.Frag} {vs : List V} {σ : St} {H : Hp} {Q : VK} (h : ∀ a, SqT K H a vs → Q (.ref a) H) : tGT K vs σ H Q := h
theorem w_orV {ta tb : TE} {σ : St} {H : Hp} {Q : VK} (h : ta σ H fun x H1 => ∃ c, x = .bl c ∧ if c = true then Q (.bl true) H1 else tb σ H1 Q) : tOrV ta tb σ H Q := h
theorem w_andV {ta tb : TE} {σ : St} {H : Hp} {Q : VK} (h : ta σ H fun x H1 => ∃ c, x = .bl c ∧ if c = true then tb σ H1 Q else Q (.bl false) H1) : tAndV ta tb σ H Q := h
theorem at0 {v : V} {xs : List V} : atI (v :: xs) 0 = some v := atI_nat (show (v :: xs)[0]? = some v from rfl)
theorem iteP {c A B : Prop} [Decidable c] (hc : c) (h : A) : if decide c = true then A else B := by rw [decide_eq_true hc]; exact iteT h
theorem iteQ {c A B : Prop} [Decidable c] (hc : ¬ c) (h : B) : if decide c = true then A else B := by rw [decide_eq_false hc]; exact iteF h
end L2

set_option Elab.async false
set_option linter.all false
set_option maxRecDepth 100000
namespace L2
open PySem PySem.Spec PyProof.Rows Builtin Builtin.Str
section
variable {X : Cx}
/-- b.join(tuple of texts) -/
def rJoinT : V → List V → Hp → VK → Prop := fun x vs H Q => ∃ b p xs, x = .str b ∧ vs = [.ref p] ∧ (H p = some (.tup (xs.map V.str)) ∨ ∃ o, H p = some (.frz o (.tup (xs.map V.str)))) ∧ JoinOk b xs = true ∧ (Txt.join b xs).length ≤ sizeLine ∧ Q (.str (Txt.join b xs)) H
theorem mt_joinT : MtM X "str.join" rJoinT := by
  intro pins s σ H x vs v us Q I rx rv h
  obtain ⟨b, p, xs, rfl, rfl, hp, hj, hz, q⟩ := h
  obtain ⟨t, rfl⟩ := rx
  obtain ⟨w, rfl, rw⟩ := rv.one
  cases rw
  have hT : ∃ its : List Value, Vals (xs.map V.str) its ∧ ∃ o n, s.heap.get? p = some o ∧ o.cls = .type "tuple" ∧ o.data = .seq its.toArray n := by
    rcases hp with hp | ⟨o, hp⟩
    · obtain ⟨z, its, rv, o, e, c, n, d⟩ := I.hok p _ hp
      exact ⟨its, rv, o, n, e, c, d⟩
    · obtain ⟨_, z, its, rv, o, e, c, n, d⟩ := I.hok p _ hp
      exact ⟨its, rv, o, n, e, c, d⟩
  obtain ⟨its, r, ht⟩ := hT
  obtain ⟨l, rfl, rfl⟩ := texts_of r
  have hj' : tooLong ((l.map (·.1)).toArray.foldl (· + ·.length + b.length) 0) = false := by
    unfold JoinOk at hj
    simpa using hj
  refine call_meets F.slot_str_join (typeIs_str _ _ _) F.entry_str_join (F.args_str_join_2 _ _) (meets_str_join_tuple b t p l hj') ⟨ht, ?_⟩
  match l, hz, q with
  | [], hz, q => exact ⟨hz, ⟨.str _, H, I.tok _, ⟨_, rfl⟩, q⟩⟩
  | [c], hz, q => exact ⟨.str _, H, I, ⟨_, rfl⟩, q⟩
  | c :: d :: l, hz, q => exact ⟨hz, ⟨.str _, H, I.tok _, ⟨_, rfl⟩, q⟩⟩
/-- ws.index(b), ws a list of texts -/
def rIndexS : V → List V → Hp → VK → Prop := fun x vs H Q => ∃ (l : Addr) (ws : List Str) (b : Str) (k : Nat), x = .ref l ∧ vs = [.str b] ∧ H l = some (.lst (ws.map V.str)) ∧ ws[k]? = some b ∧ (∀ i y, i < k → ws[i]? = some y → y ≠ b) ∧ Q (.int (k : Int)) H
def isT (b : Str) : Value → Bool
  | .str a _ => decide (a = b)
  | _ => false
theorem mt_indexL : MtM X "list.index" rIndexS := by
  intro pins s σ H x vs v us Q I rx rv h
  obtain ⟨l, ws, b, k, rfl, rfl, hH, hk, hno, q⟩ := h
  cases rx
  obtain ⟨u, rfl, ru⟩ := rv.one
  obtain ⟨t, rfl⟩ := ru
  obtain ⟨z, its, n, r, hl, e⟩ := I.lstM hH
  have hl' : ws.length = its.length := by simpa using hl
  have hkl : k < ws.length := (List.getElem?_eq_some_iff.mp hk).1
  have zl : ws.length ≤ sizeLine := by simpa using z
  have at' : ∀ m (hm : m < its.length), ∃ tt, its[m] = .str (ws[m]'(by omega)) tt := fun m hm => by
    obtain ⟨w', ew, rw'⟩ := r.get (show (ws.map V.str)[m]? = some (V.str (ws[m]'(by omega))) by simp [show m < ws.length by omega])
    rw [List.getElem?_eq_getElem hm] at ew
    rw [Option.some.inj ew]
    exact rw'
  refine call_meets F.slot_list_index ⟨_, e, rfl⟩ F.entry_list_index (F.args_list_index_2 _ _)
    (SeqAt.list_indexAt l its.toArray n none #[] (.str b t) (isT b) k (by rw [List.size_toArray]; omega) ?_ ?_ (fun m hm hmk => ?_)) ⟨e, fun y hy => ?_, ?_⟩
  · have := sizeLine_eq
    omega
  · obtain ⟨tt, ee⟩ := at' k (by omega)
    rw [List.getElem_toArray, ee]
    show decide (ws[k] = b) = true
    rw [List.getElem?_eq_getElem hkl] at hk
    exact decide_eq_true (Option.some.inj hk)
  · rw [List.size_toArray] at hm
    obtain ⟨tt, ee⟩ := at' m hm
    rw [List.getElem_toArray, ee]
    exact decide_eq_false (hno m _ hmk (List.getElem?_eq_getElem (by omega)))
  · obtain ⟨m, hm, rfl⟩ := Array.mem_iff_getElem.mp hy
    rw [List.size_toArray] at hm
    obtain ⟨tt, ee⟩ := at' m hm
    rw [List.getElem_toArray, ee]
    have := eqAt_V (A := X.A.in1) (s := s) (y := .str (ws[m]'(by omega))) (x := .str b) ⟨tt, rfl⟩ ⟨t, rfl⟩ rfl rfl
    exact this
  · exact ⟨.int k, H, I.tok _, ⟨_, rfl⟩, q⟩
end
/-! ### range(a, b, 2) -/
def Itrs (lo c : Int) (n : Nat) : It := ⟨fun i _ => i < n, fun i H x H' => H' = H ∧ x = .int (lo + i * c), fun i _ => n ≤ i⟩
theorem turn_rangeS {P : Program} {w : World} {K : PySem.W.Frag} {tg : Expr} (it : Addr) (lo c : Int) (n : Nat) : Turn P w K tg (Itrs lo c n) [it] it (fun i h => IsRangeIter h it (lo + (i : Nat) * c) ((n : Int) - (i : Nat)) c) where
  mem := by simp
  obj := fun i h st b hb => by
    have e : b = it := by simpa using hb
    subst e
    exact ⟨_, st, fun v z => by
      have z' : Data.fields _ = Data.cell v := z
      cases z'⟩
  keep := fun i h h' st k => k it (by simp) _ st
  item := by
    intro X hP hw hK hc i pins s σ H E I hf st hg
    subst hP hw hK
    obtain ⟨f0, f1, f2, f3, f4, f5⟩ := hf it (by simp)
    have W := Walks.range (prog := X.prog) (w := X.w) (I.ok.hd hc) it lo c n
    refine W.item i s _ _ hg st fun v h' tk hv st' kk => ?_
    obtain ⟨t, rfl⟩ := hv
    have I1 : Inv X pins σ H { s with heap := h', toks := tk } := I.turned (fun b o hb e => kk b o (by simpa using hb) e) f0 f1 f3 f4 f5
    exact ⟨_, rfl, go_of (s := { s with heap := h', toks := tk }) (n := "range_iterator") st' rfl rfl (by decide) ⟨.int (lo + i * c), H, I1, ⟨t, rfl⟩, ⟨rfl, rfl⟩, st', fun b hb => (hf b hb).1⟩⟩
  done := by
    intro X hP hw hK hc i pins s σ H E I hf st hg
    subst hP hw hK
    obtain ⟨f0, f1, f2, f3, f4, f5⟩ := hf it (by simp)
    exact wpAny_pyNext_range_end (I.ok.hd hc) st (by have : n ≤ i := hg; omega) fun h' eb => ⟨rfl, I.turned (t' := s.toks) (fun b o hb e => eb b o hb e) f0 f1 f3 f4 f5⟩
  self := fun _ _ _ _ _ st h => wpAny_pyIter_rangeiter st h
theorem size_two (a b : Int) : Builtin.Range.rangeSize a b 2 = if a < b then (b - a + 1) / 2 else 0 := by
  unfold Builtin.Range.rangeSize
  simp only [show (2 : Int) > 0 by decide, if_true]
  split <;> omega
theorem small_two {a b : Int} (ha : 0 ≤ a) (ha' : a < 2 ^ 40) (hb : 0 ≤ b) (hb' : b < 2 ^ 40) : Builtin.Range.small a b 2 = true := by
  unfold Builtin.Range.small
  rw [size_two]
  simp only [Builtin.Range.rangeFitsLong, Bool.and_eq_true, Bool.or_eq_true, decide_eq_true_eq, beq_iff_eq, show (2 : Int) > 0 by decide, if_true]
  split <;> omega
def iRng3 (ta : TA) : TI := fun σ H R => ta σ H fun vs H1 => ∃ i j : Int, vs = [.int i, .int j, .int 2] ∧ (0 ≤ i ∧ i < 2 ^ 40 ∧ 0 ≤ j ∧ j < 2 ^ 40) ∧ R (Itrs i 2 ((j - i + 1) / 2).toNat) H1
section
variable {X : Cx} {tg : Expr}
theorem range_it2 {pins : List (Addr × Obj)} {σ : St} {H : Hp} {s : Shared} {R : It → Hp → Prop} {E : Value → Shared → Prop} {lo hi : Int} {t u v : Tok} {tk : Nat} (I : Inv X pins σ H s) (h1 : 0 ≤ lo) (h2 : lo < 2 ^ 40) (h3 : 0 ≤ hi) (h4 : hi < 2 ^ 40)
    (q : R (Itrs lo 2 ((hi - lo + 1) / 2).toNat) H) : wpAny (model X.prog X.w) X.A (pyIter (.ref s.heap.objs.size)) (PIE X pins σ tg R) E { s with heap := s.heap.push { cls := .type "range", data := .fields #[.int lo t, .int hi u, .int 2 v] }, toks := tk } := by
  refine wpAny_pyIter_range (IsRange.new ..) (small_two h1 h2 h3 h4) ?_
  have I1 : Inv X pins σ H { s with heap := s.heap.push { cls := .type "range", data := .fields #[.int lo t, .int hi u, .int 2 v] }, toks := tk } := I.kept fun b o e => Heap.get?_push_of_some _ e
  refine ⟨(s.heap.push { cls := .type "range", data := .fields #[.int lo t, .int hi u, .int 2 v] }).objs.size, [(s.heap.push { cls := .type "range", data := .fields #[.int lo t, .int hi u, .int 2 v] }).objs.size], _, _, H, rfl,
    I1.kept (t' := tk) fun b o e => Heap.get?_push_of_some _ e, turn_rangeS _ lo 2 ((hi - lo + 1) / 2).toNat, ?_, fun b hb => ?_, q⟩
  · have e1 : lo + ((0 : Nat) : Int) * 2 = lo := by simp
    have e2 : (((((hi - lo + 1) / 2).toNat : Nat) : Int)) - ((0 : Nat) : Int) = Builtin.Range.rangeSize lo hi 2 := by rw [size_two]; split <;> omega
    show IsRangeIter _ _ (lo + ((0 : Nat) : Int) * 2) (((((hi - lo + 1) / 2).toNat : Nat) : Int) - ((0 : Nat) : Int)) 2
    rw [e1, e2]
    exact Heap.get?_push_size _ rfl
  · have e : b = (s.heap.push { cls := .type "range", data := .fields #[.int lo t, .int hi u, .int 2 v] }).objs.size := by simpa using hb
    subst e
    exact I1.fpOk (Nat.le_refl _) (I1.hok.fresh (Nat.le_refl _))
theorem pi_r3 {a b c : Expr} {ta : TA} {p pos : Pos} (hm : X.mg "range" = none) (ha : PA X [a, b, c] ta) (hg : Gl X "range" := by rfl) (h : isStar a = false := by rfl) (h' : isStar b = false := by rfl) (h'' : isStar c = false := by rfl) :
    PI X tg (.Call (.Name "range" p) [a, b, c] [] pos) (iRng3 ta) := by
  intro pins s σ H R I h0
  refine Call_ (ld_blt I hg hm boot_range (PyProof.Rows.callWith_type1 (thn (ha pos pins s σ H _ I h0) fun us s1 ⟨vs, H1, I1, r1, q1⟩ => ?_) (by rw [star1 h]) (star_any (by simp [h', h'']))))
  obtain ⟨i, j, e, ⟨q1, q2, q3, q4⟩, q⟩ := q1
  subst e
  cases r1 with
  | cons r rr =>
    cases rr with
    | cons r' rr =>
      cases rr with
      | cons r'' rr =>
        cases rr
        obtain ⟨t, rfl⟩ := r
        obtain ⟨t', rfl⟩ := r'
        obtain ⟨t'', rfl⟩ := r''
        exact call_range_3 (by decide) (range_it2 I1 q1 q2 q3 q4 q) (Or.inl (PyProof.noPylong_small (by omega)))
theorem w_forR3 {ta : TA} {g : TG} {tb : TS} {D : Ends} {σ : St} {H : Hp} (h : ta σ H fun vs H1 => ∃ i j : Int, vs = [.int i, .int j, .int 2] ∧ (0 ≤ i ∧ i < 2 ^ 40 ∧ 0 ≤ j ∧ j < 2 ^ 40) ∧ ForJ (Itrs i 2 ((j - i + 1) / 2).toNat) g tb D σ H1) : tFor (iRng3 ta) g tb D σ H := h
end
theorem for_rangeS {lo c : Int} {n : Nat} {g : TG} {tb : TS} {D : Ends} {σ : St} {H : Hp} (Pv : Nat → St → Hp → Prop) (h0 : Pv 0 σ H)
    (hs : ∀ i σ H, i < n → Pv i σ H → g (.int (lo + i * c)) σ H fun σ2 H2 => tb { D with nx := Pv (i + 1), ct := Pv (i + 1), bk := D.nx } σ2 H2) (hd : ∀ σ H, Pv n σ H → D.nx σ H) : ForJ (Itrs lo c n) g tb D σ H := by
  refine ⟨fun i m σ H => m = n - i ∧ i ≤ n ∧ Pv i σ H, ⟨n, by simp, Nat.zero_le _, h0⟩, ?_⟩
  rintro i m σ H ⟨rfl, hi, p⟩
  by_cases hlt : i < n
  · refine .inr ⟨hlt, Pv (i + 1), fun σ' H' p' => ⟨n - (i + 1), by omega, rfl, hlt, p'⟩, fun x H' y => ?_⟩
    obtain ⟨e, y⟩ := y
    subst e y
    exact hs i σ _ hlt p
  · have e : i = n := by omega
    subst e
    exact .inl ⟨Nat.le_refl _, hd σ H p⟩
theorem eqV_str {a b : Str} : eqV (.str a) (.str b) = decide (a = b) := by
  show _ = _
  unfold eqV
  rfl
theorem inV_strs (x : Str) : ∀ (ws : List Str), inV (.str x) (ws.map V.str) = decide (x ∈ ws)
  | [] => rfl
  | w :: ws => by
    show (eqV (.str w) (.str x) || inV (.str x) (ws.map V.str)) = _
    rw [inV_strs x ws, eqV_str]
    by_cases h : w = x
    · subst h; simp
    · have h' : ¬ x = w := fun e => h e.symm
      simp [h, h']
theorem flat_strs (ws : List Str) : (ws.map V.str).all flatV = true := by
  rw [List.all_map]
  exact List.all_eq_true.mpr fun _ _ => rfl
theorem shw_str {x : Str} {n : Nat} (hl : x.length ≤ n) (hc : ∀ c ∈ x.cps.toList, c < 16 ^ 8) : G2.Shw (.str x) (10 * n + 2) 0 := ⟨rfl, rfl, Nat.zero_le _, Nat.le_trans (PySem.StrLaws.reprText_len x hc) (by omega)⟩
end L2

set_option Elab.async false
set_option linter.all false
set_option maxRecDepth 100000
/-! texts of pots: numbers, names, lines of words, sides of rules -/
namespace PT
open PySem L2 G2
def fT (i : Int) : Str := Str.ofString (toString i)
def inF (y : Str) : Bool := !(Builtin.Str.occurrences "0123456789" y 0 (Str.length "0123456789") 1).isEmpty
def figB (x : Str) : Bool := decide (x.length ≤ 10) && (sg x).all inF && (match x.cps.toList with | [] => false | c :: _ => decide (x = "0") || !decide ((⟨#[c]⟩ : Str) = "0"))
def inL (y : Str) : Bool := !(Builtin.Str.occurrences "abcdefghijklmnopqrstuvwxyz" y 0 (Str.length "abcdefghijklmnopqrstuvwxyz") 1).isEmpty
def noNames : List Str := ["sorts", "begin", "in", "out", "rule", "to"]
def nameB (x : Str) : Bool := decide (1 ≤ x.length) && decide (x.length ≤ 8) && !decide (x ∈ noNames) && (sg x).all inL && x.cps.toList.all fun c => decide (97 ≤ c) && decide (c ≤ 122)
def cntB (i : Int) : Bool := figB (fT i) && decide ((fT i).length ≤ 2) && decide (PySem.intText? (fT i) = some i) && (fT i).cps.toList.all (fun c => decide (48 ≤ c) && decide (c ≤ 57)) && decide (i.natAbs.log2 < 1920)
theorem cnts : ∀ n : Nat, n < 100 → cntB (n : Int) = true := by decide +kernel
structure Cnt (i : Int) : Prop where
  fig : figB (fT i) = true
  l2 : (fT i).length ≤ 2
  rd : PySem.intText? (fT i) = some i
  ch : ∀ c ∈ (fT i).cps.toList, 48 ≤ c ∧ c ≤ 57
  lg : i.natAbs.log2 < 1920
theorem cnt_ok {i : Int} (h0 : 0 ≤ i) (h1 : i ≤ 99) : Cnt i := by
  have h := cnts i.toNat (by omega)
  rw [show ((i.toNat : Nat) : Int) = i by omega] at h
  unfold cntB at h
  simp only [Bool.and_eq_true, decide_eq_true_eq, List.all_eq_true] at h
  obtain ⟨⟨⟨⟨a, b⟩, c⟩, d⟩, e⟩ := h
  exact ⟨a, b, c, d, e⟩
/-- a word of a line -/
structure Wd (w : Str) : Prop where
  l : w.length ≤ 8
  ch : ∀ c ∈ w.cps.toList, 33 ≤ c ∧ c ≤ 127
theorem Wd.cnt {i : Int} (h : Cnt i) : Wd (fT i) := ⟨Nat.le_trans h.l2 (by decide), fun c hc => by have := h.ch c hc; omega⟩
structure Nme (x : Str) : Prop where
  b : nameB x = true
  l1 : 1 ≤ x.length
  l8 : x.length ≤ 8
  no : x ∉ noNames
  al : (sg x).all inL = true
  ch : ∀ c ∈ x.cps.toList, 97 ≤ c ∧ c ≤ 122
theorem nme_ok {x : Str} (h : nameB x = true) : Nme x := by
  have h' := h
  unfold nameB at h'
  simp only [Bool.and_eq_true, decide_eq_true_eq, List.all_eq_true, Bool.not_eq_true', decide_eq_false_iff_not] at h'
  obtain ⟨⟨⟨⟨a, b⟩, c⟩, d⟩, e⟩ := h'
  exact ⟨h, a, b, c, List.all_eq_true.mpr d, e⟩
theorem Wd.name {x : Str} (h : nameB x = true) : Wd x := ⟨(nme_ok h).l8, fun c hc => by have := (nme_ok h).ch c hc; omega⟩
def wdB (w : Str) : Bool := decide (w.length ≤ 8) && w.cps.toList.all fun c => decide (33 ≤ c) && decide (c ≤ 127)
theorem Wd.of {w : Str} (h : wdB w = true) : Wd w := by
  unfold wdB at h
  simp only [Bool.and_eq_true, decide_eq_true_eq, List.all_eq_true] at h
  exact ⟨h.1, h.2⟩
theorem Wd.nb {w : Str} (h : Wd w) : 32 ∉ w.cps.toList := fun z => by have := h.ch 32 z; omega
/-- a line of words -/
def ln (ws : List Str) : Str := Txt.join ⟨#[32]⟩ ws
theorem blank_is : (" " : Str) = ⟨#[32]⟩ := by decide +kernel
theorem jn_len {c B : Nat} : ∀ (ls : List (List Nat)), (∀ l ∈ ls, l.length ≤ B) → (jn c ls).length ≤ ls.length * (B + 1)
  | [], _ => Nat.zero_le _
  | [w], h => by
    have := h w (by simp)
    show w.length ≤ 1 * (B + 1)
    omega
  | w :: v :: r, h => by
    have h1 := h w (by simp)
    have ih := jn_len (c := c) (v :: r) fun l hl => h l (List.mem_cons_of_mem _ hl)
    show (w ++ c :: jn c (v :: r)).length ≤ _
    rw [List.length_append, List.length_cons, List.length_cons, Nat.succ_mul]
    omega
theorem jn_mem {c x : Nat} : ∀ (ls : List (List Nat)), x ∈ jn c ls → x = c ∨ ∃ l ∈ ls, x ∈ l
  | [], h => nomatch h
  | [w], h => .inr ⟨w, by simp, h⟩
  | w :: v :: r, h => by
    have h : x ∈ w ++ c :: jn c (v :: r) := h
    rcases List.mem_append.mp h with h | h
    · exact .inr ⟨w, by simp, h⟩
    · rcases List.mem_cons.mp h with h | h
      · exact .inl h
      · rcases jn_mem (v :: r) h with h | ⟨l, hl, h⟩
        · exact .inl h
        · exact .inr ⟨l, List.mem_cons_of_mem _ hl, h⟩
theorem ln_str (ws : List Str) : ln ws = Str.join ⟨#[32]⟩ ws := StrLaws.glued_eq_join _ _
theorem ln_cps (ws : List Str) : (ln ws).cps.toList = jn 32 (ws.map fun w => w.cps.toList) := by rw [ln_str, join_list]
theorem ln_len {ws : List Str} (h : ∀ w ∈ ws, Wd w) (hl : ws.length ≤ 40) : (ln ws).length ≤ 360 := by
  show (ln ws).cps.size ≤ _
  rw [← Array.length_toList, ln_cps]
  refine Nat.le_trans (jn_len (B := 8) _ fun l hl => ?_) ?_
  · obtain ⟨p, hp, rfl⟩ := List.mem_map.mp hl
    rw [Array.length_toList]
    exact (h p hp).l
  · rw [List.length_map]
    omega
theorem ln_fit {ws : List Str} (h : ∀ w ∈ ws, Wd w) (hl : ws.length ≤ 40) : JoinOk " " ws = true ∧ (Txt.join " " ws).length ≤ sizeLine := by
  rw [blank_is]
  refine ⟨?_, Nat.le_trans (ln_len h hl) (by decide)⟩
  unfold JoinOk
  have z := StrLaws.joinFits (sep := ⟨#[32]⟩) (fun w hw => (h w hw).l) (by show ws.length * 8 + ws.length * 1 ≤ 16777216; omega)
  rw [z]
  rfl
theorem ln_eq (ws : List Str) : Txt.join " " ws = ln ws := by rw [blank_is]; rfl
theorem ln_split {ws : List Str} (hne : ws ≠ []) (h : ∀ w ∈ ws, Wd w) : Txt.split (ln ws) " " = ws := by
  rw [blank_is]
  exact split_join 32 hne fun w hw => (h w hw).nb
theorem ln_chars {ws : List Str} (h : ∀ w ∈ ws, Wd w) : ∀ c ∈ (ln ws).cps.toList, c < 16 ^ 8 := fun c hc => by
  rw [ln_cps] at hc
  rcases jn_mem _ hc with rfl | ⟨l, hl, hc⟩
  · decide
  · obtain ⟨w, hw, rfl⟩ := List.mem_map.mp hl
    have := (h w hw).ch c hc
    exact Nat.lt_of_le_of_lt this.2 (by decide)
theorem ln_ascii {ws : List Str} (h : ∀ w ∈ ws, Wd w) : ∀ c ∈ (ln ws).cps.toList, c < 128 := fun c hc => by
  rw [ln_cps] at hc
  rcases jn_mem _ hc with rfl | ⟨l, hl, hc⟩
  · decide
  · obtain ⟨w, hw, rfl⟩ := List.mem_map.mp hl
    have := (h w hw).ch c hc
    omega
theorem str_ext {x y : Str} (h : x.cps.toList = y.cps.toList) : x = y := Str.ext' (Array.toList_inj.mp h)
theorem app_cps (x y : Str) : (x ++ y).cps.toList = x.cps.toList ++ y.cps.toList := by
  show (x.cps ++ y.cps).toList = _
  simp
theorem ln_cons {a : Str} {ws : List Str} (hne : ws ≠ []) : (a ++ " ") ++ ln ws = ln (a :: ws) := by
  apply str_ext
  rw [app_cps, app_cps, ln_cps, ln_cps]
  match ws, hne with
  | w :: r, _ =>
    show a.cps.toList ++ _ ++ _ = a.cps.toList ++ 32 :: jn 32 ((w :: r).map fun w => w.cps.toList)
    rw [List.append_assoc]
    rfl
/-! ### sides of rules -/
def prs : Nat → List Int → List (Nat × Int)
  | _, [] => []
  | k, c :: cs => if 0 < c then (k, c) :: prs (k + 1) cs else prs (k + 1) cs
theorem prs_app : ∀ (k : Nat) (a b : List Int), prs k (a ++ b) = prs k a ++ prs (k + a.length) b
  | k, [], b => rfl
  | k, c :: a, b => by
    have ih := prs_app (k + 1) a b
    rw [List.length_cons, show k + (a.length + 1) = (k + 1) + a.length by omega]
    show (if 0 < c then (k, c) :: prs (k + 1) (a ++ b) else prs (k + 1) (a ++ b)) = (if 0 < c then (k, c) :: prs (k + 1) a else prs (k + 1) a) ++ _
    split
    · rw [ih]; rfl
    · exact ih
theorem prs_mem : ∀ {k : Nat} {cs : List Int} {p : Nat × Int}, p ∈ prs k cs → k ≤ p.1 ∧ p.1 < k + cs.length ∧ 0 < p.2 ∧ p.2 ∈ cs
  | k, c :: cs, p, h => by
    have h : p ∈ if 0 < c then (k, c) :: prs (k + 1) cs else prs (k + 1) cs := h
    have rec_ : p ∈ prs (k + 1) cs → k ≤ p.1 ∧ p.1 < k + (c :: cs).length ∧ 0 < p.2 ∧ p.2 ∈ c :: cs := fun h => by
      obtain ⟨a, b, d, e⟩ := prs_mem h
      exact ⟨by omega, by rw [List.length_cons]; omega, d, List.mem_cons_of_mem _ e⟩
    split at h
    · rename_i hc
      rcases List.mem_cons.mp h with rfl | h
      · exact ⟨Nat.le_refl _, by rw [List.length_cons]; omega, hc, List.mem_cons_self⟩
      · exact rec_ h
    · exact rec_ h
theorem prs_rise : ∀ (k : Nat) (cs : List Int), (prs k cs).Pairwise fun a b => a.1 < b.1
  | _, [] => .nil
  | k, c :: cs => by
    show (if 0 < c then (k, c) :: prs (k + 1) cs else prs (k + 1) cs).Pairwise _
    split
    · exact .cons (fun p hp => by have := prs_mem hp; show k < p.1; omega) (prs_rise (k + 1) cs)
    · exact prs_rise (k + 1) cs
theorem prs_len : ∀ (k : Nat) (cs : List Int), (prs k cs).length ≤ cs.length
  | _, [] => Nat.le_refl _
  | k, c :: cs => by
    have := prs_len (k + 1) cs
    show (if 0 < c then (k, c) :: prs (k + 1) cs else prs (k + 1) cs).length ≤ _
    split <;> (simp only [List.length_cons]; omega)
def fill (cs : List Int) (ps : List (Nat × Int)) : List Int := ps.foldl (fun a p => a.set p.1 p.2) cs
theorem fill_len : ∀ (ps : List (Nat × Int)) (cs : List Int), (fill cs ps).length = cs.length
  | [], _ => rfl
  | p :: ps, cs => by
    show (fill (cs.set p.1 p.2) ps).length = _
    rw [fill_len ps, List.length_set]
theorem fill_prs : ∀ (cs pre : List Int), (∀ c ∈ cs, 0 ≤ c) → fill (pre ++ List.replicate cs.length 0) (prs pre.length cs) = pre ++ cs
  | [], pre, _ => by simp [prs, fill]
  | c :: cs, pre, h => by
    have h0 := h c List.mem_cons_self
    have ih := fill_prs cs (pre ++ [c]) fun x hx => h x (List.mem_cons_of_mem _ hx)
    rw [List.length_append, List.append_assoc, List.append_assoc] at ih
    show fill (pre ++ List.replicate (cs.length + 1) 0) (if 0 < c then (pre.length, c) :: prs (pre.length + 1) cs else prs (pre.length + 1) cs) = _
    rw [List.replicate_succ]
    split
    · show fill ((pre ++ 0 :: List.replicate cs.length 0).set pre.length c) _ = _
      rw [show (pre ++ (0 : Int) :: List.replicate cs.length 0).set pre.length c = pre ++ c :: List.replicate cs.length 0 by rw [List.set_append_right _ _ (Nat.le_refl _), Nat.sub_self]; rfl]
      exact ih
    · have e : c = 0 := by omega
      subst e
      exact ih
theorem fill_all {cs : List Int} (h : ∀ c ∈ cs, 0 ≤ c) : fill (List.replicate cs.length 0) (prs 0 cs) = cs := fill_prs cs [] h
theorem fill_take {cs : List Int} {ps : List (Nat × Int)} {j : Nat} {p : Nat × Int} (h : ps[j]? = some p) : fill cs (ps.take (j + 1)) = (fill cs (ps.take j)).set p.1 p.2 := by
  unfold fill
  rw [List.take_add_one, h, List.foldl_append]
  rfl
/-- the words of a side -/
def sdW (nm : List Str) (ps : List (Nat × Int)) : List Str := ps.flatMap fun p => [fT p.2, nm.getD p.1 ""]
theorem sdW_app {nm : List Str} {a b : List (Nat × Int)} : sdW nm (a ++ b) = sdW nm a ++ sdW nm b := List.flatMap_append
theorem sdW_len {nm : List Str} : ∀ (ps : List (Nat × Int)), (sdW nm ps).length = 2 * ps.length
  | [] => rfl
  | p :: ps => by
    show ([fT p.2, nm.getD p.1 ""] ++ sdW nm ps).length = _
    rw [List.length_append, sdW_len ps, List.length_cons]
    simp only [List.length_cons, List.length_nil]
    omega
theorem sdW_at {nm : List Str} : ∀ {ps : List (Nat × Int)} {j : Nat} {p : Nat × Int}, ps[j]? = some p → (sdW nm ps)[2 * j]? = some (fT p.2) ∧ (sdW nm ps)[2 * j + 1]? = some (nm.getD p.1 "")
  | q :: ps, 0, p, h => by cases h; exact ⟨rfl, rfl⟩
  | q :: ps, j + 1, p, h => by
    have ih := sdW_at (nm := nm) (ps := ps) (j := j) h
    rw [show 2 * (j + 1) = 2 * j + 1 + 1 by omega]
    exact ih
def sideW (nm : List Str) (cs : List Int) : List Str := sdW nm (prs 0 cs)
/-- a side: so many counts from 0 to 9 -/
structure Sd (m : Nat) (cs : List Int) : Prop where
  l : cs.length = m
  b : ∀ c ∈ cs, 0 ≤ c ∧ c ≤ 9
theorem sideW_len {nm : List Str} {m : Nat} {cs : List Int} (h : Sd m cs) : (sideW nm cs).length ≤ 2 * m := by
  unfold sideW
  rw [sdW_len]
  have := prs_len 0 cs
  have := h.l
  omega
theorem mem_sdW {nm : List Str} {ps : List (Nat × Int)} {w : Str} (h : w ∈ sdW nm ps) : ∃ p ∈ ps, w = fT p.2 ∨ w = nm.getD p.1 "" := by
  obtain ⟨p, hp, hw⟩ := List.mem_flatMap.mp h
  refine ⟨p, hp, ?_⟩
  simpa using hw
theorem getD_mem {nm : List Str} {k : Nat} (h : k < nm.length) : nm.getD k "" ∈ nm := by
  rw [List.getD_eq_getElem?_getD, List.getElem?_eq_getElem h]
  exact List.getElem_mem h
theorem sideW_wd {nm : List Str} {m : Nat} {cs : List Int} (h : Sd m cs) (hl : nm.length = m) (hn : ∀ x ∈ nm, nameB x = true) : ∀ w ∈ sideW nm cs, Wd w ∧ w ≠ "to" := fun w hw => by
  obtain ⟨p, hp, e⟩ := mem_sdW hw
  obtain ⟨_, h2, h3, h4⟩ := prs_mem hp
  rcases e with rfl | rfl
  · have := h.b _ h4
    have c := cnt_ok (i := p.2) (by omega) (by omega)
    refine ⟨Wd.cnt c, fun z => ?_⟩
    have := c.ch 116 (by rw [z]; decide +kernel)
    omega
  · have hm := hn _ (getD_mem (nm := nm) (k := p.1) (by have := h.l; omega))
    exact ⟨Wd.name hm, fun z => (nme_ok hm).no (by rw [z]; decide +kernel)⟩
/-! ### pots -/
structure PD where
  nm : List Str
  rl : List (List Int × List Int)
  ins : List Int
  beg : List Int
  ans : Int
structure PD.ok (d : PD) (m : Nat) : Prop where
  nl : d.nm.length = m
  nd : d.nm.Nodup
  nb : ∀ x ∈ d.nm, nameB x = true
  m0 : 0 < m
  m8 : m ≤ 8
  r8 : d.rl.length ≤ 8
  rs : ∀ r ∈ d.rl, Sd m r.1 ∧ Sd m r.2 ∧ (∃ x ∈ r.1, 0 < x) ∧ r.1 ≠ r.2
  hi : ∀ i ∈ d.ins, 0 ≤ i ∧ i < m
  i3 : d.ins.length ≤ 3
  inn : d.ins.Nodup
  bl : d.beg.length = m
  hb : ∀ b ∈ d.beg, 0 ≤ b ∧ b ≤ 99
  ha : 0 ≤ d.ans ∧ d.ans < m
def nmI (nm : List Str) (i : Int) : Str := nm.getD i.toNat ""
def ruW (nm : List Str) (r : List Int × List Int) : List Str := ("rule" : Str) :: (sideW nm r.1 ++ ("to" : Str) :: sideW nm r.2)
/-- the words of a pot's lines -/
def ptW (d : PD) : List (List Str) := [("sorts" : Str) :: d.nm, ("begin" : Str) :: d.beg.map fT, ("in" : Str) :: d.ins.map (nmI d.nm), [("out" : Str), nmI d.nm d.ans]] ++ d.rl.map (ruW d.nm)
def ptL (d : PD) : List Str := (ptW d).map ln
theorem nmI_mem {d : PD} {m : Nat} (h : d.ok m) {i : Int} (h0 : 0 ≤ i) (h1 : i < m) : nmI d.nm i ∈ d.nm := getD_mem (by have := h.nl; omega)
theorem ruW_ok {d : PD} {m : Nat} (h : d.ok m) {r : List Int × List Int} (hr : r ∈ d.rl) : (∀ w ∈ ruW d.nm r, Wd w) ∧ (ruW d.nm r).length ≤ 40 := by
  obtain ⟨h1, h2, _⟩ := h.rs r hr
  have l1 := sideW_len (nm := d.nm) h1
  have l2 := sideW_len (nm := d.nm) h2
  have := h.m8
  refine ⟨fun w hw => ?_, by show (sideW d.nm r.1 ++ ("to" : Str) :: sideW d.nm r.2).length + 1 ≤ 40; rw [List.length_append, List.length_cons]; omega⟩
  rcases List.mem_cons.mp hw with rfl | hw
  · exact Wd.of (by decide +kernel)
  · rcases List.mem_append.mp hw with hw | hw
    · exact (sideW_wd h1 h.nl h.nb w hw).1
    · rcases List.mem_cons.mp hw with rfl | hw
      · exact Wd.of (by decide +kernel)
      · exact (sideW_wd h2 h.nl h.nb w hw).1
theorem ptW_ok {d : PD} {m : Nat} (h : d.ok m) : ∀ ws ∈ ptW d, (∀ w ∈ ws, Wd w) ∧ ws.length ≤ 40 ∧ ws ≠ [] := fun ws hw => by
  have m8 := h.m8
  rcases List.mem_append.mp hw with hw | hw
  · simp only [List.mem_cons, List.not_mem_nil, or_false] at hw
    rcases hw with rfl | rfl | rfl | rfl
    · refine ⟨fun w hw => ?_, by rw [List.length_cons, h.nl]; omega, List.cons_ne_nil _ _⟩
      rcases List.mem_cons.mp hw with rfl | hw
      · exact Wd.of (by decide +kernel)
      · exact Wd.name (h.nb w hw)
    · refine ⟨fun w hw => ?_, by rw [List.length_cons, List.length_map, h.bl]; omega, List.cons_ne_nil _ _⟩
      rcases List.mem_cons.mp hw with rfl | hw
      · exact Wd.of (by decide +kernel)
      · obtain ⟨b, hb, rfl⟩ := List.mem_map.mp hw
        exact Wd.cnt (cnt_ok (h.hb b hb).1 (h.hb b hb).2)
    · refine ⟨fun w hw => ?_, by rw [List.length_cons, List.length_map]; have := h.i3; omega, List.cons_ne_nil _ _⟩
      rcases List.mem_cons.mp hw with rfl | hw
      · exact Wd.of (by decide +kernel)
      · obtain ⟨b, hb, rfl⟩ := List.mem_map.mp hw
        exact Wd.name (h.nb _ (nmI_mem h (h.hi b hb).1 (h.hi b hb).2))
    · refine ⟨fun w hw => ?_, by show 2 ≤ 40; decide, List.cons_ne_nil _ _⟩
      simp only [List.mem_cons, List.not_mem_nil, or_false] at hw
      rcases hw with rfl | rfl
      · exact Wd.of (by decide +kernel)
      · exact Wd.name (h.nb _ (nmI_mem h h.ha.1 h.ha.2))
  · obtain ⟨r, hr, rfl⟩ := List.mem_map.mp hw
    exact ⟨(ruW_ok h hr).1, (ruW_ok h hr).2, List.cons_ne_nil _ _⟩
/-! ### as data -/
def ruD (r : List Int × List Int) : PyData := .tuple [.tuple (r.1.map .int), .tuple (r.2.map .int)]
def ptD (d : PD) : PyData := .tuple [.tuple (d.nm.map .str), .tuple (d.rl.map ruD), .tuple (d.ins.map .int), .tuple (d.beg.map .int), .int d.ans]
def liD (ls : List Str) : PyData := .list (ls.map .str)
theorem rdStrs {H : Hp} : ∀ (ws : List Str), RdVs H (ws.map V.str) (ws.map PyData.str)
  | [] => .nil
  | w :: ws => .cons (.str w) (rdStrs ws)
theorem shw_lines {d : PD} {m : Nat} (h : d.ok m) : Shw (liD (ptL d)) 50000 1 := by
  have hl : (ptL d).length ≤ 12 := by
    unfold ptL ptW
    rw [List.length_map, List.length_append, List.length_map]
    have := h.r8
    simp only [List.length_cons, List.length_nil]
    omega
  refine (Shw.lsts (n := 3602) (h := 0) (ds := (ptL d).map PyData.str) fun x hx => ?_).up (by rw [List.length_map]; omega) (by decide)
  obtain ⟨y, hy, rfl⟩ := List.mem_map.mp hx
  obtain ⟨ws, hw, rfl⟩ := List.mem_map.mp hy
  obtain ⟨h1, h2, h3⟩ := ptW_ok h ws hw
  exact shw_str (n := 360) (ln_len h1 h2) (ln_chars h1)
end PT

set_option Elab.async false
set_option linter.all false
set_option maxRecDepth 100000
namespace L2
open PySem
theorem TupF.same {H H' : Hp} {l : Addr} {ys : List V} (t : TupF H l ys) (k : Same H H') : TupF H' l ys := let ⟨o, e, a, b⟩ := t; ⟨o, k _ _ e, a, b⟩
end L2
namespace PT
open PySem L2 G2
/-- where the parts of a pot and of a rule stand -/
structure KP (mg : Str → Option Value) : Prop where
  sorts : Kn mg "SORTS" 0
  rules : Kn mg "RULES" 1
  inputs : Kn mg "INPUTS" 2
  begin : Kn mg "BEGIN" 3
  answer : Kn mg "ANSWER" 4
  takes : Kn mg "TAKES" 0
  gives : Kn mg "GIVES" 1
/-- what the reader of pots finds in its module -/
structure KR (K : PySem.W.Frag) (mg : Str → Option Value) : Prop where
  fig : KnS mg "FIGURES" "0123456789"
  lets : KnS mg "LETTERS" "abcdefghijklmnopqrstuvwxyz"
  no : GTup K mg "NO_NAMES" (noNames.map V.str)
  mlet : Kn mg "MOST_LETTERS" 8
  msor : Kn mg "MOST_SORTS" 8
  mbeg : Kn mg "MOST_BEGIN" 99
  minp : Kn mg "MOST_INPUTS" 3
  mrul : Kn mg "MOST_RULES" 8
  mdro : Kn mg "MOST_DROPS" 9
  mfig : Kn mg "MOST_FIGURES" 2
  l0 : Kn mg "SORTS_LINE" 0
  l1 : Kn mg "BEGIN_LINE" 1
  l2 : Kn mg "IN_LINE" 2
  l3 : Kn mg "OUT_LINE" 3
  l4 : Kn mg "FIRST_RULE" 4
theorem w_index {to : TE} {ta : TA} {σ : St} {H : Hp} {Q : VK} (h : to σ H fun x H1 => (∃ l ys, x = .ref l ∧ TupF H1 l ys) ∧ ta σ H1 fun vs H2 => ∃ (l : Addr) (ys : List V) (v : V) (k : Nat) (hk : k < ys.length), vs = [v] ∧ x = .ref l ∧ TupF H2 l ys ∧ flatV v = true ∧ (∀ y ∈ ys, flatV y = true) ∧
    eqV ys[k] v = true ∧ (∀ i (hi : i < ys.length), i < k → eqV ys[i] v = false) ∧ Q (.int (k : Int)) H2) : tIndex to ta σ H Q := h
/-- the place of a name among unlike ones -/
theorem nm_place {nm : List Str} {k : Nat} {x : Str} (hk : nm[k]? = some x) (nd : nm.Nodup) : ∃ hk' : k < (nm.map V.str).length, eqV (nm.map V.str)[k] (.str x) = true ∧ ∀ i (hi : i < (nm.map V.str).length), i < k → eqV (nm.map V.str)[i] (.str x) = false := by
  obtain ⟨h1, h2⟩ := List.getElem?_eq_some_iff.mp hk
  refine ⟨by rw [List.length_map]; exact h1, ?_, fun i hi hik => ?_⟩
  · rw [List.getElem_map, h2, eqV_str]
    exact decide_eq_true rfl
  · have hi' : i < nm.length := by simpa using hi
    rw [List.getElem_map, eqV_str]
    refine decide_eq_false fun e => ?_
    have := (List.getElem_inj nd (h₀ := hi') (h₁ := h1)).mp (e.trans h2.symm)
    omega
theorem flat_mem (nm : List Str) : ∀ y ∈ nm.map V.str, flatV y = true := fun y hy => by
  obtain ⟨x, _, rfl⟩ := List.mem_map.mp hy
  rfl
theorem eqV_int {a b : Int} : eqV (.int a) (.int b) = decide (a = b) := by
  unfold eqV
  rfl
theorem inV_ints (x : Int) : ∀ (ws : List Int), inV (.int x) (ws.map V.int) = decide (x ∈ ws)
  | [] => rfl
  | w :: ws => by
    show (eqV (.int w) (.int x) || inV (.int x) (ws.map V.int)) = _
    rw [inV_ints x ws, eqV_int]
    by_cases h : w = x
    · subst h; simp
    · have h' : ¬ x = w := fun e => h e.symm
      simp [h, h']
theorem flat_ints (ws : List Int) : (ws.map V.int).all flatV = true := by
  rw [List.all_map]
  exact List.all_eq_true.mpr fun _ _ => rfl
theorem take_mem {α : Type} {xs : List α} {i : Nat} {x : α} (nd : xs.Nodup) (h : xs[i]? = some x) : x ∉ xs.take i := fun z => by
  obtain ⟨j, hj, e⟩ := List.mem_iff_getElem.mp z
  obtain ⟨h1, h2⟩ := List.getElem?_eq_some_iff.mp h
  rw [List.getElem_take] at e
  have hj' : j < i := by rw [List.length_take] at hj; omega
  have := (List.getElem_inj nd (h₀ := by omega) (h₁ := h1)).mp (e.trans h2.symm)
  omega
/-! ### pots in the heap -/
def RlD (H : Hp) (r : Addr) (x : List Int × List Int) : Prop := ∃ a b, H r = some (.tup [.ref a, .ref b]) ∧ H a = some (.tup (x.1.map V.int)) ∧ H b = some (.tup (x.2.map V.int))
theorem RlD.same {H H' : Hp} {r : Addr} {x : List Int × List Int} (h : RlD H r x) (k : Same H H') : RlD H' r x := let ⟨a, b, h1, h2, h3⟩ := h; ⟨a, b, k _ _ h1, k _ _ h2, k _ _ h3⟩
def RlsD (H : Hp) : List Addr → List (List Int × List Int) → Prop
  | [], [] => True
  | r :: rs, x :: xs => RlD H r x ∧ RlsD H rs xs
  | _, _ => False
theorem RlsD.same {H H' : Hp} (k : Same H H') : ∀ {rs : List Addr} {xs : List (List Int × List Int)}, RlsD H rs xs → RlsD H' rs xs
  | [], [], _ => trivial
  | _ :: _, _ :: _, ⟨a, b⟩ => ⟨a.same k, RlsD.same k b⟩
  | [], _ :: _, h => h.elim
  | _ :: _, [], h => h.elim
theorem RlsD.len {H : Hp} : ∀ {rs : List Addr} {xs : List (List Int × List Int)}, RlsD H rs xs → rs.length = xs.length
  | [], [], _ => rfl
  | _ :: _, _ :: _, ⟨_, b⟩ => by rw [List.length_cons, List.length_cons, RlsD.len b]
  | [], _ :: _, h => h.elim
  | _ :: _, [], h => h.elim
theorem RlsD.get {H : Hp} : ∀ {rs : List Addr} {xs : List (List Int × List Int)} {i : Nat} {r : Addr}, RlsD H rs xs → rs[i]? = some r → ∃ x, xs[i]? = some x ∧ RlD H r x
  | r' :: _, x :: _, 0, r, ⟨a, _⟩, e => by cases e; exact ⟨x, rfl, a⟩
  | _ :: _, _ :: _, i + 1, r, ⟨_, b⟩, e => RlsD.get (i := i) b e
  | [], _, _, _, _, e => nomatch e
  | _ :: _, [], _, _, h, _ => h.elim
theorem RlsD.snoc {H : Hp} : ∀ {rs : List Addr} {xs : List (List Int × List Int)} {r : Addr} {x : List Int × List Int}, RlsD H rs xs → RlD H r x → RlsD H (rs ++ [r]) (xs ++ [x])
  | [], [], _, _, _, h => ⟨h, trivial⟩
  | _ :: _, _ :: _, _, _, ⟨a, b⟩, h => ⟨a, RlsD.snoc b h⟩
  | [], _ :: _, _, _, h, _ => h.elim
  | _ :: _, [], _, _, h, _ => h.elim
theorem RlsD.rd {H : Hp} : ∀ {rs : List Addr} {xs : List (List Int × List Int)}, RlsD H rs xs → RdVs H (rs.map V.ref) (xs.map ruD)
  | [], [], _ => .nil
  | _ :: _, _ :: _, ⟨⟨_, _, h1, h2, h3⟩, b⟩ => .cons (.tup h1 (.cons (.tup h2 (rdInts _)) (.cons (.tup h3 (rdInts _)) .nil))) (RlsD.rd b)
  | [], _ :: _, h => h.elim
  | _ :: _, [], h => h.elim
theorem RlD.off {H : Hp} {D r : Addr} {ys : List V} {o : HO} {x : List Int × List Int} (hD : H D = some (.lst ys)) (h : RlD H r x) : RlD (upd H D o) r x := by
  obtain ⟨a, b, h1, h2, h3⟩ := h
  have ne : ∀ {q : Addr} {zs : List V}, H q = some (.tup zs) → q ≠ D := fun e z => by rw [z, hD] at e; cases e
  exact ⟨a, b, by rw [upd_ne (ne h1)]; exact h1, by rw [upd_ne (ne h2)]; exact h2, by rw [upd_ne (ne h3)]; exact h3⟩
theorem RlsD.off {H : Hp} {D : Addr} {ys : List V} {o : HO} (hD : H D = some (.lst ys)) : ∀ {rs : List Addr} {xs : List (List Int × List Int)}, RlsD H rs xs → RlsD (upd H D o) rs xs
  | [], [], _ => trivial
  | _ :: _, _ :: _, ⟨a, b⟩ => ⟨a.off hD, RlsD.off hD b⟩
  | [], _ :: _, h => h.elim
  | _ :: _, [], h => h.elim
/-- a pot; fz: its sorts as a known object -/
structure PotF (fz : Bool) (H : Hp) (p : Addr) (d : PD) : Prop where
  ex : ∃ (ps pr pin pb : Addr) (rs : List Addr), H p = some (.tup [.ref ps, .ref pr, .ref pin, .ref pb, .int d.ans]) ∧ (if fz = true then TupF H ps (d.nm.map V.str) else H ps = some (.tup (d.nm.map V.str))) ∧ H pr = some (.tup (rs.map V.ref)) ∧ RlsD H rs d.rl ∧
    H pin = some (.tup (d.ins.map V.int)) ∧ H pb = some (.tup (d.beg.map V.int))
theorem PotF.same {fz : Bool} {H H' : Hp} {p : Addr} {d : PD} (h : PotF fz H p d) (k : Same H H') : PotF fz H' p d := by
  obtain ⟨ps, pr, pin, pb, rs, h1, h2, h3, h4, h5, h6⟩ := h.ex
  refine ⟨ps, pr, pin, pb, rs, k _ _ h1, ?_, k _ _ h3, h4.same k, k _ _ h5, k _ _ h6⟩
  cases fz
  · exact k _ _ h2
  · exact TupF.same h2 k
theorem PotF.rd {fz : Bool} {H : Hp} {p : Addr} {d : PD} (h : PotF fz H p d) : RdV H (.ref p) (ptD d) := by
  obtain ⟨ps, pr, pin, pb, rs, h1, h2, h3, h4, h5, h6⟩ := h.ex
  refine .tup h1 (.cons ?_ (.cons (.tup h3 h4.rd) (.cons (.tup h5 (rdInts _)) (.cons (.tup h6 (rdInts _)) (.cons (.int _) .nil)))))
  cases fz
  · exact .tup h2 (rdStrs _)
  · obtain ⟨o, e, _⟩ := h2
    exact .ftup e (rdStrs _)
theorem shw_pot {d : PD} {m : Nat} (h : d.ok m) : Shw (ptD d) 20100 4 := by
  have s1 : Shw (.tuple (d.nm.map .str)) 1000 1 := by
    refine (Shw.tups (n := 82) (h := 0) (ds := d.nm.map PyData.str) fun x hx => ?_).up (by rw [List.length_map, h.nl]; have := h.m8; omega) (by decide)
    obtain ⟨y, hy, rfl⟩ := List.mem_map.mp hx
    exact shw_str (n := 8) (nme_ok (h.nb y hy)).l8 fun c hc => Nat.lt_of_le_of_lt ((nme_ok (h.nb y hy)).ch c hc).2 (by decide)
  have s2 : Shw (.tuple (d.rl.map ruD)) 4000 3 := by
    refine (Shw.tups (n := 301) (h := 2) (ds := d.rl.map ruD) fun x hx => ?_).up (by rw [List.length_map]; have := h.r8; omega) (by decide)
    obtain ⟨r, hr, rfl⟩ := List.mem_map.mp hx
    obtain ⟨a, b, _⟩ := h.rs r hr
    have i1 : Shw (.tuple (r.1.map PyData.int)) 147 1 := (Shw.ints fun n hn => ⟨by have := a.b n hn; omega, by have := a.b n hn; omega⟩).up (by rw [a.l]; have := h.m8; omega) (by decide)
    have i2 : Shw (.tuple (r.2.map PyData.int)) 147 1 := (Shw.ints fun n hn => ⟨by have := b.b n hn; omega, by have := b.b n hn; omega⟩).up (by rw [b.l]; have := h.m8; omega) (by decide)
    exact i1.two i2
  have s3 : Shw (.tuple (d.ins.map .int)) 1000 1 := (Shw.ints fun n hn => ⟨by have := h.hi n hn; omega, by have := h.hi n hn; have := h.m8; omega⟩).up (by have := h.i3; omega) (by decide)
  have s4 : Shw (.tuple (d.beg.map .int)) 1000 1 := (Shw.ints fun n hn => ⟨by have := h.hb n hn; omega, by have := h.hb n hn; omega⟩).up (by have := h.bl; have := h.m8; omega) (by decide)
  have s5 : Shw (.int d.ans) 16 0 := Shw.int ⟨by have := h.ha; omega, by have := h.ha; have := h.m8; omega⟩
  have sa : ∀ x ∈ ([.tuple (d.nm.map .str), .tuple (d.rl.map ruD), .tuple (d.ins.map .int), .tuple (d.beg.map .int), .int d.ans] : List PyData), Shw x 4000 3 := fun x hx => by
    simp only [List.mem_cons, List.not_mem_nil, or_false] at hx
    rcases hx with rfl | rfl | rfl | rfl | rfl
    · exact s1.up (by decide) (by decide)
    · exact s2
    · exact s3.up (by decide) (by decide)
    · exact s4.up (by decide) (by decide)
    · exact s5.up (by decide) (by decide)
  exact (Shw.tups sa).up (by simp only [List.length_cons, List.length_nil]; decide) (by decide)
theorem snoc_ln {A : List (List Str)} {α : Type} {rl : List α} {f : α → List Str} {i : Nat} {r : α} (h : rl[i]? = some r) : ((A ++ (rl.take (i + 1)).map f).map ln).map V.str = ((A ++ (rl.take i).map f).map ln).map V.str ++ [V.str (ln (f r))] := by
  rw [List.take_add_one, h]
  simp
/-- tuples stay -/
def Tst (H H' : Hp) : Prop := ∀ q xs, H q = some (.tup xs) → H' q = some (.tup xs)
theorem RlsD.tst {H H' : Hp} (k : Tst H H') : ∀ {rs : List Addr} {xs : List (List Int × List Int)}, RlsD H rs xs → RlsD H' rs xs
  | [], [], _ => trivial
  | _ :: _, _ :: _, ⟨⟨a, b, h1, h2, h3⟩, q⟩ => ⟨⟨a, b, k _ _ h1, k _ _ h2, k _ _ h3⟩, RlsD.tst k q⟩
  | [], _ :: _, h => h.elim
  | _ :: _, [], h => h.elim
theorem PotF.tst {H H' : Hp} {p : Addr} {d : PD} (h : PotF false H p d) (k : Tst H H') : PotF false H' p d := by
  obtain ⟨ps, pr, pin, pb, rs, h1, h2, h3, h4, h5, h6⟩ := h.ex
  exact ⟨ps, pr, pin, pb, rs, k _ _ h1, k _ _ h2, k _ _ h3, h4.tst k, k _ _ h5, k _ _ h6⟩
theorem Tst.lst {H : Hp} {D : Addr} {ys : List V} {o : HO} (hD : H D = some (.lst ys)) : Tst H (upd H D o) := fun q xs e => by
  rw [upd_ne fun z => by rw [z, hD] at e; cases e]
  exact e
theorem w_bm0 {K : PySem.W.Frag} {T : String} {r : V → List V → Hp → VK → Prop} {to : TE} {σ : St} {H : Hp} {Q : VK} (h : to σ H fun x H1 => tyV K T x H1 ∧ r x [] H1 Q) : tBM0 K T r to σ H Q := h
theorem lay_strs : ∀ {ws : List Str}, (∀ w ∈ ws, ∀ c ∈ w.cps.toList, c < 128) → PyData.canLayAll0 (ws.map PyData.str) = true
  | [], _ => rfl
  | w :: ws, h => by
    show (PyData.canLay0 (.str w) && PyData.canLayAll0 (ws.map PyData.str)) = true
    rw [lay_strs fun w hw => h w (List.mem_cons_of_mem _ hw), Bool.and_true]
    show PyData.strOk w = true
    unfold PyData.strOk
    rw [Array.all_eq_true']
    intro c hc
    have := h w List.mem_cons_self c (Array.mem_toList_iff.mpr hc)
    exact decide_eq_true (Nat.lt_trans this (by decide))
theorem lay_lines {d : PD} {m : Nat} (h : d.ok m) : PyData.canLay0 (.list ((ptL d).map PyData.str)) = true := lay_strs fun w hw => by
  obtain ⟨ws, hws, rfl⟩ := List.mem_map.mp hw
  exact ln_ascii (ptW_ok h ws hws).1
theorem depth_strs : ∀ ws : List Str, PyData.depthAll (ws.map PyData.str) = 0
  | [] => rfl
  | w :: ws => by
    show max (PyData.depth (.str w)) (PyData.depthAll (ws.map PyData.str)) = 0
    rw [depth_strs ws]
    rfl
end PT

set_option Elab.async false
set_option linter.all false
set_option maxRecDepth 100000
namespace K03
open PySem L2 G2 PT
local macro_rules | `(tactic| walk_at "v") => `(tactic| repeat (with_reducible first
  | refine w_seq ?_ | refine w_asg ?_ | refine w_gname ?_ | refine w_op ?_ | refine w_var rfl ?_ | refine w_c ?_ | refine w_rI0 ?_ | refine w_ifs ?_ | refine w_ife ?_ | refine w_test ?_ | refine w_tb ?_ | refine w_bl ?_ | refine w_not ?_ | refine w_ret ?_ | refine w_retN ?_
  | refine w_nil ?_ | refine w_cons ?_ | refine w_lst ?_ | refine w_tup ?_ | refine w_cb ?_ | refine w_call ?_ | refine w_gsub ?_ | refine w_and ?_ | refine w_or ?_ | refine w_next ?_ | refine w_all ?_ | refine w_vals ?_ | refine w_compR ?_ | refine w_compT ?_ | refine w_forR ?_ | refine w_forT ?_ | refine w_forL ?_ | refine w_drop ?_ | refine w_bm ?_ | refine w_compZ ?_ | refine w_compL ?_ | refine w_chain ?_ | refine w_sl ?_ | refine w_nopart ?_ | refine w_part ?_ | refine w_unI ?_ | refine iteT ?_ | refine iteF ?_))
abbrev sFig : Stmt := top 5
abbrev nFig : List Str := ["word"]
theorem nmFig : Nm nFig (defScope sFig) := ⟨by decide +kernel, by decide +kernel⟩
theorem scFig : FnScope nFig ["word"] (defScope sFig) := ⟨rfl, rfl, rfl, by decide +kernel, rfl, by decide +kernel, by decide +kernel⟩
def qFiga (s : Stmt) : Scope := match s with
  | .If (.BoolOp _ [_, (.UnaryOp _ (.Call _ [(.ListComp _ _ sc _)] _ _) _)] _) _ _ _ => sc
  | _ => { kind := .function, names := [], isGenerator := false, isCoroutine := false }
abbrev cFiga : Scope := qFiga ((defBody sFig).getD 0 (.Pass ⟨0, 0, 0, 0⟩))
theorem bsFiga : BScope (defScope sFig) cFiga ["sign"] [] ["FIGURES"] := { okind := by decide +kernel, kind := by decide +kernel, nocell := by decide +kernel, names := by decide +kernel, fr := by decide +kernel, ff := by decide +kernel, nd := by decide +kernel, vis := by decide +kernel, loc := by decide +kernel, gl := by decide +kernel }
def spFig : Sp := fun vs H Q _ => ∃ x : Str, vs = [.str x] ∧ figB x = true ∧ ∀ H', Same H H' → Q (.bl true) H'
section
variable {P : Program} {w : World} {K : PySem.W.Frag} {mg : Str → Option Value} {base : Heap}
set_option maxHeartbeats 4000000 in
theorem ok_Fig {f : Addr} {fd : FuncData} (B : Bl mg) (C : KR K mg) (F : Fun K "is_figures" "is_figures" sFig f fd) : FnOk P w K mg base CX0 1 f fd ["word"] spFig := by
  refine F.ok scFig (fun vs H Q E h => ?_) (fun cdv A outer s H vs Q E hr h => ?_)
  · obtain ⟨x, rfl, _⟩ := h
    rfl
  · obtain ⟨x, rfl, hx, k⟩ := h
    refine' ⟨_, ?hb, ?rd⟩
    case' hb => skip
    case' hb => refine' pss_cons ?g1 ?g2
    case' g2 => refine' pss_one ?g3
    case' g1 => refine' ps_if ?g4 ?g5 pss_nil
    case' g4 => refine' PW.pt ?g7
    case' g7 => refine' pw_or (pt_cmpR op_eq (pvd nmFig 0) pe_str (nomark _)) ?g8
    case' g8 => refine' pw_or1 ?g9
    case' g9 => refine' pt_not ?g10
    case' g10 => refine' pt_val ?g11
    case' g11 => refine' pe_cB (call_all rfl) B.all PyProof.Rows.boot_all ?g12
    case' g12 => refine' pa_1 ?g13
    case' g13 => refine' pe_comp (ix := []) bsFiga.toCScope rfl rfl ?g14 ?g15 ?g16 ?g17
    case g14 => exact pi_tx (pvd nmFig 0)
    case g15 => exact fun _ _ _ _ _ _ => pgb bsFiga 0
    case g16 => exact fun _ _ _ _ _ _ => pts_nil
    case g17 => exact fun _ _ _ _ _ _ => pe_cmpR op_in_str (pvb bsFiga 0) (pe_ks C.fig (bsFiga.g 0)) (by with_unfolding_all rfl)
    case' g5 => refine' pss_one ?g18
    case g18 => exact ps_ret pe_bl
    case g3 => exact ps_ret (pe_or (pe_cmpR op_eq (pvd nmFig 0) pe_str (nomark _)) (pe_one (pe_cmpR op_ne (pe_ix ix_str (pvd nmFig 0) pe_int (fun _ _ => rfl)) pe_str (nomark _))))
    case rd =>
      unfold figB at hx
      simp only [Bool.and_eq_true, decide_eq_true_eq] at hx
      obtain ⟨⟨hl, hd⟩, h0⟩ := hx
      cases hc : x.cps.toList with
      | nil => rw [hc] at h0; cases h0
      | cons c cs =>
      rw [hc] at h0
      have hne : x ≠ "" := fun z => by rw [z] at hc; cases hc
      walk_at "v"
      refine ⟨rfl, ?_⟩
      walk_at "v"
      refine iteD (fun z => absurd (V.str.inj z) hne) (fun _ => ?_)
      walk_at "v"
      refine w_compX ?_
      walk_at "v"
      refine ⟨x, rfl, fun D hD => ?_⟩
      have hgl : (sg x).length ≤ 1000 := by rw [sg_len]; exact Nat.le_trans hl (by decide)
      refine cgo_tx (ρ := []) (fun i ys H' => ys = (((sg x).take i).map inF).map V.bl ∧ Same H H') ⟨rfl, Same.new (Same.refl H) hD⟩ ?_ ?_
      · rintro i y ys H' hy ⟨rfl, K'⟩ hDy R S kR _
        walk_at "v"
        refine ⟨y, _, rfl, rfl, ?_⟩
        refine kR _ _ hDy (by rw [List.length_map, List.length_map, List.length_take]; exact small1000 (by omega)) ⟨?_, K'.put hD⟩
        rw [List.take_add_one, hy, List.map_append, List.map_append]
        rfl
      rintro ys H1 ⟨rfl, K1⟩ e1
      rw [List.take_of_length_le (by omega)] at e1
      walk_at "v"
      refine ⟨D, (sg x).map inF, rfl, e1, ?_⟩
      rw [show ((sg x).map inF).all id = true by rw [List.all_map]; exact hd]
      walk_at "v"
      refine iteF ?_
      walk_at "v"
      refine w_orV ?_
      walk_at "v"
      refine ⟨rfl, ?_⟩
      refine ⟨_, rfl, ?_⟩
      refine iteD (fun z => ?_) (fun z => ?_)
      · exact k _ K1
      · walk_at "v"
        refine ⟨x, 0, c, rfl, rfl, (by rw [sizeLine_eq]; omega), (by rw [hc]; exact atI_nat (show (c :: cs)[0]? = some c from rfl)), ?_⟩
        walk_at "v"
        refine ⟨rfl, ?_⟩
        have n0 : ¬ (⟨#[c]⟩ : Str) = "0" := by
          have z' : ¬ x = "0" := fun e => z (by rw [e])
          simpa [z'] using h0
        have e0 : (!decide (V.str (⟨#[c]⟩ : Str) = V.str "0")) = true := by rw [decide_eq_false (fun e => n0 (V.str.inj e))]; rfl
        rw [e0]
        exact k _ K1
end
abbrev sNam : Stmt := top 22
abbrev nNam : List Str := ["thing"]
theorem nmNam : Nm nNam (defScope sNam) := ⟨by decide +kernel, by decide +kernel⟩
theorem scNam : FnScope nNam ["thing"] (defScope sNam) := ⟨rfl, rfl, rfl, by decide +kernel, rfl, by decide +kernel, by decide +kernel⟩
def qNama (s : Stmt) : Scope := match s with
  | .Return (some (.BoolOp _ [_, (.Call _ [(.ListComp _ _ sc _)] _ _)] _)) _ => sc
  | _ => { kind := .function, names := [], isGenerator := false, isCoroutine := false }
abbrev cNama : Scope := qNama ((defBody sNam).getD 1 (.Pass ⟨0, 0, 0, 0⟩))
theorem bsNama : BScope (defScope sNam) cNama ["sign"] [] ["LETTERS"] := { okind := by decide +kernel, kind := by decide +kernel, nocell := by decide +kernel, names := by decide +kernel, fr := by decide +kernel, ff := by decide +kernel, nd := by decide +kernel, vis := by decide +kernel, loc := by decide +kernel, gl := by decide +kernel }
def spNam : Sp := fun vs H Q _ => ∃ x : Str, vs = [.str x] ∧ nameB x = true ∧ ∀ H', Same H H' → Q (.bl true) H'
section
variable {P : Program} {w : World} {K : PySem.W.Frag} {mg : Str → Option Value} {base : Heap}
set_option maxHeartbeats 4000000 in
theorem ok_Nam {f : Addr} {fd : FuncData} (B : Bl mg) (C : KR K mg) (F : Fun K "is_name" "is_name" sNam f fd) : FnOk P w K mg base CX0 1 f fd ["thing"] spNam := by
  refine F.ok scNam (fun vs H Q E h => ?_) (fun cdv A outer s H vs Q E hr h => ?_)
  · obtain ⟨x, rfl, _⟩ := h
    rfl
  · obtain ⟨x, rfl, hx, k⟩ := h
    refine' ⟨_, ?hb, ?rd⟩
    case' hb => skip
    case' hb => refine' pss_cons ?g1 ?g2
    case' g2 => refine' pss_one ?g3
    case' g1 => refine' ps_if ?g4 ?g5 pss_nil
    case g4 => exact PW.pt (pw_or (pt_not (pt_val (pe_cB call_isI B.isi PyProof.Rows.boot_isinstance (pa_2 (pvd nmNam 0) (pe_bltn (v := .ty "str") rfl B.str PyProof.Rows.boot_str rfl))))) (pw_or1 (pt_not (pt_chain op_le op_le pe_int (pe_cB call_len_str B.len PySem.boot_len (pa_1 (pvd nmNam 0))) (pe_k C.mlet)))))
    case' g5 => refine' pss_one ?g7
    case g7 => exact ps_ret pe_bl
    case' g3 => refine' ps_ret ?g8
    case' g8 => refine' pe_and (pe_cmpR op_notIn_seq (pvd nmNam 0) (pe_gt C.no) (by with_unfolding_all rfl)) ?g9
    case' g9 => refine' pe_one ?g10
    case' g10 => refine' pe_cB (call_all rfl) B.all PyProof.Rows.boot_all ?g11
    case' g11 => refine' pa_1 ?g12
    case' g12 => refine' pe_comp (ix := []) bsNama.toCScope rfl rfl ?g13 ?g14 ?g15 ?g16
    case g13 => exact pi_tx (pvd nmNam 0)
    case g14 => exact fun _ _ _ _ _ _ => pgb bsNama 0
    case g15 => exact fun _ _ _ _ _ _ => pts_nil
    case g16 => exact fun _ _ _ _ _ _ => pe_cmpR op_in_str (pvb bsNama 0) (pe_ks C.lets (bsNama.g 0)) (by with_unfolding_all rfl)
    case rd =>
      have n := nme_ok hx
      have l1 := n.l1
      have l8 := n.l8
      walk_at "v"
      refine ⟨_, "str", _, true, rfl, .str _, rfl, ?_⟩
      walk_at "v"
      refine iteF ?_
      walk_at "v"
      refine ⟨_, rfl, Nat.le_trans l8 (by decide), ?_⟩
      walk_at "v"
      refine iteP (by omega) ?_
      walk_at "v"
      refine iteNS (by omega) ?_
      walk_at "v"
      refine w_andV ?_
      walk_at "v"
      refine w_gt fun aw hw => ?_
      refine ⟨aw, _, rfl, .inr hw, rfl, flat_strs _, ?_⟩
      refine ⟨_, rfl, ?_⟩
      rw [inV_strs, decide_eq_false n.no]
      refine iteT ?_
      walk_at "v"
      refine w_compX ?_
      walk_at "v"
      refine ⟨x, rfl, fun D hD => ?_⟩
      have hgl : (sg x).length ≤ 1000 := by rw [sg_len]; exact Nat.le_trans l8 (by decide)
      refine cgo_tx (ρ := []) (fun i ys H' => ys = (((sg x).take i).map inL).map V.bl ∧ Same H H') ⟨rfl, Same.new (Same.refl H) hD⟩ ?_ ?_
      · rintro i y ys H' hy ⟨rfl, K'⟩ hDy R S kR _
        walk_at "v"
        refine ⟨y, _, rfl, rfl, ?_⟩
        refine kR _ _ hDy (by rw [List.length_map, List.length_map, List.length_take]; exact small1000 (by omega)) ⟨?_, K'.put hD⟩
        rw [List.take_add_one, hy, List.map_append, List.map_append]
        rfl
      rintro ys H1 ⟨rfl, K1⟩ e1
      rw [List.take_of_length_le (by omega)] at e1
      walk_at "v"
      refine ⟨D, (sg x).map inL, rfl, e1, ?_⟩
      rw [show ((sg x).map inL).all id = true by rw [List.all_map]; exact n.al]
      exact k _ K1
end
abbrev sWof : Stmt := top 34
abbrev nWof : List Str := ["lines", "line", "first", "words"]
theorem nmWof : Nm nWof (defScope sWof) := ⟨by decide +kernel, by decide +kernel⟩
theorem scWof : FnScope nWof ["lines", "line", "first"] (defScope sWof) := ⟨rfl, rfl, rfl, by decide +kernel, rfl, by decide +kernel, by decide +kernel⟩
def spWof : Sp := fun vs H Q _ => ∃ (l : Addr) (ls : List Str) (i : Nat) (f : Str) (ws : List Str), vs = [.ref l, .int (i : Int), .str f] ∧ H l = some (.lst (ls.map V.str)) ∧ ls[i]? = some (ln (f :: ws)) ∧ (∀ w ∈ f :: ws, Wd w) ∧ (f :: ws).length ≤ 40 ∧ ∀ p H', Same H H' → H p = none → H' p = some (.lst ((f :: ws).map V.str)) → Q (.ref p) H'
section
variable {P : Program} {w : World} {K : PySem.W.Frag} {mg : Str → Option Value} {base : Heap}
set_option maxHeartbeats 4000000 in
theorem ok_Wof {f : Addr} {fd : FuncData} (B : Bl mg) (C : KR K mg) (F : Fun K "words_of" "words_of" sWof f fd) : FnOk P w K mg base CX0 1 f fd ["lines", "line", "first"] spWof := by
  refine F.ok scWof (fun vs H Q E h => ?_) (fun cdv A outer s H vs Q E hr h => ?_)
  · obtain ⟨l, ls, i, f, ws, rfl, _⟩ := h
    rfl
  · obtain ⟨l, ls, i, f, ws, rfl, hl, hi, hw, h40, k⟩ := h
    refine' ⟨_, ?hb, ?rd⟩
    case' hb => skip
    case' hb => refine' pss_cons ?g1 ?g2
    case' g2 => refine' pss_cons ?g3 ?g4
    case' g4 => refine' pss_cons ?g5 ?g6
    case' g6 => refine' pss_one ?g7
    case' g1 => refine' ps_if ?g8 ?g9 pss_nil
    case g8 => exact pt_cmpR op_ge (pvd nmWof 1) (pe_cB call_len_seq B.len PySem.boot_len (pa_1 (pvd nmWof 0))) (nomark _)
    case g9 => exact pss_never
    case g3 => exact ps_setD nmWof 3 (pe_bm PySem.F.plainAttrs_str PySem.F.slot_str_split PySem.F.type_str_split mt_split (pe_ix ix_d (pvd nmWof 0) (pvd nmWof 1) (fun _ _ => rfl)) (pa_1 pe_str))
    case' g5 => refine' ps_if ?g11 ?g12 pss_nil
    case g11 => exact pt_cmpR op_ne (pe_ix ix_d (pvd nmWof 3) pe_int (fun _ _ => rfl)) (pvd nmWof 2) (nomark _)
    case g12 => exact pss_never
    case g7 => exact ps_ret (pvd nmWof 3)
    case rd =>
      have hil : i < ls.length := (List.getElem?_eq_some_iff.mp hi).1
      walk_at "v"
      refine ⟨l, _, rfl, .inl (SqL.of hl), ?_⟩
      walk_at "v"
      refine iteQ (by rw [List.length_map]; omega) ?_
      walk_at "v"
      refine w_ixL (v := .str (ln (f :: ws))) hl (atI_nat (by rw [List.getElem?_map, hi]; rfl)) ?_
      walk_at "v"
      refine ⟨rfl, ?_⟩
      walk_at "v"
      refine ⟨_, _, rfl, rfl, by decide +kernel, Nat.le_trans (ln_len hw h40) (by decide), fun p hp => ?_⟩
      rw [ln_split (List.cons_ne_nil _ _) hw]
      have K1 : Same H (upd H p (.lst ((f :: ws).map V.str))) := Same.new (Same.refl H) hp
      have e1 : upd H p (.lst ((f :: ws).map V.str)) p = some (.lst ((f :: ws).map V.str)) := upd_same
      generalize upd H p (.lst ((f :: ws).map V.str)) = H1 at K1 e1 ⊢
      walk_at "v"
      refine w_ixL (v := .str f) e1 at0 ?_
      walk_at "v"
      refine ⟨rfl, ?_⟩
      walk_at "v"
      refine iteNS rfl ?_
      walk_at "v"
      exact k p H1 K1 hp e1
end
abbrev sNu : Stmt := top 42
abbrev nNu : List Str := ["words", "line", "place", "low", "high", "word", "number"]
theorem nmNu : Nm nNu (defScope sNu) := ⟨by decide +kernel, by decide +kernel⟩
theorem scNu : FnScope nNu ["words", "line", "place", "low", "high"] (defScope sNu) := ⟨rfl, rfl, rfl, by decide +kernel, rfl, by decide +kernel, by decide +kernel⟩
def spNu : Sp := fun vs H Q _ => ∃ (l : Addr) (ws : List Str) (i : Nat) (z lo hi n : Int), vs = [.ref l, .int z, .int (i : Int), .int lo, .int hi] ∧ H l = some (.lst (ws.map V.str)) ∧ ws[i]? = some (fT n) ∧ 0 ≤ n ∧ n ≤ 99 ∧ lo ≤ n ∧ n ≤ hi ∧ ∀ H', Same H H' → Q (.int n) H'
section
variable {P : Program} {w : World} {K : PySem.W.Frag} {mg : Str → Option Value} {base : Heap}
set_option maxHeartbeats 4000000 in
theorem ok_Nu {f : Addr} {fd : FuncData} (B : Bl mg) (C : KR K mg) (G : Has P w K mg base 1 "is_figures" ["word"] spFig) (F : Fun K "read_number" "read_number" sNu f fd) : FnOk P w K mg base CX0 2 f fd ["words", "line", "place", "low", "high"] spNu := by
  refine F.ok scNu (fun vs H Q E h => ?_) (fun cdv A outer s H vs Q E hr h => ?_)
  · obtain ⟨l, ws, i, z, lo, hi, n, rfl, _⟩ := h
    rfl
  · obtain ⟨l, ws, i, z, lo, hi, n, rfl, hl, hi', n0, n9, nl, nh, k⟩ := h
    refine' ⟨_, ?hb, ?rd⟩
    case' hb => skip
    case' hb => refine' pss_cons ?g1 ?g2
    case' g2 => refine' pss_cons ?g3 ?g4
    case' g4 => refine' pss_cons ?g5 ?g6
    case' g6 => refine' pss_cons ?g7 ?g8
    case' g8 => refine' pss_one ?g9
    case g1 => exact ps_setD nmNu 5 (pe_ix ix_d (pvd nmNu 0) (pvd nmNu 2) (fun _ _ => rfl))
    case' g3 => refine' ps_if ?g10 ?g11 pss_nil
    case g10 => exact PW.pt (pw_or (pt_not (pt_val (pe_f G hr (by decide) (pa_1 (pvd nmNu 5))))) (pw_or1 (pt_cmpR op_gt (pe_cB call_len_str B.len PySem.boot_len (pa_1 (pvd nmNu 5))) (pe_k C.mfig) (nomark _))))
    case g11 => exact pss_never
    case g5 => exact ps_setD nmNu 6 (pe_cT call_intS B.int PyProof.Rows.boot_int (pa_1 (pvd nmNu 5)))
    case' g7 => refine' ps_if ?g13 ?g14 pss_nil
    case g13 => exact pt_not (pt_chain op_le op_le (pvd nmNu 3) (pvd nmNu 6) (pvd nmNu 4))
    case g14 => exact pss_never
    case g9 => exact ps_ret (pvd nmNu 6)
    case rd =>
      have c := cnt_ok n0 n9
      have c2 := c.l2
      walk_at "v"
      refine w_ixL (v := .str (fT n)) hl (atI_nat (by rw [List.getElem?_map, hi']; rfl)) ?_
      walk_at "v"
      refine ⟨_, rfl, c.fig, fun H1 K1 => ?_⟩
      walk_at "v"
      refine iteF ?_
      walk_at "v"
      refine ⟨_, rfl, Nat.le_trans c2 (by decide), ?_⟩
      walk_at "v"
      refine iteQ (by omega) ?_
      walk_at "v"
      refine ⟨_, _, rfl, c.rd, Nat.le_trans c2 (by decide), ?_⟩
      walk_at "v"
      refine iteP nl ?_
      walk_at "v"
      refine iteNS nh ?_
      walk_at "v"
      exact k _ K1
end
abbrev sSo : Stmt := top 41
abbrev nSo : List Str := ["words", "line", "place", "sorts"]
theorem nmSo : Nm nSo (defScope sSo) := ⟨by decide +kernel, by decide +kernel⟩
theorem scSo : FnScope nSo ["words", "line", "place", "sorts"] (defScope sSo) := ⟨rfl, rfl, rfl, by decide +kernel, rfl, by decide +kernel, by decide +kernel⟩
def spSo : Sp := fun vs H Q _ => ∃ (l : Addr) (ws : List Str) (i : Nat) (z : Int) (ps : Addr) (nm : List Str) (q : Nat) (x : Str), vs = [.ref l, .int z, .int (i : Int), .ref ps] ∧ H l = some (.lst (ws.map V.str)) ∧ ws[i]? = some x ∧ TupF H ps (nm.map V.str) ∧ nm[q]? = some x ∧ nm.Nodup ∧ ∀ H', Same H H' → Q (.int (q : Int)) H'
section
variable {P : Program} {w : World} {K : PySem.W.Frag} {mg : Str → Option Value} {base : Heap}
set_option maxHeartbeats 4000000 in
theorem ok_So {f : Addr} {fd : FuncData} (B : Bl mg) (C : KR K mg) (F : Fun K "read_sort" "read_sort" sSo f fd) : FnOk P w K mg base CX0 1 f fd ["words", "line", "place", "sorts"] spSo := by
  refine F.ok scSo (fun vs H Q E h => ?_) (fun cdv A outer s H vs Q E hr h => ?_)
  · obtain ⟨l, ws, i, z, ps, nm, q, x, rfl, _⟩ := h
    rfl
  · obtain ⟨l, ws, i, z, ps, nm, q, x, rfl, hl, hi, hp, hq, nd, k⟩ := h
    refine' ⟨_, ?hb, ?rd⟩
    case' hb => skip
    case' hb => refine' pss_cons ?g1 ?g2
    case' g2 => refine' pss_one ?g3
    case' g1 => refine' ps_if ?g4 ?g5 pss_nil
    case g4 => exact pt_cmpR op_notIn_seq (pe_ix ix_d (pvd nmSo 0) (pvd nmSo 2) (fun _ _ => rfl)) (pvd nmSo 3) (by with_unfolding_all rfl)
    case g5 => exact pss_never
    case g3 => exact ps_ret (pe_index (pvd nmSo 3) (pa_1 (pe_ix ix_d (pvd nmSo 0) (pvd nmSo 2) (fun _ _ => rfl))))
    case rd =>
      obtain ⟨hk, hit, hno⟩ := nm_place hq nd
      have at' : atI (ws.map V.str) (i : Int) = some (.str x) := atI_nat (by rw [List.getElem?_map, hi]; rfl)
      walk_at "v"
      refine w_ixL (v := .str x) hl at' ?_
      walk_at "v"
      refine ⟨ps, _, rfl, .inr hp.sq, rfl, flat_strs _, ?_⟩
      rw [inV_strs, decide_eq_true (List.mem_of_getElem? hq)]
      walk_at "v"
      refine iteF ?_
      walk_at "v"
      refine w_index ?_
      walk_at "v"
      refine ⟨⟨ps, _, rfl, hp⟩, ?_⟩
      walk_at "v"
      refine w_ixL (v := .str x) hl at' ?_
      walk_at "v"
      exact ⟨ps, _, .str x, q, hk, rfl, rfl, hp, rfl, flat_mem _, hit, hno, k _ (Same.refl _)⟩
end
end K03

set_option Elab.async false
set_option linter.all false
set_option maxRecDepth 100000
namespace K03
open PySem L2 G2 PT
local macro_rules | `(tactic| walk_at "v") => `(tactic| repeat (with_reducible first
  | refine w_seq ?_ | refine w_asg ?_ | refine w_gname ?_ | refine w_op ?_ | refine w_var rfl ?_ | refine w_c ?_ | refine w_rI0 ?_ | refine w_ifs ?_ | refine w_ife ?_ | refine w_test ?_ | refine w_tb ?_ | refine w_bl ?_ | refine w_not ?_ | refine w_ret ?_ | refine w_retN ?_
  | refine w_nil ?_ | refine w_cons ?_ | refine w_lst ?_ | refine w_tup ?_ | refine w_cb ?_ | refine w_call ?_ | refine w_gsub ?_ | refine w_and ?_ | refine w_or ?_ | refine w_next ?_ | refine w_all ?_ | refine w_vals ?_ | refine w_compR ?_ | refine w_compT ?_ | refine w_forR ?_ | refine w_forT ?_ | refine w_forL ?_ | refine w_drop ?_ | refine w_bm ?_ | refine w_compZ ?_ | refine w_compL ?_ | refine w_chain ?_ | refine w_sl ?_ | refine w_nopart ?_ | refine w_part ?_ | refine w_unI ?_ | refine iteT ?_ | refine iteF ?_))
abbrev sRs : Stmt := top 35
abbrev nRs : List Str := ["lines", "words", "names", "place", "name"]
theorem nmRs : Nm nRs (defScope sRs) := ⟨by decide +kernel, by decide +kernel⟩
theorem scRs : FnScope nRs ["lines"] (defScope sRs) := ⟨rfl, rfl, rfl, by decide +kernel, rfl, by decide +kernel, by decide +kernel⟩
def spRs : Sp := fun vs H Q _ => ∃ (l : Addr) (d : PD) (m : Nat), vs = [.ref l] ∧ H l = some (.lst ((ptL d).map V.str)) ∧ d.ok m ∧ ∀ p H', Same H H' → TupF H' p (d.nm.map V.str) → Q (.ref p) H'
section
variable {P : Program} {w : World} {K : PySem.W.Frag} {mg : Str → Option Value} {base : Heap}
set_option maxHeartbeats 4000000 in
theorem ok_Rs {f : Addr} {fd : FuncData} (B : Bl mg) (C : KR K mg) (G : Has P w K mg base 1 "words_of" ["lines", "line", "first"] spWof) (N : Has P w K mg base 1 "is_name" ["thing"] spNam) (F : Fun K "read_sorts" "read_sorts" sRs f fd) : FnOk P w K mg base CX0 2 f fd ["lines"] spRs := by
  refine F.ok scRs (fun vs H Q E h => ?_) (fun cdv A outer s H vs Q E hr h => ?_)
  · obtain ⟨l, d, m, rfl, _⟩ := h
    rfl
  · obtain ⟨l, d, m, rfl, hl, hd, k⟩ := h
    refine' ⟨_, ?hb, ?rd⟩
    case' hb => skip
    case' hb => refine' pss_cons ?g1 ?g2
    case' g2 => refine' pss_cons ?g3 ?g4
    case' g4 => refine' pss_cons ?g5 ?g6
    case' g6 => refine' pss_cons ?g7 ?g8
    case' g8 => refine' pss_one ?g9
    case g1 => exact ps_setD nmRs 1 (pe_f G hr (by decide) (pa_c (pvd nmRs 0) (pa_2 (pe_k C.l0) pe_str)))
    case g3 => exact ps_setD nmRs 2 (pe_lst pa_nil)
    case' g5 => refine' ps_for PassesOwn.never rfl ?g10 (pgd nmRs 3) ?g11
    case g10 => exact pi_r2 B.range (pa_2 pe_int (pe_cB call_len_seq B.len PySem.boot_len (pa_1 (pvd nmRs 1))))
    case' g11 => refine' pss_cons ?g12 ?g13
    case' g13 => refine' pss_cons ?g14 ?g15
    case' g15 => refine' pss_one ?g16
    case g12 => exact ps_setD nmRs 4 (pe_ix ix_d (pvd nmRs 1) (pvd nmRs 3) (fun _ _ => rfl))
    case' g14 => refine' ps_if ?g17 ?g18 pss_nil
    case g17 => exact PW.pt (pw_or (pt_cmpR op_eq (pe_cB call_len_seq B.len PySem.boot_len (pa_1 (pvd nmRs 2))) (pe_k C.msor) (nomark _)) (pw_or (pt_not (pt_val (pe_f N hr (by decide) (pa_1 (pvd nmRs 4))))) (pw_or1 (pt_cmpR op_in_seq (pvd nmRs 4) (pvd nmRs 2) (by with_unfolding_all rfl)))))
    case g18 => exact pss_never
    case g16 => exact ps_expr (pe_bm PySem.F.plainAttrs_list PySem.F.slot_list_append PySem.F.type_list_append mt_append (pvd nmRs 2) (pa_1 (pvd nmRs 4)))
    case' g7 => refine' ps_if ?g20 ?g21 pss_nil
    case g20 => exact pt_cmpR op_eq (pe_cB call_len_seq B.len PySem.boot_len (pa_1 (pvd nmRs 2))) pe_int (nomark _)
    case g21 => exact pss_never
    case g9 => exact ps_ret (pe_cT call_tupleF B.tuple PyProof.Rows.boot_tuple (pa_1 (pvd nmRs 2)))
    case rd =>
      obtain ⟨hw, h40, _⟩ := ptW_ok hd (("sorts" : Str) :: d.nm) (by unfold ptW; simp)
      have nl := hd.nl
      have m8 := hd.m8
      have m0 := hd.m0
      walk_at "v"
      refine ⟨l, ptL d, 0, "sorts", d.nm, rfl, hl, rfl, hw, h40, fun lw H1 K1 hlw e1 => ?_⟩
      walk_at "v"
      refine ⟨by show 0 ≤ sizeLine; decide, fun l2 hl2 => ?_⟩
      have K2 : Same H1 (upd H1 l2 (.lst [])) := Same.new (Same.refl H1) hl2
      have e2 : upd H1 l2 (.lst []) l2 = some (.lst []) := upd_same
      have ew := K2 _ _ e1
      have n2 : H l2 = none := K1.free hl2
      have ne : lw ≠ l2 := ne_of_none e1 hl2
      have K02 := K1.trans K2
      generalize upd H1 l2 (.lst []) = H2 at K2 e2 ew K02 ⊢
      walk_at "v"
      refine w_forR2 ?_
      walk_at "v"
      refine ⟨lw, _, rfl, .inl (SqL.of ew), ?_⟩
      refine ⟨1, _, rfl, ⟨by decide, by decide, by rw [List.length_map]; omega, by rw [List.length_map]; omega⟩, ?_⟩
      rw [show (((((("sorts" : Str) :: d.nm).map V.str).length : Nat) : Int) - 1).toNat = d.nm.length by rw [List.length_map, List.length_cons]; omega]
      refine for_range (n := d.nm.length) (fun i σ H' => ∃ u3 u4, σ = [some (.ref l), some (.ref lw), some (.ref l2), u3, u4] ∧ Same H H' ∧ H' lw = some (.lst ((("sorts" : Str) :: d.nm).map V.str)) ∧ H' l2 = some (.lst ((d.nm.take i).map V.str))) ⟨none, none, rfl, K02, ew, e2⟩ ?_ ?_
      · rintro i σ H3 hi ⟨u3, u4, rfl, K3, ew3, e3⟩
        have gx : d.nm[i]? = some d.nm[i] := List.getElem?_eq_getElem hi
        have tl : (d.nm.take i).length = i := by rw [List.length_take]; omega
        walk_at "v"
        rw [show (1 + (i : Int)) = ((i + 1 : Nat) : Int) by omega]
        refine w_ixL (v := .str d.nm[i]) ew3 (atI_nat (j := i + 1) (by rw [List.map_cons, List.getElem?_cons_succ, List.getElem?_map, gx]; rfl)) ?_
        walk_at "v"
        refine ⟨l2, _, rfl, .inl (SqL.of e3), ?_⟩
        walk_at "v"
        refine ⟨rfl, ?_⟩
        refine ⟨_, rfl, ?_⟩
        refine iteD (fun z => by exfalso; have z := V.int.inj z; rw [List.length_map, tl] at z; omega) (fun _ => ?_)
        walk_at "v"
        refine ⟨_, rfl, hd.nb _ (List.getElem_mem hi), fun H4 K4 => ?_⟩
        walk_at "v"
        refine iteF ?_
        walk_at "v"
        refine ⟨l2, _, rfl, .inl (SqL.of (K4 _ _ e3)), rfl, flat_strs _, ?_⟩
        rw [inV_strs, decide_eq_false (take_mem hd.nd gx)]
        walk_at "v"
        refine iteF ?_
        walk_at "v"
        refine ⟨.inl ⟨rfl, _, SqL.of (K4 _ _ e3)⟩, ?_⟩
        walk_at "v"
        refine ⟨l2, _, _, rfl, rfl, K4 _ _ e3, by rw [List.length_map, tl]; exact small1000 (by omega), ?_⟩
        refine ⟨_, _, rfl, (K3.trans K4).put n2, by rw [upd_ne ne]; exact K4 _ _ ew3, ?_⟩
        rw [upd_same, List.take_add_one, gx, List.map_append]
        rfl
      rintro σ H3 ⟨u3, u4, rfl, K3, ew3, e3⟩
      rw [List.take_length] at e3
      walk_at "v"
      refine ⟨l2, _, rfl, .inl (SqL.of e3), ?_⟩
      walk_at "v"
      refine ⟨rfl, ?_⟩
      refine ⟨_, rfl, ?_⟩
      refine iteD (fun z => by exfalso; have z := V.int.inj z; rw [List.length_map] at z; omega) (fun _ => ?_)
      walk_at "v"
      refine ⟨l2, _, rfl, SqL.of e3, fun p o hp h1 h2 => ?_⟩
      exact k p _ (K3.new hp) ⟨o, upd_same, h1, h2⟩
end
abbrev sRb : Stmt := top 36
abbrev nRb : List Str := ["lines", "sorts", "words", "counts", "place"]
theorem nmRb : Nm nRb (defScope sRb) := ⟨by decide +kernel, by decide +kernel⟩
theorem scRb : FnScope nRb ["lines", "sorts"] (defScope sRb) := ⟨rfl, rfl, rfl, by decide +kernel, rfl, by decide +kernel, by decide +kernel⟩
def spRb : Sp := fun vs H Q _ => ∃ (l ps : Addr) (d : PD) (m : Nat), vs = [.ref l, .ref ps] ∧ H l = some (.lst ((ptL d).map V.str)) ∧ d.ok m ∧ TupF H ps (d.nm.map V.str) ∧ ∀ p H', Same H H' → H' p = some (.tup (d.beg.map V.int)) → Q (.ref p) H'
section
variable {P : Program} {w : World} {K : PySem.W.Frag} {mg : Str → Option Value} {base : Heap}
set_option maxHeartbeats 4000000 in
theorem ok_Rb {f : Addr} {fd : FuncData} (B : Bl mg) (C : KR K mg) (G : Has P w K mg base 1 "words_of" ["lines", "line", "first"] spWof) (N : Has P w K mg base 2 "read_number" ["words", "line", "place", "low", "high"] spNu) (F : Fun K "read_begin" "read_begin" sRb f fd) : FnOk P w K mg base CX0 3 f fd ["lines", "sorts"] spRb := by
  refine F.ok scRb (fun vs H Q E h => ?_) (fun cdv A outer s H vs Q E hr h => ?_)
  · obtain ⟨l, ps, d, m, rfl, _⟩ := h
    rfl
  · obtain ⟨l, ps, d, m, rfl, hl, hd, hp, k⟩ := h
    refine' ⟨_, ?hb, ?rd⟩
    case' hb => skip
    case' hb => refine' pss_cons ?g1 ?g2
    case' g2 => refine' pss_cons ?g3 ?g4
    case' g4 => refine' pss_cons ?g5 ?g6
    case' g6 => refine' pss_cons ?g7 ?g8
    case' g8 => refine' pss_one ?g9
    case g1 => exact ps_setD nmRb 2 (pe_f G hr (by decide) (pa_c (pvd nmRb 0) (pa_2 (pe_k C.l1) pe_str)))
    case g3 => exact ps_setD nmRb 3 (pe_lst pa_nil)
    case' g5 => refine' ps_for PassesOwn.never rfl ?g10 (pgd nmRb 4) ?g11
    case g10 => exact pi_r2 B.range (pa_2 pe_int (pe_cB call_len_seq B.len PySem.boot_len (pa_1 (pvd nmRb 2))))
    case' g11 => refine' pss_cons ?g12 ?g13
    case' g13 => refine' pss_one ?g14
    case' g12 => refine' ps_if ?g15 ?g16 pss_nil
    case g15 => exact pt_cmpR op_eq (pe_cB call_len_seq B.len PySem.boot_len (pa_1 (pvd nmRb 3))) (pe_cB call_len_seq B.len PySem.boot_len (pa_1 (pvd nmRb 1))) (nomark _)
    case g16 => exact pss_never
    case g14 => exact ps_expr (pe_bm PySem.F.plainAttrs_list PySem.F.slot_list_append PySem.F.type_list_append mt_append (pvd nmRb 3) (pa_1 (pe_f N hr (by decide) (pa_c (pvd nmRb 2) (pa_c (pe_k C.l1) (pa_c (pvd nmRb 4) (pa_2 pe_int (pe_k C.mbeg))))))))
    case' g7 => refine' ps_if ?g18 ?g19 pss_nil
    case g18 => exact pt_cmpR op_lt (pe_cB call_len_seq B.len PySem.boot_len (pa_1 (pvd nmRb 3))) (pe_cB call_len_seq B.len PySem.boot_len (pa_1 (pvd nmRb 1))) (nomark _)
    case g19 => exact pss_never
    case g9 => exact ps_ret (pe_cT call_tupL B.tuple PyProof.Rows.boot_tuple (pa_1 (pvd nmRb 3)))
    case rd =>
      obtain ⟨hw, h40, _⟩ := ptW_ok hd (("begin" : Str) :: d.beg.map fT) (by unfold ptW; simp)
      have nl := hd.nl
      have bl := hd.bl
      have m8 := hd.m8
      walk_at "v"
      refine ⟨l, ptL d, 1, "begin", d.beg.map fT, rfl, hl, rfl, hw, h40, fun lw H1 K1 hlw e1 => ?_⟩
      walk_at "v"
      refine ⟨by show 0 ≤ sizeLine; decide, fun l2 hl2 => ?_⟩
      have K2 : Same H1 (upd H1 l2 (.lst [])) := Same.new (Same.refl H1) hl2
      have e2 : upd H1 l2 (.lst []) l2 = some (.lst []) := upd_same
      have ew := K2 _ _ e1
      have n2 : H l2 = none := K1.free hl2
      have ne : lw ≠ l2 := ne_of_none e1 hl2
      have K02 := K1.trans K2
      generalize upd H1 l2 (.lst []) = H2 at K2 e2 ew K02 ⊢
      walk_at "v"
      refine w_forR2 ?_
      walk_at "v"
      refine ⟨lw, _, rfl, .inl (SqL.of ew), ?_⟩
      refine ⟨1, _, rfl, ⟨by decide, by decide, by rw [List.length_map]; omega, by rw [List.length_map]; omega⟩, ?_⟩
      rw [show (((((("begin" : Str) :: d.beg.map fT).map V.str).length : Nat) : Int) - 1).toNat = d.beg.length by rw [List.length_map, List.length_cons, List.length_map]; omega]
      refine for_range (n := d.beg.length) (fun i σ H' => ∃ u4, σ = [some (.ref l), some (.ref ps), some (.ref lw), some (.ref l2), u4] ∧ Same H H' ∧ H' lw = some (.lst ((("begin" : Str) :: d.beg.map fT).map V.str)) ∧ H' l2 = some (.lst ((d.beg.take i).map V.int))) ⟨none, rfl, K02, ew, e2⟩ ?_ ?_
      · rintro i σ H3 hi ⟨u4, rfl, K3, ew3, e3⟩
        have gx : d.beg[i]? = some d.beg[i] := List.getElem?_eq_getElem hi
        have bx := hd.hb _ (List.getElem_mem hi)
        have tl : (d.beg.take i).length = i := by rw [List.length_take]; omega
        walk_at "v"
        refine ⟨l2, _, rfl, .inl (SqL.of e3), ?_⟩
        walk_at "v"
        refine ⟨ps, _, rfl, .inr (hp.same K3).sq, ?_⟩
        refine ⟨rfl, ?_⟩
        refine ⟨_, rfl, ?_⟩
        refine iteD (fun z => by exfalso; have z := V.int.inj z; rw [List.length_map, List.length_map, tl] at z; omega) (fun _ => ?_)
        walk_at "v"
        refine ⟨.inl ⟨rfl, _, SqL.of e3⟩, ?_⟩
        walk_at "v"
        rw [show (1 + (i : Int)) = ((i + 1 : Nat) : Int) by omega]
        refine ⟨lw, _, i + 1, _, _, _, d.beg[i], rfl, ew3, by rw [List.getElem?_cons_succ, List.getElem?_map, gx]; rfl, bx.1, bx.2, bx.1, bx.2, fun H4 K4 => ?_⟩
        refine ⟨l2, _, _, rfl, rfl, K4 _ _ e3, by rw [List.length_map, tl]; exact small1000 (by omega), ?_⟩
        refine ⟨_, rfl, (K3.trans K4).put n2, by rw [upd_ne ne]; exact K4 _ _ ew3, ?_⟩
        rw [upd_same, List.take_add_one, gx, List.map_append]
        rfl
      rintro σ H3 ⟨u4, rfl, K3, ew3, e3⟩
      rw [List.take_length] at e3
      walk_at "v"
      refine ⟨l2, _, rfl, .inl (SqL.of e3), ?_⟩
      walk_at "v"
      refine ⟨ps, _, rfl, .inr (hp.same K3).sq, ?_⟩
      walk_at "v"
      refine iteQ (by rw [List.length_map, List.length_map]; omega) ?_
      walk_at "v"
      refine ⟨l2, _, rfl, e3, fun p H4 K4 e4 => ?_⟩
      exact k p _ (K3.trans K4) e4
end
abbrev sRi : Stmt := top 37
abbrev nRi : List Str := ["lines", "sorts", "words", "inputs", "place", "sort"]
theorem nmRi : Nm nRi (defScope sRi) := ⟨by decide +kernel, by decide +kernel⟩
theorem scRi : FnScope nRi ["lines", "sorts"] (defScope sRi) := ⟨rfl, rfl, rfl, by decide +kernel, rfl, by decide +kernel, by decide +kernel⟩
def spRi : Sp := fun vs H Q _ => ∃ (l ps : Addr) (d : PD) (m : Nat), vs = [.ref l, .ref ps] ∧ H l = some (.lst ((ptL d).map V.str)) ∧ d.ok m ∧ TupF H ps (d.nm.map V.str) ∧ ∀ p H', Same H H' → H' p = some (.tup (d.ins.map V.int)) → Q (.ref p) H'
section
variable {P : Program} {w : World} {K : PySem.W.Frag} {mg : Str → Option Value} {base : Heap}
set_option maxHeartbeats 4000000 in
theorem ok_Ri {f : Addr} {fd : FuncData} (B : Bl mg) (C : KR K mg) (G : Has P w K mg base 1 "words_of" ["lines", "line", "first"] spWof) (N : Has P w K mg base 1 "read_sort" ["words", "line", "place", "sorts"] spSo) (F : Fun K "read_inputs" "read_inputs" sRi f fd) : FnOk P w K mg base CX0 2 f fd ["lines", "sorts"] spRi := by
  refine F.ok scRi (fun vs H Q E h => ?_) (fun cdv A outer s H vs Q E hr h => ?_)
  · obtain ⟨l, ps, d, m, rfl, _⟩ := h
    rfl
  · obtain ⟨l, ps, d, m, rfl, hl, hd, hp, k⟩ := h
    refine' ⟨_, ?hb, ?rd⟩
    case' hb => skip
    case' hb => refine' pss_cons ?g1 ?g2
    case' g2 => refine' pss_cons ?g3 ?g4
    case' g4 => refine' pss_cons ?g5 ?g6
    case' g6 => refine' pss_one ?g7
    case g1 => exact ps_setD nmRi 2 (pe_f G hr (by decide) (pa_c (pvd nmRi 0) (pa_2 (pe_k C.l2) pe_str)))
    case g3 => exact ps_setD nmRi 3 (pe_lst pa_nil)
    case' g5 => refine' ps_for PassesOwn.never rfl ?g8 (pgd nmRi 4) ?g9
    case g8 => exact pi_r2 B.range (pa_2 pe_int (pe_cB call_len_seq B.len PySem.boot_len (pa_1 (pvd nmRi 2))))
    case' g9 => refine' pss_cons ?g10 ?g11
    case' g11 => refine' pss_cons ?g12 ?g13
    case' g13 => refine' pss_one ?g14
    case g10 => exact ps_setD nmRi 5 (pe_f N hr (by decide) (pa_c (pvd nmRi 2) (pa_c (pe_k C.l2) (pa_2 (pvd nmRi 4) (pvd nmRi 1)))))
    case' g12 => refine' ps_if ?g15 ?g16 pss_nil
    case g15 => exact PW.pt (pw_or (pt_cmpR op_eq (pe_cB call_len_seq B.len PySem.boot_len (pa_1 (pvd nmRi 3))) (pe_k C.minp) (nomark _)) (pw_or1 (pt_cmpR op_in_seq (pvd nmRi 5) (pvd nmRi 3) (by with_unfolding_all rfl))))
    case g16 => exact pss_never
    case g14 => exact ps_expr (pe_bm PySem.F.plainAttrs_list PySem.F.slot_list_append PySem.F.type_list_append mt_append (pvd nmRi 3) (pa_1 (pvd nmRi 5)))
    case g7 => exact ps_ret (pe_cT call_tupL B.tuple PyProof.Rows.boot_tuple (pa_1 (pvd nmRi 3)))
    case rd =>
      obtain ⟨hw, h40, _⟩ := ptW_ok hd (("in" : Str) :: d.ins.map (nmI d.nm)) (by unfold ptW; simp)
      have nl := hd.nl
      have i3 := hd.i3
      have m8 := hd.m8
      walk_at "v"
      refine ⟨l, ptL d, 2, "in", d.ins.map (nmI d.nm), rfl, hl, rfl, hw, h40, fun lw H1 K1 hlw e1 => ?_⟩
      walk_at "v"
      refine ⟨by show 0 ≤ sizeLine; decide, fun l2 hl2 => ?_⟩
      have K2 : Same H1 (upd H1 l2 (.lst [])) := Same.new (Same.refl H1) hl2
      have e2 : upd H1 l2 (.lst []) l2 = some (.lst []) := upd_same
      have ew := K2 _ _ e1
      have n2 : H l2 = none := K1.free hl2
      have ne : lw ≠ l2 := ne_of_none e1 hl2
      have K02 := K1.trans K2
      generalize upd H1 l2 (.lst []) = H2 at K2 e2 ew K02 ⊢
      walk_at "v"
      refine w_forR2 ?_
      walk_at "v"
      refine ⟨lw, _, rfl, .inl (SqL.of ew), ?_⟩
      refine ⟨1, _, rfl, ⟨by decide, by decide, by rw [List.length_map]; omega, by rw [List.length_map]; omega⟩, ?_⟩
      rw [show (((((("in" : Str) :: d.ins.map (nmI d.nm)).map V.str).length : Nat) : Int) - 1).toNat = d.ins.length by rw [List.length_map, List.length_cons, List.length_map]; omega]
      refine for_range (n := d.ins.length) (fun i σ H' => ∃ u4 u5, σ = [some (.ref l), some (.ref ps), some (.ref lw), some (.ref l2), u4, u5] ∧ Same H H' ∧ H' lw = some (.lst ((("in" : Str) :: d.ins.map (nmI d.nm)).map V.str)) ∧ H' l2 = some (.lst ((d.ins.take i).map V.int))) ⟨none, none, rfl, K02, ew, e2⟩ ?_ ?_
      · rintro i σ H3 hi ⟨u4, u5, rfl, K3, ew3, e3⟩
        have gx : d.ins[i]? = some d.ins[i] := List.getElem?_eq_getElem hi
        have bx := hd.hi _ (List.getElem_mem hi)
        have tl : (d.ins.take i).length = i := by rw [List.length_take]; omega
        have nx : d.nm[(d.ins[i]).toNat]? = some (nmI d.nm d.ins[i]) := by
          have hlt : (d.ins[i]).toNat < d.nm.length := by omega
          unfold nmI
          rw [List.getD_eq_getElem?_getD, List.getElem?_eq_getElem hlt]
          rfl
        walk_at "v"
        rw [show (1 + (i : Int)) = ((i + 1 : Nat) : Int) by omega]
        refine ⟨lw, _, i + 1, _, ps, d.nm, (d.ins[i]).toNat, nmI d.nm d.ins[i], rfl, ew3, by rw [List.getElem?_cons_succ, List.getElem?_map, gx]; rfl, hp.same K3, nx, hd.nd, fun H4 K4 => ?_⟩
        rw [show (((d.ins[i]).toNat : Nat) : Int) = d.ins[i] by omega]
        walk_at "v"
        refine ⟨l2, _, rfl, .inl (SqL.of (K4 _ _ e3)), ?_⟩
        walk_at "v"
        refine ⟨rfl, ?_⟩
        refine ⟨_, rfl, ?_⟩
        refine iteD (fun z => by exfalso; have z := V.int.inj z; rw [List.length_map, tl] at z; omega) (fun _ => ?_)
        walk_at "v"
        refine ⟨l2, _, rfl, .inl (SqL.of (K4 _ _ e3)), rfl, flat_ints _, ?_⟩
        rw [inV_ints, decide_eq_false (take_mem hd.inn gx)]
        walk_at "v"
        refine iteF ?_
        walk_at "v"
        refine ⟨.inl ⟨rfl, _, SqL.of (K4 _ _ e3)⟩, ?_⟩
        walk_at "v"
        refine ⟨l2, _, _, rfl, rfl, K4 _ _ e3, by rw [List.length_map, tl]; exact small1000 (by omega), ?_⟩
        refine ⟨_, _, rfl, (K3.trans K4).put n2, by rw [upd_ne ne]; exact K4 _ _ ew3, ?_⟩
        rw [upd_same, List.take_add_one, gx, List.map_append]
        rfl
      rintro σ H3 ⟨u4, u5, rfl, K3, ew3, e3⟩
      rw [List.take_length] at e3
      walk_at "v"
      refine ⟨l2, _, rfl, e3, fun p H4 K4 e4 => ?_⟩
      exact k p _ (K3.trans K4) e4
end
abbrev sRan : Stmt := top 38
abbrev nRan : List Str := ["lines", "sorts", "words", "answer"]
theorem nmRan : Nm nRan (defScope sRan) := ⟨by decide +kernel, by decide +kernel⟩
theorem scRan : FnScope nRan ["lines", "sorts"] (defScope sRan) := ⟨rfl, rfl, rfl, by decide +kernel, rfl, by decide +kernel, by decide +kernel⟩
def spRan : Sp := fun vs H Q _ => ∃ (l ps : Addr) (d : PD) (m : Nat), vs = [.ref l, .ref ps] ∧ H l = some (.lst ((ptL d).map V.str)) ∧ d.ok m ∧ TupF H ps (d.nm.map V.str) ∧ ∀ H', Same H H' → Q (.int d.ans) H'
section
variable {P : Program} {w : World} {K : PySem.W.Frag} {mg : Str → Option Value} {base : Heap}
set_option maxHeartbeats 4000000 in
theorem ok_Ran {f : Addr} {fd : FuncData} (B : Bl mg) (C : KR K mg) (G : Has P w K mg base 1 "words_of" ["lines", "line", "first"] spWof) (N : Has P w K mg base 1 "read_sort" ["words", "line", "place", "sorts"] spSo) (F : Fun K "read_answer" "read_answer" sRan f fd) : FnOk P w K mg base CX0 2 f fd ["lines", "sorts"] spRan := by
  refine F.ok scRan (fun vs H Q E h => ?_) (fun cdv A outer s H vs Q E hr h => ?_)
  · obtain ⟨l, ps, d, m, rfl, _⟩ := h
    rfl
  · obtain ⟨l, ps, d, m, rfl, hl, hd, hp, k⟩ := h
    refine' ⟨_, ?hb, ?rd⟩
    case' hb => skip
    case' hb => refine' pss_cons ?g1 ?g2
    case' g2 => refine' pss_cons ?g3 ?g4
    case' g4 => refine' pss_cons ?g5 ?g6
    case' g6 => refine' pss_cons ?g7 ?g8
    case' g8 => refine' pss_one ?g9
    case g1 => exact ps_setD nmRan 2 (pe_f G hr (by decide) (pa_c (pvd nmRan 0) (pa_2 (pe_k C.l3) pe_str)))
    case' g3 => refine' ps_if ?g10 ?g11 pss_nil
    case g10 => exact pt_cmpR op_eq (pe_cB call_len_seq B.len PySem.boot_len (pa_1 (pvd nmRan 2))) pe_int (nomark _)
    case g11 => exact pss_never
    case g5 => exact ps_setD nmRan 3 (pe_f N hr (by decide) (pa_c (pvd nmRan 2) (pa_c (pe_k C.l3) (pa_2 pe_int (pvd nmRan 1)))))
    case' g7 => refine' ps_if ?g13 ?g14 pss_nil
    case g13 => exact pt_cmpR op_gt (pe_cB call_len_seq B.len PySem.boot_len (pa_1 (pvd nmRan 2))) pe_int (nomark _)
    case g14 => exact pss_never
    case g9 => exact ps_ret (pvd nmRan 3)
    case rd =>
      obtain ⟨hw, h40, _⟩ := ptW_ok hd [("out" : Str), nmI d.nm d.ans] (by unfold ptW; simp)
      have nl := hd.nl
      have ha := hd.ha
      have nx : d.nm[d.ans.toNat]? = some (nmI d.nm d.ans) := by
        have hlt : d.ans.toNat < d.nm.length := by omega
        unfold nmI
        rw [List.getD_eq_getElem?_getD, List.getElem?_eq_getElem hlt]
        rfl
      walk_at "v"
      refine ⟨l, ptL d, 3, "out", [nmI d.nm d.ans], rfl, hl, rfl, hw, h40, fun lw H1 K1 hlw e1 => ?_⟩
      walk_at "v"
      refine ⟨lw, _, rfl, .inl (SqL.of e1), ?_⟩
      walk_at "v"
      refine ⟨rfl, ?_⟩
      refine ⟨_, rfl, ?_⟩
      refine iteF ?_
      walk_at "v"
      refine ⟨lw, _, 1, _, ps, d.nm, d.ans.toNat, nmI d.nm d.ans, rfl, e1, rfl, hp.same K1, nx, hd.nd, fun H4 K4 => ?_⟩
      rw [show ((d.ans.toNat : Nat) : Int) = d.ans by omega]
      walk_at "v"
      refine ⟨lw, _, rfl, .inl (SqL.of (K4 _ _ e1)), ?_⟩
      walk_at "v"
      refine iteF ?_
      walk_at "v"
      exact k _ (K1.trans K4)
end
end K03

set_option Elab.async false
set_option linter.all false
set_option maxRecDepth 100000
namespace K03
open PySem L2 G2 PT
local macro_rules | `(tactic| walk_at "v") => `(tactic| repeat (with_reducible first
  | refine w_seq ?_ | refine w_asg ?_ | refine w_gname ?_ | refine w_op ?_ | refine w_var rfl ?_ | refine w_c ?_ | refine w_rI0 ?_ | refine w_ifs ?_ | refine w_ife ?_ | refine w_test ?_ | refine w_tb ?_ | refine w_bl ?_ | refine w_not ?_ | refine w_ret ?_ | refine w_retN ?_
  | refine w_nil ?_ | refine w_cons ?_ | refine w_lst ?_ | refine w_tup ?_ | refine w_cb ?_ | refine w_call ?_ | refine w_gsub ?_ | refine w_and ?_ | refine w_or ?_ | refine w_next ?_ | refine w_all ?_ | refine w_vals ?_ | refine w_compR ?_ | refine w_compT ?_ | refine w_forR ?_ | refine w_forT ?_ | refine w_forL ?_ | refine w_drop ?_ | refine w_bm ?_ | refine w_compZ ?_ | refine w_compL ?_ | refine w_chain ?_ | refine w_sl ?_ | refine w_nopart ?_ | refine w_part ?_ | refine w_unI ?_ | refine iteT ?_ | refine iteF ?_))
abbrev sRsd : Stmt := top 40
abbrev nRsd : List Str := ["words", "line", "start", "end", "sorts", "counts", "last", "place", "count", "sort"]
theorem nmRsd : Nm nRsd (defScope sRsd) := ⟨by decide +kernel, by decide +kernel⟩
theorem scRsd : FnScope nRsd ["words", "line", "start", "end", "sorts"] (defScope sRsd) := ⟨rfl, rfl, rfl, by decide +kernel, rfl, by decide +kernel, by decide +kernel⟩
def qRsda (s : Stmt) : Scope := match s with
  | .Assign _ (.ListComp _ _ sc _) _ => sc
  | _ => { kind := .function, names := [], isGenerator := false, isCoroutine := false }
abbrev cRsda : Scope := qRsda ((defBody sRsd).getD 0 (.Pass ⟨0, 0, 0, 0⟩))
theorem bsRsda : BScope (defScope sRsd) cRsda ["name"] [] [] := { okind := by decide +kernel, kind := by decide +kernel, nocell := by decide +kernel, names := by decide +kernel, fr := by decide +kernel, ff := by decide +kernel, nd := by decide +kernel, vis := by decide +kernel, loc := by decide +kernel, gl := by decide +kernel }
theorem loRsd_5 : (defScope sRsd).names.lookup ("counts" : Str) = some .local := by decide +kernel
def spRsd : Sp := fun vs H Q _ => ∃ (l ps : Addr) (z : Int) (nm : List Str) (m : Nat) (cs : List Int) (pre post : List Str), vs = [.ref l, .int z, .int (pre.length : Int), .int ((pre.length + (sideW nm cs).length : Nat) : Int), .ref ps] ∧ H l = some (.lst ((pre ++ (sideW nm cs ++ post)).map V.str)) ∧ pre.length ≤ 100 ∧ TupF H ps (nm.map V.str) ∧ nm.Nodup ∧ nm.length = m ∧ m ≤ 8 ∧ Sd m cs ∧ ∀ p H', Same H H' → H' p = some (.tup (cs.map V.int)) → Q (.ref p) H'
section
variable {P : Program} {w : World} {K : PySem.W.Frag} {mg : Str → Option Value} {base : Heap}
set_option maxHeartbeats 4000000 in
theorem ok_Rsd {f : Addr} {fd : FuncData} (B : Bl mg) (C : KR K mg) (G : Has P w K mg base 2 "read_number" ["words", "line", "place", "low", "high"] spNu) (N : Has P w K mg base 1 "read_sort" ["words", "line", "place", "sorts"] spSo) (F : Fun K "read_side" "read_side" sRsd f fd) : FnOk P w K mg base CX0 3 f fd ["words", "line", "start", "end", "sorts"] spRsd := by
  refine F.ok scRsd (fun vs H Q E h => ?_) (fun cdv A outer s H vs Q E hr h => ?_)
  · obtain ⟨l, ps, z, nm, m, cs, pre, post, rfl, _⟩ := h
    rfl
  · obtain ⟨l, ps, z, nm, m, cs, pre, post, rfl, hl, hpre, hp, nd, hnm, m8, hs, k⟩ := h
    refine' ⟨_, ?hb, ?rd⟩
    case' hb => skip
    case' hb => refine' pss_cons ?g1 ?g2
    case' g2 => refine' pss_cons ?g3 ?g4
    case' g4 => refine' pss_cons ?g5 ?g6
    case' g6 => refine' pss_one ?g7
    case' g1 => refine' ps_setC (i := 5) (ix := []) nmRsd.nd rfl loRsd_5 bsRsda.toCScope rfl rfl ?g8 ?g9 ?g10 ?g11
    case g8 => exact pi_tup (pvd nmRsd 4)
    case g9 => exact fun _ _ _ _ _ _ => pgb bsRsda 0
    case g10 => exact fun _ _ _ _ _ _ => pts_nil
    case g11 => exact fun _ _ _ _ _ _ => pe_int
    case g3 => exact ps_setD nmRsd 6 (pe_un un_neg pe_int)
    case' g5 => refine' ps_for PassesOwn.never rfl ?g12 (pgd nmRsd 7) ?g13
    case g12 => exact pi_r3 B.range (pa_c (pvd nmRsd 2) (pa_2 (pvd nmRsd 3) pe_int))
    case' g13 => refine' pss_cons ?g14 ?g15
    case' g15 => refine' pss_cons ?g16 ?g17
    case' g17 => refine' pss_cons ?g18 ?g19
    case' g19 => refine' pss_cons ?g20 ?g21
    case' g21 => refine' pss_cons ?g22 ?g23
    case' g23 => refine' pss_one ?g24
    case g14 => exact ps_setD nmRsd 8 (pe_f G hr (by decide) (pa_c (pvd nmRsd 0) (pa_c (pvd nmRsd 1) (pa_c (pvd nmRsd 7) (pa_2 pe_int (pe_k C.mdro))))))
    case' g16 => refine' ps_if ?g25 ?g26 pss_nil
    case g25 => exact pt_cmpR op_eq (pe_op op_add (pvd nmRsd 7) pe_int) (pvd nmRsd 3) (nomark _)
    case g26 => exact pss_never
    case g18 => exact ps_setD nmRsd 9 (pe_f N hr (by decide) (pa_c (pvd nmRsd 0) (pa_c (pvd nmRsd 1) (pa_2 (pe_op op_add (pvd nmRsd 7) pe_int) (pvd nmRsd 4)))))
    case' g20 => refine' ps_if ?g28 ?g29 pss_nil
    case g28 => exact pt_cmpR op_le (pvd nmRsd 9) (pvd nmRsd 6) (nomark _)
    case g29 => exact pss_never
    case g22 => exact ps_asg (pvd nmRsd 8) (pg_sub (pvd nmRsd 5) (pvd nmRsd 9) set_d)
    case g24 => exact ps_setD nmRsd 6 (pvd nmRsd 9)
    case g7 => exact ps_ret (pe_cT call_tupL B.tuple PyProof.Rows.boot_tuple (pa_1 (pvd nmRsd 5)))
    case rd =>
      have csl := hs.l
      have pl := prs_len 0 cs
      have wl := sdW_len (nm := nm) (prs 0 cs)
      have rise := prs_rise 0 cs
      have swl : (sideW nm cs).length = 2 * (prs 0 cs).length := wl
      walk_at "v"
      refine ⟨ps, rfl, ⟨_, hp.sq⟩, fun D hD => ?_⟩
      refine cgo_tup (xs := nm.map V.str) (ρ := []) (fun i ys H' => ys = (List.replicate i (0 : Int)).map V.int ∧ Same H H') ⟨rfl, Same.new (Same.refl H) hD⟩ (fun i ys H' _ ⟨_, k'⟩ => (hp.same k').sq) ?_ ?_
      · rintro i x ys H' hx ⟨rfl, K'⟩ hDy R S kR _
        have hi : i < nm.length := by
          have := (List.getElem?_eq_some_iff.mp hx).1
          simpa using this
        walk_at "v"
        refine kR _ _ hDy (by rw [List.length_map, List.length_replicate]; exact small1000 (by omega)) ⟨?_, K'.put hD⟩
        rw [List.replicate_succ', List.map_append]
        rfl
      rintro ys H1 ⟨rfl, K1⟩ e1
      rw [List.length_map] at e1
      have e1' : H1 D = some (.lst ((fill (List.replicate cs.length 0) ((prs 0 cs).take 0)).map V.int)) := by rw [e1, List.take_zero, csl, hnm]; rfl
      walk_at "v"
      refine ⟨_, rfl, ?_⟩
      walk_at "v"
      refine w_forR3 ?_
      walk_at "v"
      refine ⟨_, _, rfl, ⟨by omega, by omega, by omega, by omega⟩, ?_⟩
      rw [show ((((pre.length + (sideW nm cs).length : Nat) : Int) - (pre.length : Int) + 1) / 2).toNat = (prs 0 cs).length by omega]
      refine for_rangeS (n := (prs 0 cs).length) (fun j σ H' => ∃ (la : Int) (u7 u8 u9 : Option V), σ = [some (.ref l), some (.int z), some (.int (pre.length : Int)), some (.int ((pre.length + (sideW nm cs).length : Nat) : Int)), some (.ref ps), some (.ref D), some (.int la), u7, u8, u9] ∧ Same H H' ∧ H' D = some (.lst ((fill (List.replicate cs.length 0) ((prs 0 cs).take j)).map V.int)) ∧ ∀ p ∈ (prs 0 cs).drop j, la < p.1) ⟨-1, none, none, none, rfl, K1, e1', fun p hp => by omega⟩ ?_ ?_
      · rintro j σ H3 hj ⟨la, u7, u8, u9, rfl, K3, e3, hla⟩
        have gx : (prs 0 cs)[j]? = some (prs 0 cs)[j] := List.getElem?_eq_getElem hj
        have dj : (prs 0 cs).drop j = (prs 0 cs)[j] :: (prs 0 cs).drop (j + 1) := List.drop_eq_getElem_cons hj
        obtain ⟨_, p2, p3, p4⟩ := prs_mem (List.getElem_mem hj)
        have pb := hs.b _ p4
        obtain ⟨w1, w2⟩ := sdW_at (nm := nm) gx
        have hl1 := hla _ (by rw [dj]; exact List.mem_cons_self)
        have rj : ∀ p ∈ (prs 0 cs).drop (j + 1), (((prs 0 cs)[j]).1 : Int) < p.1 := by
          have q : ((prs 0 cs).drop j).Pairwise fun a b => a.1 < b.1 := rise.sublist (List.drop_sublist _ _)
          rw [dj] at q
          intro p hp
          have := (List.pairwise_cons.mp q).1 p hp
          omega
        generalize hP : (prs 0 cs)[j] = pj at *
        have a1 : (pre ++ (sideW nm cs ++ post))[pre.length + 2 * j]? = some (fT pj.2) := by
          rw [List.getElem?_append_right (by omega), show pre.length + 2 * j - pre.length = 2 * j by omega, List.getElem?_append_left (by omega)]
          exact w1
        have a2 : (pre ++ (sideW nm cs ++ post))[pre.length + 2 * j + 1]? = some (nm.getD pj.1 "") := by
          rw [List.getElem?_append_right (by omega), show pre.length + 2 * j + 1 - pre.length = 2 * j + 1 by omega, List.getElem?_append_left (by omega)]
          exact w2
        have pn : pj.1 < nm.length := by omega
        have nx : nm[pj.1]? = some (nm.getD pj.1 "") := by
          rw [List.getD_eq_getElem?_getD, List.getElem?_eq_getElem pn]
          rfl
        have fl : (fill (List.replicate cs.length 0) ((prs 0 cs).take j)).length = cs.length := by rw [fill_len, List.length_replicate]
        walk_at "v"
        rw [show ((pre.length : Int) + (j : Int) * 2) = ((pre.length + 2 * j : Nat) : Int) by omega]
        refine ⟨l, _, _, _, _, _, pj.2, rfl, K3 _ _ hl, a1, by omega, by omega, by omega, by omega, fun H4 K4 => ?_⟩
        walk_at "v"
        refine ⟨rfl, ?_⟩
        refine ⟨_, rfl, ?_⟩
        refine iteD (fun q => by exfalso; have q := V.int.inj q; omega) (fun _ => ?_)
        walk_at "v"
        rw [show (((pre.length + 2 * j : Nat) : Int) + 1) = ((pre.length + 2 * j + 1 : Nat) : Int) by omega]
        refine ⟨l, _, _, _, ps, nm, pj.1, _, rfl, K4 _ _ (K3 _ _ hl), a2, hp.same (K3.trans K4), nx, nd, fun H5 K5 => ?_⟩
        walk_at "v"
        refine iteQ (by omega) ?_
        walk_at "v"
        refine w_set (j := pj.1) (K5 _ _ (K4 _ _ e3)) (by rw [List.length_map, fl]; unfold ixN; rw [if_pos (by omega), if_pos (by omega)]; simp) ?_
        walk_at "v"
        refine ⟨(pj.1 : Int), _, _, _, rfl, ((K3.trans K4).trans K5).put hD, ?_, rj⟩
        rw [upd_same, fill_take gx, List.map_set]
      rintro σ H3 ⟨la, u7, u8, u9, rfl, K3, e3, hla⟩
      rw [List.take_length, fill_all fun c hc => (hs.b c hc).1] at e3
      walk_at "v"
      refine ⟨D, _, rfl, e3, fun p H4 K4 e4 => ?_⟩
      exact k p _ (K3.trans K4) e4
end
abbrev sRr : Stmt := top 39
abbrev nRr : List Str := ["lines", "line", "sorts", "words", "middle", "takes", "gives"]
theorem nmRr : Nm nRr (defScope sRr) := ⟨by decide +kernel, by decide +kernel⟩
theorem scRr : FnScope nRr ["lines", "line", "sorts"] (defScope sRr) := ⟨rfl, rfl, rfl, by decide +kernel, rfl, by decide +kernel, by decide +kernel⟩
def spRr : Sp := fun vs H Q _ => ∃ (l ps : Addr) (d : PD) (m i : Nat) (r : List Int × List Int), vs = [.ref l, .int ((i + 4 : Nat) : Int), .ref ps] ∧ H l = some (.lst ((ptL d).map V.str)) ∧ d.ok m ∧ d.rl[i]? = some r ∧ TupF H ps (d.nm.map V.str) ∧ ∀ p H', Same H H' → H p = none → RlD H' p r → Q (.ref p) H'
section
variable {P : Program} {w : World} {K : PySem.W.Frag} {mg : Str → Option Value} {base : Heap}
set_option maxHeartbeats 4000000 in
theorem ok_Rr {f : Addr} {fd : FuncData} (B : Bl mg) (C : KR K mg) (G : Has P w K mg base 1 "words_of" ["lines", "line", "first"] spWof) (N : Has P w K mg base 3 "read_side" ["words", "line", "start", "end", "sorts"] spRsd) (F : Fun K "read_rule" "read_rule" sRr f fd) : FnOk P w K mg base CX0 4 f fd ["lines", "line", "sorts"] spRr := by
  refine F.ok scRr (fun vs H Q E h => ?_) (fun cdv A outer s H vs Q E hr h => ?_)
  · obtain ⟨l, ps, d, m, i, r, rfl, _⟩ := h
    rfl
  · obtain ⟨l, ps, d, m, i, r, rfl, hl, hd, hi, hp, k⟩ := h
    refine' ⟨_, ?hb, ?rd⟩
    case' hb => skip
    case' hb => refine' pss_cons ?g1 ?g2
    case' g2 => refine' pss_cons ?g3 ?g4
    case' g4 => refine' pss_cons ?g5 ?g6
    case' g6 => refine' pss_cons ?g7 ?g8
    case' g8 => refine' pss_cons ?g9 ?g10
    case' g10 => refine' pss_cons ?g11 ?g12
    case' g12 => refine' pss_cons ?g13 ?g14
    case' g14 => refine' pss_one ?g15
    case g1 => exact ps_setD nmRr 3 (pe_f G hr (by decide) (pa_c (pvd nmRr 0) (pa_2 (pvd nmRr 1) pe_str)))
    case' g3 => refine' ps_if ?g16 ?g17 pss_nil
    case g16 => exact pt_cmpR op_ge (pvd nmRr 1) (pe_op op_add (pe_k C.l4) (pe_k C.mrul)) (nomark _)
    case g17 => exact pss_never
    case g5 => exact ps_setD nmRr 4 (pe_ifExp (pt_cmpR op_in_seq pe_str (pvd nmRr 3) (by with_unfolding_all rfl)) (pe_bm PySem.F.plainAttrs_list PySem.F.slot_list_index PySem.F.type_list_index mt_indexL (pvd nmRr 3) (pa_1 pe_str)) (pe_cB call_len_seq B.len PySem.boot_len (pa_1 (pvd nmRr 3))))
    case g7 => exact ps_setD nmRr 5 (pe_f N hr (by decide) (pa_c (pvd nmRr 3) (pa_c (pvd nmRr 1) (pa_c pe_int (pa_2 (pvd nmRr 4) (pvd nmRr 2))))))
    case' g9 => refine' ps_if ?g19 ?g20 pss_nil
    case g19 => exact PW.pt (pw_or (pt_cmpR op_eq (pvd nmRr 4) pe_int (nomark _)) (pw_or1 (pt_cmpR op_eq (pvd nmRr 4) (pe_cB call_len_seq B.len PySem.boot_len (pa_1 (pvd nmRr 3))) (nomark _))))
    case g20 => exact pss_never
    case g11 => exact ps_setD nmRr 6 (pe_f N hr (by decide) (pa_c (pvd nmRr 3) (pa_c (pvd nmRr 1) (pa_c (pe_op op_add (pvd nmRr 4) pe_int) (pa_2 (pe_cB call_len_seq B.len PySem.boot_len (pa_1 (pvd nmRr 3))) (pvd nmRr 2))))))
    case' g13 => refine' ps_if ?g22 ?g23 pss_nil
    case g22 => exact pt_cmpR (op_eqD hr) (pvd nmRr 5) (pvd nmRr 6) (nomark _)
    case g23 => exact pss_never
    case g15 => exact ps_ret (pe_tup (pa_2 (pvd nmRr 5) (pvd nmRr 6)))
    case rd =>
      have hir : i < d.rl.length := (List.getElem?_eq_some_iff.mp hi).1
      have r8 := hd.r8
      have hr' := List.mem_of_getElem? hi
      obtain ⟨s1, s2, ⟨x0, hx0, x0p⟩, sne⟩ := hd.rs r hr'
      obtain ⟨hw, h40⟩ := ruW_ok hd hr'
      have hli : (ptL d)[i + 4]? = some (ln (ruW d.nm r)) := by
        unfold ptL ptW
        rw [List.getElem?_map, List.getElem?_append_right (by simp), List.getElem?_map]
        rw [show i + 4 - [("sorts" : Str) :: d.nm, ("begin" : Str) :: d.beg.map fT, ("in" : Str) :: d.ins.map (nmI d.nm), [("out" : Str), nmI d.nm d.ans]].length = i by simp, hi]
        rfl
      have sw1 := sideW_wd s1 hd.nl hd.nb
      have l1 := sideW_len (nm := d.nm) s1
      have l2 := sideW_len (nm := d.nm) s2
      have m8 := hd.m8
      have q1 : 0 < (sideW d.nm r.1).length := by
        unfold sideW
        rw [sdW_len]
        have : prs 0 r.1 ≠ [] := fun z => by
          have zz : ∀ (k : Nat) (cs : List Int), x0 ∈ cs → 0 < x0 → prs k cs ≠ [] := by
            intro k cs
            induction cs generalizing k with
            | nil => intro h; cases h
            | cons c cs ih =>
              intro h hp
              show (if 0 < c then (k, c) :: prs (k + 1) cs else prs (k + 1) cs) ≠ []
              split
              · exact List.cons_ne_nil _ _
              · rcases List.mem_cons.mp h with rfl | h
                · omega
                · exact ih _ h hp
          exact zz 0 r.1 hx0 x0p z
        have := List.length_pos_iff.mpr this
        omega
      walk_at "v"
      refine ⟨l, ptL d, i + 4, "rule", sideW d.nm r.1 ++ ("to" : Str) :: sideW d.nm r.2, rfl, hl, hli, hw, h40, fun lw H1 K1 hlw e1 => ?_⟩
      have wl : ((("rule" : Str) :: (sideW d.nm r.1 ++ ("to" : Str) :: sideW d.nm r.2)).map V.str).length = (sideW d.nm r.1).length + (sideW d.nm r.2).length + 2 := by
        rw [List.length_map, List.length_cons, List.length_append, List.length_cons]
        omega
      walk_at "v"
      refine iteQ (by omega) ?_
      walk_at "v"
      refine ⟨lw, _, rfl, .inl (SqL.of e1), rfl, flat_strs _, ?_⟩
      rw [inV_strs, decide_eq_true (by simp)]
      walk_at "v"
      refine iteT ?_
      walk_at "v"
      refine ⟨.inl ⟨rfl, _, SqL.of e1⟩, ?_⟩
      walk_at "v"
      refine ⟨lw, _, "to", (sideW d.nm r.1).length + 1, rfl, rfl, e1, ?_, ?_, ?_⟩
      · rw [List.getElem?_cons_succ, List.getElem?_append_right (Nat.le_refl _), Nat.sub_self]
        rfl
      · intro j y hj hy
        cases j with
        | zero =>
          cases hy
          decide +kernel
        | succ j =>
          rw [List.getElem?_cons_succ, List.getElem?_append_left (by omega)] at hy
          exact (sw1 y (List.mem_of_getElem? hy)).2
      walk_at "v"
      refine ⟨lw, ps, _, d.nm, m, r.1, ["rule"], ("to" : Str) :: sideW d.nm r.2, by rw [show ((([("rule" : Str)] : List Str).length + (sideW d.nm r.1).length : Nat) : Int) = (((sideW d.nm r.1).length + 1 : Nat) : Int) by simp only [List.length_cons, List.length_nil]; omega]; rfl, e1, by decide, hp.same K1, hd.nd, hd.nl, m8, s1, fun pa H2 K2 ea => ?_⟩
      walk_at "v"
      refine ⟨rfl, ?_⟩
      refine ⟨_, rfl, ?_⟩
      refine iteD (fun q => by exfalso; have q := V.int.inj q; omega) (fun _ => ?_)
      walk_at "v"
      refine ⟨lw, _, rfl, .inl (SqL.of (K2 _ _ e1)), ?_⟩
      refine ⟨rfl, ?_⟩
      refine ⟨_, rfl, ?_⟩
      refine iteD (fun q => by exfalso; have q := V.int.inj q; rw [wl] at q; omega) (fun _ => ?_)
      walk_at "v"
      refine ⟨lw, _, rfl, .inl (SqL.of (K2 _ _ e1)), ?_⟩
      walk_at "v"
      have e1b : H2 lw = some (.lst (((("rule" : Str) :: (sideW d.nm r.1 ++ [("to" : Str)])) ++ (sideW d.nm r.2 ++ [])).map V.str)) := by
        rw [K2 _ _ e1, List.append_nil, List.cons_append, List.append_assoc]
        rfl
      refine ⟨lw, ps, ((i + 4 : Nat) : Int), d.nm, m, r.2, ("rule" : Str) :: (sideW d.nm r.1 ++ [("to" : Str)]), [], ?_, e1b, by rw [List.length_cons, List.length_append]; simp only [List.length_cons, List.length_nil]; omega, hp.same (K1.trans K2), hd.nd, hd.nl, m8, s2, fun pb H3 K3 eb => ?_⟩
      · have z1 : (((sideW d.nm r.1).length + 1 : Nat) : Int) + 1 = (((("rule" : Str) :: (sideW d.nm r.1 ++ [("to" : Str)])).length : Nat) : Int) := by
          rw [List.length_cons, List.length_append]
          simp only [List.length_cons, List.length_nil]
          omega
        have z2 : ((((("rule" : Str) :: (sideW d.nm r.1 ++ ("to" : Str) :: sideW d.nm r.2)).map V.str).length : Nat) : Int) = (((("rule" : Str) :: (sideW d.nm r.1 ++ [("to" : Str)])).length + (sideW d.nm r.2).length : Nat) : Int) := by
          rw [wl, List.length_cons, List.length_append]
          simp only [List.length_cons, List.length_nil]
          omega
        rw [z1, z2]
        try rfl
      walk_at "v"
      refine ⟨_, _, .tup (K3 _ _ ea) (rdInts _), .tup eb (rdInts _), by show PyData.canLayAll0 _ = true; exact lay_ints _, by show PyData.canLayAll0 _ = true; exact lay_ints _, by show PyData.depthAll _ + 1 ≤ 60; rw [depth_ints]; decide, ?_⟩
      rw [show PyData.eqv (.tuple (r.1.map PyData.int)) (.tuple (r.2.map PyData.int)) = false by show PyData.eqvAll _ _ = false; rw [eqv_ints]; exact decide_eq_false sne]
      walk_at "v"
      refine ⟨by show 2 ≤ sizeLine; decide, fun p hpn => ?_⟩
      have KK := (K1.trans K2).trans K3
      refine k p _ (KK.new hpn) (KK.free hpn) ⟨pa, pb, upd_same, ?_, ?_⟩
      · rw [upd_ne (ne_of_none (K3 _ _ ea) hpn)]; exact K3 _ _ ea
      · rw [upd_ne (ne_of_none eb hpn)]; exact eb
end
abbrev sRp : Stmt := top 33
abbrev nRp : List Str := ["lines", "sorts", "begin", "inputs", "answer", "rules"]
theorem nmRp : Nm nRp (defScope sRp) := ⟨by decide +kernel, by decide +kernel⟩
theorem scRp : FnScope nRp ["lines"] (defScope sRp) := ⟨rfl, rfl, rfl, by decide +kernel, rfl, by decide +kernel, by decide +kernel⟩
def qRpa (s : Stmt) : Scope := match s with
  | .Assign _ (.Call _ [(.ListComp _ _ sc _)] _ _) _ => sc
  | _ => { kind := .function, names := [], isGenerator := false, isCoroutine := false }
abbrev cRpa : Scope := qRpa ((defBody sRp).getD 4 (.Pass ⟨0, 0, 0, 0⟩))
theorem bsRpa : BScope (defScope sRp) cRpa ["line"] ["lines", "sorts"] ["read_rule"] := { okind := by decide +kernel, kind := by decide +kernel, nocell := by decide +kernel, names := by decide +kernel, fr := by decide +kernel, ff := by decide +kernel, nd := by decide +kernel, vis := by decide +kernel, loc := by decide +kernel, gl := by decide +kernel }
def spRp : Sp := fun vs H Q _ => ∃ (l : Addr) (d : PD) (m : Nat), vs = [.ref l] ∧ H l = some (.lst ((ptL d).map V.str)) ∧ d.ok m ∧ ∀ p H', Same H H' → H p = none → PotF true H' p d → Q (.ref p) H'
section
variable {P : Program} {w : World} {K : PySem.W.Frag} {mg : Str → Option Value} {base : Heap}
set_option maxHeartbeats 4000000 in
theorem ok_Rp {f : Addr} {fd : FuncData} (B : Bl mg) (C : KR K mg) (G1 : Has P w K mg base 2 "read_sorts" ["lines"] spRs) (G2 : Has P w K mg base 3 "read_begin" ["lines", "sorts"] spRb) (G3 : Has P w K mg base 2 "read_inputs" ["lines", "sorts"] spRi) (G4 : Has P w K mg base 2 "read_answer" ["lines", "sorts"] spRan) (G5 : Has P w K mg base 4 "read_rule" ["lines", "line", "sorts"] spRr) (F : Fun K "read_pot" "read_pot" sRp f fd) : FnOk P w K mg base CX0 5 f fd ["lines"] spRp := by
  refine F.ok scRp (fun vs H Q E h => ?_) (fun cdv A outer s H vs Q E hr h => ?_)
  · obtain ⟨l, d, m, rfl, _⟩ := h
    rfl
  · obtain ⟨l, d, m, rfl, hl, hd, k⟩ := h
    refine' ⟨_, ?hb, ?rd⟩
    case' hb => skip
    case' hb => refine' pss_cons ?g1 ?g2
    case' g2 => refine' pss_cons ?g3 ?g4
    case' g4 => refine' pss_cons ?g5 ?g6
    case' g6 => refine' pss_cons ?g7 ?g8
    case' g8 => refine' pss_cons ?g9 ?g10
    case' g10 => refine' pss_one ?g11
    case g1 => exact ps_setD nmRp 1 (pe_f G1 hr (by decide) (pa_1 (pvd nmRp 0)))
    case g3 => exact ps_setD nmRp 2 (pe_f G2 hr (by decide) (pa_2 (pvd nmRp 0) (pvd nmRp 1)))
    case g5 => exact ps_setD nmRp 3 (pe_f G3 hr (by decide) (pa_2 (pvd nmRp 0) (pvd nmRp 1)))
    case g7 => exact ps_setD nmRp 4 (pe_f G4 hr (by decide) (pa_2 (pvd nmRp 0) (pvd nmRp 1)))
    case' g9 => refine' ps_setD nmRp 5 ?g12
    case' g12 => refine' pe_cT call_tupL B.tuple PyProof.Rows.boot_tuple ?g13
    case' g13 => refine' pa_1 ?g14
    case' g14 => refine' pe_comp (ix := [0, 1]) bsRpa.toCScope rfl rfl ?g15 ?g16 ?g17 ?g18
    case g15 => exact pi_r2 B.range (pa_2 (pe_k C.l4) (pe_cB call_len_seq B.len PySem.boot_len (pa_1 (pvd nmRp 0))))
    case g16 => exact fun _ _ _ _ _ _ => pgb bsRpa 0
    case g17 => exact fun _ _ _ _ _ _ => pts_nil
    case g18 => exact fun _ _ _ _ _ _ => pe_f G5 hr (by decide) (pa_c (pvb bsRpa 1) (pa_2 (pvb bsRpa 0) (pvb bsRpa 2))) (bsRpa.g 0)
    case g11 => exact ps_ret (pe_tup (pa_c (pvd nmRp 1) (pa_c (pvd nmRp 5) (pa_c (pvd nmRp 3) (pa_2 (pvd nmRp 2) (pvd nmRp 4))))))
    case rd =>
      have r8 := hd.r8
      have ll : ((ptL d).map V.str).length = d.rl.length + 4 := by
        unfold ptL ptW
        rw [List.length_map, List.length_map, List.length_append, List.length_map]
        simp only [List.length_cons, List.length_nil]
        omega
      walk_at "v"
      refine ⟨l, d, m, rfl, hl, hd, fun ps H1 K1 hp1 => ?_⟩
      walk_at "v"
      refine ⟨l, ps, d, m, rfl, K1 _ _ hl, hd, hp1, fun pb H2 K2 eb => ?_⟩
      have K02 := K1.trans K2
      walk_at "v"
      refine ⟨l, ps, d, m, rfl, K02 _ _ hl, hd, hp1.same K2, fun pin H3 K3 ein => ?_⟩
      have K03 := K02.trans K3
      have K13 := K2.trans K3
      walk_at "v"
      refine ⟨l, ps, d, m, rfl, K03 _ _ hl, hd, hp1.same K13, fun H4 K4 => ?_⟩
      have K04 := K03.trans K4
      have K14 := K13.trans K4
      walk_at "v"
      refine w_compR2 ?_
      walk_at "v"
      refine ⟨l, _, rfl, .inl (SqL.of (K04 _ _ hl)), ?_⟩
      refine ⟨4, _, rfl, ⟨by decide, by decide, by omega, by omega⟩, fun D hD => ?_⟩
      rw [show (((((ptL d).map V.str).length : Nat) : Int) - 4).toNat = d.rl.length by omega]
      refine cgo_range (n := d.rl.length) (fun i ys H' => ∃ rs : List Addr, ys = rs.map V.ref ∧ rs.length = i ∧ Same H4 H' ∧ RlsD H' rs (d.rl.take i)) ⟨[], rfl, rfl, Same.new (Same.refl H4) hD, trivial⟩ ?_ ?_
      · rintro i ys H5 hi ⟨rs, rfl, hrl, K5, h5⟩ hDy R S kR _
        have gx : d.rl[i]? = some d.rl[i] := List.getElem?_eq_getElem hi
        walk_at "v"
        rw [show ((4 : Int) + (i : Int)) = ((i + 4 : Nat) : Int) by omega]
        refine ⟨l, ps, d, m, i, d.rl[i], rfl, K5 _ _ (K04 _ _ hl), hd, gx, hp1.same (K14.trans K5), fun p H6 K6 hpn h6 => ?_⟩
        have hD6 : H6 D = some (.lst (rs.map V.ref)) := K6 _ _ hDy
        refine kR _ _ hD6 (by rw [List.length_map]; exact small1000 (by omega)) ⟨rs ++ [p], by rw [List.map_append]; rfl, by rw [List.length_append, hrl]; rfl, (K5.trans K6).put hD, ?_⟩
        rw [List.take_add_one, gx]
        exact ((h5.same K6).off hD6).snoc (h6.off hD6)
      rintro ys H5 ⟨rs, rfl, hrl, K5, h5⟩ e5
      rw [List.take_length] at h5
      walk_at "v"
      refine ⟨D, _, rfl, e5, fun pr H6 K6 e6 => ?_⟩
      have K46 := K5.trans K6
      have K06 := K04.trans K46
      walk_at "v"
      refine ⟨by show 5 ≤ sizeLine; decide, fun p hp => ?_⟩
      have KU : Same H6 (upd H6 p (.tup [.ref ps, .ref pr, .ref pin, .ref pb, .int d.ans])) := Same.new (Same.refl _) hp
      refine k p _ (K06.new hp) (K06.free hp) ⟨ps, pr, pin, pb, rs, upd_same, ?_, KU _ _ e6, (h5.same K6).same KU, KU _ _ (K46 _ _ (K4 _ _ ein)), KU _ _ (K46 _ _ (K4 _ _ (K3 _ _ eb)))⟩
      exact ((hp1.same K14).same K46).same KU
end
end K03

set_option Elab.async false
set_option linter.all false
set_option maxRecDepth 100000
namespace L2
open PySem PySem.Spec PyProof.Rows
/-- xs[i] within xs[i] op= e, a list, from the front -/
def rGetL : V → V → Hp → VK → Prop := fun o i H Q => ∃ (p : Addr) (xs : List V) (j : Nat) (v : V), o = .ref p ∧ i = .int (j : Int) ∧ H p = some (.lst xs) ∧ xs[j]? = some v ∧ Q v H
theorem w_forZ {K : PySem.W.Frag} {ta : TA} {g : TG} {tb : TS} {D : Ends} {σ : St} {H : Hp} (h : ta σ H fun vs H1 => ∃ a b, vs = [.ref a, .ref b] ∧ (∃ xs, SqT K H1 a xs) ∧ (∃ ys, SqT K H1 b ys) ∧ ForJ (Itz K a b) g tb D σ H1) : tFor (iZp K ta) g tb D σ H := h
theorem for_zip {K : PySem.W.Frag} {a b : Addr} {xs ys : List V} {g : TG} {tb : TS} {D : Ends} {σ : St} {H : Hp} (hlen : xs.length = ys.length) (Pv : Nat → St → Hp → Prop) (h0 : Pv 0 σ H) (hl : ∀ i σ H, Pv i σ H → SqT K H a xs ∧ SqT K H b ys)
    (hs : ∀ (i : Nat) (x y : V) σ H p, xs[i]? = some x → ys[i]? = some y → Pv i σ H → H p = none → g (.ref p) σ (upd H p (.tup [x, y])) fun σ2 H2 => tb { D with nx := Pv (i + 1), ct := Pv (i + 1), bk := D.nx } σ2 H2) (hd : ∀ σ H, Pv xs.length σ H → D.nx σ H) :
    ForJ (Itz K a b) g tb D σ H := by
  refine ⟨fun i m σ H => m = xs.length - i ∧ i ≤ xs.length ∧ Pv i σ H, ⟨xs.length, by simp, Nat.zero_le _, h0⟩, ?_⟩
  rintro i m σ H ⟨rfl, hi, p⟩
  obtain ⟨qa, qb⟩ := hl i σ H p
  by_cases hlt : i < xs.length
  · have hlt2 : i < ys.length := by omega
    refine .inr ⟨⟨xs, ys, xs[i], ys[i], qa, qb, by simp [hlt], by simp [hlt2]⟩, Pv (i + 1), fun σ' H' p' => ⟨xs.length - (i + 1), by omega, rfl, hlt, p'⟩, fun v H' yv => ?_⟩
    obtain ⟨q, x, y, rfl, hq, rfl, ex, ey⟩ := yv
    exact hs i x y σ H q (ex xs qa) (ey ys qb) p hq
  · have e : i = xs.length := by omega
    subst e
    exact .inl ⟨⟨xs, ys, qa, qb, .inl (Nat.le_refl _)⟩, hd σ H p⟩
section
variable {X : Cx} {e st : Expr} {te ts : TE} {pos p2 : Pos}
/-- xs[::-1], xs a list: a new list -/
def tRevL (K : PySem.W.Frag) (te : TE) (ts : TO) : TE := fun σ H Q => te σ H fun x H1 => ts σ H1 fun k H2 => k = some (-1) ∧ ∃ a xs, x = .ref a ∧ SqL K H2 a xs ∧ ∀ p, H2 p = none → Q (.ref p) (upd H2 p (.lst xs.reverse))
theorem pe_revL {ts : TO} (he : PE X e te) (hs : PO X (some st) ts) : PE X (.Subscript e (.Slice none none (some st) p2) pos) (tRevL X.K te ts) := by
  intro pins s σ H Q I h
  refine Subscript_ (thn (he pins s σ H _ I h) fun v s1 ⟨x, H1, I1, r1, q1⟩ => ?_)
  refine wpAny_Slice ?_
  rw [evalPart_none]
  refine wpAny_pure ?_
  refine wpAny_pure ?_
  refine thn (hs pins s1 σ H1 _ I1 q1) fun vk s3 ⟨o, H3, I3, pk, eo, a, xs, ex, hx, q3⟩ => ?_
  subst eo ex
  cases r1
  have I4 : Inv X pins σ H3 { s3 with heap := s3.heap.push { cls := .type "slice", data := .fields #[.none, .none, vk] } } := I3.kept (t' := s3.toks) fun b ob q => Heap.get?_push_of_some _ q
  obtain ⟨its, r, ht, hz⟩ := I4.list hx
  have hlen := r.length
  show wpAny (model X.prog X.w) X.A (subscriptTail e (.Slice none none (some st) p2) (.ref a) (.ref s3.heap.objs.size)) (EP X pins σ Q) X.xe { s3 with heap := s3.heap.push { cls := .type "slice", data := .fields #[.none, .none, vk] } }
  refine tail_any (ops := [.ref a, .ref s3.heap.objs.size]) ht.isList.typeIs slot_list_getitem.lookup (wpAny_getItem_list_slice ht.isList (Heap.IsSliceOf.new ..) .none .none pk (by decide) ?_ (by rw [List.size_toArray] <;> omega)) (by with_unfolding_all rfl)
  rw [PySem.W.krv_pick]
  refine ⟨.ref _, _, I4.laid (t' := s3.toks) (o := .lst xs.reverse) (fun b ob q => Heap.get?_push_of_some _ q) (Nat.le_refl _) ?_, rfl, q3 _ (I4.hok.fresh (Nat.le_refl _))⟩
  exact ⟨by rw [List.length_reverse]; exact hz, _, 0, r.reverse, Heap.get?_push_size _ rfl⟩
theorem w_revL {K : PySem.W.Frag} {ts : TO} {σ : St} {H : Hp} {Q : VK} (h : te σ H fun x H1 => ts σ H1 fun k H2 => k = some (-1) ∧ ∃ a xs, x = .ref a ∧ SqL K H2 a xs ∧ ∀ p, H2 p = none → Q (.ref p) (upd H2 p (.lst xs.reverse))) : tRevL K te ts σ H Q := h
end
theorem SqT.sm {K : PySem.W.Frag} {H H' : Hp} {a : Addr} {xs : List V} (e : Same H H') (h : SqT K H a xs) : SqT K H' a xs := by
  rcases h with (h | ⟨o, h⟩) | h
  · exact .inl (.inl (e _ _ h))
  · exact .inl (.inr ⟨o, e _ _ h⟩)
  · exact .inr h
theorem SqL.sm {K : PySem.W.Frag} {H H' : Hp} {a : Addr} {xs : List V} (e : Same H H') (h : SqL K H a xs) : SqL K H' a xs := by
  rcases h with (h | ⟨o, h⟩) | h
  · exact .inl (.inl (e _ _ h))
  · exact .inl (.inr ⟨o, e _ _ h⟩)
  · exact .inr h
section
variable {D : Addr} {te : TE} {Q : VK} {ρ : St} {H : Hp}
/-- [e(x) for x in tuple], each e(x) known -/
theorem cg_tup {K : PySem.W.Frag} {a : Addr} {α : Type} {ws : List α} (c r : α → V) (hs : SqT K H a (ws.map c)) (hn : ws.length ≤ 1000) (hD : H D = none)
    (h : ∀ w ∈ ws, ∀ H', Same H H' → ∀ R : V → Hp → Prop, (∀ H'', Same H' H'' → R (r w) H'') → te (some (c w) :: ρ) H' R)
    (q : ∀ H', Same H H' → H' D = some (.lst (ws.map r)) → Q (.ref D) H') : CGo (Itt K a) D (gName 0) tAll te Q (none :: ρ) H := by
  refine cgo_tup (xs := ws.map c) (fun i ys H' => ys = (ws.take i).map r ∧ Same H H') ⟨rfl, Same.new (Same.refl H) hD⟩ (fun i ys H' _ ⟨_, k'⟩ => SqT.sm k' hs) ?_ ?_
  · rintro i x ys H' hx ⟨rfl, K'⟩ hDy R S kR _
    have hi : i < ws.length := by
      have := (List.getElem?_eq_some_iff.mp hx).1
      simpa using this
    have ex : x = c ws[i] := by
      rw [List.getElem?_map, List.getElem?_eq_getElem hi] at hx
      exact (Option.some.inj hx).symm
    subst ex
    refine w_all (iteT ?_)
    refine h _ (List.getElem_mem hi) H' K' _ fun H2 K2 => ?_
    refine kR _ _ (K2 _ _ hDy) (by rw [List.length_map, List.length_take]; exact small1000 (by omega)) ⟨?_, (K'.trans K2).put hD⟩
    rw [List.take_add_one, List.getElem?_eq_getElem hi, List.map_append]
    rfl
  · rintro ys H1 ⟨rfl, K1⟩ e1
    rw [List.length_map, List.take_length] at e1
    exact q H1 K1 e1
end
end L2

set_option Elab.async false
set_option linter.all false
set_option maxRecDepth 100000
namespace K03
open PySem L2 G2 PT
local macro_rules | `(tactic| walk_at "v") => `(tactic| repeat (with_reducible first
  | refine w_seq ?_ | refine w_asg ?_ | refine w_gname ?_ | refine w_op ?_ | refine w_var rfl ?_ | refine w_c ?_ | refine w_rI0 ?_ | refine w_ifs ?_ | refine w_ife ?_ | refine w_test ?_ | refine w_tb ?_ | refine w_bl ?_ | refine w_not ?_ | refine w_ret ?_ | refine w_retN ?_
  | refine w_nil ?_ | refine w_cons ?_ | refine w_lst ?_ | refine w_tup ?_ | refine w_cb ?_ | refine w_call ?_ | refine w_gsub ?_ | refine w_and ?_ | refine w_or ?_ | refine w_next ?_ | refine w_all ?_ | refine w_vals ?_ | refine w_compR ?_ | refine w_compT ?_ | refine w_forR ?_ | refine w_forT ?_ | refine w_forL ?_ | refine w_drop ?_ | refine w_bm ?_ | refine w_compZ ?_ | refine w_compL ?_ | refine w_chain ?_ | refine w_sl ?_ | refine w_nopart ?_ | refine w_part ?_ | refine w_unI ?_ | refine iteT ?_ | refine iteF ?_))
abbrev sIar : Stmt := top 31
abbrev nIar : List Str := ["first", "words"]
theorem nmIar : Nm nIar (defScope sIar) := ⟨by decide +kernel, by decide +kernel⟩
theorem scIar : FnScope nIar ["first", "words"] (defScope sIar) := ⟨rfl, rfl, rfl, by decide +kernel, rfl, by decide +kernel, by decide +kernel⟩
def spIar (K : PySem.W.Frag) : Sp := fun vs H Q _ => ∃ (p : Addr) (f : Str) (ws : List Str), vs = [.str f, .ref p] ∧ (SqL K H p (ws.map V.str) ∨ SqT K H p (ws.map V.str)) ∧ (∀ w ∈ f :: ws, Wd w) ∧ (f :: ws).length ≤ 40 ∧ ∀ H', Same H H' → Q (.str (ln (f :: ws))) H'
section
variable {P : Program} {w : World} {K : PySem.W.Frag} {mg : Str → Option Value} {base : Heap}
set_option maxHeartbeats 4000000 in
theorem ok_Iar {f : Addr} {fd : FuncData} (B : Bl mg) (F : Fun K "in_a_row" "in_a_row" sIar f fd) : FnOk P w K mg base CX0 1 f fd ["first", "words"] (spIar K) := by
  refine F.ok scIar (fun vs H Q E h => ?_) (fun cdv A outer s H vs Q E hr h => ?_)
  · obtain ⟨p, f, ws, rfl, _⟩ := h
    rfl
  · obtain ⟨p, f, ws, rfl, hp, hw, hl, k⟩ := h
    refine' ⟨_, ?hb, ?rd⟩
    case' hb => skip
    case' hb => refine' pss_one ?g1
    case g1 => exact ps_ret (pe_bm PySem.F.plainAttrs_str PySem.F.slot_str_join PySem.F.type_str_join mt_join pe_str (pa_1 (pe_op op_cat (pe_lst (pa_1 (pvd nmIar 0))) (pe_cT call_list_of B.list PyProof.Rows.boot_list (pa_1 (pvd nmIar 1))))))
    case rd =>
      obtain ⟨j1, j2⟩ := ln_fit hw hl
      walk_at "v"
      refine ⟨rfl, ?_⟩
      walk_at "v"
      refine ⟨by show 1 ≤ sizeLine; decide, fun l1 hl1 => ?_⟩
      have K1 : Same H (upd H l1 (.lst [.str f])) := Same.new (Same.refl _) hl1
      have e1 : upd H l1 (.lst [.str f]) l1 = some (.lst [.str f]) := upd_same
      generalize upd H l1 (.lst [.str f]) = H1 at K1 e1 ⊢
      walk_at "v"
      refine ⟨p, _, rfl, hp.imp (SqL.sm K1) (SqT.sm K1), fun l2 hl2 => ?_⟩
      have K2 : Same H1 (upd H1 l2 (.lst (ws.map V.str))) := Same.new (Same.refl _) hl2
      have e2 : upd H1 l2 (.lst (ws.map V.str)) l2 = some (.lst (ws.map V.str)) := upd_same
      generalize upd H1 l2 (.lst (ws.map V.str)) = H2 at K2 e2 ⊢
      walk_at "v"
      refine ⟨l1, l2, _, _, rfl, rfl, K2 _ _ e1, e2, by rw [List.length_map]; simp only [List.length_cons, List.length_nil] at hl ⊢; exact Nat.le_of_lt (small1000 (by omega)), fun l3 hl3 => ?_⟩
      have K3 : Same H2 (upd H2 l3 (.lst ([.str f] ++ ws.map V.str))) := Same.new (Same.refl _) hl3
      have e3 : upd H2 l3 (.lst ([.str f] ++ ws.map V.str)) l3 = some (.lst ([.str f] ++ ws.map V.str)) := upd_same
      generalize upd H2 l3 (.lst ([.str f] ++ ws.map V.str)) = H3 at K3 e3 ⊢
      walk_at "v"
      refine ⟨" ", l3, f :: ws, rfl, rfl, e3, j1, j2, ?_⟩
      rw [ln_eq]
      exact k _ ((K1.trans K2).trans K3)
end
abbrev sSsd : Stmt := top 32
abbrev nSsd : List Str := ["sorts", "counts", "words", "name", "count"]
theorem nmSsd : Nm nSsd (defScope sSsd) := ⟨by decide +kernel, by decide +kernel⟩
theorem scSsd : FnScope nSsd ["sorts", "counts"] (defScope sSsd) := ⟨rfl, rfl, rfl, by decide +kernel, rfl, by decide +kernel, by decide +kernel⟩
def spSsd : Sp := fun vs H Q _ => ∃ (ps pc : Addr) (nm : List Str) (m : Nat) (cs : List Int), vs = [.ref ps, .ref pc] ∧ H ps = some (.tup (nm.map V.str)) ∧ H pc = some (.tup (cs.map V.int)) ∧ nm.length = m ∧ m ≤ 8 ∧ Sd m cs ∧ ∀ l H', Same H H' → H l = none → H' l = some (.lst ((sideW nm cs).map V.str)) → Q (.ref l) H'
section
variable {P : Program} {w : World} {K : PySem.W.Frag} {mg : Str → Option Value} {base : Heap}
set_option maxHeartbeats 4000000 in
theorem ok_Ssd {f : Addr} {fd : FuncData} (B : Bl mg) (F : Fun K "shown_side" "shown_side" sSsd f fd) : FnOk P w K mg base CX0 1 f fd ["sorts", "counts"] spSsd := by
  refine F.ok scSsd (fun vs H Q E h => ?_) (fun cdv A outer s H vs Q E hr h => ?_)
  · obtain ⟨ps, pc, nm, m, cs, rfl, _⟩ := h
    rfl
  · obtain ⟨ps, pc, nm, m, cs, rfl, hp, hc, hnm, m8, hs, k⟩ := h
    refine' ⟨_, ?hb, ?rd⟩
    case' hb => skip
    case' hb => refine' pss_cons ?g1 ?g2
    case' g2 => refine' pss_cons ?g3 ?g4
    case' g4 => refine' pss_one ?g5
    case g1 => exact ps_setD nmSsd 2 (pe_lst pa_nil)
    case' g3 => refine' ps_for PassesOwn.never rfl ?g6 (pg_tup rfl (pgs_cons (pgd nmSsd 3) (pgs_cons (pgd nmSsd 4) pgs_nil))) ?g7
    case g6 => exact pi_zp B.zip (pa_2 (pvd nmSsd 0) (pvd nmSsd 1))
    case' g7 => refine' pss_one ?g8
    case' g8 => refine' ps_if ?g9 ?g10 pss_nil
    case g9 => exact pt_cmpR op_gt (pvd nmSsd 4) pe_int (nomark _)
    case' g10 => refine' pss_one ?g12
    case g12 => exact ps_expr (pe_bm PySem.F.plainAttrs_list PySem.F.slot_list_extend PySem.F.type_list_extend mt_extend (pvd nmSsd 2) (pa_1 (pe_lst (pa_2 (pe_cT call_strI B.str PyProof.Rows.boot_str (pa_1 (pvd nmSsd 4))) (pvd nmSsd 3)))))
    case g5 => exact ps_ret (pvd nmSsd 2)
    case rd =>
      have csl := hs.l
      walk_at "v"
      refine ⟨by show 0 ≤ sizeLine; decide, fun l2 hl2 => ?_⟩
      have K2 : Same H (upd H l2 (.lst [])) := Same.new (Same.refl _) hl2
      have e2 : upd H l2 (.lst []) l2 = some (.lst []) := upd_same
      generalize upd H l2 (.lst []) = H2 at K2 e2 ⊢
      walk_at "v"
      refine w_forZ ?_
      walk_at "v"
      refine ⟨ps, pc, rfl, ⟨_, SqT.of (K2 _ _ hp)⟩, ⟨_, SqT.of (K2 _ _ hc)⟩, ?_⟩
      refine for_zip (xs := nm.map V.str) (ys := cs.map V.int) (by rw [List.length_map, List.length_map]; omega) (fun i σ H' => ∃ u3 u4, σ = [some (.ref ps), some (.ref pc), some (.ref l2), u3, u4] ∧ Same H H' ∧ H' l2 = some (.lst ((sdW nm (prs 0 (cs.take i))).map V.str))) ⟨none, none, rfl, K2, e2⟩ (fun i σ H' ⟨_, _, _, k', _⟩ => ⟨SqT.of (k' _ _ hp), SqT.of (k' _ _ hc)⟩) ?_ ?_
      · rintro i x y σ H3 r hx hy ⟨u3, u4, rfl, K3, e3⟩ hr3
        have hi1 : i < nm.length := by
          have := (List.getElem?_eq_some_iff.mp hx).1
          simpa using this
        have hi2 : i < cs.length := by omega
        have ex : x = .str nm[i] := by
          rw [List.getElem?_map, List.getElem?_eq_getElem hi1] at hx
          exact (Option.some.inj hx).symm
        have ey : y = .int cs[i] := by
          rw [List.getElem?_map, List.getElem?_eq_getElem hi2] at hy
          exact (Option.some.inj hy).symm
        subst ex ey
        have hcl : (sdW nm (prs 0 (cs.take i))).length ≤ 16 := by
          rw [sdW_len]
          have := prs_len 0 (cs.take i)
          rw [List.length_take] at this
          omega
        have tk : cs.take (i + 1) = cs.take i ++ [cs[i]] := by rw [List.take_add_one, List.getElem?_eq_getElem hi2]; rfl
        have tl : (cs.take i).length = i := by rw [List.length_take]; omega
        have st : sdW nm (prs 0 (cs.take (i + 1))) = sdW nm (prs 0 (cs.take i)) ++ (if 0 < cs[i] then [fT cs[i], nm.getD i ""] else []) := by
          rw [tk, prs_app, sdW_app, tl, Nat.zero_add]
          congr 1
          show sdW nm (if 0 < cs[i] then [(i, cs[i])] else []) = _
          split <;> rfl
        have ng : nm.getD i "" = nm[i] := by rw [List.getD_eq_getElem?_getD, List.getElem?_eq_getElem hi1]; rfl
        have bd := hs.b _ (List.getElem_mem hi2)
        have cn := cnt_ok (i := cs[i]) bd.1 (by omega)
        refine w_gtup upd_same rfl ?_
        refine ⟨_, _, rfl, ?_⟩
        walk_at "v"
        refine ⟨_, _, rfl, ?_⟩
        walk_at "v"
        refine ⟨rfl, ?_⟩
        have K4 : Same H3 (upd H3 r (.tup [.str nm[i], .int cs[i]])) := Same.new (Same.refl _) hr3
        generalize upd H3 r (.tup [.str nm[i], .int cs[i]]) = H4 at K4 ⊢
        walk_at "v"
        by_cases hpos : 0 < cs[i]
        · rw [if_pos hpos] at st
          refine iteP hpos ?_
          walk_at "v"
          refine ⟨.inl ⟨rfl, _, SqL.of (K4 _ _ e3)⟩, ?_⟩
          walk_at "v"
          refine ⟨_, rfl, cn.lg, ?_⟩
          walk_at "v"
          refine ⟨by show 2 ≤ sizeLine; decide, fun l5 hl5 => ?_⟩
          have K5 : Same H4 (upd H4 l5 (.lst [.str (Str.ofString (toString cs[i])), .str nm[i]])) := Same.new (Same.refl _) hl5
          have e5 : upd H4 l5 (.lst [.str (Str.ofString (toString cs[i])), .str nm[i]]) l5 = some (.lst [.str (fT cs[i]), .str nm[i]]) := upd_same
          generalize upd H4 l5 (.lst [.str (Str.ofString (toString cs[i])), .str nm[i]]) = H5 at K5 e5 ⊢
          have K35 := K4.trans K5
          walk_at "v"
          refine ⟨l2, l5, _, _, rfl, rfl, K35 _ _ e3, e5, by rw [List.length_map]; simp only [List.length_cons, List.length_nil]; exact Nat.le_of_lt (small1000 (by omega)), ?_⟩
          walk_at "v"
          refine ⟨_, _, rfl, (K3.trans K35).put hl2, ?_⟩
          rw [upd_same, st, ng, List.map_append]
          rfl
        · rw [if_neg hpos, List.append_nil] at st
          refine iteQ hpos ?_
          walk_at "v"
          exact ⟨_, _, rfl, K3.trans K4, by rw [st]; exact K4 _ _ e3⟩
      rintro σ H3 ⟨u3, u4, rfl, K3, e3⟩
      rw [List.length_map, List.take_of_length_le (by omega)] at e3
      walk_at "v"
      exact k l2 H3 K3 hl2 e3
end
abbrev sSpo : Stmt := top 30
abbrev nSpo : List Str := ["pot", "sorts", "lines", "rule", "sides"]
theorem nmSpo : Nm nSpo (defScope sSpo) := ⟨by decide +kernel, by decide +kernel⟩
theorem scSpo : FnScope nSpo ["pot"] (defScope sSpo) := ⟨rfl, rfl, rfl, by decide +kernel, rfl, by decide +kernel, by decide +kernel⟩
def qSpoa (s : Stmt) : Scope := match s with
  | .Assign _ (.List [_, (.Call _ [_, (.ListComp _ _ sc _)] _ _), _, _] _) _ => sc
  | _ => { kind := .function, names := [], isGenerator := false, isCoroutine := false }
abbrev cSpoa : Scope := qSpoa ((defBody sSpo).getD 1 (.Pass ⟨0, 0, 0, 0⟩))
theorem bsSpoa : BScope (defScope sSpo) cSpoa ["count"] [] ["str"] := { okind := by decide +kernel, kind := by decide +kernel, nocell := by decide +kernel, names := by decide +kernel, fr := by decide +kernel, ff := by decide +kernel, nd := by decide +kernel, vis := by decide +kernel, loc := by decide +kernel, gl := by decide +kernel }
def qSpob (s : Stmt) : Scope := match s with
  | .Assign _ (.List [_, _, (.Call _ [_, (.ListComp _ _ sc _)] _ _), _] _) _ => sc
  | _ => { kind := .function, names := [], isGenerator := false, isCoroutine := false }
abbrev cSpob : Scope := qSpob ((defBody sSpo).getD 1 (.Pass ⟨0, 0, 0, 0⟩))
theorem bsSpob : BScope (defScope sSpo) cSpob ["sort"] ["sorts"] [] := { okind := by decide +kernel, kind := by decide +kernel, nocell := by decide +kernel, names := by decide +kernel, fr := by decide +kernel, ff := by decide +kernel, nd := by decide +kernel, vis := by decide +kernel, loc := by decide +kernel, gl := by decide +kernel }
def spSpo : Sp := fun vs H Q _ => ∃ (p : Addr) (d : PD) (m : Nat), vs = [.ref p] ∧ PotF false H p d ∧ d.ok m ∧ ∀ l H', Same H H' → H l = none → H' l = some (.lst ((ptL d).map V.str)) → Q (.ref l) H'
section
variable {P : Program} {w : World} {K : PySem.W.Frag} {mg : Str → Option Value} {base : Heap}
set_option maxHeartbeats 4000000 in
theorem ok_Spo {f : Addr} {fd : FuncData} (B : Bl mg) (Z : KP mg) (G : Has P w K mg base 1 "in_a_row" ["first", "words"] (spIar K)) (N : Has P w K mg base 1 "shown_side" ["sorts", "counts"] spSsd) (F : Fun K "shown_pot" "shown_pot" sSpo f fd) : FnOk P w K mg base CX0 2 f fd ["pot"] spSpo := by
  refine F.ok scSpo (fun vs H Q E h => ?_) (fun cdv A outer s H vs Q E hr h => ?_)
  · obtain ⟨p, d, m, rfl, _⟩ := h
    rfl
  · obtain ⟨p, d, m, rfl, hP, hd, k⟩ := h
    refine' ⟨_, ?hb, ?rd⟩
    case' hb => skip
    case' hb => refine' pss_cons ?g1 ?g2
    case' g2 => refine' pss_cons ?g3 ?g4
    case' g4 => refine' pss_cons ?g5 ?g6
    case' g6 => refine' pss_one ?g7
    case g1 => exact ps_setD nmSpo 1 (pe_ix ix_d (pvd nmSpo 0) (pe_k Z.sorts) (fun _ _ => rfl))
    case' g3 => refine' ps_setD nmSpo 2 ?g8
    case' g8 => refine' pe_lst ?g9
    case' g9 => refine' pa_c (pe_f G hr (by decide) (pa_2 pe_str (pvd nmSpo 1))) ?g10
    case' g10 => refine' pa_c ?g11 ?g12
    case' g11 => refine' pe_f G hr (by decide) ?g13
    case' g13 => refine' pa_2 pe_str ?g14
    case' g14 => refine' pe_comp (ix := []) bsSpoa.toCScope rfl rfl ?g15 ?g16 ?g17 ?g18
    case g15 => exact pi_tup (pe_ix ix_d (pvd nmSpo 0) (pe_k Z.begin) (fun _ _ => rfl))
    case g16 => exact fun _ _ _ _ _ _ => pgb bsSpoa 0
    case g17 => exact fun _ _ _ _ _ _ => pts_nil
    case g18 => exact fun _ _ _ _ _ _ => pe_cT call_strI B.str PyProof.Rows.boot_str (pa_1 (pvb bsSpoa 0)) (bsSpoa.g 0)
    case' g12 => refine' pa_2 ?g19 (pe_f G hr (by decide) (pa_2 pe_str (pe_lst (pa_1 (pe_ix ix_d (pvd nmSpo 1) (pe_ix ix_d (pvd nmSpo 0) (pe_k Z.answer) (fun _ _ => rfl)) (fun _ _ => rfl))))))
    case' g19 => refine' pe_f G hr (by decide) ?g20
    case' g20 => refine' pa_2 pe_str ?g21
    case' g21 => refine' pe_comp (ix := [1]) bsSpob.toCScope rfl rfl ?g22 ?g23 ?g24 ?g25
    case g22 => exact pi_tup (pe_ix ix_d (pvd nmSpo 0) (pe_k Z.inputs) (fun _ _ => rfl))
    case g23 => exact fun _ _ _ _ _ _ => pgb bsSpob 0
    case g24 => exact fun _ _ _ _ _ _ => pts_nil
    case g25 => exact fun _ _ _ _ _ _ => pe_ix ix_d (pvb bsSpob 1) (pvb bsSpob 0) (fun _ _ => rfl)
    case' g5 => refine' ps_for PassesOwn.never rfl ?g26 (pgd nmSpo 3) ?g27
    case g26 => exact pi_tup (pe_ix ix_d (pvd nmSpo 0) (pe_k Z.rules) (fun _ _ => rfl))
    case' g27 => refine' pss_cons ?g28 ?g29
    case' g29 => refine' pss_one ?g30
    case g28 => exact ps_setD nmSpo 4 (pe_op op_cat (pe_op op_cat (pe_f N hr (by decide) (pa_2 (pvd nmSpo 1) (pe_ix ix_d (pvd nmSpo 3) (pe_k Z.takes) (fun _ _ => rfl)))) (pe_lst (pa_1 pe_str))) (pe_f N hr (by decide) (pa_2 (pvd nmSpo 1) (pe_ix ix_d (pvd nmSpo 3) (pe_k Z.gives) (fun _ _ => rfl)))))
    case g30 => exact ps_expr (pe_bm PySem.F.plainAttrs_list PySem.F.slot_list_append PySem.F.type_list_append mt_append (pvd nmSpo 2) (pa_1 (pe_f G hr (by decide) (pa_2 pe_str (pvd nmSpo 4)))))
    case g7 => exact ps_ret (pvd nmSpo 2)
    case rd =>
      obtain ⟨ps, pr, pin, pb, rs, h1, h2, h3, h4, h5, h6⟩ := hP.ex
      have h2 : H ps = some (.tup (d.nm.map V.str)) := h2
      have W := ptW_ok hd
      obtain ⟨w1, l1, _⟩ := W (("sorts" : Str) :: d.nm) (by unfold ptW; simp)
      obtain ⟨w2, l2, _⟩ := W (("begin" : Str) :: d.beg.map fT) (by unfold ptW; simp)
      obtain ⟨w3, l3, _⟩ := W (("in" : Str) :: d.ins.map (nmI d.nm)) (by unfold ptW; simp)
      obtain ⟨w4, l4, _⟩ := W [("out" : Str), nmI d.nm d.ans] (by unfold ptW; simp)
      have nl := hd.nl
      have m8 := hd.m8
      have r8 := hd.r8
      have rl := h4.len
      have nat : ∀ i : Int, 0 ≤ i → i < m → atI (d.nm.map V.str) i = some (.str (nmI d.nm i)) := fun i i0 i1 => by
        obtain ⟨j, rfl⟩ := Nat.ofI i0
        have hj : j < d.nm.length := by omega
        refine atI_nat ?_
        rw [List.getElem?_map, List.getElem?_eq_getElem hj]
        unfold nmI
        rw [Int.toNat_natCast, List.getD_eq_getElem?_getD, List.getElem?_eq_getElem hj]
        rfl
      walk_at "v"
      refine w_ixT h1 rfl ?_
      walk_at "v"
      refine ⟨ps, "sorts", d.nm, rfl, .inr (SqT.of h2), w1, l1, fun H1 K1 => ?_⟩
      walk_at "v"
      refine w_ixT (K1 _ _ h1) rfl ?_
      walk_at "v"
      refine ⟨pb, rfl, ⟨_, SqT.of (K1 _ _ h6)⟩, fun D1 hD1 => ?_⟩
      refine cg_tup V.int (fun b => V.str (fT b)) (SqT.of (K1 _ _ h6)) (by have := hd.bl; omega) hD1 (fun b hb H' K' R kR => ?_) (fun H2 K2 e2 => ?_)
      · walk_at "v"
        exact ⟨_, rfl, (cnt_ok (hd.hb b hb).1 (hd.hb b hb).2).lg, kR _ (Same.refl _)⟩
      have K02 := K1.trans K2
      walk_at "v"
      refine ⟨D1, "begin", d.beg.map fT, rfl, .inl (SqL.of (by rw [e2, List.map_map]; rfl)), w2, l2, fun H3 K3 => ?_⟩
      have K03 := K02.trans K3
      walk_at "v"
      refine w_ixT (K03 _ _ h1) rfl ?_
      walk_at "v"
      refine ⟨pin, rfl, ⟨_, SqT.of (K03 _ _ h5)⟩, fun D2 hD2 => ?_⟩
      refine cg_tup V.int (fun b => V.str (nmI d.nm b)) (SqT.of (K03 _ _ h5)) (by have := hd.i3; omega) hD2 (fun b hb H' K' R kR => ?_) (fun H4 K4 e4 => ?_)
      · walk_at "v"
        refine w_ixT ((K03.trans K') _ _ h2) (nat b (hd.hi b hb).1 (hd.hi b hb).2) ?_
        exact kR _ (Same.refl _)
      have K04 := K03.trans K4
      walk_at "v"
      refine ⟨D2, "in", d.ins.map (nmI d.nm), rfl, .inl (SqL.of (by rw [e4, List.map_map]; rfl)), w3, l3, fun H5 K5 => ?_⟩
      have K05 := K04.trans K5
      walk_at "v"
      refine w_ixT (K05 _ _ h1) rfl ?_
      walk_at "v"
      refine w_ixT (K05 _ _ h2) (nat d.ans hd.ha.1 hd.ha.2) ?_
      walk_at "v"
      refine ⟨by show 1 ≤ sizeLine; decide, fun l6 hl6 => ?_⟩
      have K6 : Same H5 (upd H5 l6 (.lst [.str (nmI d.nm d.ans)])) := Same.new (Same.refl _) hl6
      have e6 : upd H5 l6 (.lst [.str (nmI d.nm d.ans)]) l6 = some (.lst [.str (nmI d.nm d.ans)]) := upd_same
      generalize upd H5 l6 (.lst [.str (nmI d.nm d.ans)]) = H6 at K6 e6 ⊢
      have K06 := K05.trans K6
      walk_at "v"
      refine ⟨l6, "out", [nmI d.nm d.ans], rfl, .inl (SqL.of e6), w4, l4, fun H7 K7 => ?_⟩
      have K07 := K06.trans K7
      walk_at "v"
      refine ⟨by show 4 ≤ sizeLine; decide, fun l8 hl8 => ?_⟩
      have n8 : H l8 = none := K07.free hl8
      have K08 := K07.new (o := .lst [.str (ln (("sorts" : Str) :: d.nm)), .str (ln (("begin" : Str) :: d.beg.map fT)), .str (ln (("in" : Str) :: d.ins.map (nmI d.nm))), .str (ln [("out" : Str), nmI d.nm d.ans])]) hl8
      have e8 : upd H7 l8 (.lst [.str (ln (("sorts" : Str) :: d.nm)), .str (ln (("begin" : Str) :: d.beg.map fT)), .str (ln (("in" : Str) :: d.ins.map (nmI d.nm))), .str (ln [("out" : Str), nmI d.nm d.ans])]) l8 = some (.lst ((([("sorts" : Str) :: d.nm, ("begin" : Str) :: d.beg.map fT, ("in" : Str) :: d.ins.map (nmI d.nm), [("out" : Str), nmI d.nm d.ans]] ++ (d.rl.take 0).map (ruW d.nm)).map ln).map V.str)) := upd_same
      generalize upd H7 l8 _ = H8 at K08 e8 ⊢
      walk_at "v"
      refine w_ixT (K08 _ _ h1) rfl ?_
      walk_at "v"
      refine ⟨pr, rfl, ⟨_, SqT.of (K08 _ _ h3)⟩, ?_⟩
      refine for_tup (xs := rs.map V.ref) (fun i σ H' => ∃ u3 u4, σ = [some (.ref p), some (.ref ps), some (.ref l8), u3, u4] ∧ Same H H' ∧ H' l8 = some (.lst ((([("sorts" : Str) :: d.nm, ("begin" : Str) :: d.beg.map fT, ("in" : Str) :: d.ins.map (nmI d.nm), [("out" : Str), nmI d.nm d.ans]] ++ (d.rl.take i).map (ruW d.nm)).map ln).map V.str))) ⟨none, none, rfl, K08, e8⟩ (fun i σ H' _ ⟨_, _, _, k', _⟩ => SqT.of (k' _ _ h3)) ?_ ?_
      · rintro i x σ H9 hx ⟨u3, u4, rfl, K9, e9⟩
        have hi : i < rs.length := by
          have := (List.getElem?_eq_some_iff.mp hx).1
          simpa using this
        have ex : x = .ref rs[i] := by
          rw [List.getElem?_map, List.getElem?_eq_getElem hi] at hx
          exact (Option.some.inj hx).symm
        subst ex
        obtain ⟨r, gr, qa, qb, r1, r2, r3⟩ := h4.get (List.getElem?_eq_getElem hi)
        have hr' := List.mem_of_getElem? gr
        obtain ⟨s1, s2, _⟩ := hd.rs r hr'
        obtain ⟨wr, lr⟩ := ruW_ok hd hr'
        have sl1 := sideW_len (nm := d.nm) s1
        have sl2 := sideW_len (nm := d.nm) s2
        walk_at "v"
        refine w_ixT (K9 _ _ r1) rfl ?_
        walk_at "v"
        refine ⟨ps, qa, d.nm, m, r.1, rfl, K9 _ _ h2, K9 _ _ r2, nl, m8, s1, fun la H10 K10 _ e10 => ?_⟩
        walk_at "v"
        refine ⟨by show 1 ≤ sizeLine; decide, fun lt hlt => ?_⟩
        have K11 : Same H10 (upd H10 lt (.lst [.str "to"])) := Same.new (Same.refl _) hlt
        have e11 : upd H10 lt (.lst [.str "to"]) lt = some (.lst [.str "to"]) := upd_same
        generalize upd H10 lt (.lst [.str "to"]) = H11 at K11 e11 ⊢
        walk_at "v"
        refine ⟨la, lt, _, _, rfl, rfl, K11 _ _ e10, e11, by rw [List.length_map]; simp only [List.length_cons, List.length_nil]; exact Nat.le_of_lt (small1000 (by omega)), fun l12 hl12 => ?_⟩
        have K12 : Same H11 (upd H11 l12 (.lst ((sideW d.nm r.1).map V.str ++ [.str "to"]))) := Same.new (Same.refl _) hl12
        have e12 : upd H11 l12 (.lst ((sideW d.nm r.1).map V.str ++ [.str "to"])) l12 = some (.lst ((sideW d.nm r.1).map V.str ++ [.str "to"])) := upd_same
        generalize upd H11 l12 (.lst ((sideW d.nm r.1).map V.str ++ [.str "to"])) = H12 at K12 e12 ⊢
        have K912 := (K10.trans K11).trans K12
        have K012 := K9.trans K912
        walk_at "v"
        refine w_ixT (K012 _ _ r1) rfl ?_
        walk_at "v"
        refine ⟨ps, qb, d.nm, m, r.2, rfl, K012 _ _ h2, K012 _ _ r3, nl, m8, s2, fun lb H13 K13 _ e13 => ?_⟩
        refine ⟨l12, lb, _, _, rfl, rfl, K13 _ _ e12, e13, by simp only [List.length_map, List.length_append, List.length_cons, List.length_nil]; exact Nat.le_of_lt (small1000 (by omega)), fun l14 hl14 => ?_⟩
        have e14 : upd H13 l14 (.lst (((sideW d.nm r.1).map V.str ++ [.str "to"]) ++ (sideW d.nm r.2).map V.str)) l14 = some (.lst ((sideW d.nm r.1 ++ ("to" : Str) :: sideW d.nm r.2).map V.str)) := by
          rw [upd_same, List.map_append, List.append_assoc]
          rfl
        have K14 : Same H13 (upd H13 l14 (.lst (((sideW d.nm r.1).map V.str ++ [.str "to"]) ++ (sideW d.nm r.2).map V.str))) := Same.new (Same.refl _) hl14
        generalize upd H13 l14 _ = H14 at K14 e14 ⊢
        have K914 := (K912.trans K13).trans K14
        walk_at "v"
        refine ⟨.inl ⟨rfl, _, SqL.of (K914 _ _ e9)⟩, ?_⟩
        walk_at "v"
        refine ⟨l14, "rule", sideW d.nm r.1 ++ ("to" : Str) :: sideW d.nm r.2, rfl, .inl (SqL.of e14), wr, lr, fun H15 K15 => ?_⟩
        have K915 := K914.trans K15
        refine ⟨l8, _, _, rfl, rfl, K915 _ _ e9, by simp only [List.length_map, List.length_append, List.length_take, List.length_cons, List.length_nil]; exact small1000 (by omega), ?_⟩
        refine ⟨_, _, rfl, (K9.trans K915).put n8, ?_⟩
        rw [upd_same, snoc_ln gr]
        rfl
      rintro σ H9 ⟨u3, u4, rfl, K9, e9⟩
      rw [List.length_map, List.take_of_length_le (by omega)] at e9
      walk_at "v"
      exact k l8 H9 K9 n8 e9
end
end K03

set_option Elab.async false
set_option linter.all false
set_option maxRecDepth 100000
namespace K03
open PySem L2 G2 PT
local macro_rules | `(tactic| walk_at "v") => `(tactic| repeat (with_reducible first
  | refine w_seq ?_ | refine w_asg ?_ | refine w_gname ?_ | refine w_op ?_ | refine w_var rfl ?_ | refine w_c ?_ | refine w_rI0 ?_ | refine w_ifs ?_ | refine w_ife ?_ | refine w_test ?_ | refine w_tb ?_ | refine w_bl ?_ | refine w_not ?_ | refine w_ret ?_ | refine w_retN ?_
  | refine w_nil ?_ | refine w_cons ?_ | refine w_lst ?_ | refine w_tup ?_ | refine w_cb ?_ | refine w_call ?_ | refine w_gsub ?_ | refine w_and ?_ | refine w_or ?_ | refine w_next ?_ | refine w_all ?_ | refine w_vals ?_ | refine w_compR ?_ | refine w_compT ?_ | refine w_forR ?_ | refine w_forT ?_ | refine w_forL ?_ | refine w_drop ?_ | refine w_bm ?_ | refine w_compZ ?_ | refine w_compL ?_ | refine w_chain ?_ | refine w_sl ?_ | refine w_nopart ?_ | refine w_part ?_ | refine w_unI ?_ | refine iteT ?_ | refine iteF ?_))
abbrev sLsd : Stmt := top 49
abbrev nLsd : List Str := ["_law_sorts", "_law_side_here", "_law_words", "_law_sort"]
theorem nmLsd : Nm nLsd (defScope sLsd) := ⟨by decide +kernel, by decide +kernel⟩
theorem scLsd : FnScope nLsd ["_law_sorts", "_law_side_here"] (defScope sLsd) := ⟨rfl, rfl, rfl, by decide +kernel, rfl, by decide +kernel, by decide +kernel⟩
section
variable {P : Program} {w : World} {K : PySem.W.Frag} {mg : Str → Option Value} {base : Heap}
set_option maxHeartbeats 4000000 in
theorem ok_Lsd {f : Addr} {fd : FuncData} (B : Bl mg) (F : Fun K "_law_side" "_law_side" sLsd f fd) : FnOk P w K mg base CX0 1 f fd ["_law_sorts", "_law_side_here"] spSsd := by
  refine F.ok scLsd (fun vs H Q E h => ?_) (fun cdv A outer s H vs Q E hr h => ?_)
  · obtain ⟨ps, pc, nm, m, cs, rfl, _⟩ := h
    rfl
  · obtain ⟨ps, pc, nm, m, cs, rfl, hp, hc, hnm, m8, hs, k⟩ := h
    refine' ⟨_, ?hb, ?rd⟩
    case' hb => skip
    case' hb => refine' pss_cons ?g1 ?g2
    case' g2 => refine' pss_cons ?g3 ?g4
    case' g4 => refine' pss_one ?g5
    case g1 => exact ps_setD nmLsd 2 (pe_lst pa_nil)
    case' g3 => refine' ps_for PassesOwn.never rfl ?g6 (pgd nmLsd 3) ?g7
    case g6 => exact pi_r1 B.range (pa_1 (pe_cB call_len_seq B.len PySem.boot_len (pa_1 (pvd nmLsd 0))))
    case' g7 => refine' pss_one ?g8
    case' g8 => refine' ps_if ?g9 ?g10 pss_nil
    case g9 => exact pt_cmpR op_ne (pe_ix ix_d (pvd nmLsd 1) (pvd nmLsd 3) (fun _ _ => rfl)) pe_int (nomark _)
    case' g10 => refine' pss_one ?g12
    case g12 => exact ps_setD nmLsd 2 (pe_op op_cat (pvd nmLsd 2) (pe_lst (pa_2 (pe_cT call_strI B.str PyProof.Rows.boot_str (pa_1 (pe_ix ix_d (pvd nmLsd 1) (pvd nmLsd 3) (fun _ _ => rfl)))) (pe_ix ix_d (pvd nmLsd 0) (pvd nmLsd 3) (fun _ _ => rfl)))))
    case g5 => exact ps_ret (pvd nmLsd 2)
    case rd =>
      have csl := hs.l
      walk_at "v"
      refine ⟨by show 0 ≤ sizeLine; decide, fun l2 hl2 => ?_⟩
      have K2 : Same H (upd H l2 (.lst [])) := Same.new (Same.refl _) hl2
      have e2 : upd H l2 (.lst []) l2 = some (.lst []) := upd_same
      generalize upd H l2 (.lst []) = H2 at K2 e2 ⊢
      walk_at "v"
      refine ⟨ps, _, rfl, .inr (SqT.of (K2 _ _ hp)), ?_⟩
      refine ⟨_, rfl, by omega, by rw [List.length_map]; omega, ?_⟩
      rw [show (((nm.map V.str).length : Nat) : Int).toNat = nm.length by rw [List.length_map]; omega]
      refine for_range (n := nm.length) (fun i σ H' => ∃ (lw : Addr) (u3 : Option V), σ = [some (.ref ps), some (.ref pc), some (.ref lw), u3] ∧ Same H H' ∧ H lw = none ∧ H' lw = some (.lst ((sdW nm (prs 0 (cs.take i))).map V.str))) ⟨l2, none, rfl, K2, hl2, e2⟩ ?_ ?_
      · rintro i σ H3 hi1 ⟨lw, u3, rfl, K3, nlw, e3⟩
        have hi2 : i < cs.length := by omega
        have hcl : (sdW nm (prs 0 (cs.take i))).length ≤ 16 := by
          rw [sdW_len]
          have := prs_len 0 (cs.take i)
          rw [List.length_take] at this
          omega
        have tk : cs.take (i + 1) = cs.take i ++ [cs[i]] := by rw [List.take_add_one, List.getElem?_eq_getElem hi2]; rfl
        have tl : (cs.take i).length = i := by rw [List.length_take]; omega
        have st : sdW nm (prs 0 (cs.take (i + 1))) = sdW nm (prs 0 (cs.take i)) ++ (if 0 < cs[i] then [fT cs[i], nm.getD i ""] else []) := by
          rw [tk, prs_app, sdW_app, tl, Nat.zero_add]
          congr 1
          show sdW nm (if 0 < cs[i] then [(i, cs[i])] else []) = _
          split <;> rfl
        have ng : nm.getD i "" = nm[i] := by rw [List.getD_eq_getElem?_getD, List.getElem?_eq_getElem hi1]; rfl
        have bd := hs.b _ (List.getElem_mem hi2)
        have cn := cnt_ok (i := cs[i]) bd.1 (by omega)
        have ac : atI (cs.map V.int) (0 + (i : Int)) = some (.int cs[i]) := by
          rw [Int.zero_add]
          exact atI_nat (by rw [List.getElem?_map, List.getElem?_eq_getElem hi2]; rfl)
        have an : atI (nm.map V.str) (0 + (i : Int)) = some (.str nm[i]) := by
          rw [Int.zero_add]
          exact atI_nat (by rw [List.getElem?_map, List.getElem?_eq_getElem hi1]; rfl)
        walk_at "v"
        refine w_ixT (K3 _ _ hc) ac ?_
        walk_at "v"
        refine ⟨rfl, ?_⟩
        refine ⟨_, rfl, ?_⟩
        refine iteDN (fun z => ?_) (fun z => ?_)
        · have hpos : 0 < cs[i] := by
            have : cs[i] ≠ 0 := fun e => z (by rw [e])
            omega
          rw [if_pos hpos] at st
          walk_at "v"
          refine w_ixT (K3 _ _ hc) ac ?_
          walk_at "v"
          refine ⟨_, rfl, cn.lg, ?_⟩
          walk_at "v"
          refine w_ixT (K3 _ _ hp) an ?_
          walk_at "v"
          refine ⟨by show 2 ≤ sizeLine; decide, fun l5 hl5 => ?_⟩
          have K5 : Same H3 (upd H3 l5 (.lst [.str (Str.ofString (toString cs[i])), .str nm[i]])) := Same.new (Same.refl _) hl5
          have e5 : upd H3 l5 (.lst [.str (Str.ofString (toString cs[i])), .str nm[i]]) l5 = some (.lst [.str (fT cs[i]), .str nm[i]]) := upd_same
          generalize upd H3 l5 (.lst [.str (Str.ofString (toString cs[i])), .str nm[i]]) = H5 at K5 e5 ⊢
          refine ⟨lw, l5, _, _, rfl, rfl, K5 _ _ e3, e5, by rw [List.length_map]; simp only [List.length_cons, List.length_nil]; exact Nat.le_of_lt (small1000 (by omega)), fun l6 hl6 => ?_⟩
          walk_at "v"
          refine ⟨l6, _, rfl, (K3.trans K5).new hl6, (K3.trans K5).free hl6, ?_⟩
          rw [upd_same, st, ng, List.map_append]
          rfl
        · have hz : ¬ 0 < cs[i] := by
            have := V.int.inj z
            omega
          rw [if_neg hz, List.append_nil] at st
          walk_at "v"
          exact ⟨lw, _, rfl, K3, nlw, by rw [st]; exact e3⟩
      rintro σ H3 ⟨lw, u3, rfl, K3, nlw, e3⟩
      rw [List.take_of_length_le (by omega)] at e3
      walk_at "v"
      exact k lw H3 K3 nlw e3
end
abbrev sLli : Stmt := top 50
abbrev nLli : List Str := ["_law_pot_here", "_law_sorts", "_law_rules", "_law_inputs", "_law_begin", "_law_answer", "_law_lines_here", "_law_takes", "_law_gives"]
theorem nmLli : Nm nLli (defScope sLli) := ⟨by decide +kernel, by decide +kernel⟩
theorem scLli : FnScope nLli ["_law_pot_here"] (defScope sLli) := ⟨rfl, rfl, rfl, by decide +kernel, rfl, by decide +kernel, by decide +kernel⟩
def qLlia (s : Stmt) : Scope := match s with
  | .Assign _ (.List [_, (.BinOp _ _ (.Call _ [(.ListComp _ _ sc _)] _ _) _)] _) _ => sc
  | _ => { kind := .function, names := [], isGenerator := false, isCoroutine := false }
abbrev cLlia : Scope := qLlia ((defBody sLli).getD 1 (.Pass ⟨0, 0, 0, 0⟩))
theorem bsLlia : BScope (defScope sLli) cLlia ["_law_one"] [] ["str"] := { okind := by decide +kernel, kind := by decide +kernel, nocell := by decide +kernel, names := by decide +kernel, fr := by decide +kernel, ff := by decide +kernel, nd := by decide +kernel, vis := by decide +kernel, loc := by decide +kernel, gl := by decide +kernel }
def qLlib (s : Stmt) : Scope := match s with
  | .Expr (.Call _ [(.Call _ [(.BinOp _ _ (.ListComp _ _ sc _) _)] _ _)] _ _) _ => sc
  | _ => { kind := .function, names := [], isGenerator := false, isCoroutine := false }
abbrev cLlib : Scope := qLlib ((defBody sLli).getD 2 (.Pass ⟨0, 0, 0, 0⟩))
theorem bsLlib : BScope (defScope sLli) cLlib ["_law_one"] ["_law_sorts"] [] := { okind := by decide +kernel, kind := by decide +kernel, nocell := by decide +kernel, names := by decide +kernel, fr := by decide +kernel, ff := by decide +kernel, nd := by decide +kernel, vis := by decide +kernel, loc := by decide +kernel, gl := by decide +kernel }
section
variable {P : Program} {w : World} {K : PySem.W.Frag} {mg : Str → Option Value} {base : Heap}
set_option maxHeartbeats 4000000 in
theorem ok_Lli {f : Addr} {fd : FuncData} (B : Bl mg) (N : Has P w K mg base 1 "_law_side" ["_law_sorts", "_law_side_here"] spSsd) (F : Fun K "_law_lines" "_law_lines" sLli f fd) : FnOk P w K mg base CX0 2 f fd ["_law_pot_here"] spSpo := by
  refine F.ok scLli (fun vs H Q E h => ?_) (fun cdv A outer s H vs Q E hr h => ?_)
  · obtain ⟨p, d, m, rfl, _⟩ := h
    rfl
  · obtain ⟨p, d, m, rfl, hP, hd, k⟩ := h
    refine' ⟨_, ?hb, ?rd⟩
    case' hb => skip
    case' hb => refine' pss_cons ?g1 ?g2
    case' g2 => refine' pss_cons ?g3 ?g4
    case' g4 => refine' pss_cons ?g5 ?g6
    case' g6 => refine' pss_cons ?g7 ?g8
    case' g8 => refine' pss_cons ?g9 ?g10
    case' g10 => refine' pss_one ?g11
    case g1 => exact ps_asg (pvd nmLli 0) (pg_tup rfl (pgs_cons (pgd nmLli 1) (pgs_cons (pgd nmLli 2) (pgs_cons (pgd nmLli 3) (pgs_cons (pgd nmLli 4) (pgs_cons (pgd nmLli 5) pgs_nil))))))
    case' g3 => refine' ps_setD nmLli 6 ?g12
    case' g12 => refine' pe_lst ?g13
    case' g13 => refine' pa_2 (pe_op op_add_str pe_str (pe_bm PySem.F.plainAttrs_str PySem.F.slot_str_join PySem.F.type_str_join mt_joinT pe_str (pa_1 (pvd nmLli 1)))) ?g14
    case' g14 => refine' pe_op op_add_str pe_str ?g15
    case' g15 => refine' pe_bm PySem.F.plainAttrs_str PySem.F.slot_str_join PySem.F.type_str_join mt_join pe_str ?g16
    case' g16 => refine' pa_1 ?g17
    case' g17 => refine' pe_comp (ix := []) bsLlia.toCScope rfl rfl ?g18 ?g19 ?g20 ?g21
    case g18 => exact pi_tup (pvd nmLli 4)
    case g19 => exact fun _ _ _ _ _ _ => pgb bsLlia 0
    case g20 => exact fun _ _ _ _ _ _ => pts_nil
    case g21 => exact fun _ _ _ _ _ _ => pe_cT call_strI B.str PyProof.Rows.boot_str (pa_1 (pvb bsLlia 0)) (bsLlia.g 0)
    case' g5 => refine' ps_expr ?g22
    case' g22 => refine' pe_bm PySem.F.plainAttrs_list PySem.F.slot_list_append PySem.F.type_list_append mt_append (pvd nmLli 6) ?g23
    case' g23 => refine' pa_1 ?g24
    case' g24 => refine' pe_bm PySem.F.plainAttrs_str PySem.F.slot_str_join PySem.F.type_str_join mt_join pe_str ?g25
    case' g25 => refine' pa_1 ?g26
    case' g26 => refine' pe_op op_cat (pe_lst (pa_1 pe_str)) ?g27
    case' g27 => refine' pe_comp (ix := [1]) bsLlib.toCScope rfl rfl ?g28 ?g29 ?g30 ?g31
    case g28 => exact pi_tup (pvd nmLli 3)
    case g29 => exact fun _ _ _ _ _ _ => pgb bsLlib 0
    case g30 => exact fun _ _ _ _ _ _ => pts_nil
    case g31 => exact fun _ _ _ _ _ _ => pe_ix ix_d (pvb bsLlib 1) (pvb bsLlib 0) (fun _ _ => rfl)
    case g7 => exact ps_expr (pe_bm PySem.F.plainAttrs_list PySem.F.slot_list_append PySem.F.type_list_append mt_append (pvd nmLli 6) (pa_1 (pe_op op_add_str pe_str (pe_ix ix_d (pvd nmLli 1) (pvd nmLli 5) (fun _ _ => rfl)))))
    case' g9 => refine' ps_for PassesOwn.never rfl ?g32 (pg_tup rfl (pgs_cons (pgd nmLli 7) (pgs_cons (pgd nmLli 8) pgs_nil))) ?g33
    case g32 => exact pi_tup (pvd nmLli 2)
    case' g33 => refine' pss_one ?g34
    case g34 => exact ps_expr (pe_bm PySem.F.plainAttrs_list PySem.F.slot_list_append PySem.F.type_list_append mt_append (pvd nmLli 6) (pa_1 (pe_bm PySem.F.plainAttrs_str PySem.F.slot_str_join PySem.F.type_str_join mt_join pe_str (pa_1 (pe_op op_cat (pe_op op_cat (pe_op op_cat (pe_lst (pa_1 pe_str)) (pe_f N hr (by decide) (pa_2 (pvd nmLli 1) (pvd nmLli 7)))) (pe_lst (pa_1 pe_str))) (pe_f N hr (by decide) (pa_2 (pvd nmLli 1) (pvd nmLli 8))))))))
    case g11 => exact ps_ret (pvd nmLli 6)
    case rd =>
      obtain ⟨ps, pr, pin, pb, rs, h1, h2, h3, h4, h5, h6⟩ := hP.ex
      have h2 : H ps = some (.tup (d.nm.map V.str)) := h2
      have W := ptW_ok hd
      obtain ⟨w1, l1, _⟩ := W (("sorts" : Str) :: d.nm) (by unfold ptW; simp)
      obtain ⟨w2, l2, _⟩ := W (("begin" : Str) :: d.beg.map fT) (by unfold ptW; simp)
      obtain ⟨w3, l3, _⟩ := W (("in" : Str) :: d.ins.map (nmI d.nm)) (by unfold ptW; simp)
      obtain ⟨w4, l4, _⟩ := W [("out" : Str), nmI d.nm d.ans] (by unfold ptW; simp)
      have nl := hd.nl
      have m8 := hd.m8
      have m0 := hd.m0
      have bl := hd.bl
      have r8 := hd.r8
      have rl := h4.len
      have nat : ∀ i : Int, 0 ≤ i → i < m → atI (d.nm.map V.str) i = some (.str (nmI d.nm i)) := fun i i0 i1 => by
        obtain ⟨j, rfl⟩ := Nat.ofI i0
        have hj : j < d.nm.length := by omega
        refine atI_nat ?_
        rw [List.getElem?_map, List.getElem?_eq_getElem hj]
        unfold nmI
        rw [Int.toNat_natCast, List.getD_eq_getElem?_getD, List.getElem?_eq_getElem hj]
        rfl
      have w1' : ∀ w ∈ d.nm, Wd w := fun w hw => w1 w (List.mem_cons_of_mem _ hw)
      have w2' : ∀ w ∈ d.beg.map fT, Wd w := fun w hw => w2 w (List.mem_cons_of_mem _ hw)
      obtain ⟨j1, j2⟩ := ln_fit w1' (by omega)
      obtain ⟨j3, j4⟩ := ln_fit w2' (by rw [List.length_map]; omega)
      obtain ⟨j5, j6⟩ := ln_fit w3 l3
      have n1 := ln_len w1' (by omega)
      have n2 := ln_len w2' (by rw [List.length_map]; omega)
      have ne1 : d.nm ≠ [] := fun z => by rw [z] at nl; simp at nl; omega
      have ne2 : d.beg.map fT ≠ [] := fun z => by have := congrArg List.length z; rw [List.length_map, List.length_nil] at this; omega
      walk_at "v"
      refine w_gtup h1 rfl ?_
      refine ⟨_, _, rfl, ?_⟩
      walk_at "v"
      refine ⟨_, _, rfl, ?_⟩
      walk_at "v"
      refine ⟨_, _, rfl, ?_⟩
      walk_at "v"
      refine ⟨_, _, rfl, ?_⟩
      walk_at "v"
      refine ⟨_, _, rfl, ?_⟩
      walk_at "v"
      refine ⟨rfl, ?_⟩
      walk_at "v"
      refine ⟨rfl, ?_⟩
      walk_at "v"
      refine ⟨" ", ps, d.nm, rfl, rfl, .inl h2, j1, j2, ?_⟩
      rw [ln_eq]
      refine ⟨_, _, rfl, rfl, Nat.le_trans (show 6 + (ln d.nm).length ≤ 400 by omega) (by decide), ?_⟩
      rw [show (("sorts " : Str) ++ ln d.nm) = ln (("sorts" : Str) :: d.nm) by rw [show ("sorts " : Str) = ("sorts" : Str) ++ " " by decide +kernel, ln_cons ne1]]
      walk_at "v"
      refine ⟨rfl, ?_⟩
      walk_at "v"
      refine ⟨pb, rfl, ⟨_, SqT.of h6⟩, fun D1 hD1 => ?_⟩
      refine cg_tup V.int (fun b => V.str (fT b)) (SqT.of h6) (by omega) hD1 (fun b hb H' K' R kR => ?_) (fun H2 K02 e2 => ?_)
      · walk_at "v"
        exact ⟨_, rfl, (cnt_ok (hd.hb b hb).1 (hd.hb b hb).2).lg, kR _ (Same.refl _)⟩
      walk_at "v"
      refine ⟨" ", D1, d.beg.map fT, rfl, rfl, by rw [e2, List.map_map]; rfl, j3, j4, ?_⟩
      rw [ln_eq]
      refine ⟨_, _, rfl, rfl, Nat.le_trans (show 6 + (ln (d.beg.map fT)).length ≤ 400 by omega) (by decide), ?_⟩
      rw [show (("begin " : Str) ++ ln (d.beg.map fT)) = ln (("begin" : Str) :: d.beg.map fT) by rw [show ("begin " : Str) = ("begin" : Str) ++ " " by decide +kernel, ln_cons ne2]]
      walk_at "v"
      refine ⟨by show 2 ≤ sizeLine; decide, fun l8 hl8 => ?_⟩
      have n8 : H l8 = none := K02.free hl8
      have K03 := K02.new (o := .lst [.str (ln (("sorts" : Str) :: d.nm)), .str (ln (("begin" : Str) :: d.beg.map fT))]) hl8
      have e3 : upd H2 l8 (.lst [.str (ln (("sorts" : Str) :: d.nm)), .str (ln (("begin" : Str) :: d.beg.map fT))]) l8 = some (.lst [.str (ln (("sorts" : Str) :: d.nm)), .str (ln (("begin" : Str) :: d.beg.map fT))]) := upd_same
      generalize upd H2 l8 _ = H3 at K03 e3 ⊢
      walk_at "v"
      refine ⟨.inl ⟨rfl, _, SqL.of e3⟩, ?_⟩
      walk_at "v"
      refine ⟨rfl, ?_⟩
      walk_at "v"
      refine ⟨by show 1 ≤ sizeLine; decide, fun l4 hl4 => ?_⟩
      have K4 : Same H3 (upd H3 l4 (.lst [.str "in"])) := Same.new (Same.refl _) hl4
      have e4 : upd H3 l4 (.lst [.str "in"]) l4 = some (.lst [.str "in"]) := upd_same
      generalize upd H3 l4 (.lst [.str "in"]) = H4 at K4 e4 ⊢
      have K04 := K03.trans K4
      walk_at "v"
      refine ⟨pin, rfl, ⟨_, SqT.of (K04 _ _ h5)⟩, fun D2 hD2 => ?_⟩
      refine cg_tup V.int (fun b => V.str (nmI d.nm b)) (SqT.of (K04 _ _ h5)) (by have := hd.i3; omega) hD2 (fun b hb H' K' R kR => ?_) (fun H5 K5 e5 => ?_)
      · walk_at "v"
        refine w_ixT ((K04.trans K') _ _ h2) (nat b (hd.hi b hb).1 (hd.hi b hb).2) ?_
        exact kR _ (Same.refl _)
      have K05 := K04.trans K5
      walk_at "v"
      refine ⟨l4, D2, _, _, rfl, rfl, K5 _ _ e4, e5, by rw [List.length_map]; have := hd.i3; simp only [List.length_cons, List.length_nil]; exact Nat.le_of_lt (small1000 (by omega)), fun l6 hl6 => ?_⟩
      have e6 : upd H5 l6 (.lst ([.str "in"] ++ d.ins.map fun b => V.str (nmI d.nm b))) l6 = some (.lst ((("in" : Str) :: d.ins.map (nmI d.nm)).map V.str)) := by
        rw [upd_same, List.map_cons, List.map_map]
        rfl
      have K6 : Same H5 (upd H5 l6 (.lst ([.str "in"] ++ d.ins.map fun b => V.str (nmI d.nm b)))) := Same.new (Same.refl _) hl6
      generalize upd H5 l6 _ = H6 at K6 e6 ⊢
      have K06 := K05.trans K6
      walk_at "v"
      refine ⟨" ", l6, ("in" : Str) :: d.ins.map (nmI d.nm), rfl, rfl, e6, j5, j6, ?_⟩
      rw [ln_eq]
      refine ⟨l8, _, _, rfl, rfl, ((K4.trans K5).trans K6) _ _ e3, by show 2 < sizeLine; decide, ?_⟩
      have K07 := K06.put (o := .lst ([.str (ln (("sorts" : Str) :: d.nm)), .str (ln (("begin" : Str) :: d.beg.map fT))] ++ [.str (ln (("in" : Str) :: d.ins.map (nmI d.nm)))])) n8
      have e7 : upd H6 l8 (.lst ([.str (ln (("sorts" : Str) :: d.nm)), .str (ln (("begin" : Str) :: d.beg.map fT))] ++ [.str (ln (("in" : Str) :: d.ins.map (nmI d.nm)))])) l8 = some (.lst [.str (ln (("sorts" : Str) :: d.nm)), .str (ln (("begin" : Str) :: d.beg.map fT)), .str (ln (("in" : Str) :: d.ins.map (nmI d.nm)))]) := upd_same
      generalize upd H6 l8 _ = H7 at K07 e7 ⊢
      walk_at "v"
      refine ⟨.inl ⟨rfl, _, SqL.of e7⟩, ?_⟩
      walk_at "v"
      refine w_ixT (K07 _ _ h2) (nat d.ans hd.ha.1 hd.ha.2) ?_
      refine ⟨_, _, rfl, rfl, Nat.le_trans (show 4 + (nmI d.nm d.ans).length ≤ 400 by have := (w4 _ (List.mem_cons_of_mem _ List.mem_cons_self)).l; omega) (by decide), ?_⟩
      rw [show (("out " : Str) ++ nmI d.nm d.ans) = ln [("out" : Str), nmI d.nm d.ans] by rw [show ("out " : Str) = ("out" : Str) ++ " " by decide +kernel, ← ln_cons (List.cons_ne_nil _ _)]; rfl]
      walk_at "v"
      refine ⟨l8, _, _, rfl, rfl, e7, by show 3 < sizeLine; decide, ?_⟩
      have K08 := K07.put (o := .lst ([.str (ln (("sorts" : Str) :: d.nm)), .str (ln (("begin" : Str) :: d.beg.map fT)), .str (ln (("in" : Str) :: d.ins.map (nmI d.nm)))] ++ [.str (ln [("out" : Str), nmI d.nm d.ans])])) n8
      have e8 : upd H7 l8 (.lst ([.str (ln (("sorts" : Str) :: d.nm)), .str (ln (("begin" : Str) :: d.beg.map fT)), .str (ln (("in" : Str) :: d.ins.map (nmI d.nm)))] ++ [.str (ln [("out" : Str), nmI d.nm d.ans])])) l8 = some (.lst ((([("sorts" : Str) :: d.nm, ("begin" : Str) :: d.beg.map fT, ("in" : Str) :: d.ins.map (nmI d.nm), [("out" : Str), nmI d.nm d.ans]] ++ (d.rl.take 0).map (ruW d.nm)).map ln).map V.str)) := upd_same
      generalize upd H7 l8 _ = H8 at K08 e8 ⊢
      walk_at "v"
      refine ⟨pr, rfl, ⟨_, SqT.of (K08 _ _ h3)⟩, ?_⟩
      refine for_tup (xs := rs.map V.ref) (fun i σ H' => ∃ u7 u8, σ = [some (.ref p), some (.ref ps), some (.ref pr), some (.ref pin), some (.ref pb), some (.int d.ans), some (.ref l8), u7, u8] ∧ Same H H' ∧ H' l8 = some (.lst ((([("sorts" : Str) :: d.nm, ("begin" : Str) :: d.beg.map fT, ("in" : Str) :: d.ins.map (nmI d.nm), [("out" : Str), nmI d.nm d.ans]] ++ (d.rl.take i).map (ruW d.nm)).map ln).map V.str))) ⟨none, none, rfl, K08, e8⟩ (fun i σ H' _ ⟨_, _, _, k', _⟩ => SqT.of (k' _ _ h3)) ?_ ?_
      · rintro i x σ H9 hx ⟨u3, u4, rfl, K9, e9⟩
        have hi : i < rs.length := by
          have := (List.getElem?_eq_some_iff.mp hx).1
          simpa using this
        have ex : x = .ref rs[i] := by
          rw [List.getElem?_map, List.getElem?_eq_getElem hi] at hx
          exact (Option.some.inj hx).symm
        subst ex
        obtain ⟨r, gr, qa, qb, r1, r2, r3⟩ := h4.get (List.getElem?_eq_getElem hi)
        have hr' := List.mem_of_getElem? gr
        obtain ⟨s1, s2, _⟩ := hd.rs r hr'
        obtain ⟨wr, lr⟩ := ruW_ok hd hr'
        obtain ⟨jr, jr2⟩ := ln_fit wr lr
        have sl1 := sideW_len (nm := d.nm) s1
        have sl2 := sideW_len (nm := d.nm) s2
        refine w_gtup (K9 _ _ r1) rfl ?_
        refine ⟨_, _, rfl, ?_⟩
        walk_at "v"
        refine ⟨_, _, rfl, ?_⟩
        walk_at "v"
        refine ⟨rfl, ?_⟩
        walk_at "v"
        refine ⟨.inl ⟨rfl, _, SqL.of e9⟩, ?_⟩
        walk_at "v"
        refine ⟨rfl, ?_⟩
        walk_at "v"
        refine ⟨by show 1 ≤ sizeLine; decide, fun lq hlq => ?_⟩
        have Kq : Same H9 (upd H9 lq (.lst [.str "rule"])) := Same.new (Same.refl _) hlq
        have eq : upd H9 lq (.lst [.str "rule"]) lq = some (.lst [.str "rule"]) := upd_same
        generalize upd H9 lq (.lst [.str "rule"]) = Hq at Kq eq ⊢
        have K0q := K9.trans Kq
        walk_at "v"
        refine ⟨ps, qa, d.nm, m, r.1, rfl, K0q _ _ h2, K0q _ _ r2, nl, m8, s1, fun la H10 K10 _ e10 => ?_⟩
        refine ⟨lq, la, _, _, rfl, rfl, K10 _ _ eq, e10, by rw [List.length_map]; simp only [List.length_cons, List.length_nil]; exact Nat.le_of_lt (small1000 (by omega)), fun lz hlz => ?_⟩
        have Kz : Same H10 (upd H10 lz (.lst ([.str "rule"] ++ (sideW d.nm r.1).map V.str))) := Same.new (Same.refl _) hlz
        have ez : upd H10 lz (.lst ([.str "rule"] ++ (sideW d.nm r.1).map V.str)) lz = some (.lst ([.str "rule"] ++ (sideW d.nm r.1).map V.str)) := upd_same
        generalize upd H10 lz (.lst ([.str "rule"] ++ (sideW d.nm r.1).map V.str)) = Hz at Kz ez ⊢
        walk_at "v"
        refine ⟨by show 1 ≤ sizeLine; decide, fun lt hlt => ?_⟩
        have K11 : Same Hz (upd Hz lt (.lst [.str "to"])) := Same.new (Same.refl _) hlt
        have e11 : upd Hz lt (.lst [.str "to"]) lt = some (.lst [.str "to"]) := upd_same
        generalize upd Hz lt (.lst [.str "to"]) = H11 at K11 e11 ⊢
        refine ⟨lz, lt, _, _, rfl, rfl, K11 _ _ ez, e11, by simp only [List.length_append, List.length_map, List.length_cons, List.length_nil]; exact Nat.le_of_lt (small1000 (by omega)), fun l12 hl12 => ?_⟩
        have K12 : Same H11 (upd H11 l12 (.lst (([.str "rule"] ++ (sideW d.nm r.1).map V.str) ++ [.str "to"]))) := Same.new (Same.refl _) hl12
        have e12 : upd H11 l12 (.lst (([.str "rule"] ++ (sideW d.nm r.1).map V.str) ++ [.str "to"])) l12 = some (.lst (([.str "rule"] ++ (sideW d.nm r.1).map V.str) ++ [.str "to"])) := upd_same
        generalize upd H11 l12 (.lst (([.str "rule"] ++ (sideW d.nm r.1).map V.str) ++ [.str "to"])) = H12 at K12 e12 ⊢
        have K912 := (((Kq.trans K10).trans Kz).trans K11).trans K12
        have K012 := K9.trans K912
        walk_at "v"
        refine ⟨ps, qb, d.nm, m, r.2, rfl, K012 _ _ h2, K012 _ _ r3, nl, m8, s2, fun lb H13 K13 _ e13 => ?_⟩
        refine ⟨l12, lb, _, _, rfl, rfl, K13 _ _ e12, e13, by simp only [List.length_map, List.length_append, List.length_cons, List.length_nil]; exact Nat.le_of_lt (small1000 (by omega)), fun l14 hl14 => ?_⟩
        have e14 : upd H13 l14 (.lst ((([.str "rule"] ++ (sideW d.nm r.1).map V.str) ++ [.str "to"]) ++ (sideW d.nm r.2).map V.str)) l14 = some (.lst ((ruW d.nm r).map V.str)) := by
          rw [upd_same]
          unfold ruW
          rw [List.map_cons, List.map_append, List.append_assoc]
          rfl
        have K14 : Same H13 (upd H13 l14 (.lst ((([.str "rule"] ++ (sideW d.nm r.1).map V.str) ++ [.str "to"]) ++ (sideW d.nm r.2).map V.str))) := Same.new (Same.refl _) hl14
        generalize upd H13 l14 _ = H14 at K14 e14 ⊢
        have K914 := (K912.trans K13).trans K14
        walk_at "v"
        refine ⟨" ", l14, ruW d.nm r, rfl, rfl, e14, jr, jr2, ?_⟩
        rw [ln_eq]
        refine ⟨l8, _, _, rfl, rfl, K914 _ _ e9, by simp only [List.length_map, List.length_append, List.length_take, List.length_cons, List.length_nil]; exact small1000 (by omega), ?_⟩
        refine ⟨_, _, rfl, (K9.trans K914).put n8, ?_⟩
        rw [upd_same, snoc_ln gr]
      rintro σ H9 ⟨u3, u4, rfl, K9, e9⟩
      rw [List.length_map, List.take_of_length_le (by omega)] at e9
      walk_at "v"
      exact k l8 H9 K9 n8 e9
end
end K03

set_option Elab.async false
set_option linter.all false
set_option maxRecDepth 100000
namespace K03
open PySem L2 G2 PT
local macro_rules | `(tactic| walk_at "v") => `(tactic| repeat (with_reducible first
  | refine w_seq ?_ | refine w_asg ?_ | refine w_gname ?_ | refine w_op ?_ | refine w_var rfl ?_ | refine w_c ?_ | refine w_rI0 ?_ | refine w_ifs ?_ | refine w_ife ?_ | refine w_test ?_ | refine w_tb ?_ | refine w_bl ?_ | refine w_not ?_ | refine w_ret ?_ | refine w_retN ?_
  | refine w_nil ?_ | refine w_cons ?_ | refine w_lst ?_ | refine w_tup ?_ | refine w_cb ?_ | refine w_call ?_ | refine w_gsub ?_ | refine w_and ?_ | refine w_or ?_ | refine w_next ?_ | refine w_all ?_ | refine w_vals ?_ | refine w_compR ?_ | refine w_compT ?_ | refine w_forR ?_ | refine w_forT ?_ | refine w_forL ?_ | refine w_drop ?_ | refine w_bm ?_ | refine w_compZ ?_ | refine w_compL ?_ | refine w_chain ?_ | refine w_sl ?_ | refine w_nopart ?_ | refine w_part ?_ | refine w_unI ?_ | refine iteT ?_ | refine iteF ?_))
abbrev sLaw : Stmt := top 51
abbrev nLaw : List Str := ["_law_script", "_law_pots", "_law_pot_here", "_law_due", "_law_found", "_law_handed"]
theorem nmLaw : Nm nLaw (defScope sLaw) := ⟨by decide +kernel, by decide +kernel⟩
theorem scLaw : FnScope nLaw ["_law_script"] (defScope sLaw) := ⟨rfl, rfl, rfl, by decide +kernel, rfl, by decide +kernel, by decide +kernel⟩
def qLawa (s : Stmt) : Scope := match s with
  | .Assign _ (.ListComp _ _ sc _) _ => sc
  | _ => { kind := .function, names := [], isGenerator := false, isCoroutine := false }
abbrev cLawa : Scope := qLawa ((defBody sLaw).getD 0 (.Pass ⟨0, 0, 0, 0⟩))
theorem bsLawa : BScope (defScope sLaw) cLawa ["_law_k"] ["_law_script"] ["_law_pot", "_law_feed"] := { okind := by decide +kernel, kind := by decide +kernel, nocell := by decide +kernel, names := by decide +kernel, fr := by decide +kernel, ff := by decide +kernel, nd := by decide +kernel, vis := by decide +kernel, loc := by decide +kernel, gl := by decide +kernel }
theorem loLaw_1 : (defScope sLaw).names.lookup ("_law_pots" : Str) = some .local := by decide +kernel
theorem names_ok12 : ∀ x ∈ names12, nameB x = true := by decide +kernel
theorem rules_of {m : Nat} {H : Hp} : ∀ {rs : List Addr}, (∀ r ∈ rs, RuleAt m H r) → ∃ xs, RlsD H rs xs ∧ ∀ x ∈ xs, RuOk m x.1 x.2
  | [], _ => ⟨[], trivial, fun x h => nomatch h⟩
  | r :: rs, h => by
    obtain ⟨xs, h1, h2⟩ := rules_of (rs := rs) fun r' hr' => h r' (List.mem_cons_of_mem _ hr')
    obtain ⟨a, b, ts, gs, e1, e2, e3, ok⟩ := h r List.mem_cons_self
    refine ⟨(ts, gs) :: xs, ⟨⟨a, b, e1, e2, e3⟩, h1⟩, fun x hx => ?_⟩
    rcases List.mem_cons.mp hx with rfl | hx
    · exact ok
    · exact h2 x hx
theorem pot_of {H : Hp} {p : Addr} {nm : List Str} {ins beg : List Int} {ans : Int} {m : Nat} (h : PotAt H p nm ins beg ans m) : ∃ d : PD, d.ok m ∧ PotF false H p d := by
  obtain ⟨ps, pr, pin, pb, rs, e1, e2, e3, e4, e5, e6, e7⟩ := h.ex
  obtain ⟨xs, h1, h2⟩ := rules_of e4
  obtain ⟨n1, n2, n3⟩ := h.hn
  refine ⟨⟨nm, xs, ins, beg, ans⟩, ?_, ⟨ps, pr, pin, pb, rs, e1, e2, e3, h1, e6, e7⟩⟩
  exact { nl := n1, nd := n2, nb := fun x hx => names_ok12 x (n3 x hx), m0 := h.m0, m8 := h.m8, r8 := by rw [← h1.len]; exact e5, rs := fun r hr => ⟨⟨(h2 r hr).a.1, (h2 r hr).a.2⟩, ⟨(h2 r hr).b.1, (h2 r hr).b.2⟩, (h2 r hr).pos, (h2 r hr).ne⟩, hi := h.hi, i3 := h.i3, inn := h.nd, bl := h.bl, hb := h.hb, ha := h.ha }
def Pot1 (H : Hp) (p : Addr) : Prop := ∃ (d : PD) (m : Nat), d.ok m ∧ PotF false H p d
def spLaw (K : PySem.W.Frag) : Sp := fun vs H Q _ => ∃ (a : Addr) (ns : List Int), vs = [.ref a] ∧ G2.SqF K H a (ns.map V.int) ∧ ns.length ≤ 63 ∧ ∀ H', Q (.bl true) H'
section
variable {P : Program} {w : World} {K : PySem.W.Frag} {mg : Str → Option Value} {base : Heap}
set_option maxHeartbeats 4000000 in
theorem ok_Law {f : Addr} {fd : FuncData} (B : Bl mg) (fF : Has P w K mg base 1 "_law_feed" ["_law_script", "_law_k"] (spFeed K)) (fP : Has P w K mg base 3 "_law_pot" ["_law_feed_here"] spPot) (fL : Has P w K mg base 2 "_law_lines" ["_law_pot_here"] spSpo) (fS : Has P w K mg base 2 "shown_pot" ["pot"] spSpo) (fR : Has P w K mg base 5 "read_pot" ["lines"] spRp) (F : Fun K "law" "law" sLaw f fd) : FnOk P w K mg base CX0 6 f fd ["_law_script"] (spLaw K) := by
  refine F.ok scLaw (fun vs H Q E h => ?_) (fun cdv A outer s H vs Q E hr h => ?_)
  · obtain ⟨a, ns, rfl, _⟩ := h
    rfl
  · obtain ⟨a, ns, rfl, hS, hl, k⟩ := h
    refine' ⟨_, ?hb, ?rd⟩
    case' hb => skip
    case' hb => refine' pss_cons ?g1 ?g2
    case' g2 => refine' pss_cons ?g3 ?g4
    case' g4 => refine' pss_one ?g5
    case' g1 => refine' ps_setC (i := 1) (ix := [0]) nmLaw.nd rfl loLaw_1 bsLawa.toCScope rfl rfl ?g6 ?g7 ?g8 ?g9
    case g6 => exact pi_r1 B.range (pa_1 pe_int)
    case g7 => exact fun _ _ _ _ _ _ => pgb bsLawa 0
    case g8 => exact fun _ _ _ _ _ _ => pts_nil
    case g9 => exact fun _ _ _ _ _ _ => pe_f fP hr (by decide) (pa_1 (pe_f fF hr (by decide) (pa_2 (pvb bsLawa 1) (pvb bsLawa 0)) (bsLawa.g 1))) (bsLawa.g 0)
    case' g3 => refine' ps_for PassesOwn.never rfl ?g10 (pgd nmLaw 2) ?g11
    case g10 => exact pi_list (pe_op op_cat (pvd nmLaw 1) (pe_revL (pvd nmLaw 1) (po_some (pe_un un_neg pe_int))))
    case' g11 => refine' pss_cons ?g12 ?g13
    case' g13 => refine' pss_cons ?g14 ?g15
    case' g15 => refine' pss_cons ?g16 ?g17
    case' g17 => refine' pss_cons ?g18 ?g19
    case' g19 => refine' pss_cons ?g20 ?g21
    case' g21 => refine' pss_cons ?g22 ?g23
    case' g23 => refine' pss_cons ?g24 ?g25
    case' g25 => refine' pss_one ?g26
    case g12 => exact ps_setD nmLaw 3 (pe_f fL hr (by decide) (pa_1 (pvd nmLaw 2)))
    case g14 => exact ps_setD nmLaw 4 (pe_f fS hr (by decide) (pa_1 (pvd nmLaw 2)))
    case' g16 => refine' ps_if ?g27 ?g28 pss_nil
    case g27 => exact pt_cmpR op_ne (pe_cB (call_repr hr) B.repr PyProof.Rows.boot_repr (pa_1 (pvd nmLaw 4))) (pe_cB (call_repr hr) B.repr PyProof.Rows.boot_repr (pa_1 (pvd nmLaw 3))) (nomark _)
    case' g28 => refine' pss_one ?g30
    case g30 => exact ps_ret pe_bl
    case g18 => exact ps_expr (pe_bm PySem.F.plainAttrs_list PySem.F.slot_list_append PySem.F.type_list_append mt_append (pvd nmLaw 4) (pa_1 pe_str))
    case g20 => exact ps_expr (pe_bm0 PySem.F.plainAttrs_list PySem.F.slot_list_reverse PySem.F.type_list_reverse mt_reverse (pvd nmLaw 4))
    case g22 => exact ps_setD nmLaw 5 (pe_cT call_list_of B.list PyProof.Rows.boot_list (pa_1 (pvd nmLaw 3)))
    case' g24 => refine' ps_if ?g31 ?g32 pss_nil
    case g31 => exact PW.pt (pw_or (pt_cmpR op_ne (pe_cB (call_repr hr) B.repr PyProof.Rows.boot_repr (pa_1 (pe_f fR hr (by decide) (pa_1 (pvd nmLaw 5))))) (pe_cB (call_repr hr) B.repr PyProof.Rows.boot_repr (pa_1 (pvd nmLaw 2))) (nomark _)) (pw_or1 (pt_cmpR (op_neD hr) (pvd nmLaw 5) (pvd nmLaw 3) (nomark _))))
    case' g32 => refine' pss_one ?g34
    case g34 => exact ps_ret pe_bl
    case' g26 => refine' ps_if ?g35 ?g36 pss_nil
    case g35 => exact pt_cmpR op_ne (pe_cB (call_repr hr) B.repr PyProof.Rows.boot_repr (pa_1 (pe_f fS hr (by decide) (pa_1 (pvd nmLaw 2))))) (pe_cB (call_repr hr) B.repr PyProof.Rows.boot_repr (pa_1 (pvd nmLaw 3))) (nomark _)
    case' g36 => refine' pss_one ?g38
    case g38 => exact ps_ret pe_bl
    case g5 => exact ps_ret pe_bl
    case rd =>
      walk_at "v"
      refine ⟨8, rfl, by decide, by decide, fun D hD => ?_⟩
      refine cgo_range (n := 8) (fun i ys H' => ∃ pots : List Addr, ys = pots.map V.ref ∧ pots.length = i ∧ Same H H' ∧ ∀ p ∈ pots, Pot1 H' p) ⟨[], rfl, rfl, Same.new (Same.refl H) hD, fun p h => nomatch h⟩ ?_ ?_
      · rintro i ys H1 hi ⟨pots, rfl, hpl, K1, hp1⟩ hDy R S kR _
        walk_at "v"
        refine ⟨a, ns, i, by rw [Int.zero_add]; rfl, SqL.sm K1 hS.sq, hl, fun p x y z hp => ?_⟩
        have T2 : Tst H1 (upd H1 p (.lst [.int x, .int y, .int z])) := fun q xs e => by rw [upd_ne (ne_of_none e hp)]; exact e
        have K2 : Same H1 (upd H1 p (.lst [.int x, .int y, .int z])) := Same.new (Same.refl _) hp
        have F2 : FeedAt (upd H1 p (.lst [.int x, .int y, .int z])) p := FeedAt.here
        generalize upd H1 p (.lst [.int x, .int y, .int z]) = H2 at T2 K2 F2 ⊢
        walk_at "v"
        refine ⟨p, rfl, F2, fun l H3 nm ins beg ans m hl0 hP F3 B3 => ?_⟩
        have off : ∀ {b : Addr} {o : HO}, H1 b = some o → H3 b = some o := fun {b o} e => B3 _ _ (K2 _ _ e) (ne_of_none e hp)
        have T3 : Tst H2 H3 := fun q xs e => by
          obtain ⟨u, v, w', ep⟩ := F2
          exact B3 _ _ e fun z => by rw [z, ep] at e; cases e
        have hD3 : H3 D = some (.lst (pots.map V.ref)) := off hDy
        obtain ⟨d, hd, hF⟩ := pot_of hP
        refine kR _ _ hD3 (by rw [List.length_map]; exact small1000 (by omega)) ⟨pots ++ [l], by rw [List.map_append]; rfl, by rw [List.length_append, hpl]; rfl, fun b o e => ?_, fun q hq => ?_⟩
        · have hbD : b ≠ D := fun z => by rw [z, hD] at e; cases e
          rw [upd_ne hbD]
          exact off (K1 _ _ e)
        · rcases List.mem_append.mp hq with hq | hq
          · obtain ⟨d', m', hd', hF'⟩ := hp1 q hq
            exact ⟨d', m', hd', ((hF'.tst T2).tst T3).tst (Tst.lst hD3)⟩
          · rw [List.mem_singleton.mp hq]
            exact ⟨d, m, hd, hF.tst (Tst.lst hD3)⟩
      rintro ys H1 ⟨pots, rfl, hpl, K1, hp1⟩ e1
      walk_at "v"
      refine w_revL ?_
      walk_at "v"
      refine ⟨_, rfl, ?_⟩
      refine ⟨_, rfl, ?_⟩
      refine ⟨rfl, D, _, rfl, SqL.of e1, fun l2 hl2 => ?_⟩
      have K2 : Same H1 (upd H1 l2 (.lst (pots.map V.ref).reverse)) := Same.new (Same.refl _) hl2
      have e2 : upd H1 l2 (.lst (pots.map V.ref).reverse) l2 = some (.lst (pots.map V.ref).reverse) := upd_same
      generalize upd H1 l2 (.lst (pots.map V.ref).reverse) = H2 at K2 e2 ⊢
      walk_at "v"
      refine ⟨D, l2, _, _, rfl, rfl, K2 _ _ e1, e2, by rw [List.length_reverse, List.length_map]; exact Nat.le_of_lt (small1000 (by omega)), fun l3 hl3 => ?_⟩
      have e3 : upd H2 l3 (.lst (pots.map V.ref ++ (pots.map V.ref).reverse)) l3 = some (.lst ((pots ++ pots.reverse).map V.ref)) := by
        rw [upd_same, List.map_append, List.map_reverse]
      have K3 : Same H2 (upd H2 l3 (.lst (pots.map V.ref ++ (pots.map V.ref).reverse))) := Same.new (Same.refl _) hl3
      generalize upd H2 l3 _ = H3 at K3 e3 ⊢
      have hp3 : ∀ q ∈ pots ++ pots.reverse, Pot1 H3 q := fun q hq => by
        have hq' : q ∈ pots := by
          rcases List.mem_append.mp hq with h | h
          · exact h
          · exact List.mem_reverse.mp h
        obtain ⟨d, m, hd, hF⟩ := hp1 q hq'
        exact ⟨d, m, hd, (hF.same K2).same K3⟩
      walk_at "v"
      refine ⟨l3, rfl, ⟨_, SqL.of e3⟩, ?_⟩
      refine for_list (xs := (pots ++ pots.reverse).map V.ref) (fun i σ H' => ∃ u2 u3 u4 u5, σ = [some (.ref a), some (.ref D), u2, u3, u4, u5] ∧ Same H3 H') ⟨none, none, none, none, rfl, Same.refl _⟩ (fun i σ H' _ ⟨_, _, _, _, _, k'⟩ => SqL.of (k' _ _ e3)) ?_ ?_
      · rintro i x σ H4 hx ⟨u2, u3, u4, u5, rfl, K4⟩
        have hi : i < (pots ++ pots.reverse).length := by
          have := (List.getElem?_eq_some_iff.mp hx).1
          simpa using this
        have ex : x = .ref (pots ++ pots.reverse)[i] := by
          rw [List.getElem?_map, List.getElem?_eq_getElem hi] at hx
          exact (Option.some.inj hx).symm
        obtain ⟨d, m, hd, hF⟩ := hp3 _ (List.getElem_mem hi)
        subst ex
        generalize (pots ++ pots.reverse)[i] = q at hF hx ⊢
        have sl := shw_lines hd
        have sp := shw_pot hd
        have hF4 := hF.same K4
        walk_at "v"
        refine ⟨q, d, m, rfl, hF4, hd, fun ld H5 K5 nld e5 => ?_⟩
        walk_at "v"
        refine ⟨q, d, m, rfl, hF4.same K5, hd, fun lf H6 K6 nlf e6 => ?_⟩
        have ne65 : ld ≠ lf := ne_of_none e5 nlf
        have n4f : H4 lf = none := K5.free nlf
        walk_at "v"
        refine w_shw (.lst e6 (rdStrs _)) sl (by decide) (by decide) ?_
        walk_at "v"
        refine w_shw (.lst (K6 _ _ e5) (rdStrs _)) sl (by decide) (by decide) ?_
        walk_at "v"
        refine ⟨rfl, ?_⟩
        walk_at "v"
        refine iteNS rfl ?_
        walk_at "v"
        refine ⟨.inl ⟨rfl, _, SqL.of e6⟩, ?_⟩
        walk_at "v"
        have ll : ((ptL d).map V.str).length ≤ 12 := by
          unfold ptL ptW
          rw [List.length_map, List.length_map, List.length_append, List.length_map]
          have := hd.r8
          simp only [List.length_cons, List.length_nil]
          omega
        refine ⟨lf, _, _, rfl, rfl, e6, small1000 (by omega), ?_⟩
        have K7 : Same H4 (upd H6 lf (.lst ((ptL d).map V.str ++ [V.str "rule 1 a to"]))) := (K5.trans K6).put n4f
        have e7 : upd H6 lf (.lst ((ptL d).map V.str ++ [V.str "rule 1 a to"])) lf = some (.lst ((ptL d).map V.str ++ [V.str "rule 1 a to"])) := upd_same
        have e57 : upd H6 lf (.lst ((ptL d).map V.str ++ [V.str "rule 1 a to"])) ld = some (.lst ((ptL d).map V.str)) := by rw [upd_ne ne65]; exact K6 _ _ e5
        generalize upd H6 lf _ = H7 at K7 e7 e57 ⊢
        walk_at "v"
        refine w_bm0 ?_
        walk_at "v"
        refine ⟨.inl ⟨rfl, _, SqL.of e7⟩, ?_⟩
        refine ⟨lf, _, rfl, rfl, e7, ?_⟩
        have K8 : Same H4 (upd H7 lf (.lst ((ptL d).map V.str ++ [V.str "rule 1 a to"]).reverse)) := K7.put n4f
        have e58 : upd H7 lf (.lst ((ptL d).map V.str ++ [V.str "rule 1 a to"]).reverse) ld = some (.lst ((ptL d).map V.str)) := by rw [upd_ne ne65]; exact e57
        generalize upd H7 lf _ = H8 at K8 e58 ⊢
        walk_at "v"
        refine ⟨ld, _, rfl, .inl (SqL.of e58), fun lh hlh => ?_⟩
        have K9 : Same H8 (upd H8 lh (.lst ((ptL d).map V.str))) := Same.new (Same.refl _) hlh
        have e9 : upd H8 lh (.lst ((ptL d).map V.str)) lh = some (.lst ((ptL d).map V.str)) := upd_same
        generalize upd H8 lh (.lst ((ptL d).map V.str)) = H9 at K9 e9 ⊢
        have K49 := K8.trans K9
        walk_at "v"
        refine ⟨lh, d, m, rfl, e9, hd, fun pp H10 K10 npp hpp => ?_⟩
        have K410 := K49.trans K10
        walk_at "v"
        refine w_shw hpp.rd sp (by decide) (by decide) ?_
        walk_at "v"
        refine w_shw (hF4.same K410).rd sp (by decide) (by decide) ?_
        walk_at "v"
        refine ⟨rfl, ?_⟩
        refine ⟨_, rfl, ?_⟩
        refine iteNS rfl ?_
        walk_at "v"
        refine ⟨_, _, .lst (K10 _ _ e9) (rdStrs _), .lst ((K9.trans K10) _ _ e58) (rdStrs _), lay_lines hd, lay_lines hd, by show PyData.depthAll _ + 1 ≤ 60; rw [depth_strs]; decide, ?_⟩
        rw [show PyData.eqv (.list ((ptL d).map PyData.str)) (.list ((ptL d).map PyData.str)) = true from PySem.SeqAt.eqv_refl _ (lay_lines hd)]
        walk_at "v"
        refine iteF ?_
        walk_at "v"
        refine ⟨q, d, m, rfl, hF4.same K410, hd, fun lf2 H11 K11 _ e11 => ?_⟩
        walk_at "v"
        refine w_shw (.lst e11 (rdStrs _)) sl (by decide) (by decide) ?_
        walk_at "v"
        refine w_shw (.lst (K11 _ _ ((K9.trans K10) _ _ e58)) (rdStrs _)) sl (by decide) (by decide) ?_
        walk_at "v"
        refine ⟨rfl, ?_⟩
        walk_at "v"
        refine iteNS rfl ?_
        exact ⟨_, _, _, _, rfl, K4.trans (K410.trans K11)⟩
      rintro σ H4 ⟨u2, u3, u4, u5, rfl, K4⟩
      walk_at "v"
      exact k _
end
end K03

set_option Elab.async false
set_option linter.all false
set_option maxRecDepth 100000
namespace K03
open PySem L2 G2 PT
theorem all_mk {l : PySem.W.OpenLaw} {w : World} {K : PySem.W.Frag} {h : Heap} {mg : Str → Option Value} {fa f1 f2 f3 f4 f5 f6 f7 f8 f9 f10 f11 f12 f13 f14 f15 f16 f17 f18 f19 f20 f21 f22 f23 : Addr} (X : K.In h) (G : h.Ns mainGlobals mg) (hfa : mg "law" = some (.ref fa))
    {od1 an1 od2 an2 od3 an3 od4 an4 od5 an5 od6 an6 od7 an7 od8 an8 od9 an9 od10 an10 od11 an11 od12 an12 od13 an13 od14 an14 od15 an15 od16 an16 od17 an17 od18 an18 od19 an19 od20 an20 od21 an21 od22 an22 od23 an23 : Option Addr} {sl1 sl2 sl3 sl4 sl5 sl6 sl7 sl8 sl9 sl10 sl11 sl12 sl13 sl14 sl15 sl16 sl17 sl18 sl19 sl20 sl21 sl22 sl23 : Array (Option Value)} {oc1 kV1 dc1 pm1 cd1 ct1 oc2 kV2 dc2 pm2 cd2 ct2 oc3 kV3 dc3 pm3 cd3 ct3 oc4 kV4 dc4 pm4 cd4 ct4 oc5 kV5 dc5 pm5 cd5 ct5 oc6 kV6 dc6 pm6 cd6 ct6 oc7 kV7 dc7 pm7 cd7 ct7 oc8 kV8 dc8 pm8 cd8 ct8 oc9 kV9 dc9 pm9 cd9 ct9 oc10 kV10 dc10 pm10 cd10 ct10 oc11 kV11 dc11 pm11 cd11 ct11 oc12 kV12 dc12 pm12 cd12 ct12 oc13 kV13 dc13 pm13 cd13 ct13 oc14 kV14 dc14 pm14 cd14 ct14 oc15 kV15 dc15 pm15 cd15 ct15 oc16 kV16 dc16 pm16 cd16 ct16 oc17 kV17 dc17 pm17 cd17 ct17 oc18 kV18 dc18 pm18 cd18 ct18 oc19 kV19 dc19 pm19 cd19 ct19 oc20 kV20 dc20 pm20 cd20 ct20 oc21 kV21 dc21 pm21 cd21 ct21 oc22 kV22 dc22 pm22 cd22 ct22 oc23 kV23 dc23 pm23 cd23 ct23 : Value} {t1 t2 t3 t4 t5 t6 t7 t8 t9 t10 t11 t12 t13 t14 t15 t16 t17 t18 t19 t20 t21 : Tok} {ta1 : Addr} {td1 : Option Addr} {tn1 : Nat} {ts1 : Array (Option Value)} {tt1_0 tt1_1 tt1_2 tt1_3 tt1_4 tt1_5 : Tok}
    (a1 : PySem.W.nsIn K mainGlobals "_law_feed" = some (some (.ref f1))) (l1 : K.lookup f1 = some ⟨oc1, od1, .func (PySem.W.fnOf "_law_feed" "_law_feed" (defArgs sFeed) (defBody sFeed) (defScope sFeed) .none kV1 dc1 pm1 an1 cd1 ct1), sl1⟩) (c1 : PySem.W.codeIn K cd1 "_law_feed" = true) (k1 : PySem.W.keepIn K (.ref f1) = true)
    (a2 : PySem.W.nsIn K mainGlobals "_law_draw" = some (some (.ref f2))) (l2 : K.lookup f2 = some ⟨oc2, od2, .func (PySem.W.fnOf "_law_draw" "_law_draw" (defArgs sDraw) (defBody sDraw) (defScope sDraw) .none kV2 dc2 pm2 an2 cd2 ct2), sl2⟩) (c2 : PySem.W.codeIn K cd2 "_law_draw" = true) (k2 : PySem.W.keepIn K (.ref f2) = true)
    (a3 : PySem.W.nsIn K mainGlobals "_law_names" = some (some (.ref f3))) (l3 : K.lookup f3 = some ⟨oc3, od3, .func (PySem.W.fnOf "_law_names" "_law_names" (defArgs sNames) (defBody sNames) (defScope sNames) .none kV3 dc3 pm3 an3 cd3 ct3), sl3⟩) (c3 : PySem.W.codeIn K cd3 "_law_names" = true) (k3 : PySem.W.keepIn K (.ref f3) = true)
    (a4 : PySem.W.nsIn K mainGlobals "_law_rule" = some (some (.ref f4))) (l4 : K.lookup f4 = some ⟨oc4, od4, .func (PySem.W.fnOf "_law_rule" "_law_rule" (defArgs sRule) (defBody sRule) (defScope sRule) .none kV4 dc4 pm4 an4 cd4 ct4), sl4⟩) (c4 : PySem.W.codeIn K cd4 "_law_rule" = true) (k4 : PySem.W.keepIn K (.ref f4) = true)
    (a5 : PySem.W.nsIn K mainGlobals "_law_pot" = some (some (.ref f5))) (l5 : K.lookup f5 = some ⟨oc5, od5, .func (PySem.W.fnOf "_law_pot" "_law_pot" (defArgs sPot) (defBody sPot) (defScope sPot) .none kV5 dc5 pm5 an5 cd5 ct5), sl5⟩) (c5 : PySem.W.codeIn K cd5 "_law_pot" = true) (k5 : PySem.W.keepIn K (.ref f5) = true)
    (a6 : PySem.W.nsIn K mainGlobals "is_figures" = some (some (.ref f6))) (l6 : K.lookup f6 = some ⟨oc6, od6, .func (PySem.W.fnOf "is_figures" "is_figures" (defArgs sFig) (defBody sFig) (defScope sFig) .none kV6 dc6 pm6 an6 cd6 ct6), sl6⟩) (c6 : PySem.W.codeIn K cd6 "is_figures" = true) (k6 : PySem.W.keepIn K (.ref f6) = true)
    (a7 : PySem.W.nsIn K mainGlobals "is_name" = some (some (.ref f7))) (l7 : K.lookup f7 = some ⟨oc7, od7, .func (PySem.W.fnOf "is_name" "is_name" (defArgs sNam) (defBody sNam) (defScope sNam) .none kV7 dc7 pm7 an7 cd7 ct7), sl7⟩) (c7 : PySem.W.codeIn K cd7 "is_name" = true) (k7 : PySem.W.keepIn K (.ref f7) = true)
    (a8 : PySem.W.nsIn K mainGlobals "words_of" = some (some (.ref f8))) (l8 : K.lookup f8 = some ⟨oc8, od8, .func (PySem.W.fnOf "words_of" "words_of" (defArgs sWof) (defBody sWof) (defScope sWof) .none kV8 dc8 pm8 an8 cd8 ct8), sl8⟩) (c8 : PySem.W.codeIn K cd8 "words_of" = true) (k8 : PySem.W.keepIn K (.ref f8) = true)
    (a9 : PySem.W.nsIn K mainGlobals "read_number" = some (some (.ref f9))) (l9 : K.lookup f9 = some ⟨oc9, od9, .func (PySem.W.fnOf "read_number" "read_number" (defArgs sNu) (defBody sNu) (defScope sNu) .none kV9 dc9 pm9 an9 cd9 ct9), sl9⟩) (c9 : PySem.W.codeIn K cd9 "read_number" = true) (k9 : PySem.W.keepIn K (.ref f9) = true)
    (a10 : PySem.W.nsIn K mainGlobals "read_sort" = some (some (.ref f10))) (l10 : K.lookup f10 = some ⟨oc10, od10, .func (PySem.W.fnOf "read_sort" "read_sort" (defArgs sSo) (defBody sSo) (defScope sSo) .none kV10 dc10 pm10 an10 cd10 ct10), sl10⟩) (c10 : PySem.W.codeIn K cd10 "read_sort" = true) (k10 : PySem.W.keepIn K (.ref f10) = true)
    (a11 : PySem.W.nsIn K mainGlobals "read_sorts" = some (some (.ref f11))) (l11 : K.lookup f11 = some ⟨oc11, od11, .func (PySem.W.fnOf "read_sorts" "read_sorts" (defArgs sRs) (defBody sRs) (defScope sRs) .none kV11 dc11 pm11 an11 cd11 ct11), sl11⟩) (c11 : PySem.W.codeIn K cd11 "read_sorts" = true) (k11 : PySem.W.keepIn K (.ref f11) = true)
    (a12 : PySem.W.nsIn K mainGlobals "read_begin" = some (some (.ref f12))) (l12 : K.lookup f12 = some ⟨oc12, od12, .func (PySem.W.fnOf "read_begin" "read_begin" (defArgs sRb) (defBody sRb) (defScope sRb) .none kV12 dc12 pm12 an12 cd12 ct12), sl12⟩) (c12 : PySem.W.codeIn K cd12 "read_begin" = true) (k12 : PySem.W.keepIn K (.ref f12) = true)
    (a13 : PySem.W.nsIn K mainGlobals "read_inputs" = some (some (.ref f13))) (l13 : K.lookup f13 = some ⟨oc13, od13, .func (PySem.W.fnOf "read_inputs" "read_inputs" (defArgs sRi) (defBody sRi) (defScope sRi) .none kV13 dc13 pm13 an13 cd13 ct13), sl13⟩) (c13 : PySem.W.codeIn K cd13 "read_inputs" = true) (k13 : PySem.W.keepIn K (.ref f13) = true)
    (a14 : PySem.W.nsIn K mainGlobals "read_answer" = some (some (.ref f14))) (l14 : K.lookup f14 = some ⟨oc14, od14, .func (PySem.W.fnOf "read_answer" "read_answer" (defArgs sRan) (defBody sRan) (defScope sRan) .none kV14 dc14 pm14 an14 cd14 ct14), sl14⟩) (c14 : PySem.W.codeIn K cd14 "read_answer" = true) (k14 : PySem.W.keepIn K (.ref f14) = true)
    (a15 : PySem.W.nsIn K mainGlobals "read_side" = some (some (.ref f15))) (l15 : K.lookup f15 = some ⟨oc15, od15, .func (PySem.W.fnOf "read_side" "read_side" (defArgs sRsd) (defBody sRsd) (defScope sRsd) .none kV15 dc15 pm15 an15 cd15 ct15), sl15⟩) (c15 : PySem.W.codeIn K cd15 "read_side" = true) (k15 : PySem.W.keepIn K (.ref f15) = true)
    (a16 : PySem.W.nsIn K mainGlobals "read_rule" = some (some (.ref f16))) (l16 : K.lookup f16 = some ⟨oc16, od16, .func (PySem.W.fnOf "read_rule" "read_rule" (defArgs sRr) (defBody sRr) (defScope sRr) .none kV16 dc16 pm16 an16 cd16 ct16), sl16⟩) (c16 : PySem.W.codeIn K cd16 "read_rule" = true) (k16 : PySem.W.keepIn K (.ref f16) = true)
    (a17 : PySem.W.nsIn K mainGlobals "read_pot" = some (some (.ref f17))) (l17 : K.lookup f17 = some ⟨oc17, od17, .func (PySem.W.fnOf "read_pot" "read_pot" (defArgs sRp) (defBody sRp) (defScope sRp) .none kV17 dc17 pm17 an17 cd17 ct17), sl17⟩) (c17 : PySem.W.codeIn K cd17 "read_pot" = true) (k17 : PySem.W.keepIn K (.ref f17) = true)
    (a18 : PySem.W.nsIn K mainGlobals "in_a_row" = some (some (.ref f18))) (l18 : K.lookup f18 = some ⟨oc18, od18, .func (PySem.W.fnOf "in_a_row" "in_a_row" (defArgs sIar) (defBody sIar) (defScope sIar) .none kV18 dc18 pm18 an18 cd18 ct18), sl18⟩) (c18 : PySem.W.codeIn K cd18 "in_a_row" = true) (k18 : PySem.W.keepIn K (.ref f18) = true)
    (a19 : PySem.W.nsIn K mainGlobals "shown_side" = some (some (.ref f19))) (l19 : K.lookup f19 = some ⟨oc19, od19, .func (PySem.W.fnOf "shown_side" "shown_side" (defArgs sSsd) (defBody sSsd) (defScope sSsd) .none kV19 dc19 pm19 an19 cd19 ct19), sl19⟩) (c19 : PySem.W.codeIn K cd19 "shown_side" = true) (k19 : PySem.W.keepIn K (.ref f19) = true)
    (a20 : PySem.W.nsIn K mainGlobals "shown_pot" = some (some (.ref f20))) (l20 : K.lookup f20 = some ⟨oc20, od20, .func (PySem.W.fnOf "shown_pot" "shown_pot" (defArgs sSpo) (defBody sSpo) (defScope sSpo) .none kV20 dc20 pm20 an20 cd20 ct20), sl20⟩) (c20 : PySem.W.codeIn K cd20 "shown_pot" = true) (k20 : PySem.W.keepIn K (.ref f20) = true)
    (a21 : PySem.W.nsIn K mainGlobals "_law_side" = some (some (.ref f21))) (l21 : K.lookup f21 = some ⟨oc21, od21, .func (PySem.W.fnOf "_law_side" "_law_side" (defArgs sLsd) (defBody sLsd) (defScope sLsd) .none kV21 dc21 pm21 an21 cd21 ct21), sl21⟩) (c21 : PySem.W.codeIn K cd21 "_law_side" = true) (k21 : PySem.W.keepIn K (.ref f21) = true)
    (a22 : PySem.W.nsIn K mainGlobals "_law_lines" = some (some (.ref f22))) (l22 : K.lookup f22 = some ⟨oc22, od22, .func (PySem.W.fnOf "_law_lines" "_law_lines" (defArgs sLli) (defBody sLli) (defScope sLli) .none kV22 dc22 pm22 an22 cd22 ct22), sl22⟩) (c22 : PySem.W.codeIn K cd22 "_law_lines" = true) (k22 : PySem.W.keepIn K (.ref f22) = true)
    (a23 : PySem.W.nsIn K mainGlobals "law" = some (some (.ref f23))) (l23 : K.lookup f23 = some ⟨oc23, od23, .func (PySem.W.fnOf "law" "law" (defArgs sLaw) (defBody sLaw) (defScope sLaw) .none kV23 dc23 pm23 an23 cd23 ct23), sl23⟩) (c23 : PySem.W.codeIn K cd23 "law" = true) (k23 : PySem.W.keepIn K (.ref f23) = true)
    (z1 : PySem.W.nsIn K mainGlobals "len" = some none) (z2 : PySem.W.nsIn K mainGlobals "range" = some none) (z3 : PySem.W.nsIn K mainGlobals "tuple" = some none) (z4 : PySem.W.nsIn K mainGlobals "int" = some none) (z5 : PySem.W.nsIn K mainGlobals "bool" = some none) (z6 : PySem.W.nsIn K mainGlobals "list" = some none) (z7 : PySem.W.nsIn K mainGlobals "str" = some none) (z8 : PySem.W.nsIn K mainGlobals "all" = some none) (z9 : PySem.W.nsIn K mainGlobals "any" = some none) (z10 : PySem.W.nsIn K mainGlobals "isinstance" = some none) (z11 : PySem.W.nsIn K mainGlobals "repr" = some none) (z12 : PySem.W.nsIn K mainGlobals "zip" = some none) (z13 : PySem.W.nsIn K mainGlobals "min" = some none) (z14 : PySem.W.nsIn K mainGlobals "max" = some none) (z15 : PySem.W.nsIn K mainGlobals "sum" = some none) (z16 : PySem.W.nsIn K mainGlobals "enumerate" = some none) (z17 : PySem.W.nsIn K mainGlobals "sorted" = some none) (z18 : PySem.W.nsIn K mainGlobals "set" = some none) (z19 : PySem.W.nsIn K mainGlobals "dict" = some none) (z20 : PySem.W.nsIn K mainGlobals "abs" = some none)
    (g1 : PySem.W.nsIn K mainGlobals "FIGURES" = some (some (.str "0123456789" t1))) (g2 : PySem.W.nsIn K mainGlobals "LETTERS" = some (some (.str "abcdefghijklmnopqrstuvwxyz" t2))) (g3 : PySem.W.nsIn K mainGlobals "MOST_LETTERS" = some (some (.int (8) t3))) (g4 : PySem.W.nsIn K mainGlobals "MOST_SORTS" = some (some (.int (8) t4))) (g5 : PySem.W.nsIn K mainGlobals "MOST_BEGIN" = some (some (.int (99) t5))) (g6 : PySem.W.nsIn K mainGlobals "MOST_INPUTS" = some (some (.int (3) t6))) (g7 : PySem.W.nsIn K mainGlobals "MOST_RULES" = some (some (.int (8) t7))) (g8 : PySem.W.nsIn K mainGlobals "MOST_DROPS" = some (some (.int (9) t8))) (g9 : PySem.W.nsIn K mainGlobals "MOST_FIGURES" = some (some (.int (2) t9))) (g10 : PySem.W.nsIn K mainGlobals "SORTS_LINE" = some (some (.int (0) t10))) (g11 : PySem.W.nsIn K mainGlobals "BEGIN_LINE" = some (some (.int (1) t11))) (g12 : PySem.W.nsIn K mainGlobals "IN_LINE" = some (some (.int (2) t12))) (g13 : PySem.W.nsIn K mainGlobals "OUT_LINE" = some (some (.int (3) t13))) (g14 : PySem.W.nsIn K mainGlobals "FIRST_RULE" = some (some (.int (4) t14))) (g15 : PySem.W.nsIn K mainGlobals "SORTS" = some (some (.int (0) t15))) (g16 : PySem.W.nsIn K mainGlobals "RULES" = some (some (.int (1) t16))) (g17 : PySem.W.nsIn K mainGlobals "INPUTS" = some (some (.int (2) t17))) (g18 : PySem.W.nsIn K mainGlobals "BEGIN" = some (some (.int (3) t18))) (g19 : PySem.W.nsIn K mainGlobals "ANSWER" = some (some (.int (4) t19))) (g20 : PySem.W.nsIn K mainGlobals "TAKES" = some (some (.int (0) t20))) (g21 : PySem.W.nsIn K mainGlobals "GIVES" = some (some (.int (1) t21))) (tg1 : PySem.W.nsIn K mainGlobals "NO_NAMES" = some (some (.ref ta1))) (tl1 : K.lookup ta1 = some ⟨.type "tuple", td1, .seq #[.str "sorts" tt1_0, .str "begin" tt1_1, .str "in" tt1_2, .str "out" tt1_3, .str "rule" tt1_4, .str "to" tt1_5] tn1, ts1⟩) :
    ∃ fd : FuncData, (∀ (s : Shared) (v : Value), BindsTo s fd ⟨[v], []⟩ [("_law_script", v)]) ∧ ∀ base : Heap, K.In base → base.Ns mainGlobals mg → FnOk l.prog w K mg base CX0 6 fa fd ["_law_script"] (spLaw K) := by
  have e := hfa.symm.trans (PySem.W.mg_of X G a23)
  cases e
  have F1 := fun_mk (st := sFeed) l1 c1 k1
  have b1 := F1.binds (ps := ["_law_script", "_law_k"]) fun _ _ _ _ _ _ us hl => match us, hl with | [_, _], _ => rfl
  have m1 := PySem.W.mg_of X G a1
  have F2 := fun_mk (st := sDraw) l2 c2 k2
  have b2 := F2.binds (ps := ["_law_feed_here", "_law_many"]) fun _ _ _ _ _ _ us hl => match us, hl with | [_, _], _ => rfl
  have m2 := PySem.W.mg_of X G a2
  have F3 := fun_mk (st := sNames) l3 c3 k3
  have b3 := F3.binds (ps := ["_law_feed_here", "_law_many"]) fun _ _ _ _ _ _ us hl => match us, hl with | [_, _], _ => rfl
  have m3 := PySem.W.mg_of X G a3
  have F4 := fun_mk (st := sRule) l4 c4 k4
  have b4 := F4.binds (ps := ["_law_feed_here", "_law_many"]) fun _ _ _ _ _ _ us hl => match us, hl with | [_, _], _ => rfl
  have m4 := PySem.W.mg_of X G a4
  have F5 := fun_mk (st := sPot) l5 c5 k5
  have b5 := F5.binds (ps := ["_law_feed_here"]) fun _ _ _ _ _ _ us hl => match us, hl with | [_], _ => rfl
  have m5 := PySem.W.mg_of X G a5
  have F6 := fun_mk (st := sFig) l6 c6 k6
  have b6 := F6.binds (ps := ["word"]) fun _ _ _ _ _ _ us hl => match us, hl with | [_], _ => rfl
  have m6 := PySem.W.mg_of X G a6
  have F7 := fun_mk (st := sNam) l7 c7 k7
  have b7 := F7.binds (ps := ["thing"]) fun _ _ _ _ _ _ us hl => match us, hl with | [_], _ => rfl
  have m7 := PySem.W.mg_of X G a7
  have F8 := fun_mk (st := sWof) l8 c8 k8
  have b8 := F8.binds (ps := ["lines", "line", "first"]) fun _ _ _ _ _ _ us hl => match us, hl with | [_, _, _], _ => rfl
  have m8 := PySem.W.mg_of X G a8
  have F9 := fun_mk (st := sNu) l9 c9 k9
  have b9 := F9.binds (ps := ["words", "line", "place", "low", "high"]) fun _ _ _ _ _ _ us hl => match us, hl with | [_, _, _, _, _], _ => rfl
  have m9 := PySem.W.mg_of X G a9
  have F10 := fun_mk (st := sSo) l10 c10 k10
  have b10 := F10.binds (ps := ["words", "line", "place", "sorts"]) fun _ _ _ _ _ _ us hl => match us, hl with | [_, _, _, _], _ => rfl
  have m10 := PySem.W.mg_of X G a10
  have F11 := fun_mk (st := sRs) l11 c11 k11
  have b11 := F11.binds (ps := ["lines"]) fun _ _ _ _ _ _ us hl => match us, hl with | [_], _ => rfl
  have m11 := PySem.W.mg_of X G a11
  have F12 := fun_mk (st := sRb) l12 c12 k12
  have b12 := F12.binds (ps := ["lines", "sorts"]) fun _ _ _ _ _ _ us hl => match us, hl with | [_, _], _ => rfl
  have m12 := PySem.W.mg_of X G a12
  have F13 := fun_mk (st := sRi) l13 c13 k13
  have b13 := F13.binds (ps := ["lines", "sorts"]) fun _ _ _ _ _ _ us hl => match us, hl with | [_, _], _ => rfl
  have m13 := PySem.W.mg_of X G a13
  have F14 := fun_mk (st := sRan) l14 c14 k14
  have b14 := F14.binds (ps := ["lines", "sorts"]) fun _ _ _ _ _ _ us hl => match us, hl with | [_, _], _ => rfl
  have m14 := PySem.W.mg_of X G a14
  have F15 := fun_mk (st := sRsd) l15 c15 k15
  have b15 := F15.binds (ps := ["words", "line", "start", "end", "sorts"]) fun _ _ _ _ _ _ us hl => match us, hl with | [_, _, _, _, _], _ => rfl
  have m15 := PySem.W.mg_of X G a15
  have F16 := fun_mk (st := sRr) l16 c16 k16
  have b16 := F16.binds (ps := ["lines", "line", "sorts"]) fun _ _ _ _ _ _ us hl => match us, hl with | [_, _, _], _ => rfl
  have m16 := PySem.W.mg_of X G a16
  have F17 := fun_mk (st := sRp) l17 c17 k17
  have b17 := F17.binds (ps := ["lines"]) fun _ _ _ _ _ _ us hl => match us, hl with | [_], _ => rfl
  have m17 := PySem.W.mg_of X G a17
  have F18 := fun_mk (st := sIar) l18 c18 k18
  have b18 := F18.binds (ps := ["first", "words"]) fun _ _ _ _ _ _ us hl => match us, hl with | [_, _], _ => rfl
  have m18 := PySem.W.mg_of X G a18
  have F19 := fun_mk (st := sSsd) l19 c19 k19
  have b19 := F19.binds (ps := ["sorts", "counts"]) fun _ _ _ _ _ _ us hl => match us, hl with | [_, _], _ => rfl
  have m19 := PySem.W.mg_of X G a19
  have F20 := fun_mk (st := sSpo) l20 c20 k20
  have b20 := F20.binds (ps := ["pot"]) fun _ _ _ _ _ _ us hl => match us, hl with | [_], _ => rfl
  have m20 := PySem.W.mg_of X G a20
  have F21 := fun_mk (st := sLsd) l21 c21 k21
  have b21 := F21.binds (ps := ["_law_sorts", "_law_side_here"]) fun _ _ _ _ _ _ us hl => match us, hl with | [_, _], _ => rfl
  have m21 := PySem.W.mg_of X G a21
  have F22 := fun_mk (st := sLli) l22 c22 k22
  have b22 := F22.binds (ps := ["_law_pot_here"]) fun _ _ _ _ _ _ us hl => match us, hl with | [_], _ => rfl
  have m22 := PySem.W.mg_of X G a22
  have F23 := fun_mk (st := sLaw) l23 c23 k23
  have y1 := PySem.W.mg_none_of X G z1
  have y2 := PySem.W.mg_none_of X G z2
  have y3 := PySem.W.mg_none_of X G z3
  have y4 := PySem.W.mg_none_of X G z4
  have y5 := PySem.W.mg_none_of X G z5
  have y6 := PySem.W.mg_none_of X G z6
  have y7 := PySem.W.mg_none_of X G z7
  have y8 := PySem.W.mg_none_of X G z8
  have y9 := PySem.W.mg_none_of X G z9
  have y10 := PySem.W.mg_none_of X G z10
  have y11 := PySem.W.mg_none_of X G z11
  have y12 := PySem.W.mg_none_of X G z12
  have y13 := PySem.W.mg_none_of X G z13
  have y14 := PySem.W.mg_none_of X G z14
  have y15 := PySem.W.mg_none_of X G z15
  have y16 := PySem.W.mg_none_of X G z16
  have y17 := PySem.W.mg_none_of X G z17
  have y18 := PySem.W.mg_none_of X G z18
  have y19 := PySem.W.mg_none_of X G z19
  have y20 := PySem.W.mg_none_of X G z20
  have B : Bl mg := ⟨y1, y2, y3, y4, y5, y6, y7, y8, y9, y10, y11, y12, y13, y14, y15, y16, y17, y18, y19, y20⟩
  have B2 : Blt2 mg := ⟨⟨y1, y2, y3, y4⟩, y6, y13⟩
  have C : KR K mg := ⟨⟨_, PySem.W.mg_of X G g1⟩, ⟨_, PySem.W.mg_of X G g2⟩, ⟨ta1, _, _, _, PySem.W.mg_of X G tg1, tl1, rfl, rfl, by show 6 ≤ sizeLine; decide, (.cons ⟨_, rfl⟩ (.cons ⟨_, rfl⟩ (.cons ⟨_, rfl⟩ (.cons ⟨_, rfl⟩ (.cons ⟨_, rfl⟩ (.cons ⟨_, rfl⟩ .nil))))))⟩, ⟨_, PySem.W.mg_of X G g3⟩, ⟨_, PySem.W.mg_of X G g4⟩, ⟨_, PySem.W.mg_of X G g5⟩, ⟨_, PySem.W.mg_of X G g6⟩, ⟨_, PySem.W.mg_of X G g7⟩, ⟨_, PySem.W.mg_of X G g8⟩, ⟨_, PySem.W.mg_of X G g9⟩, ⟨_, PySem.W.mg_of X G g10⟩, ⟨_, PySem.W.mg_of X G g11⟩, ⟨_, PySem.W.mg_of X G g12⟩, ⟨_, PySem.W.mg_of X G g13⟩, ⟨_, PySem.W.mg_of X G g14⟩⟩
  have Z : KP mg := ⟨⟨_, PySem.W.mg_of X G g15⟩, ⟨_, PySem.W.mg_of X G g16⟩, ⟨_, PySem.W.mg_of X G g17⟩, ⟨_, PySem.W.mg_of X G g18⟩, ⟨_, PySem.W.mg_of X G g19⟩, ⟨_, PySem.W.mg_of X G g20⟩, ⟨_, PySem.W.mg_of X G g21⟩⟩
  refine ⟨PySem.W.fnOf "law" "law" (defArgs sLaw) (defBody sLaw) (defScope sLaw) .none kV23 dc23 pm23 an23 cd23 ct23, fun s v => .of_eq rfl, fun base _ _ => ?_⟩
  have H1 : Has l.prog w K mg base 1 "_law_feed" ["_law_script", "_law_k"] (spFeed K) := ⟨_, _, ok_feed y1 F1, m1, k1, b1⟩
  have H2 : Has l.prog w K mg base 1 "_law_draw" ["_law_feed_here", "_law_many"] spDraw := ⟨_, _, ok_draw F2, m2, k2, b2⟩
  have H3 : Has l.prog w K mg base 2 "_law_names" ["_law_feed_here", "_law_many"] spNames := ⟨_, _, ok_names y2 H2 F3, m3, k3, b3⟩
  have H4 : Has l.prog w K mg base 2 "_law_rule" ["_law_feed_here", "_law_many"] spRule := ⟨_, _, ok_rule B2.toBlt H2 F4, m4, k4, b4⟩
  have H5 : Has l.prog w K mg base 3 "_law_pot" ["_law_feed_here"] spPot := ⟨_, _, ok_pot B2 H2 H3 H4 F5, m5, k5, b5⟩
  have H6 : Has l.prog w K mg base 1 "is_figures" ["word"] spFig := ⟨_, _, ok_Fig B C F6, m6, k6, b6⟩
  have H7 : Has l.prog w K mg base 1 "is_name" ["thing"] spNam := ⟨_, _, ok_Nam B C F7, m7, k7, b7⟩
  have H8 : Has l.prog w K mg base 1 "words_of" ["lines", "line", "first"] spWof := ⟨_, _, ok_Wof B C F8, m8, k8, b8⟩
  have H9 : Has l.prog w K mg base 2 "read_number" ["words", "line", "place", "low", "high"] spNu := ⟨_, _, ok_Nu B C H6 F9, m9, k9, b9⟩
  have H10 : Has l.prog w K mg base 1 "read_sort" ["words", "line", "place", "sorts"] spSo := ⟨_, _, ok_So B C F10, m10, k10, b10⟩
  have H11 : Has l.prog w K mg base 2 "read_sorts" ["lines"] spRs := ⟨_, _, ok_Rs B C H8 H7 F11, m11, k11, b11⟩
  have H12 : Has l.prog w K mg base 3 "read_begin" ["lines", "sorts"] spRb := ⟨_, _, ok_Rb B C H8 H9 F12, m12, k12, b12⟩
  have H13 : Has l.prog w K mg base 2 "read_inputs" ["lines", "sorts"] spRi := ⟨_, _, ok_Ri B C H8 H10 F13, m13, k13, b13⟩
  have H14 : Has l.prog w K mg base 2 "read_answer" ["lines", "sorts"] spRan := ⟨_, _, ok_Ran B C H8 H10 F14, m14, k14, b14⟩
  have H15 : Has l.prog w K mg base 3 "read_side" ["words", "line", "start", "end", "sorts"] spRsd := ⟨_, _, ok_Rsd B C H9 H10 F15, m15, k15, b15⟩
  have H16 : Has l.prog w K mg base 4 "read_rule" ["lines", "line", "sorts"] spRr := ⟨_, _, ok_Rr B C H8 H15 F16, m16, k16, b16⟩
  have H17 : Has l.prog w K mg base 5 "read_pot" ["lines"] spRp := ⟨_, _, ok_Rp B C H11 H12 H13 H14 H16 F17, m17, k17, b17⟩
  have H18 : Has l.prog w K mg base 1 "in_a_row" ["first", "words"] (spIar K) := ⟨_, _, ok_Iar B F18, m18, k18, b18⟩
  have H19 : Has l.prog w K mg base 1 "shown_side" ["sorts", "counts"] spSsd := ⟨_, _, ok_Ssd B F19, m19, k19, b19⟩
  have H20 : Has l.prog w K mg base 2 "shown_pot" ["pot"] spSpo := ⟨_, _, ok_Spo B Z H18 H19 F20, m20, k20, b20⟩
  have H21 : Has l.prog w K mg base 1 "_law_side" ["_law_sorts", "_law_side_here"] spSsd := ⟨_, _, ok_Lsd B F21, m21, k21, b21⟩
  have H22 : Has l.prog w K mg base 2 "_law_lines" ["_law_pot_here"] spSpo := ⟨_, _, ok_Lli B H21 F22, m22, k22, b22⟩
  exact ok_Law B H1 H5 H22 H20 H17 F23
theorem walk {l : PySem.W.OpenLaw} {q : Program} {loose : List Str} {XP : (Str → Option Value) → Heap → Prop} {YP : World → Heap → Prop} {d : DefRec} {K : Params → PySem.W.Frag} (hn : l.most = some 63) (hdf : d.params.defaults = [])
    (hY : ∀ (w : World) (h : Heap), YP w h → (K w.params).In h)
    (F : ∀ (w : World) (mg : Str → Option Value) (fa : Addr) (h : Heap), (K w.params).In h → h.Ns mainGlobals mg → mg d.name = some (.ref fa) →
      ∃ fd : FuncData, (∀ (s : Shared) (u : Value), BindsTo s fd ⟨[u], []⟩ [("_law_script", u)]) ∧ ∀ base : Heap, (K w.params).In base → base.Ns mainGlobals mg → FnOk l.prog w (K w.params) mg base CX0 6 fa fd ["_law_script"] (spLaw (K w.params))) :
    PySem.W.WalkO q loose XP YP l.row.toRowW d [] (fun f vs => PySem.call f vs) :=
  L2.walk_of (n := 63) (k := 6) (x := "_law_script") (CX := fun _ => CX0) (sp := fun w => spLaw (K w.params)) hn (by decide) hdf ⟨rfl, by decide, by decide, rfl⟩ hY F (fun _ H a ns hl hO hS => ⟨a, ns, rfl, SqF.of hO hS, hl, fun _ => rfl⟩) fun _ _ _ _ _ z => z
end K03
open PySem PySem.W PyProof.Rows
set_option maxRecDepth 100000 in
set_option maxHeartbeats 0 in
theorem PySem.Challenge.cw_dropsums_k03_pots_written_and_read_holds : PySem.Challenge.rw_dropsums_k03_pots_written_and_read.Holds := by
  w_on; o_law; k_head; (case hw => w_witness2)
  k_fill
  refine K03.walk (l := PySem.Challenge.rw_dropsums_k03_pots_written_and_read) rfl rfl (fun w h Y => PySem.W.kIn_of Y) ?F
  case F =>
    intro w mg fa h KX G hmg
    refine' K03.all_mk KX G hmg ?a1 ?l1 ?c1 ?k1 ?a2 ?l2 ?c2 ?k2 ?a3 ?l3 ?c3 ?k3 ?a4 ?l4 ?c4 ?k4 ?a5 ?l5 ?c5 ?k5 ?a6 ?l6 ?c6 ?k6 ?a7 ?l7 ?c7 ?k7 ?a8 ?l8 ?c8 ?k8 ?a9 ?l9 ?c9 ?k9 ?a10 ?l10 ?c10 ?k10 ?a11 ?l11 ?c11 ?k11 ?a12 ?l12 ?c12 ?k12 ?a13 ?l13 ?c13 ?k13 ?a14 ?l14 ?c14 ?k14 ?a15 ?l15 ?c15 ?k15 ?a16 ?l16 ?c16 ?k16 ?a17 ?l17 ?c17 ?k17 ?a18 ?l18 ?c18 ?k18 ?a19 ?l19 ?c19 ?k19 ?a20 ?l20 ?c20 ?k20 ?a21 ?l21 ?c21 ?k21 ?a22 ?l22 ?c22 ?k22 ?a23 ?l23 ?c23 ?k23 ?z1 ?z2 ?z3 ?z4 ?z5 ?z6 ?z7 ?z8 ?z9 ?z10 ?z11 ?z12 ?z13 ?z14 ?z15 ?z16 ?z17 ?z18 ?z19 ?z20 ?g1 ?g2 ?g3 ?g4 ?g5 ?g6 ?g7 ?g8 ?g9 ?g10 ?g11 ?g12 ?g13 ?g14 ?g15 ?g16 ?g17 ?g18 ?g19 ?g20 ?g21 ?tg1 ?tl1
    (case a1 => k_is)
    (case l1 => k_is)
    (case c1 => k_is)
    (case k1 => k_is)
    (case a2 => k_is)
    (case l2 => k_is)
    (case c2 => k_is)
    (case k2 => k_is)
    (case a3 => k_is)
    (case l3 => k_is)
    (case c3 => k_is)
    (case k3 => k_is)
    (case a4 => k_is)
    (case l4 => k_is)
    (case c4 => k_is)
    (case k4 => k_is)
    (case a5 => k_is)
    (case l5 => k_is)
    (case c5 => k_is)
    (case k5 => k_is)
    (case a6 => k_is)
    (case l6 => k_is)
    (case c6 => k_is)
    (case k6 => k_is)
    (case a7 => k_is)
    (case l7 => k_is)
    (case c7 => k_is)
    (case k7 => k_is)
    (case a8 => k_is)
    (case l8 => k_is)
    (case c8 => k_is)
    (case k8 => k_is)
    (case a9 => k_is)
    (case l9 => k_is)
    (case c9 => k_is)
    (case k9 => k_is)
    (case a10 => k_is)
    (case l10 => k_is)
    (case c10 => k_is)
    (case k10 => k_is)
    (case a11 => k_is)
    (case l11 => k_is)
    (case c11 => k_is)
    (case k11 => k_is)
    (case a12 => k_is)
    (case l12 => k_is)
    (case c12 => k_is)
    (case k12 => k_is)
    (case a13 => k_is)
    (case l13 => k_is)
    (case c13 => k_is)
    (case k13 => k_is)
    (case a14 => k_is)
    (case l14 => k_is)
    (case c14 => k_is)
    (case k14 => k_is)
    (case a15 => k_is)
    (case l15 => k_is)
    (case c15 => k_is)
    (case k15 => k_is)
    (case a16 => k_is)
    (case l16 => k_is)
    (case c16 => k_is)
    (case k16 => k_is)
    (case a17 => k_is)
    (case l17 => k_is)
    (case c17 => k_is)
    (case k17 => k_is)
    (case a18 => k_is)
    (case l18 => k_is)
    (case c18 => k_is)
    (case k18 => k_is)
    (case a19 => k_is)
    (case l19 => k_is)
    (case c19 => k_is)
    (case k19 => k_is)
    (case a20 => k_is)
    (case l20 => k_is)
    (case c20 => k_is)
    (case k20 => k_is)
    (case a21 => k_is)
    (case l21 => k_is)
    (case c21 => k_is)
    (case k21 => k_is)
    (case a22 => k_is)
    (case l22 => k_is)
    (case c22 => k_is)
    (case k22 => k_is)
    (case a23 => k_is)
    (case l23 => k_is)
    (case c23 => k_is)
    (case k23 => k_is)
    (case z1 => k_is)
    (case z2 => k_is)
    (case z3 => k_is)
    (case z4 => k_is)
    (case z5 => k_is)
    (case z6 => k_is)
    (case z7 => k_is)
    (case z8 => k_is)
    (case z9 => k_is)
    (case z10 => k_is)
    (case z11 => k_is)
    (case z12 => k_is)
    (case z13 => k_is)
    (case z14 => k_is)
    (case z15 => k_is)
    (case z16 => k_is)
    (case z17 => k_is)
    (case z18 => k_is)
    (case z19 => k_is)
    (case z20 => k_is)
    (case g1 => k_is)
    (case g2 => k_is)
    (case g3 => k_is)
    (case g4 => k_is)
    (case g5 => k_is)
    (case g6 => k_is)
    (case g7 => k_is)
    (case g8 => k_is)
    (case g9 => k_is)
    (case g10 => k_is)
    (case g11 => k_is)
    (case g12 => k_is)
    (case g13 => k_is)
    (case g14 => k_is)
    (case g15 => k_is)
    (case g16 => k_is)
    (case g17 => k_is)
    (case g18 => k_is)
    (case g19 => k_is)
    (case g20 => k_is)
    (case g21 => k_is)
    (case tg1 => k_is)
    (case tl1 => k_is)

