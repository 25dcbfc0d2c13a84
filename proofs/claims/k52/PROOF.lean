import PyProof.Rows.All
import Wide.All
import OpenK.AllK
import Wide.FinOn
import Lean
import PyProof.EqAt
import PyProof.EqKinds
import PyProof.TupleCall
import PyProof.Rows.SumAny
import PyProof.Draws
import PyProof.ZipIter
import PyProof.EnumMake
import PyProof.Rows.ZipGen
import PyProof.FitsInt
import PyProof.ReprLen
import KE.IntBitsLaws
import PyProof.NeData
import PyProof.ConsumeWalk
import PyProof.WalkInts
import PyProof.Rows.SeqMore
import PyProof.ListMulRoad
import PyProof.DictUpdate
import KE.KRevSl
import PyProof.MeetsStr
import PyProof.StrBlockG
import PyProof.CallStr
import KE.KIntText
import PyProof.StrLawsTight
import PyProof.StrLawsChain
import PyProof.StrLawsJoin
import PyProof.StrWalks
import KE.KSortTup
import PyProof.TupleOfStr
import PyProof.ListRange
import PyProof.SliceStr
import PyProof.StrBlockI
import PyProof.SeqRoads
import PyProof.NsDelKeeps
import PyProof.RulesAs
import KE.KIsAll
import PyProof.Rows.SetFrom
import PyProof.WalksMore
import PyProof.FactsAll.subtypes_4
import PyProof.MeetsStr2
import PyProof.Rows.Range3
import PyProof.StrLawsRepr
import PyProof.SumWalkG
import PySem.Challenge.RW_dropsums_k52_put_together
theorem sz0 : 0 ≤ PySem.sizeLine := by decide
theorem sz1 : 1 ≤ PySem.sizeLine := by decide
theorem sz2 : 2 ≤ PySem.sizeLine := by decide
theorem sz3 : 3 ≤ PySem.sizeLine := by decide
theorem sz4 : 4 ≤ PySem.sizeLine := by decide
theorem sz5 : 5 ≤ PySem.sizeLine := by decide
theorem sz6 : 6 ≤ PySem.sizeLine := by decide
theorem sz7 : 7 ≤ PySem.sizeLine := by decide
set_option Elab.async false
set_option linter.all false
set_option maxRecDepth 100000
set_option maxHeartbeats 4000000
namespace L2
open PySem PySem.Spec PyProof.Rows
abbrev Key := Sum Int Str
def vB : Key → Value → Bool
 | .inl k, v => Value.isInt k v
 | .inr x, v => Value.isStrOf x v
def keyH (w : World) : Key → Int
 | .inl k => hashInt k
 | .inr x => hashStr w x
theorem yb : ∀ {k : Key} {v : Value}, vB k v = true → (∃ i t, k = Sum.inl i ∧ v = Value.int i t) ∨ (∃ x t, k = Sum.inr x ∧ v = Value.str x t)
 | .inl i, v, h => by
  obtain ⟨t, e⟩ := Value.isInt_shape (k := i) (v := v) h
  exact .inl ⟨i, t, rfl, e⟩
 | .inr x, v, h => by
  obtain ⟨t, e⟩ := Value.isStrOf_shape (x := x) (v := v) h
  exact .inr ⟨x, t, rfl, e⟩
theorem keyIs_int (i : Int) (t : Tok) : vB (.inl i) (.int i t) = true := by simp [vB, Value.isInt]
theorem keyIs_str (x : Str) (t : Tok) : vB (.inr x) (.str x t) = true := by simp [vB, Value.isStrOf]
theorem key_ll (a b : Int) : decide ((Sum.inl a : Key) = Sum.inl b) = (a == b) := by
 by_cases e : a = b
 ·subst e; simp
 ·have h : ¬ (Sum.inl a : Key) = Sum.inl b := fun q => e (Sum.inl.inj q)
  rw [decide_eq_false h]
  exact (beq_eq_false_iff_ne.mpr e).symm
theorem key_rr (a b : Str) : decide ((Sum.inr a : Key) = Sum.inr b) = decide (a = b) := by
 by_cases e : a = b
 ·subst e; simp
 ·have h : ¬ (Sum.inr a : Key) = Sum.inr b := fun q => e (Sum.inr.inj q)
  rw [decide_eq_false h, decide_eq_false e]
theorem key_lr (a : Int) (b : Str) : decide ((Sum.inl a : Key) = Sum.inr b) = false := decide_eq_false (fun q => nomatch q)
theorem key_rl (a : Str) (b : Int) : decide ((Sum.inr a : Key) = Sum.inl b) = false := decide_eq_false (fun q => nomatch q)
def ya (prog : Program) (w : World) : PySem.KeyKind prog w Key where
 is := vB
 hash := keyH w
 inj := fun v a b ha hb => by
  rcases yb ha with ⟨i, t, rfl, rfl⟩ | ⟨x, t, rfl, rfl⟩
  ·rcases yb hb with ⟨j, u, rfl, e⟩ | ⟨y, u, rfl, e⟩
   ·injection e with e1 _; rw [e1]
   ·exact nomatch e
  ·rcases yb hb with ⟨j, u, rfl, e⟩ | ⟨y, u, rfl, e⟩
   ·exact nomatch e
   ·injection e with e1 _; rw [e1]
 byValue := fun k v h => by
  rcases yb h with ⟨i, t, rfl, rfl⟩ | ⟨x, t, rfl, rfl⟩ <;> rfl
 pyHash := fun hv h => by
  rcases yb hv with ⟨i, t, rfl, rfl⟩ | ⟨x, t, rfl, rfl⟩
  ·exact wpAny_pyHash_int h
  ·exact wpAny_pyHash_str h
 eqBool := fun hu hv h => by
  rcases yb hu with ⟨i, t, rfl, rfl⟩ | ⟨x, t, rfl, rfl⟩
  ·rcases yb hv with ⟨j, u, rfl, rfl⟩ | ⟨y, u, rfl, rfl⟩
   ·rw [key_ll] at h; exact wpAny_eqBool_int h
   ·rw [key_lr] at h; exact SeqAt.EqAt.int_str i t y u _ _ _ _ h
  ·rcases yb hv with ⟨j, u, rfl, rfl⟩ | ⟨y, u, rfl, rfl⟩
   ·rw [key_rl] at h; exact SeqAt.EqAt.str_int x t j u _ _ _ _ h
   ·rw [key_rr] at h; exact wpAny_eqBool_str h
 «strs» := fun k x t v h => by
  rcases yb h with ⟨i, u, rfl, e⟩ | ⟨y, u, rfl, e⟩
  ·exact nomatch e
  ·injection e with e1 _
   subst e1
   cases v <;> rfl
theorem mixKind_int (prog : Program) (w : World) (i : Int) (t : Tok) : (ya prog w).is (.inl i) (.int i t) = true := keyIs_int i t
theorem mixKind_str (prog : Program) (w : World) (x : Str) (t : Tok) : (ya prog w).is (.inr x) (.str x t) = true := keyIs_str x t
inductive V where
 | non | bl (b : Bool) | int (i : Int) | str (x : Str) | byt (b : Array UInt8) | flt (b : UInt64) | ref (a : Addr) | ty (n : String)
 deriving DecidableEq
def RelV : V → Value → Prop
 | .non, u => u = Value.none
 | .bl b, u => u = Value.bool b
 | .int i, u => ∃ t, u = Value.int i t
 | .str x, u => ∃ t, u = Value.str x t
 | .byt b, u => ∃ t, u = Value.bytes b t
 | .flt b, u => ∃ t, u = Value.float b t
 | .ref a, u => u = Value.ref a
 | .ty n, u => u = Value.type n
abbrev Vals : List V → List Value → Prop := Paired RelV
theorem Vals.length {xs : List V} {us : List Value} (r : Vals xs us) : xs.length = us.length := Paired.length r
theorem Vals.get : ∀ {xs : List V} {us : List Value} {i : Nat} {x : V}, Vals xs us → xs[i]? = some x → ∃ u, us[i]? = some u ∧ RelV x u
 | _, _, _, _, .nil, e => by simp at e
 | _, _, 0, _, .cons r _, e => by simp at e; subst e; exact ⟨_, rfl, r⟩
 | _, _, i + 1, x, .cons _ t, e => by
  obtain ⟨u, h1, h2⟩ := Vals.get (i := i) (x := x) t (by simpa using e)
  exact ⟨u, by simpa using h1, h2⟩
theorem Vals.set {x : V} {u : Value} (r : RelV x u) : ∀ {xs : List V} {us : List Value} (i : Nat), Vals xs us → Vals (xs.set i x) (us.set i u)
 | _, _, _, .nil => .nil
 | _, _, 0, .cons _ t => .cons r t
 | _, _, i + 1, .cons q t => .cons q (Vals.set r i t)
theorem Vals.append : ∀ {xs ys : List V} {us ws : List Value}, Vals xs us → Vals ys ws → Vals (xs ++ ys) (us ++ ws)
 | _, _, _, _, .nil, s => s
 | _, _, _, _, .cons r t, s => .cons r (Vals.append t s)
theorem Vals.take : ∀ {xs : List V} {us : List Value} (n : Nat), Vals xs us → Vals (xs.take n) (us.take n)
 | _, _, 0, _ => .nil
 | _, _, _ + 1, .nil => .nil
 | _, _, n + 1, .cons r t => .cons r (Vals.take n t)
theorem Vals.drop : ∀ {xs : List V} {us : List Value} (n : Nat), Vals xs us → Vals (xs.drop n) (us.drop n)
 | _, _, 0, r => r
 | _, _, _ + 1, .nil => .nil
 | _, _, n + 1, .cons _ t => Vals.drop n t
def RelO : Option V → Option Value → Prop
 | some v, some u => RelV v u
 | none, none => True
 | _, _ => False
def KV {κ : Type} : List (κ × V) → List (κ × Value) → Prop := Paired fun (p : κ × V) (q : κ × Value) => p.1 = q.1 ∧ RelV p.2 q.2
def kV : Key → V
 | .inl i => .int i
 | .inr x => .str x
inductive HO where
 | lst (xs : List V)
 | tup (xs : List V)
 | dK (kvs : List (Key × V)) | dT (kvs : List (List Key × V))
 | set (S : Int → Bool) (n : Nat)
 | ins (C dx : Addr) (fs : List (Str × V))
 | own (x : Addr)
 | xd (fs : List (Str × V))
 | met (f x : Addr)
 | rng (lo hi : Int)
 | frz (o : Obj) (u : HO)
 | tbl (ps : Array Value)
 | ext (φ : Heap → Prop)
abbrev Hp := Addr → Option HO
def upd (H : Hp) (a : Addr) (o : HO) : Hp := fun b => if b = a then some o else H b
theorem zi {H : Hp} {a : Addr} {o : HO} : upd H a o a = some o := by unfold upd; rw [if_pos rfl]
theorem zl {H : Hp} {a b : Addr} {o : HO} (h : b ≠ a) : upd H a o b = H b := by unfold upd; rw [if_neg h]
theorem vO {H : Hp} {a : Addr} {o u : HO} : upd (upd H a o) a u = upd H a u := by
 funext b; unfold upd; split <;> rfl
theorem yr {H : Hp} {a b : Addr} {o u : HO} (h : H a = some o) (h' : H b = some u) (d : o ≠ u) : a ≠ b := by
 intro e; subst e; rw [h] at h'; exact d (Option.some.inj h')
theorem zp {H : Hp} {a b : Addr} {o : HO} (h : H a = some o) (h' : H b = none) : a ≠ b := by
 intro e; subst e; rw [h] at h'; cases h'
section
variable (P : Program) (w : World)
def ObjOk (H : Hp) (h : Heap) (a : Addr) : HO → Prop
 | .lst xs => xs.length ≤ sizeLine ∧ ∃ (its : List Value) (n : Nat), Vals xs its ∧ h.get? a = some { cls := .type "list", data := .seq its.toArray n }
 | .tup xs => xs.length ≤ sizeLine ∧ ∃ its : List Value, Vals xs its ∧ IsTup h a its.toArray
 | .dK kvs => kvs.length ≤ sizeLine ∧ (a == sysModules) = false ∧ ∃ vs, KV kvs vs ∧ h.DictOf (ya P w) a vs
 | .dT kvs => kvs.length ≤ sizeLine ∧ (a == sysModules) = false ∧ ∃ xs : List (List Key × Addr × Value),
   Paired (fun (p : List Key × V) (q : List Key × Addr × Value) => p.1 = q.1 ∧ H q.2.1 = some (.tup (p.1.map kV)) ∧ RelV p.2 q.2.2) kvs xs ∧
   ∃ o es ep, h.get? a = some o ∧ o.ExactDict ∧ o.data = .dict es ep ∧ es.toList = xs.map (entryOfKey (tupleKind (ya P w))) ∧ (xs.map (·.1)).Nodup
 | .set S n => h.SetOf (intKind P w) a S n
 | .ins C dx fs => H dx = some (.own a) ∧ fs.length ≤ 1000 ∧ dx ≠ a ∧ h.get? a = some (PySem.W.instObj C dx) ∧
   ∃ mA, h.Ns1 dx mA ∧ (∀ f, RelO (fs.lookup f) (mA f)) ∧ PySem.Within mA (fs.map (·.1))
 | .own _ => ∃ o, h.get? a = some o
 | .xd fs => ∃ mA, h.Ns1 a mA ∧ ∀ f, RelO (fs.lookup f) (mA f)
 | .rng lo hi => ∃ t u v, h.get? a = some { cls := .type "range", data := .fields #[.int lo t, .int hi u, .int 1 v] }
 | .frz o u => h.get? a = some o ∧ ObjOk H h a u
 | .tbl ps => h.get? a = some { cls := .none, data := .fields ps }
 | .met f x => h.get? a = some (PySem.W.methodObj (.ref f) (.ref x))
 | .ext φ => φ h ∧ (∃ o, h.get? a = some o) ∧ ∀ h1 h2 : Heap, φ h1 → (∀ o, h1.get? a = some o → h2.get? a = some o) → φ h2
def HOk (H : Hp) (h : Heap) : Prop := ∀ a o, H a = some o → ObjOk P w H h a o
end
section
variable {P : Program} {w : World} {H H' : Hp} {h h' : Heap} {a : Addr} {o : HO}
theorem ObjOk.lt (x : ObjOk P w H h a o) : a < h.objs.size := by
 cases o with
 | lst xs => obtain ⟨_, _, _, _, e⟩ := x; exact Heap.lt_size e
 | tup xs => obtain ⟨_, _, _, p⟩ := x; exact p.lt
 | dK kvs => obtain ⟨_, _, _, _, o, _, _, e, _⟩ := x; exact Heap.lt_size e
 | dT kvs => obtain ⟨_, _, _, _, o, _, _, e, _⟩ := x; exact Heap.lt_size e
 | set S n => obtain ⟨o, _, _, _, e, _⟩ := x; exact Heap.lt_size e
 | ins C dx fs => obtain ⟨_, _, _, e, _⟩ := x; exact Heap.lt_size e
 | own y => obtain ⟨_, e⟩ := x; exact Heap.lt_size e
 | xd fs => obtain ⟨_, ⟨_, _, _, e, _⟩, _⟩ := x; exact Heap.lt_size e
 | rng lo hi => obtain ⟨_, _, _, e⟩ := x; exact Heap.lt_size e
 | frz ob u => obtain ⟨e, _⟩ := x; exact Heap.lt_size e
 | tbl ps => exact Heap.lt_size (show h.get? a = some _ from x)
 | met f y => exact Heap.lt_size (show h.get? a = some _ from x)
 | ext φ => obtain ⟨_, ⟨_, e⟩, _⟩ := x; exact Heap.lt_size e
theorem Paired.mapP {α β : Type} {F G : α → β → Prop} : ∀ {l₁ : List α} {l₂ : List β}, Paired F l₁ l₂ → (∀ a b, F a b → G a b) → Paired G l₁ l₂
 | _, _, .nil, _ => .nil
 | _, _, .cons r t, f => .cons (f _ _ r) (Paired.mapP t f)
theorem ObjOk.stay (x : ObjOk P w H h a o) (k : ∀ b u, (b = a ∨ H b = some (.own a)) → h.get? b = some u → h'.get? b = some u)
  (ho : ∀ b, H b = some (.own a) → H' b = some (.own a)) (ht : ∀ b xs, H b = some (.tup xs) → H' b = some (.tup xs)) : ObjOk P w H' h' a o := by
 induction o with
 | lst xs => obtain ⟨z, its, n, r, e⟩ := x; exact ⟨z, its, n, r, k _ _ (.inl rfl) e⟩
 | tup xs => obtain ⟨z, its, r, ob, e, c⟩ := x; exact ⟨z, its, r, ob, k _ _ (.inl rfl) e, c⟩
 | dK kvs => obtain ⟨z, y, vs, r, ob, es, ep, e, c⟩ := x; exact ⟨z, y, vs, r, ob, es, ep, k _ _ (.inl rfl) e, c⟩
 | dT kvs =>
  obtain ⟨z, y, xs, r, ob, es, ep, e, c⟩ := x
  exact ⟨z, y, xs, Paired.mapP r fun p q z => ⟨z.1, ht _ _ z.2.1, z.2.2⟩, ob, es, ep, k _ _ (.inl rfl) e, c⟩
 | set S n => obtain ⟨ob, es, ep, t, e, c⟩ := x; exact ⟨ob, es, ep, t, k _ _ (.inl rfl) e, c⟩
 | ins C dx fs =>
  obtain ⟨d, z, ne, e, mA, ⟨od, es, ep, e2, c⟩, r⟩ := x
  exact ⟨ho _ d, z, ne, k _ _ (.inl rfl) e, mA, ⟨od, es, ep, k _ _ (.inr d) e2, c⟩, r⟩
 | own y => obtain ⟨ob, e⟩ := x; exact ⟨ob, k _ _ (.inl rfl) e⟩
 | xd fs => obtain ⟨mA, ⟨od, es, ep, e, c⟩, r⟩ := x; exact ⟨mA, ⟨od, es, ep, k _ _ (.inl rfl) e, c⟩, r⟩
 | rng lo hi => obtain ⟨t, u, v, e⟩ := x; exact ⟨t, u, v, k _ _ (.inl rfl) e⟩
 | frz ob u ih => obtain ⟨e, q⟩ := x; exact ⟨k _ _ (.inl rfl) e, ih q⟩
 | tbl ps =>
  have e : h.get? a = some { cls := .none, data := .fields ps } := x
  show h'.get? a = some { cls := .none, data := .fields ps }
  exact k a _ (.inl rfl) e
 | met f y =>
  have e : h.get? a = some (PySem.W.methodObj (.ref f) (.ref y)) := x
  show h'.get? a = some (PySem.W.methodObj (.ref f) (.ref y))
  exact k a _ (.inl rfl) e
 | ext φ => obtain ⟨p, ⟨o, e⟩, st⟩ := x; exact ⟨st _ _ p fun o q => k _ _ (.inl rfl) q, ⟨o, k _ _ (.inl rfl) e⟩, st⟩
theorem HOk.lt (x : HOk P w H h) (e : H a = some o) : a < h.objs.size := (x a o e).lt
theorem HOk.fresh (x : HOk P w H h) (e : h.objs.size ≤ a) : H a = none := by
 cases q : H a with
 | none => rfl
 | some u => exact absurd (Nat.lt_of_lt_of_le (x.lt q) e) (Nat.lt_irrefl _)
theorem HOk.kept (x : HOk P w H h) (k : ∀ b u, h.get? b = some u → h'.get? b = some u) : HOk P w H h' := fun a o e =>
 (x a o e).stay (fun b u _ q => k b u q) (fun _ q => q) fun _ _ q => q
theorem HOk.laid (x : HOk P w H h) (k : ∀ b u, h.get? b = some u → h'.get? b = some u) (hp : h.objs.size ≤ a) (new : ObjOk P w (upd H a o) h' a o) : HOk P w (upd H a o) h' := fun b u e => by
 have hn := x.fresh hp
 by_cases hb : b = a
 ·subst hb; rw [zi] at e; cases e; exact new
 ·rw [zl hb] at e
  exact (x b u e).stay (fun c v _ q => k c v q) (fun c q => by rw [zl (zp q hn)]; exact q) fun c xs q => by rw [zl (zp q hn)]; exact q
end
def Rd (H : Hp) (a : Addr) (u : HO) : Prop := H a = some u ∨ ∃ o, H a = some (.frz o u)
theorem Rd.ok {P : Program} {w : World} {H : Hp} {h : Heap} {a : Addr} {u : HO} (r : Rd H a u) (x : HOk P w H h) : ObjOk P w H h a u := by
 rcases r with r | ⟨o, r⟩
 ·exact x a u r
 ·obtain ⟨_, q⟩ := x a _ r
  exact q
def Mut : Option HO → Prop
 | some (.lst _) => True
 | some (.dK _) => True
 | some (.dT _) => True
 | some (.set _ _) => True
 | some (.ins _ _ _) => True
 | some (.ext _) => True
 | _ => False
section
variable {P : Program} {w : World} {H : Hp} {h h' : Heap} {x e : Addr} {o' : HO}
theorem HOk.write (ok : HOk P w H h) (mu : Mut (H x)) (he : e = x ∨ H e = some (.own x)) (k : ∀ b u, b ≠ e → h.get? b = some u → h'.get? b = some u) (heo : ∃ u, h'.get? e = some u)
  (new : ObjOk P w (upd H x o') h' x o') : HOk P w (upd H x o') h' := fun b u q => by
 have nown : ∀ c y, H c = some (.own y) → c ≠ x := fun c y r z => by subst z; rw [r] at mu; exact mu
 have ntup : ∀ c xs, H c = some (.tup xs) → c ≠ x := fun c xs r z => by subst z; rw [r] at mu; exact mu
 by_cases hb : b = x
 ·subst hb; rw [zi] at q; cases q; exact new
 ·rw [zl hb] at q
  by_cases hbe : b = e
  ·have q' : H b = some (.own x) := by
    rcases he with z | z
    ·exact absurd (hbe.trans z) hb
    ·rw [hbe]; exact z
   rw [q] at q'; cases q'
   obtain ⟨v, hv⟩ := heo
   exact ⟨v, by rw [hbe]; exact hv⟩
  ·refine (ok b u q).stay (fun c v hc r => k c v ?_ r) (fun c r => by rw [zl (nown c b r)]; exact r) fun c xs r => by rw [zl (ntup c xs r)]; exact r
   rcases hc with rfl | hc
   ·exact hbe
   ·rintro rfl
    rcases he with z | z
    ·exact nown c b hc z
    ·rw [hc] at z; cases z; exact hb rfl
end
structure Un (fs ex : List Addr) (H H' : Hp) (h h' : Heap) : Prop where
 keep : ∀ b o, h.get? b = some o → H b = none → b ∉ fs → b ∉ ex → h'.get? b = some o
 slot : ∀ b o, h.get? b = some o → H b = none → b ∈ fs → b ∉ ex → ∃ sl, h'.get? b = some { o with slots := sl }
 free : ∀ b o, h.get? b = some o → H b = none → b ∉ ex → H' b = none
 there : ∀ b o, h.get? b = some o → b ∉ ex → ∃ o', h'.get? b = some o'
 tups : ∀ b xs, H b = some (.tup xs) → H' b = some (.tup xs)
 frzs : ∀ b o u, H b = some (.frz o u) → H' b = some (.frz o u)
 tbls : ∀ b ps, H b = some (.tbl ps) → ∃ more, H' b = some (.tbl (ps ++ more))
section
variable {fs fs' ex ex' : List Addr} {H H1 H2 : Hp} {h h1 h2 h' : Heap} {a x e : Addr} {o : HO}
theorem Un.any (u : Un fs ex H H1 h h1) {b : Addr} {ob : Obj} (q : h.get? b = some ob) (n : H b = none) (hx : b ∉ ex) : ∃ sl, h1.get? b = some { ob with slots := sl } := by
 by_cases hb : b ∈ fs
 ·exact u.slot b ob q n hb hx
 ·exact ⟨ob.slots, u.keep b ob q n hb hx⟩
theorem Un.kept (k : ∀ b u, h.get? b = some u → h'.get? b = some u) : Un fs ex H H h h' :=
 ⟨fun b ob q _ _ _ => k b ob q, fun b ob q _ _ _ => ⟨ob.slots, k b ob q⟩, fun _ _ _ n _ => n, fun b ob q _ => ⟨ob, k b ob q⟩, fun _ _ q => q, fun _ _ _ q => q, fun _ ps q => ⟨#[], by rw [q]; simp⟩⟩
theorem Un.refl : Un fs ex H H h h := Un.kept fun _ _ q => q
theorem Un.laid (k : ∀ b u, h.get? b = some u → h'.get? b = some u) (hp : h.objs.size ≤ a) (hn : H a = none) : Un fs ex H (upd H a o) h h' where
 keep := fun b u q _ _ _ => k b u q
 slot := fun b u q _ _ _ => ⟨u.slots, k b u q⟩
 free := fun b u q n _ => by rw [zl (Nat.ne_of_lt (Nat.lt_of_lt_of_le (Heap.lt_size q) hp))]; exact n
 there := fun b u q _ => ⟨u, k b u q⟩
 tups := fun b xs q => by rw [zl (zp q hn)]; exact q
 frzs := fun b u xs q => by rw [zl (zp q hn)]; exact q
 tbls := fun b ps q => ⟨#[], by rw [zl (zp q hn), q]; simp⟩
theorem Un.write (mu : Mut (H x)) (he : e = x ∨ H e = some (.own x)) (k : ∀ b u, b ≠ e → h.get? b = some u → h'.get? b = some u) (heo : ∃ u, h'.get? e = some u) : Un fs ex H (upd H x o) h h' := by
 have hx : ∀ b, H b = none → b ≠ x := fun b n z => by subst z; rw [n] at mu; exact mu
 have hb : ∀ b, H b = none → b ≠ e := fun b n z => by
  subst z
  rcases he with r | r
  ·exact hx b n r
  ·rw [n] at r; cases r
 have hm : ∀ b u, H b = some u → ¬ Mut (some u) → b ≠ x := fun b u q nm z => by subst z; rw [q] at mu; exact nm mu
 refine ⟨fun b u q n _ _ => k b u (hb b n) q, fun b u q n _ _ => ⟨u.slots, k b u (hb b n) q⟩, fun b u q n _ => by rw [zl (hx b n)]; exact n, fun b u q _ => ?_,
  fun b xs q => by rw [zl (hm b _ q fun z => z)]; exact q, fun b u xs q => by rw [zl (hm b _ q fun z => z)]; exact q, fun b ps q => ⟨#[], by rw [zl (hm b _ q fun z => z), q]; simp⟩⟩
 by_cases hbe : b = e
 ·subst hbe; exact heo
 ·exact ⟨u, k b u hbe q⟩
end
def trk (h : Heap) (H : Hp) : List Addr := (List.range h.objs.size).filter fun a => (H a).isSome
def hidT (h : Heap) (H : Hp) : Heap := PySem.W.hideAll h (trk h H)
theorem hidT_size (h : Heap) (H : Hp) : (hidT h H).objs.size = h.objs.size := PySem.W.hideAll_size _ _
theorem hidT_get {h : Heap} {H : Hp} {b : Addr} {o : Obj} (e : h.get? b = some o) (n : H b = none) : (hidT h H).get? b = some o :=
 PySem.W.hideAll_get _ e fun hm => by
  have q : (H b).isSome = true := (List.mem_filter.mp hm).2
  rw [n] at q; simp at q
theorem of_hidT {h : Heap} {H : Hp} {b : Addr} {o : Obj} (e : (hidT h H).get? b = some o) : h.get? b = some o ∧ H b = none := by
 have e' : h.get? b = some o := PySem.W.of_hideAll (trk h H) e
 refine ⟨e', ?_⟩
 cases q : H b with
 | none => rfl
 | some x =>
  have hm : b ∈ trk h H := List.mem_filter.mpr ⟨List.mem_range.mpr (Heap.lt_size e'), by simp [q]⟩
  have z : (hidT h H).get? b = none := PySem.W.hideAll_none (trk h H) hm
  rw [z] at e; cases e
def allNews (g h : Heap) (L : Addr) : List (Addr × Obj) := (List.range h.objs.size).filterMap fun a => if a = L ∨ (g.get? a).isSome = true then none else (h.get? a).map fun o => (a, o)
def rest (g h : Heap) (L d : Addr) : List (Addr × Obj) := (allNews g h L).filter fun p => decide (p.1 ≠ d)
structure Mod (K : W.Frag) (mg : Str → Option Value) (base : Heap) : Prop where
 kin : K.In base
 glob : base.Ns mainGlobals mg
 blt : ∃ mb, base.Ns builtinsNs mb ∧ ∀ x : Str, x ≠ "__name__" → mb x = bootBuiltins x
 nolimit : base.NoLimit
structure Cx where
 prog : Program
 w : World
 K : W.Frag
 mg : Str → Option Value
 base : Heap
 A : Around
 N : List Str
 s₀ : Shared
 H₀ : Hp
 env : Env
 outer : List Env
 stack : List Env
 ex : List Addr
 fn : Str → Bool
 calm : Bool
 pn : List (Addr × Obj)
 xe : Value → Shared → Prop
def frs (l : List Env) : List Addr := l.filterMap (·.frame)
abbrev Cx.fs (X : Cx) : List Addr := frs X.outer
def Vis (sc : Scope) (x : Str) : Prop := sc.names.lookup x = some .local ∨ sc.names.lookup x = some .cell ∨ sc.names.lookup x = some .free
def Loc (sc : Scope) (x : Str) : Prop := sc.names.lookup x = some .local ∨ sc.names.lookup x = some .cell
def Look (env : Env) (h : Heap) (m : Str → Option Value) (x : Str) (u : Value) : Prop :=
 (env.kindOf x = some .local ∧ m x = some u) ∨ ((env.kindOf x = some .cell ∨ env.kindOf x = some .free) ∧ ∃ c, env.cells.lookup x = some c ∧ h.IsCell c (some u))
structure Cx.Ok (X : Cx) : Prop where
 mod : Mod X.K X.mg X.base
 kind : X.env.scope.kind = .function
 glob : X.env.globals = mainGlobals
 blt : X.env.builtins = builtinsNs
 above : X.s₀.heap.objs.size ≤ X.env.locals
 inj : ∀ x y c, X.env.cells.lookup x = some c → X.env.cells.lookup y = some c → x = y
 has : ∀ x, (X.env.kindOf x = some .cell ∨ X.env.kindOf x = some .free) → ∃ c, X.env.cells.lookup x = some c
 cab : ∀ x c, X.fn x = true → X.env.cells.lookup x = some c → X.s₀.heap.objs.size ≤ c
 hd : X.calm = true → X.A.handled = none
 frames : X.A.frames = some X.stack
 stk : X.stack = X.outer ∨ (X.stack = X.env :: X.outer ∧ X.env.frame = some X.env.locals)
 exf : ∀ b ∈ X.ex, b ≠ X.env.locals ∧ ∀ x c, X.env.cells.lookup x = some c → c ≠ b
 bs : ∀ b o, X.base.get? b = some o → X.s₀.heap.get? b = some o ∧ X.H₀ b = none
 bsz : X.base.objs.size ≤ X.s₀.heap.objs.size
 noex : ∀ b o, X.base.get? b = some o → b ∉ X.ex
 exfs : ∀ b ∈ X.ex, b ∉ X.fs
 funs : X.s₀.heap.FunFrames X.base X.outer
 frf : ∀ b ∈ X.fs, X.H₀ b = none
structure Inv (X : Cx) (pins : List (Addr × Obj)) (σ : List (Option V)) (H : Hp) (s : Shared) : Prop where
 ok : X.Ok
 os : s.os = X.s₀.os
 bare : AllBare s.gens
 base : Un X.fs X.ex X.H₀ H X.s₀.heap s.heap
 loc : ∃ m, s.heap.Ns X.env.locals m ∧ ∀ (i : Nat) (x : Str) (v : V), X.N[i]? = some x → σ[i]? = some (some v) → Vis X.env.scope x → ∃ u, RelV v u ∧ Look X.env s.heap m x u
 cell : ∀ x c, X.env.cells.lookup x = some c → ∃ v, s.heap.IsCell c v
 free : H X.env.locals = none
 freeC : ∀ x c, X.env.cells.lookup x = some c → H c = none
 pin : ∀ p ∈ X.pn ++ pins, s.heap.get? p.1 = some p.2 ∧ H p.1 = none ∧ p.1 ≠ X.env.locals ∧ p.1 ∉ X.fs ∧ ∀ v, p.2.data ≠ .cell v
 hok : HOk X.prog X.w H s.heap
 len : σ.length = X.N.length
section
variable {X : Cx} {pins : List (Addr × Obj)} {σ : List (Option V)} {H H' : Hp} {s : Shared} {h' : Heap}
theorem Cx.Ok.nofr (ok : X.Ok) {b : Addr} {o : Obj} (e : X.base.get? b = some o) : b ∉ X.fs := fun hb => by
 have := (ok.funs.mem hb).1
 rw [e] at this; cases this
theorem Inv.bs (I : Inv X pins σ H s) : ∀ b o, X.base.get? b = some o → s.heap.get? b = some o ∧ H b = none := fun b o e =>
 ⟨I.base.keep b o (I.ok.bs b o e).1 (I.ok.bs b o e).2 (I.ok.nofr e) (I.ok.noex b o e), I.base.free b o (I.ok.bs b o e).1 (I.ok.bs b o e).2 (I.ok.noex b o e)⟩
theorem Inv.bk (I : Inv X pins σ H s) : ∀ b o, X.base.get? b = some o → s.heap.get? b = some o := fun b o e => (I.bs b o e).1
theorem Inv.mod (I : Inv X pins σ H s) : Mod X.K X.mg X.base := I.ok.mod
theorem Inv.kIn (I : Inv X pins σ H s) : X.K.In s.heap := I.ok.mod.kin.keeps I.bk
theorem Inv.lt (I : Inv X pins σ H s) : X.env.locals < s.heap.objs.size := let ⟨_, hn, _⟩ := I.loc; hn.lt
theorem Inv.sz (I : Inv X pins σ H s) : X.s₀.heap.objs.size ≤ s.heap.objs.size := Nat.le_trans I.ok.above (Nat.le_of_lt I.lt)
theorem Inv.nofs (I : Inv X pins σ H s) {a : Addr} (h : s.heap.objs.size ≤ a) : a ∉ X.fs := fun hb => by
 obtain ⟨_, o, ho, _⟩ := I.ok.funs.mem hb
 exact absurd (Nat.lt_of_lt_of_le (Heap.lt_size ho) (Nat.le_trans I.sz h)) (Nat.lt_irrefl _)
theorem Inv.cne (I : Inv X pins σ H s) : ∀ x c, X.env.cells.lookup x = some c → c ≠ X.env.locals := fun x c e z => by
 obtain ⟨v, o, ho, hd⟩ := I.cell x c e
 obtain ⟨m, ⟨o', es, ep, ho', hd', _⟩, _⟩ := I.loc
 rw [z, ho'] at ho; cases ho; rw [hd'] at hd; cases hd
theorem Inv.funs (I : Inv X pins σ H s) : s.heap.FunFrames X.base X.outer := by
 have all : ∀ (l : List Env), (∀ b ∈ frs l, b ∈ X.fs) → X.s₀.heap.FunFrames X.base l → s.heap.FunFrames X.base l := by
  intro l
  induction l with
  | nil => intro _ _; trivial
  | cons env r ih =>
   intro hs hl
   obtain ⟨hk, ⟨L, o, hf, hn, ho, hd⟩, hr⟩ := hl
   have hL : L ∈ X.fs := hs L (by unfold frs; rw [List.filterMap_cons, hf]; exact List.mem_cons_self)
   obtain ⟨sl, e⟩ := I.base.slot L o ho (I.ok.frf L hL) hL fun z => I.ok.exfs L z hL
   exact ⟨hk, ⟨L, _, hf, hn, e, hd⟩, ih (fun b hb => hs b (by unfold frs; rw [List.filterMap_cons, hf]; exact List.mem_cons_of_mem _ hb)) hr⟩
 exact all X.outer (fun _ hb => hb) I.ok.funs
theorem Inv.stack (I : Inv X pins σ H s) : s.heap.FunFrames X.base X.stack := by
 rcases I.ok.stk with e | ⟨e, hf⟩
 ·rw [e]; exact I.funs
 ·rw [e]
  obtain ⟨m, hn, _⟩ := I.loc
  refine .cons (by rw [I.ok.kind]; decide) hf hn ?_ I.funs
  exact Heap.get?_none_of_le (Nat.le_trans I.ok.bsz I.ok.above)
theorem Inv.stkSub (I : Inv X pins σ H s) : ∀ b ∈ frs X.stack, b ∈ X.env.locals :: X.fs := fun b hb => by
 rcases I.ok.stk with e | ⟨e, hf⟩
 ·rw [e] at hb; exact List.mem_cons_of_mem _ hb
 ·rw [e] at hb
  unfold frs at hb
  rw [List.filterMap_cons, hf] at hb
  exact hb
theorem Inv.stkFree (I : Inv X pins σ H s) : ∀ b ∈ frs X.stack, H b = none := fun b hb => by
 rcases List.mem_cons.mp (I.stkSub b hb) with e | hb
 ·rw [e]; exact I.free
 ·obtain ⟨_, o, ho, _⟩ := I.ok.funs.mem hb
  exact I.base.free b o ho (I.ok.frf b hb) fun z => I.ok.exfs b z hb
theorem Inv.step {g' : Array GenState} {t' : Nat} {d' : Drawn} {ch : List Addr} (I : Inv X pins σ H s)
  (hch : ∀ b ∈ ch, (b ∈ X.ex ∨ X.s₀.heap.objs.size ≤ b) ∧ b ≠ X.env.locals ∧ (∀ x c, X.env.cells.lookup x = some c → c ≠ b) ∧ ∀ p ∈ X.pn ++ pins, p.1 ≠ b)
  (keep : ∀ b o, b ≠ X.env.locals → b ∉ X.fs → b ∉ ch → s.heap.get? b = some o → H b = none → h'.get? b = some o)
  (slot : ∀ b o, b ≠ X.env.locals → b ∈ X.fs → b ∉ ch → s.heap.get? b = some o → H b = none → ∃ sl, h'.get? b = some { o with slots := sl }) (free : ∀ b o, b ∉ ch → s.heap.get? b = some o → H b = none → H' b = none)
  (there : ∀ b o, b ∉ ch → s.heap.get? b = some o → ∃ o', h'.get? b = some o')
  (tups : ∀ b xs, H b = some (.tup xs) → H' b = some (.tup xs)) (frzs : ∀ b o u, H b = some (.frz o u) → H' b = some (.frz o u)) (tbls : ∀ b ps, H b = some (.tbl ps) → ∃ more, H' b = some (.tbl (ps ++ more)))
  (ns : ∀ m, s.heap.Ns X.env.locals m → h'.Ns X.env.locals m) (hok : HOk X.prog X.w H' h') (hg : AllBare g') :
  Inv X pins σ H' { s with heap := h', gens := g', drawn := d', toks := t' } := by
 have neL : ∀ b o, X.s₀.heap.get? b = some o → b ≠ X.env.locals := fun b o e => Nat.ne_of_lt (Nat.lt_of_lt_of_le (Heap.lt_size e) I.ok.above)
 have neC : ∀ b o, X.s₀.heap.get? b = some o → b ∉ X.ex → b ∉ ch := fun b o e hx hb => by
  rcases (hch b hb).1 with z | z
  ·exact hx z
  ·exact absurd (Nat.lt_of_lt_of_le (Heap.lt_size e) z) (Nat.lt_irrefl _)
 have cellK : ∀ x c, X.env.cells.lookup x = some c → ∀ v, s.heap.IsCell c v → h'.IsCell c v := fun x c e v ⟨o, ho, hd⟩ => by
  have nch : c ∉ ch := fun z => (hch c z).2.2.1 x c e rfl
  by_cases hc : c ∈ X.fs
  ·obtain ⟨sl, q⟩ := slot c o (I.cne x c e) hc nch ho (I.freeC x c e)
   exact ⟨_, q, hd⟩
  ·exact ⟨o, keep c o (I.cne x c e) hc nch ho (I.freeC x c e), hd⟩
 refine ⟨I.ok, I.os, hg, ⟨fun b o e n hb hx => ?_, fun b o e n hb hx => ?_, fun b o e n hx => ?_, fun b o e hx => ?_, fun b xs e => tups b xs (I.base.tups b xs e), fun b o xs e => frzs b o xs (I.base.frzs b o xs e), fun b ps e => ?_⟩, ?_, fun x c e => ?_, ?_, fun x c e => ?_, fun p hp => ?_, hok, I.len⟩
 ·exact keep b o (neL b o e) hb (neC b o e hx) (I.base.keep b o e n hb hx) (I.base.free b o e n hx)
 ·obtain ⟨sl, e1⟩ := I.base.slot b o e n hb hx
  obtain ⟨sl', e2⟩ := slot b _ (neL b o e) hb (neC b o e hx) e1 (I.base.free b o e n hx)
  exact ⟨sl', e2⟩
 ·obtain ⟨o', e1⟩ := I.base.there b o e hx
  exact free b o' (neC b o e hx) e1 (I.base.free b o e n hx)
 ·obtain ⟨o', e1⟩ := I.base.there b o e hx
  exact there b o' (neC b o e hx) e1
 ·obtain ⟨m1, e1⟩ := I.base.tbls b ps e
  obtain ⟨m2, e2⟩ := tbls b _ e1
  exact ⟨m1 ++ m2, by rw [e2, Array.append_assoc]⟩
 ·obtain ⟨m, hn, hl⟩ := I.loc
  refine ⟨m, ns m hn, fun i x v e1 e2 e3 => ?_⟩
  obtain ⟨u, r, l⟩ := hl i x v e1 e2 e3
  refine ⟨u, r, ?_⟩
  rcases l with l | ⟨k, c, e, z⟩
  ·exact .inl l
  ·exact .inr ⟨k, c, e, cellK x c e _ z⟩
 ·obtain ⟨v, z⟩ := I.cell x c e
  exact ⟨v, cellK x c e v z⟩
 ·obtain ⟨m, ⟨o, _, _, ho, _⟩, _⟩ := I.loc
  exact free _ o (fun z => (hch _ z).2.1 rfl) ho I.free
 ·obtain ⟨v, o, ho, hd⟩ := I.cell x c e
  exact free c o (fun z => (hch c z).2.2.1 x c e rfl) ho (I.freeC x c e)
 ·obtain ⟨e, n, ne, nf, d⟩ := I.pin p hp
  have nch : p.1 ∉ ch := fun z => (hch p.1 z).2.2.2 p hp rfl
  exact ⟨keep p.1 p.2 ne nf nch e n, free p.1 p.2 nch e n, ne, nf, d⟩
theorem Inv.un {t' : Nat} (I : Inv X pins σ H s) (u : Un X.fs [] H H' s.heap h') (hok : HOk X.prog X.w H' h') : Inv X pins σ H' { s with heap := h', toks := t' } := by
 obtain ⟨m, ⟨o, es, ep, ho, r⟩, _⟩ := id I.loc
 obtain ⟨sl, hL⟩ := u.any ho I.free (by simp)
 exact I.step (g' := s.gens) (d' := s.drawn) (ch := []) (fun _ z => nomatch z) (fun b o _ hb _ e n => u.keep b o e n hb (by simp)) (fun b o _ hb _ e n => u.slot b o e n hb (by simp)) (fun b o _ e n => u.free b o e n (by simp)) (fun b o _ e => u.there b o e (by simp)) u.tups u.frzs u.tbls (fun m' hm => by
  obtain ⟨o', es', ep', ho', r'⟩ := hm
  rw [ho] at ho'; cases ho'
  exact ⟨_, es', ep', hL, r'⟩) hok I.bare
theorem Inv.call {g' : Array GenState} {t' : Nat} {d' : Drawn} {ch : List Addr} (I : Inv X pins σ H s) (u : Un (frs X.stack) ch H H' s.heap h') (hok : HOk X.prog X.w H' h') (hg : AllBare g')
  (hch : ∀ b ∈ ch, (b ∈ X.ex ∨ X.s₀.heap.objs.size ≤ b) ∧ b ≠ X.env.locals ∧ (∀ x c, X.env.cells.lookup x = some c → c ≠ b) ∧ ∀ p ∈ X.pn ++ pins, p.1 ≠ b) :
  Inv X pins σ H' { s with heap := h', gens := g', drawn := d', toks := t' } := by
 obtain ⟨m, ⟨o, es, ep, ho, r⟩, _⟩ := id I.loc
 obtain ⟨sl, hL⟩ := u.any ho I.free fun z => (hch _ z).2.1 rfl
 exact I.step (ch := ch) hch (fun b o hL hb hc e n => u.keep b o e n (fun z => (List.mem_cons.mp (I.stkSub b z)).elim hL hb) hc) (fun b o _ _ hc e n => u.any e n hc) (fun b o hc e n => u.free b o e n hc) (fun b o hc e => u.there b o e hc) u.tups u.frzs u.tbls (fun m' hm => by
  obtain ⟨o', es', ep', ho', r'⟩ := hm
  rw [ho] at ho'; cases ho'
  exact ⟨_, es', ep', hL, r'⟩) hok hg
theorem Inv.turned {t' : Nat} {it : Addr} (I : Inv X pins σ H s) (k : ∀ b o, b ≠ it → s.heap.get? b = some o → h'.get? b = some o) (hn : H it = none) (hL : it ≠ X.env.locals)
  (h1 : it ∈ X.ex ∨ X.s₀.heap.objs.size ≤ it) (h2 : ∀ x c, X.env.cells.lookup x = some c → c ≠ it) (h3 : ∀ p ∈ X.pn ++ pins, p.1 ≠ it) : Inv X pins σ H { s with heap := h', toks := t' } := by
 have nit : ∀ b u, H b = some u → b ≠ it := fun b u e z => by rw [z, hn] at e; cases e
 refine I.step (g' := s.gens) (d' := s.drawn) (ch := [it]) (fun b hb => ?_) (fun b o _ _ hc e _ => k b o (fun z => hc (by simp [z])) e) (fun b o _ _ hc e _ => ⟨o.slots, k b o (fun z => hc (by simp [z])) e⟩) (fun _ _ _ _ n => n)
  (fun b o hc e => ⟨o, k b o (fun z => hc (by simp [z])) e⟩) (fun _ _ e => e) (fun _ _ _ e => e) (fun b ps e => ⟨#[], by rw [e]; simp⟩) (fun m hm => ?_) (fun b u e => ?_) I.bare
 ·have e : b = it := by simpa using hb
  subst e
  exact ⟨h1, hL, h2, h3⟩
 ·obtain ⟨o, es, ep, ho, r⟩ := hm
  exact ⟨o, es, ep, k _ o (Ne.symm hL) ho, r⟩
 ·refine (I.hok b u e).stay (fun c v hc q => k c v ?_ q) (fun _ q => q) fun _ _ q => q
  rcases hc with z | z
  ·rw [z]; exact nit b u e
  ·exact nit c _ z
theorem Inv.tok (I : Inv X pins σ H s) (t : Nat) : Inv X pins σ H { s with toks := t } := I.un (h' := s.heap) (t' := t) Un.refl I.hok
theorem Inv.kept {t' : Nat} (I : Inv X pins σ H s) (k : ∀ b u, s.heap.get? b = some u → h'.get? b = some u) : Inv X pins σ H { s with heap := h', toks := t' } := I.un (Un.kept k) (I.hok.kept k)
theorem Inv.laid {a : Addr} {o : HO} {t' : Nat} (I : Inv X pins σ H s) (k : ∀ b u, s.heap.get? b = some u → h'.get? b = some u) (hp : s.heap.objs.size ≤ a) (new : ObjOk X.prog X.w (upd H a o) h' a o) :
  Inv X pins σ (upd H a o) { s with heap := h', toks := t' } := I.un (Un.laid k hp (I.hok.fresh hp)) (I.hok.laid k hp new)
theorem Inv.write {x e : Addr} {o : HO} {t' : Nat} (I : Inv X pins σ H s) (mu : Mut (H x)) (he : e = x ∨ H e = some (.own x)) (k : ∀ b u, b ≠ e → s.heap.get? b = some u → h'.get? b = some u) (heo : ∃ u, h'.get? e = some u)
  (new : ObjOk X.prog X.w (upd H x o) h' x o) : Inv X pins σ (upd H x o) { s with heap := h', toks := t' } := I.un (Un.write mu he k heo) (I.hok.write mu he k heo new)
theorem Inv.pins_of {pins' : List (Addr × Obj)} (I : Inv X pins σ H s) (h : ∀ p ∈ pins', s.heap.get? p.1 = some p.2 ∧ H p.1 = none ∧ p.1 ≠ X.env.locals ∧ p.1 ∉ X.fs ∧ ∀ v, p.2.data ≠ .cell v) : Inv X pins' σ H s :=
 ⟨I.ok, I.os, I.bare, I.base, I.loc, I.cell, I.free, I.freeC, fun p hp => (List.mem_append.mp hp).elim (fun z => I.pin p (List.mem_append_left _ z)) (h p), I.hok, I.len⟩
theorem vh {N : List Str} (hN : N.Nodup) {i j : Nat} {x : Str} (a : N[i]? = some x) (b : N[j]? = some x) : i = j := by
 obtain ⟨h1, e1⟩ := List.getElem?_eq_some_iff.mp a
 obtain ⟨h2, e2⟩ := List.getElem?_eq_some_iff.mp b
 exact (List.getElem_inj hN).mp (e1.trans e2.symm)
theorem vx {M : Model} {A : Around} {E : Value → Shared → Prop} {i : Nat} {x : Str} {v : V} {u : Value} {Q : Unit → Shared → Prop} (I : Inv X pins σ H s) (hN : X.N.Nodup) (hi : X.N[i]? = some x) (hx : Loc X.env.scope x) (r : RelV v u)
  (h : ∀ s', Inv X pins (σ.set i (some v)) H s' → (∃ a, Heap.SameBut a s.heap s'.heap ∧ (a = X.env.locals ∨ X.env.cells.lookup x = some a)) → Q () s') (hf : X.fn x = true ∨ X.env.scope.names.lookup x = some .local := by first | exact .inl rfl | exact .inr rfl | assumption) : wpAny M A (storeName X.env x u) Q E s := by
 obtain ⟨m, hn, hl⟩ := id I.loc
 have hcls : (X.env.scope.kind == .class || (X.env.scope.kind == .module && X.env.locals != X.env.globals)) = false := by rw [I.ok.kind]; rfl
 have hiσ : i < σ.length := by rw [I.len]; exact (List.getElem?_eq_some_iff.mp hi).1
 have cne := I.cne
 have tracked : ∀ {a : Addr} {h' : Heap}, (∃ o, s.heap.get? a = some o ∧ H a = none) → Heap.SameBut a s.heap h' → HOk X.prog X.w H h' := fun {a h'} ha hs b ob e => by
  obtain ⟨_, _, hfree⟩ := ha
  refine (I.hok b ob e).stay (fun c w' hc q => (hs.2 c ?_).trans q) (fun _ q => q) fun _ _ q => q
  rintro rfl
  rcases hc with rfl | hc
  ·rw [hfree] at e; cases e
  ·rw [hfree] at hc; cases hc
 rcases hx with hk | hk
 ·refine wpAny_storeName_local hk hn (fun h' hn' hs => ?_) hcls
  obtain ⟨oL, _, _, hoL, _⟩ := id hn
  refine h _ ⟨I.ok, I.os, I.bare, ⟨fun b o e n hb hx => ?_, fun b o e n hb hx => ?_, I.base.free, fun b o e hx => ?_, I.base.tups, I.base.frzs, I.base.tbls⟩, ⟨_, hn', fun j y v' e1 e2 e3 => ?_⟩, fun y c e => ?_, I.free, I.freeC, fun p hp => ?_, tracked ⟨oL, hoL, I.free⟩ hs, by simpa using I.len⟩ ⟨_, hs, .inl rfl⟩
  ·exact (hs.2 b (Nat.ne_of_lt (Nat.lt_of_lt_of_le (Heap.lt_size e) I.ok.above))).trans (I.base.keep b o e n hb hx)
  ·obtain ⟨sl, e1⟩ := I.base.slot b o e n hb hx
   exact ⟨sl, (hs.2 b (Nat.ne_of_lt (Nat.lt_of_lt_of_le (Heap.lt_size e) I.ok.above))).trans e1⟩
  ·obtain ⟨o', e1⟩ := I.base.there b o e hx
   exact ⟨o', (hs.2 b (Nat.ne_of_lt (Nat.lt_of_lt_of_le (Heap.lt_size e) I.ok.above))).trans e1⟩
  ·by_cases hj : j = i
   ·subst hj
    rw [hi] at e1; cases e1
    rw [List.getElem?_set_self hiσ] at e2
    cases e2
    exact ⟨u, r, .inl ⟨hk, by simp⟩⟩
   ·rw [List.getElem?_set_ne (Ne.symm hj)] at e2
    obtain ⟨u', r', q⟩ := hl j y v' e1 e2 e3
    refine ⟨u', r', ?_⟩
    rcases q with ⟨k, e⟩ | ⟨k, c, e, z⟩
    ·refine .inl ⟨k, ?_⟩
     have : y ≠ x := fun e => hj (vh hN e1 (e ▸ hi))
     simp [this, e]
    ·exact .inr ⟨k, c, e, z.sameBut hs (cne y c e)⟩
  ·obtain ⟨w', z⟩ := I.cell y c e
   exact ⟨w', z.sameBut hs (cne y c e)⟩
  ·obtain ⟨e, n, ne, nf, d⟩ := I.pin p hp
   exact ⟨(hs.2 p.1 ne).trans e, n, ne, nf, d⟩
 ·have hfn : X.fn x = true := by
   rcases hf with z | z
   ·exact z
   ·rw [z] at hk; cases hk
  obtain ⟨c, hc⟩ := I.ok.has x (.inl hk)
  obtain ⟨w', z⟩ := I.cell x c hc
  refine wpAny_storeName_cell I.ok.kind hk hc z (fun h' hc' hs => ?_)
  obtain ⟨oc, hoc, hocd⟩ := id z
  refine h { s with heap := h' } ⟨I.ok, I.os, I.bare, ⟨fun b o e n hb hx => ?_, fun b o e n hb hx => ?_, I.base.free, fun b o e hx => ?_, I.base.tups, I.base.frzs, I.base.tbls⟩, ⟨m, hn.sameBut hs (Ne.symm (cne x c hc)), fun j y v' e1 e2 e3 => ?_⟩, fun y c' e => ?_, I.free, I.freeC, fun p hp => ?_, tracked ⟨oc, hoc, I.freeC x c hc⟩ hs, by simpa using I.len⟩ ⟨c, hs, .inr hc⟩
  ·exact (hs.2 b (Nat.ne_of_lt (Nat.lt_of_lt_of_le (Heap.lt_size e) (I.ok.cab x c hfn hc)))).trans (I.base.keep b o e n hb hx)
  ·obtain ⟨sl, e1⟩ := I.base.slot b o e n hb hx
   exact ⟨sl, (hs.2 b (Nat.ne_of_lt (Nat.lt_of_lt_of_le (Heap.lt_size e) (I.ok.cab x c hfn hc)))).trans e1⟩
  ·obtain ⟨o', e1⟩ := I.base.there b o e hx
   exact ⟨o', (hs.2 b (Nat.ne_of_lt (Nat.lt_of_lt_of_le (Heap.lt_size e) (I.ok.cab x c hfn hc)))).trans e1⟩
  ·by_cases hj : j = i
   ·subst hj
    rw [hi] at e1; cases e1
    rw [List.getElem?_set_self hiσ] at e2
    cases e2
    exact ⟨u, r, .inr ⟨.inl hk, c, hc, hc'⟩⟩
   ·rw [List.getElem?_set_ne (Ne.symm hj)] at e2
    obtain ⟨u', r', q⟩ := hl j y v' e1 e2 e3
    refine ⟨u', r', ?_⟩
    rcases q with q | ⟨k, c', e, z'⟩
    ·exact .inl q
    ·refine .inr ⟨k, c', e, z'.sameBut hs ?_⟩
     rintro rfl
     exact hj (vh hN e1 (I.ok.inj _ _ _ e hc ▸ hi))
  ·by_cases hcc : c' = c
   ·subst hcc; exact ⟨_, hc'⟩
   ·obtain ⟨w2, z2⟩ := I.cell y c' e
    exact ⟨w2, z2.sameBut hs hcc⟩
  ·obtain ⟨e, n, ne, nf, d⟩ := I.pin p hp
   refine ⟨(hs.2 p.1 ?_).trans e, n, ne, nf, d⟩
   intro q
   rw [q, hoc] at e
   have q' : oc = p.2 := Option.some.inj e
   exact d w' (by rw [← q']; exact hocd)
theorem xr {M : Model} {A : Around} {E : Value → Shared → Prop} {i : Nat} {x : Str} {v : V} {u : Value} {Q : Unit → Shared → Prop} (I : Inv X pins σ H s) (hN : X.N.Nodup) (hi : X.N[i]? = some x) (hx : Loc X.env.scope x) (r : RelV v u)
  (h : ∀ s', Inv X pins (σ.set i (some v)) H s' → Q () s') (hf : X.fn x = true ∨ X.env.scope.names.lookup x = some .local := by first | exact .inl rfl | exact .inr rfl | assumption) : wpAny M A (storeName X.env x u) Q E s :=
 vx I hN hi hx r (fun s' I' _ => h s' I') hf
theorem Inv.call' {s' : Shared} {ch : List Addr} (I : Inv X pins σ H s) (ho : s'.os = s.os) (u : Un (frs X.stack) ch H H' s.heap s'.heap) (hok : HOk X.prog X.w H' s'.heap) (hg : AllBare s'.gens)
  (hch : ∀ b ∈ ch, (b ∈ X.ex ∨ X.s₀.heap.objs.size ≤ b) ∧ b ≠ X.env.locals ∧ (∀ x c, X.env.cells.lookup x = some c → c ≠ b) ∧ ∀ p ∈ X.pn ++ pins, p.1 ≠ b) : Inv X pins σ H' s' := by
 obtain ⟨h', g', d', t', o'⟩ := s'
 have e : o' = s.os := ho
 subst e
 exact I.call (g' := g') (t' := t') (d' := d') u hok hg hch
end
abbrev XK := Value → Option Addr → Hp → Prop
abbrev St := List (Option V)
abbrev VK := V → Hp → Prop
abbrev TE := St → Hp → VK → Prop
abbrev TT := St → Hp → (Bool → Hp → Prop) → Prop
abbrev TA := St → Hp → (List V → Hp → Prop) → Prop
structure Ends where
 nx : St → Hp → Prop
 rt : VK
 bk : St → Hp → Prop := fun _ _ => False
 ct : St → Hp → Prop := fun _ _ => False
abbrev TS := Ends → St → Hp → Prop
def EP (X : Cx) (pins : List (Addr × Obj)) (σ : St) (Q : VK) (u : Value) (s' : Shared) : Prop := ∃ v H', Inv X pins σ H' s' ∧ RelV v u ∧ Q v H'
def TP (X : Cx) (pins : List (Addr × Obj)) (σ : St) (Q : Bool → Hp → Prop) (b : Bool) (s' : Shared) : Prop := ∃ H', Inv X pins σ H' s' ∧ Q b H'
def AP (X : Cx) (pins : List (Addr × Obj)) (σ : St) (Q : List V → Hp → Prop) (us : List Value) (s' : Shared) : Prop := ∃ vs H', Inv X pins σ H' s' ∧ Vals vs us ∧ Q vs H'
def SP (X : Cx) (pins : List (Addr × Obj)) (D : Ends) (f : Flow) (s' : Shared) : Prop :=
 match f with
 | .next => ∃ σ' H', Inv X pins σ' H' s' ∧ D.nx σ' H'
 | .brk => ∃ σ' H', Inv X pins σ' H' s' ∧ D.bk σ' H'
 | .cont => ∃ σ' H', Inv X pins σ' H' s' ∧ D.ct σ' H'
 | .ret u => ∃ v σ' H', Inv X pins σ' H' s' ∧ RelV v u ∧ D.rt v H'
def PE (X : Cx) (e : Expr) (t : TE) : Prop :=
 ∀ (pins : List (Addr × Obj)) (s : Shared) (σ : St) (H : Hp) (Q : VK), Inv X pins σ H s → t σ H Q → wpAny (model X.prog X.w) X.A (eval e X.env) (EP X pins σ Q) X.xe s
def PT (X : Cx) (e : Expr) (t : TT) : Prop :=
 ∀ (pins : List (Addr × Obj)) (s : Shared) (σ : St) (H : Hp) (Q : Bool → Hp → Prop), Inv X pins σ H s → t σ H Q → wpAny (model X.prog X.w) X.A (isTrue e X.env (eval e X.env)) (TP X pins σ Q) X.xe s
def PW (X : Cx) (e : Expr) (t : TT) : Prop :=
 ∀ (whole : Sem Value) (pins : List (Addr × Obj)) (s : Shared) (σ : St) (H : Hp) (Q : Bool → Hp → Prop), Inv X pins σ H s → t σ H Q → wpAny (model X.prog X.w) X.A (isTrue e X.env whole) (TP X pins σ Q) X.xe s
theorem PW.pt {X : Cx} {e : Expr} {t : TT} (h : PW X e t) : PT X e t := h _
def PA (X : Cx) (es : List Expr) (t : TA) : Prop :=
 ∀ (pos : Pos) (pins : List (Addr × Obj)) (s : Shared) (σ : St) (H : Hp) (Q : List V → Hp → Prop), Inv X pins σ H s → t σ H Q → wpAny (model X.prog X.w) X.A (spliced (backTo pos (starEach es X.env))) (AP X pins σ Q) X.xe s
def PS (X : Cx) (st : Stmt) (t : TS) : Prop :=
 ∀ (pins : List (Addr × Obj)) (s : Shared) (σ : St) (H : Hp) (D : Ends), Inv X pins σ H s → t D σ H → wpAny (model X.prog X.w) X.A (exec st X.env) (SP X pins D) X.xe s
def PSs (X : Cx) (st : List Stmt) (t : TS) : Prop :=
 ∀ (pins : List (Addr × Obj)) (s : Shared) (σ : St) (H : Hp) (D : Ends), Inv X pins σ H s → t D σ H → wpAny (model X.prog X.w) X.A (execs st X.env) (SP X pins D) X.xe s
theorem thn {α : Type} {t : Sem α} {Q Q' : α → Shared → Prop} {M : Model} {A : Around} {E : Value → Shared → Prop} {s : Shared} (h : wpAny M A t Q E s) (hQ : ∀ a s, Q a s → Q' a s) : wpAny M A t Q' E s := wpAny_mono h hQ fun _ _ x => x
section
variable {X : Cx}
def tVar (i : Nat) : TE := fun σ H Q => ∃ v, σ[i]? = some (some v) ∧ Q v H
def tC (v : V) : TE := fun _ H Q => Q v H
theorem vT {i : Nat} {x : Str} {pos : Pos} (hN : X.N[i]? = some x) (hv : Vis X.env.scope x) (hd : (x == ("__debug__" : Str)) = false := by decide) (hcd : (x == ("__classdict__" : Str)) = false := by decide) : PE X (.Name x pos) (tVar i) := by
 intro pins s σ H Q I h
 obtain ⟨v, e, h⟩ := h
 obtain ⟨m, hn, hl⟩ := I.loc
 obtain ⟨u, r, l⟩ := hl i x v hN e hv
 have fin : EP X pins σ Q u s := ⟨v, H, I, r, h⟩
 rcases l with ⟨hk, hm⟩ | ⟨hk, c, hc, hcell⟩
 ·exact wpAny_Name (wpAny_loadName_local I.ok.kind hk hn hm fin) hd
 ·rcases hk with hk | hk
  ·exact wpAny_Name (wpAny_loadName_cell I.ok.kind hk hc hcell fin) hd
  ·exact wpAny_Name (wpAny_loadName_free I.ok.kind hk hc hcell fin hcd) hd
theorem zh {i j pos} : PE X (.Constant (.int i) j pos) (tC (.int i)) := fun _ _ _ H _ I h => wpAny_Constant_int ⟨.int i, H, I.tok _, ⟨_, rfl⟩, h⟩
theorem YR {b j pos} : PE X (.Constant (.bool b) j pos) (tC (.bl b)) := fun _ _ _ H _ I h => Constant_bool ⟨.bl b, H, I, rfl, h⟩
theorem vU {j pos} : PE X (.Constant .none j pos) (tC .non) := fun _ _ _ H _ I h => Constant_none ⟨.non, H, I, rfl, h⟩
theorem zQ {x j pos} : PE X (.Constant (.str x) j pos) (tC (.str x)) := fun _ _ _ H _ I h => Calls.Constant_str ⟨.str x, H, I.tok _, ⟨_, rfl⟩, h⟩
def Gl (X : Cx) (x : Str) : Prop := X.env.kindOf x = some .globalImplicit
theorem xG {E : Value → Shared → Prop} {pins : List (Addr × Obj)} {s : Shared} {σ : St} {H : Hp} {x : Str} {u : Value} {pos : Pos} {Q : Value → Shared → Prop} (I : Inv X pins σ H s) (hg : Gl X x) (hm : X.mg x = some u) (h : Q u s)
  (hd : (x == ("__debug__" : Str)) = false := by decide) : wpAny (model X.prog X.w) X.A (eval (.Name x pos) X.env) Q E s :=
 Calls.Name_function_global I.ok.kind hg (Calls.loadGlobal_global (by rw [I.ok.glob]; exact I.mod.glob.keeps I.bk) hm h) hd
theorem xR {E : Value → Shared → Prop} {pins : List (Addr × Obj)} {s : Shared} {σ : St} {H : Hp} {x : Str} {u : Value} {pos : Pos} {Q : Value → Shared → Prop} (I : Inv X pins σ H s) (hg : Gl X x) (hm : X.mg x = none) (hv : bootBuiltins x = some u) (h : Q u s)
  (hn : x ≠ "__name__" := by decide) (hd : (x == ("__debug__" : Str)) = false := by decide) : wpAny (model X.prog X.w) X.A (eval (.Name x pos) X.env) Q E s := by
 obtain ⟨mb, h1, h2⟩ := I.mod.blt
 exact Calls.Name_function_global I.ok.kind hg (Calls.loadGlobal_builtin (by rw [I.ok.glob]; exact I.mod.glob.keeps I.bk) hm (by rw [I.ok.blt]; exact h1.keeps I.bk) ((h2 x hn).trans hv) h) hd
theorem Yd {x : Str} {v : V} {u : Value} {pos : Pos} (hg : Gl X x) (hm : X.mg x = some u) (r : RelV v u) (hd : (x == ("__debug__" : Str)) = false := by decide) : PE X (.Name x pos) (tC v) :=
 fun _ _ _ H _ I h => xG I hg hm ⟨v, H, I, r, h⟩ hd
theorem pe_bltn {x : Str} {v : V} {u : Value} {pos : Pos} (hg : Gl X x) (hm : X.mg x = none) (hv : bootBuiltins x = some u) (r : RelV v u) (hn : x ≠ "__name__" := by decide) (hd : (x == ("__debug__" : Str)) = false := by decide) : PE X (.Name x pos) (tC v) :=
 fun _ _ _ H _ I h => xR I hg hm hv ⟨v, H, I, r, h⟩ hn hd
variable {a b : Expr} {ta tb : TE} {pos : Pos}
def PC (X : Cx) (op : CmpOp) (a b : Expr) (t : TE) : Prop :=
 ∀ (pins : List (Addr × Obj)) (s : Shared) (σ : St) (H : Hp) (Q : VK), Inv X pins σ H s → t σ H Q →
  wpAny (model X.prog X.w) X.A (eval a X.env) (fun v s₁ => wpAny (model X.prog X.w) X.A (eval b X.env) (fun u s₂ => wpAny (model X.prog X.w) X.A (compareOp op v u) (EP X pins σ Q) X.xe s₂) X.xe s₁) X.xe s
theorem nobehind (b : Expr) {op : CmpOp} (h : op ≠ .In) (h2 : op ≠ .NotIn) : behindInMarks op b = false := by
 have e1 : (op == CmpOp.In) = false := by cases op <;> first | rfl | exact absurd rfl h
 have e2 : (op == CmpOp.NotIn) = false := by cases op <;> first | rfl | exact absurd rfl h2
 cases b <;> simp [behindInMarks, e1, e2]
def tIsN (ta : TE) : TE := fun σ H Q => ta σ H fun x H1 => Q (.bl (decide (x = .non))) H1
def Xh (ta : TE) : TE := fun σ H Q => ta σ H fun x H1 => Q (.bl (!decide (x = .non))) H1
theorem RelV.none_iff {x : V} {v : Value} (r : RelV x v) : (v == Value.none) = decide (x = .non) := by
 cases x with
 | non => cases r; rfl
 | bl _ => cases r; rfl
 | int _ => obtain ⟨t, rfl⟩ := r; rfl
 | str _ => obtain ⟨t, rfl⟩ := r; rfl
 | byt _ => obtain ⟨t, rfl⟩ := r; rfl
 | flt _ => obtain ⟨t, rfl⟩ := r; rfl
 | ref _ => cases r; rfl
 | ty _ => cases r; rfl
theorem pc_isN {j pos'} (ha : PE X a ta) : PC X .Is a (.Constant .none j pos') (tIsN ta) := by
 intro pins s σ H Q I h
 refine thn (ha pins s σ H _ I h) fun v s1 ⟨x, H1, I1, r1, q1⟩ => ?_
 exact Constant_none (is_none_gen ⟨.bl _, H1, I1, by rw [r1.none_iff]; rfl, q1⟩)
theorem Ye {j pos'} (ha : PE X a ta) : PC X .IsNot a (.Constant .none j pos') (Xh ta) := by
 intro pins s σ H Q I h
 refine thn (ha pins s σ H _ I h) fun v s1 ⟨x, H1, I1, r1, q1⟩ => ?_
 exact Constant_none (isnot_none_gen ⟨.bl _, H1, I1, by rw [r1.none_iff]; rfl, q1⟩)
def tB (t : TE) : TT := fun σ H Q => t σ H fun x H1 => ∃ c, x = .bl c ∧ Q c H1
theorem ZO {op : CmpOp} {t : TE} (h : PC X op a b t) (h1 : behindInMarks op b = false := by first | exact nobehind _ (by decide) (by decide) | rfl) : PT X (.Compare a [op] [b] pos) (tB t) := by
 intro pins s σ H Q I hw
 refine wpAny_isTrue_Compare1 (thn (h pins s σ H _ I hw) fun v s1 h1 => thn h1 fun u s2 h2 => thn h2 fun c s3 ⟨x, H1, I1, r1, q1⟩ => ?_) h1
 obtain ⟨d, rfl, q⟩ := q1
 cases r1
 exact wpAny_truthy_bool ⟨H1, I1, q⟩
theorem ZN {e : Expr} {t : TE} (h : PE X e t) (he : ∀ whole, isTrue e X.env whole = (do let v ← whole; standAt e.pos; holding [v] (truthy v)) := by intro _; rfl) : PT X e (tB t) := by
 intro pins s σ H Q I hw
 refine isTrue_plain (thn (h pins s σ H _ I hw) fun v s1 ⟨x, H1, I1, r1, q1⟩ => ?_) (he _)
 obtain ⟨d, rfl, q⟩ := q1
 cases r1
 exact wpAny_truthy_bool ⟨H1, I1, q⟩
variable {tA tB' : TT} {rest : List Expr}
def tAnd (t u : TT) : TT := fun σ H Q => t σ H fun c H1 => if c = true then u σ H1 Q else Q false H1
def tOr (t u : TT) : TT := fun σ H Q => t σ H fun c H1 => if c = true then Q true H1 else u σ H1 Q
def tNot (t : TT) : TT := fun σ H Q => t σ H fun c H1 => Q (!c) H1
theorem vR (ha : PT X a tA) : PW X (.BoolOp .And [a] pos) tA := by
 intro wh pins s σ H Q I h
 refine isTrue_and (thn (ha pins s σ H Q I h) fun c s1 e => ?_)
 cases c with
 | true => exact isTrue_and_nil e
 | false => exact e
theorem YI (ha : PT X a tA) : PW X (.BoolOp .Or [a] pos) tA := by
 intro wh pins s σ H Q I h
 refine isTrue_or (thn (ha pins s σ H Q I h) fun c s1 e => ?_)
 cases c with
 | false => exact isTrue_or_nil e
 | true => exact e
theorem ZM (ha : PT X a tA) (hb : PW X (.BoolOp .And (b :: rest) pos) tB') : PW X (.BoolOp .And (a :: b :: rest) pos) (tAnd tA tB') := by
 intro wh pins s σ H Q I h
 refine isTrue_and (thn (ha pins s σ H _ I h) fun c s1 ⟨H1, I1, q1⟩ => ?_)
 cases c with
 | true => exact hb wh pins s1 σ H1 Q I1 q1
 | false => exact ⟨H1, I1, q1⟩
theorem YJ (ha : PT X a tA) (hb : PW X (.BoolOp .Or (b :: rest) pos) tB') : PW X (.BoolOp .Or (a :: b :: rest) pos) (tOr tA tB') := by
 intro wh pins s σ H Q I h
 refine isTrue_or (thn (ha pins s σ H _ I h) fun c s1 ⟨H1, I1, q1⟩ => ?_)
 cases c with
 | true => exact ⟨H1, I1, q1⟩
 | false => exact hb wh pins s1 σ H1 Q I1 q1
theorem YK (ha : PT X a tA) : PT X (.UnaryOp .Not a pos) (tNot tA) := by
 intro pins s σ H Q I h
 exact isTrue_not (ha pins s σ H (fun c H1 => Q (!c) H1) I h)
def tIf (t : TT) (ta tb : TE) : TE := fun σ H Q => t σ H fun c H1 => if c = true then ta σ H1 Q else tb σ H1 Q
theorem pe_ifExp {c : Expr} (hc : PT X c tA) (ha : PE X a ta) (hb : PE X b tb) : PE X (.IfExp c a b pos) (tIf tA ta tb) := by
 intro pins s σ H Q I h
 refine wpAny_IfExp (thn (hc pins s σ H _ I h) fun d s1 ⟨H1, I1, q1⟩ => ?_)
 cases d with
 | true => exact ha pins s1 σ H1 Q I1 q1
 | false => exact hb pins s1 σ H1 Q I1 q1
end
def SqL (K : W.Frag) (H : Hp) (a : Addr) (xs : List V) : Prop :=
 Rd H a (.lst xs) ∨
  ∃ (o : Obj) (its : Array Value) (n : Nat), K.lookup a = some o ∧ o.cls = .type "list" ∧ o.dict = none ∧ o.data = .seq its n ∧ its.size ≤ sizeLine ∧ Vals xs its.toList
def SqT (K : W.Frag) (H : Hp) (a : Addr) (xs : List V) : Prop :=
 Rd H a (.tup xs) ∨
  ∃ (o : Obj) (its : Array Value) (n : Nat), K.lookup a = some o ∧ o.cls = .type "tuple" ∧ o.data = .seq its n ∧ its.size ≤ sizeLine ∧ Vals xs its.toList
def absV : Value → Option V
 | .none => some .non
 | .bool b => some (.bl b)
 | .int i _ => some (.int i)
 | .str x _ => some (.str x)
 | .bytes b _ => some (.byt b)
 | .float b _ => some (.flt b)
 | .ref a => some (.ref a)
 | .type n => some (.ty n)
 | _ => none
theorem RelV.abs {x : V} {u : Value} (r : RelV x u) : absV u = some x := by
 cases x with
 | non => cases r; rfl
 | bl _ => cases r; rfl
 | int _ => obtain ⟨t, rfl⟩ := r; rfl
 | str _ => obtain ⟨t, rfl⟩ := r; rfl
 | byt _ => obtain ⟨t, rfl⟩ := r; rfl
 | flt _ => obtain ⟨t, rfl⟩ := r; rfl
 | ref _ => cases r; rfl
 | ty _ => cases r; rfl
theorem RelV.inj {x y : V} {u : Value} (r : RelV x u) (q : RelV y u) : x = y := Option.some.inj (r.abs.symm.trans q.abs)
theorem Vals.inj : ∀ {xs ys : List V} {us : List Value}, Vals xs us → Vals ys us → xs = ys
 | _, _, _, .nil, .nil => rfl
 | _, _, _, .cons r t, .cons r' t' => by rw [r.inj r', Vals.inj t t']
section
variable {X : Cx} {pins : List (Addr × Obj)} {σ : St} {H : Hp} {s : Shared} {a : Addr} {xs ys : List V}
theorem SqL.of {K : W.Frag} (h : H a = some (.lst xs)) : SqL K H a xs := .inl (.inl h)
theorem SqT.of {K : W.Frag} (h : H a = some (.tup xs)) : SqT K H a xs := .inl (.inl h)
theorem Inv.list (I : Inv X pins σ H s) (h : SqL X.K H a xs) : ∃ its : List Value, Vals xs its ∧ PlainL s.heap a its.toArray ∧ xs.length ≤ sizeLine := by
 rcases h with h | ⟨o, its, n, hk, hc, hd, hs, hz, r⟩
 ·obtain ⟨z, its, n, r, e⟩ := h.ok I.hok
  exact ⟨its, r, ⟨_, n, e, rfl, rfl, rfl⟩, z⟩
 ·refine ⟨its.toList, r, ⟨o, n, I.kIn a o hk, hc, hd, by simpa using hs⟩, ?_⟩
  have e := r.length
  simp only [Array.length_toList] at e
  omega
theorem Inv.tuple (I : Inv X pins σ H s) (h : SqT X.K H a xs) : ∃ its : List Value, Vals xs its ∧ IsTup s.heap a its.toArray ∧ xs.length ≤ sizeLine := by
 rcases h with h | ⟨o, its, n, hk, hc, hs, hz, r⟩
 ·obtain ⟨z, its, r, p⟩ := h.ok I.hok
  exact ⟨its, r, p, z⟩
 ·refine ⟨its.toList, r, ⟨o, I.kIn a o hk, hc, n, by simpa using hs⟩, ?_⟩
  have e := r.length
  simp only [Array.length_toList] at e
  omega
theorem Inv.list_inj (I : Inv X pins σ H s) (h : SqL X.K H a xs) (h' : SqL X.K H a ys) : xs = ys := by
 obtain ⟨its, r, ⟨o, n, e, _, _, d⟩, _⟩ := I.list h
 obtain ⟨its', r', ⟨o', n', e', _, _, d'⟩, _⟩ := I.list h'
 rw [e] at e'; cases e'
 rw [d] at d'
 injection d' with d1 _
 have : its = its' := by simpa using congrArg Array.toList d1
 subst this
 exact r.inj r'
theorem Inv.tuple_inj (I : Inv X pins σ H s) (h : SqT X.K H a xs) (h' : SqT X.K H a ys) : xs = ys := by
 obtain ⟨its, r, ⟨o, e, _, n, d⟩, _⟩ := I.tuple h
 obtain ⟨its', r', ⟨o', e', _, n', d'⟩, _⟩ := I.tuple h'
 rw [e] at e'; cases e'
 rw [d] at d'
 injection d' with d1 _
 have : its = its' := by simpa using congrArg Array.toList d1
 subst this
 exact r.inj r'
end
abbrev Cx.wish (X : Cx) (E : Value → Shared → Prop) : Cx := { X with xe := E }
abbrev Cx.nox (X : Cx) : Cx := X.wish fun _ _ => False
theorem Cx.Ok.wish {X : Cx} (ok : X.Ok) (E : Value → Shared → Prop) : (X.wish E).Ok :=
 ⟨ok.mod, ok.kind, ok.glob, ok.blt, ok.above, ok.inj, ok.has, ok.cab, ok.hd, ok.frames, ok.stk, ok.exf, ok.bs, ok.bsz, ok.noex, ok.exfs, ok.funs, ok.frf⟩
theorem Cx.Ok.unwish {X : Cx} {E : Value → Shared → Prop} (ok : (X.wish E).Ok) : X.Ok :=
 ⟨ok.mod, ok.kind, ok.glob, ok.blt, ok.above, ok.inj, ok.has, ok.cab, ok.hd, ok.frames, ok.stk, ok.exf, ok.bs, ok.bsz, ok.noex, ok.exfs, ok.funs, ok.frf⟩
section
variable {X : Cx} {pins : List (Addr × Obj)} {σ : St} {H : Hp} {s : Shared} {E : Value → Shared → Prop}
theorem Inv.wish (I : Inv X pins σ H s) (E : Value → Shared → Prop) : Inv (X.wish E) pins σ H s := ⟨I.ok.wish E, I.os, I.bare, I.base, I.loc, I.cell, I.free, I.freeC, I.pin, I.hok, I.len⟩
theorem Inv.unwish (I : Inv (X.wish E) pins σ H s) : Inv X pins σ H s := ⟨I.ok.unwish, I.os, I.bare, I.base, I.loc, I.cell, I.free, I.freeC, I.pin, I.hok, I.len⟩
theorem SP.unwish {D : Ends} {f : Flow} {s' : Shared} (h : SP (X.wish E) pins D f s') : SP X pins D f s' := by
 cases f with
 | next => obtain ⟨σ', H', I, q⟩ := h; exact ⟨σ', H', I.unwish, q⟩
 | brk => obtain ⟨σ', H', I, q⟩ := h; exact ⟨σ', H', I.unwish, q⟩
 | cont => obtain ⟨σ', H', I, q⟩ := h; exact ⟨σ', H', I.unwish, q⟩
 | ret u => obtain ⟨v, σ', H', I, r, q⟩ := h; exact ⟨v, σ', H', I.unwish, r, q⟩
theorem PSs.nox {st : List Stmt} {t : TS} (h : PSs X.nox st t) : PSs X st t := fun pins s σ H D I hw =>
 wpAny_mono (h pins s σ H D (I.wish _) hw) (fun _ _ q => q.unwish) fun _ _ z => False.elim z
end
section
variable {X : Cx} {st : Stmt} {rest : List Stmt} {t u : TS} {e : Expr} {te : TE} {pos : Pos}
def Xi : TS := fun D σ H => D.nx σ H
def tSeq (t u : TS) : TS := fun D σ H => t { D with nx := u D } σ H
theorem zB : PSs X [] Xi := fun _ _ σ H _ I h => wpAny_execs_nil ⟨σ, H, I, h⟩
theorem zj (h1 : PS X st t) (h2 : PSs X rest u) : PSs X (st :: rest) (tSeq t u) := by
 intro pins s σ H D I h
 refine wpAny_execs_cons (thn (h1 pins s σ H { D with nx := u D } I h) fun f s1 q => ?_)
 cases f with
 | next =>
  obtain ⟨σ', H', I', q⟩ := q
  exact h2 pins s1 σ' H' D I' q
 | ret v => exact q
 | brk => exact q
 | cont => exact q
theorem zn (h1 : PS X st t) : PSs X [st] t := by
 intro pins s σ H D I h
 refine wpAny_execs_cons (thn (h1 pins s σ H D I h) fun f s1 q => ?_)
 cases f with
 | next => exact wpAny_execs_nil q
 | ret v => exact q
 | brk => exact q
 | cont => exact q
theorem Inv.quiet {pins : List (Addr × Obj)} {σ : St} {H : Hp} {s : Shared} (I : Inv X pins σ H s) : interactive X.env = false := by simp [interactive, I.ok.kind]
def Xj (te : TE) : TS := fun D σ H => te σ H fun _ H1 => D.nx σ H1
theorem xi (he : PE X e te) (hs : swapsWith e none pos.line X.env = pure false := by rfl) : PS X (.Expr e pos) (Xj te) := by
 intro pins s σ H D I h
 exact wpAny_Expr_any (thn (he pins s σ H _ I h) fun v s1 ⟨x, H1, I1, r1, q1⟩ => ⟨σ, H1, I1, q1⟩) I.quiet hs
def tRet (te : TE) : TS := fun D σ H => te σ H D.rt
theorem zE (he : PE X e te) : PS X (.Return (some e) pos) (tRet te) := by
 intro pins s σ H D I h
 exact wpAny_Return_some (thn (he pins s σ H _ I h) fun v s1 ⟨x, H1, I1, r1, q1⟩ => ⟨x, σ, H1, I1, r1, q1⟩)
def tIfS (c : TT) (t u : TS) : TS := fun D σ H => c σ H fun b H1 => if b = true then t D σ H1 else u D σ H1
theorem zT {c : Expr} {a b : List Stmt} {tc : TT} (hc : PT X c tc) (ha : PSs X a t) (hb : PSs X b u) : PS X (.If c a b pos) (tIfS tc t u) := by
 intro pins s σ H D I h
 refine wpAny_If (thn (hc pins s σ H _ I h) fun d s1 ⟨H1, I1, q1⟩ => ?_)
 cases d with
 | true => exact ha pins s1 σ H1 D I1 q1
 | false => exact hb pins s1 σ H1 D I1 q1
end
abbrev TG := V → St → Hp → (St → Hp → Prop) → Prop
abbrev TGs := List V → St → Hp → (St → Hp → Prop) → Prop
def PG (X : Cx) (target : Expr) (t : TG) : Prop :=
 ∀ (pins : List (Addr × Obj)) (s : Shared) (σ : St) (H : Hp) (v : V) (u : Value) (Q : St → Hp → Prop), Inv X pins σ H s → RelV v u → t v σ H Q →
  wpAny (model X.prog X.w) X.A (assign target X.env u) (fun _ s' => ∃ σ' H', Inv X pins σ' H' s' ∧ Q σ' H') X.xe s
def PGs (X : Cx) (ts : List Expr) (t : TGs) : Prop :=
 ∀ (pins : List (Addr × Obj)) (s : Shared) (σ : St) (H : Hp) (vs : List V) (us : List Value) (Q : St → Hp → Prop), Inv X pins σ H s → Vals vs us → t vs σ H Q →
  wpAny (model X.prog X.w) X.A (assignInOrder ((assignEach ts X.env).map (·.2)) us) (fun _ s' => ∃ σ' H', Inv X pins σ' H' s' ∧ Q σ' H') X.xe s
abbrev TSet := V → V → V → Hp → (Hp → Prop) → Prop
def PSet (X : Cx) (t : TSet) : Prop :=
 ∀ (pins : List (Addr × Obj)) (s : Shared) (σ : St) (H : Hp) (o i v : V) (ov iv u : Value) (Q : Hp → Prop), Inv X pins σ H s → RelV o ov → RelV i iv → RelV v u → t o i v H Q →
  wpAny (model X.prog X.w) X.A (setItem ov iv u) (fun _ s' => ∃ H', Inv X pins σ H' s' ∧ Q H') X.xe s
abbrev TIp := V → V → Hp → VK → Prop
def PIp (X : Cx) (op : Operator) (t : TIp) : Prop :=
 ∀ (pins : List (Addr × Obj)) (s : Shared) (σ : St) (H : Hp) (x y : V) (v u : Value) (Q : VK), Inv X pins σ H s → RelV x v → RelV y u → t x y H Q →
  wpAny (model X.prog X.w) X.A (inplaceOp op v u) (EP X pins σ Q) X.xe s
section
variable {X : Cx} {pos : Pos}
def yi (i : Nat) : TG := fun v σ H Q => Q (σ.set i (some v)) H
theorem wI {i : Nat} {x : Str} (hN : X.N.Nodup) (hi : X.N[i]? = some x) (hx : Loc X.env.scope x) (hf : X.fn x = true ∨ X.env.scope.names.lookup x = some .local := by first | exact .inl rfl | exact .inr rfl | assumption) : PG X (.Name x pos) (yi i) := by
 intro pins s σ H v u Q I r h
 exact wpAny_assign_Name (xr I hN hi hx r (fun s' I' => ⟨_, H, I', h⟩) hf)
def gNil : TGs := fun vs σ H Q => vs = [] ∧ Q σ H
def wl (t : TG) (u : TGs) : TGs := fun vs σ H Q => ∃ v r, vs = v :: r ∧ t v σ H fun σ' H' => u r σ' H' Q
theorem yo : PGs X [] gNil := by
 intro pins s σ H vs us Q I r h
 obtain ⟨e, h⟩ := h
 subst e
 cases r
 exact assignInOrder_nil ⟨σ, H, I, h⟩
theorem zF {e : Expr} {es : List Expr} {t : TG} {u : TGs} (h1 : PG X e t) (h2 : PGs X es u)
  (hs : (assignEach (e :: es) X.env).map (·.2) = assign e X.env :: (assignEach es X.env).map (·.2) := by rfl) : PGs X (e :: es) (wl t u) := by
 intro pins s σ H vs us Q I r h
 obtain ⟨v, vr, e1, h⟩ := h
 subst e1
 cases r with
 | cons r rr =>
  rw [hs]
  refine assignInOrder_cons (thn (h1 pins s σ H _ _ _ I r h) fun _ s1 ⟨σ1, H1, I1, q1⟩ => ?_)
  exact h2 pins s1 σ1 H1 _ _ Q I1 rr q1
def gTup (K : W.Frag) (n : Nat) (t : TGs) : TG := fun v σ H Q => ∃ a xs, v = .ref a ∧ SqT K H a xs ∧ xs.length = n ∧ t xs σ H Q
theorem wx {es : List Expr} {k : Nat} {t : TGs} {n : Nat} (hc : X.calm = true) (h : PGs X es t)
  (hn : (assignEach es X.env).length = n := by rfl) (hst : (assignEach es X.env).findIdx? (·.1) = none := by rfl) : PG X (.Tuple es k pos) (gTup X.K n t) := by
 intro pins s σ H v u Q I r hw
 obtain ⟨a, xs, e1, hq, hl, hw⟩ := hw
 subst e1
 cases r
 obtain ⟨its, rv, ht, hz⟩ := I.tuple hq
 refine assign_Tuple_tuple (I.ok.hd hc) ht (by simp [hn, ← hl, rv.length]) hst fun h' hx => ?_
 have I1 : Inv X pins σ H { s with heap := h' } := I.kept (t' := s.toks) fun b o e => hx b o (Nat.ne_of_lt (Heap.lt_size e)) e
 exact h pins _ σ H xs _ Q I1 (by simpa using rv) hw
def gSub (to ti : TE) (t : TSet) : TG := fun v σ H Q => to σ H fun o H1 => ti σ H1 fun i H2 => t o i v H2 fun H3 => Q σ H3
theorem xj {o i : Expr} {to ti : TE} {t : TSet} (ho : PE X o to) (hi : PE X i ti) (hs : PSet X t)
  (ha : ∀ v, assign (.Subscript o i pos) X.env v = (do
   let ov ← holding [v] (eval o X.env)
   let iv ← holding [v, ov] (eval i X.env)
   standAt pos
   holding [v, ov, iv] (setItem ov iv v)
   release [v, ov, iv] []) := by intro _; rfl) : PG X (.Subscript o i pos) (gSub to ti t) := by
 intro pins s σ H v u Q I r h
 rw [ha]
 refine wpAny_bind (wpAny_holding (thn (ho pins s σ H _ I h) fun ov s1 ⟨x, H1, I1, r1, q1⟩ => ?_))
 refine wpAny_bind (wpAny_holding (thn (hi pins s1 σ H1 _ I1 q1) fun iv s2 ⟨y, H2, I2, r2, q2⟩ => ?_))
 refine wpAny_bind (wpAny_standAt (wpAny_bind (wpAny_holding (thn (hs pins s2 σ H2 x y v ov iv u _ I2 r1 r2 r q2) fun _ s3 ⟨H3, I3, q3⟩ => ?_))))
 exact wpAny_release ⟨σ, H3, I3, q3⟩
def tAsg (te : TE) (g : TG) : TS := fun D σ H => te σ H fun x H1 => g x σ H1 D.nx
theorem yu {tg e : Expr} {te : TE} {g : TG} (he : PE X e te) (hg : PG X tg g) (hs : swapsWithSole [tg] e pos.line X.env = pure false := by rfl) (hw : swappedStores [tg] e X.env = pure none := by rfl)
  (h1 : (assignEach [tg] X.env).map (·.2) = [assign tg X.env] := by rfl) : PS X (.Assign [tg] e pos) (tAsg te g) := by
 intro pins s σ H D I h
 refine wpAny_Assign_stores (thn (he pins s σ H _ I h) fun v s1 ⟨x, H1, I1, r1, q1⟩ => ?_) hs hw
 rw [h1]
 exact thn (hg pins s1 σ H1 x v _ I1 r1 q1) fun _ s2 q => q
theorem ps_set {i : Nat} {x : Str} {e : Expr} {te : TE} {pos' : Pos} (hN : X.N.Nodup) (hi : X.N[i]? = some x) (hx : Loc X.env.scope x) (he : PE X e te) (hs : swapsWith e (some (.Name x pos')) pos.line X.env = pure false := by rfl) (hf : X.fn x = true ∨ X.env.scope.names.lookup x = some .local := by first | exact .inl rfl | exact .inr rfl | assumption) :
  PS X (.Assign [.Name x pos'] e pos) (tAsg te (yi i)) := by
 intro pins s σ H D I h
 refine wpAny_Assign_Name (thn (he pins s σ H _ I h) fun v s1 ⟨y, H1, I1, r1, q1⟩ => ?_) hs
 exact xr I1 hN hi hx r1 (fun s2 I2 => ⟨_, H1, I2, q1⟩) hf
def tAug (i : Nat) (te : TE) (ti : TIp) : TS := fun D σ H => ∃ x, σ[i]? = some (some x) ∧ te σ H fun y H1 => ti x y H1 fun z H2 => D.nx (σ.set i (some z)) H2
theorem ps_aug {i : Nat} {x : Str} {e : Expr} {te : TE} {op : Operator} {ti : TIp} {pos' : Pos} (hN : X.N.Nodup) (hi : X.N[i]? = some x) (hx : Loc X.env.scope x) (he : PE X e te) (ho : PIp X op ti) (hf : X.fn x = true ∨ X.env.scope.names.lookup x = some .local := by first | exact .inl rfl | exact .inr rfl | assumption) :
  PS X (.AugAssign (.Name x pos') op e pos) (tAug i te ti) := by
 intro pins s σ H D I h
 obtain ⟨v, e1, h⟩ := h
 obtain ⟨m, hn, hl⟩ := I.loc
 have vis : Vis X.env.scope x := by rcases hx with k | k; exact .inl k; exact .inr (.inl k)
 obtain ⟨u, r, l⟩ := hl i x v hi e1 vis
 refine wpAny_AugAssign_Name ?_
 have go : wpAny (model X.prog X.w) X.A (eval e X.env) (fun w s₂ => wpAny (model X.prog X.w) X.A (inplaceOp op u w) (fun r s₃ => wpAny (model X.prog X.w) X.A (storeName X.env x r) (fun _ => SP X pins D .next) X.xe s₃) X.xe s₂) X.xe s := by
  refine thn (he pins s σ H _ I h) fun w s1 ⟨y, H1, I1, r1, q1⟩ => ?_
  refine thn (ho pins s1 σ H1 v y u w _ I1 r r1 q1) fun z s2 ⟨zv, H2, I2, r2, q2⟩ => ?_
  exact xr I2 hN hi hx r2 (fun s3 I3 => ⟨_, H2, I3, q2⟩) hf
 rcases l with ⟨hk, hm⟩ | ⟨hk, c, hc, hcell⟩
 ·exact wpAny_loadName_local I.ok.kind hk hn hm go
 ·rcases hk with hk | hk
  ·exact wpAny_loadName_cell I.ok.kind hk hc hcell go
  ·rcases hx with k | k
   ·have : X.env.scope.names.lookup x = some .free := hk
    rw [k] at this; cases this
   ·have : X.env.scope.names.lookup x = some .free := hk
    rw [k] at this; cases this
def Xm (to ti te : TE) (tget : V → V → Hp → VK → Prop) (tip : TIp) (tset : TSet) : TS := fun D σ H => to σ H fun o H1 => ti σ H1 fun i H2 => tget o i H2 fun x H3 => te σ H3 fun y H4 => tip x y H4 fun z H5 => tset o i z H5 fun H6 => D.nx σ H6
def PGet (X : Cx) (t : V → V → Hp → VK → Prop) : Prop :=
 ∀ (pins : List (Addr × Obj)) (s : Shared) (σ : St) (H : Hp) (o i : V) (ov iv : Value) (Q : VK), Inv X pins σ H s → RelV o ov → RelV i iv → t o i H Q →
  wpAny (model X.prog X.w) X.A (getItem ov iv) (EP X pins σ Q) X.xe s
theorem ps_augS {o i e : Expr} {to ti te : TE} {tget : V → V → Hp → VK → Prop} {tip : TIp} {tset : TSet} {op : Operator} {tpos : Pos} (ho : PE X o to) (hi : PE X i ti) (hg : PGet X tget) (he : PE X e te) (hp : PIp X op tip) (hs : PSet X tset)
  (ha : ∀ ov iv new, augStore i ov iv new = (do holding [new, ov, iv] (setItem ov iv new); release [new, ov, iv] []; pure .next) := by intros; rfl) : PS X (.AugAssign (.Subscript o i tpos) op e pos) (Xm to ti te tget tip tset) := by
 intro pins s σ H D I h
 refine wpAny_AugAssign_SubscriptAny (thn (ho pins s σ H _ I h) fun ov s1 ⟨x1, H1, I1, r1, q1⟩ => ?_) ha
 refine thn (hi pins s1 σ H1 _ I1 q1) fun iv s2 ⟨x2, H2, I2, r2, q2⟩ => ?_
 refine thn (hg pins s2 σ H2 x1 x2 ov iv _ I2 r1 r2 q2) fun old s3 ⟨x3, H3, I3, r3, q3⟩ => ?_
 refine thn (he pins s3 σ H3 _ I3 q3) fun v s4 ⟨x4, H4, I4, r4, q4⟩ => ?_
 refine thn (hp pins s4 σ H4 x3 x4 old v _ I4 r3 r4 q4) fun new s5 ⟨x5, H5, I5, r5, q5⟩ => ?_
 exact thn (hs pins s5 σ H5 x1 x2 x5 ov iv new _ I5 r1 r2 r5 q5) fun _ s6 ⟨H6, I6, q6⟩ => ⟨σ, H6, I6, q6⟩
def ipI (f : Int → Int → Int) : TIp := fun x y H Q => ∃ i j, x = .int i ∧ y = .int j ∧ Q (.int (f i j)) H
theorem Y4 : PIp X .Add (ipI fun i j => i + j) := by
 intro pins s σ H x y v u Q I r1 r2 h
 obtain ⟨i, j, e1, e2, q⟩ := h
 subst e1; subst e2
 obtain ⟨t, rfl⟩ := r1
 obtain ⟨t', rfl⟩ := r2
 exact iadd_int ⟨.int _, H, I.tok _, ⟨_, rfl⟩, q⟩
end
structure It where
 go : Nat → Hp → Prop
 yld : Nat → Hp → V → Hp → Prop
 stop : Nat → Hp → Prop
def FpOk (X : Cx) (pins : List (Addr × Obj)) (H : Hp) (b : Addr) : Prop :=
 H b = none ∧ b ≠ X.env.locals ∧ b ∉ X.fs ∧ (b ∈ X.ex ∨ X.s₀.heap.objs.size ≤ b) ∧ (∀ x c, X.env.cells.lookup x = some c → c ≠ b) ∧ ∀ p ∈ X.pn ++ pins, p.1 ≠ b
theorem Inv.fpOk {X : Cx} {pins : List (Addr × Obj)} {σ : St} {H H' : Hp} {s : Shared} {b : Addr} (I : Inv X pins σ H s) (hb : s.heap.objs.size ≤ b) (hn : H' b = none) : FpOk X pins H' b := by
 refine ⟨hn, Nat.ne_of_gt (Nat.lt_of_lt_of_le I.lt hb), I.nofs hb, .inr (Nat.le_trans I.sz hb), fun x c e z => ?_, fun p hp z => ?_⟩
 ·obtain ⟨v, q⟩ := I.cell x c e
  exact absurd (Nat.lt_of_lt_of_le q.lt (by rw [z]; exact hb)) (Nat.lt_irrefl _)
 ·exact absurd (Nat.lt_of_lt_of_le (Heap.lt_size (I.pin p hp).1) (by rw [z]; exact hb)) (Nat.lt_irrefl _)
structure Turn (P : Program) (w : World) (K : W.Frag) (tg : Expr) (J : It) (fp : List Addr) (it : Addr) (tn : Nat → Heap → Prop) : Prop where
 mem : it ∈ fp
 obj : ∀ i h, tn i h → ∀ b ∈ fp, ∃ o, h.get? b = some o ∧ ∀ v, o.data ≠ .cell v
 keep : ∀ i h h', tn i h → (∀ b ∈ fp, ∀ o, h.get? b = some o → h'.get? b = some o) → tn i h'
 item : ∀ (X : Cx), X.prog = P → X.w = w → X.K = K → X.calm = true → ∀ (i : Nat) (pins : List (Addr × Obj)) (s : Shared) (σ : St) (H : Hp) (E : Value → Shared → Prop), Inv X pins σ H s → (∀ b ∈ fp, FpOk X pins H b) → tn i s.heap → J.go i H →
  wpAny (model P w) X.A (pyNext (.ref it)) (fun r s1 => ∃ u, r = some u ∧
   wpAny (model P w) X.A (letOwnedTupleGo tg (.ref it) u) (fun _ s2 => ∃ x H', Inv X pins σ H' s2 ∧ RelV x u ∧ J.yld i H x H' ∧ tn (i + 1) s2.heap ∧ ∀ b ∈ fp, H' b = none) E s1) E s
 done : ∀ (X : Cx), X.prog = P → X.w = w → X.K = K → X.calm = true → ∀ (i : Nat) (pins : List (Addr × Obj)) (s : Shared) (σ : St) (H : Hp) (E : Value → Shared → Prop), Inv X pins σ H s → (∀ b ∈ fp, FpOk X pins H b) → tn i s.heap → J.stop i H →
  wpAny (model P w) X.A (pyNext (.ref it)) (fun r s1 => r = none ∧ Inv X pins σ H s1) E s
 self : ∀ (A : Around) (i : Nat) (s : Shared) (Q : Value → Shared → Prop) (E : Value → Shared → Prop), tn i s.heap → Q (.ref it) s → wpAny (model P w) A (pyIter (.ref it)) Q E s
abbrev TI := St → Hp → (It → Hp → Prop) → Prop
def PIE (X : Cx) (pins : List (Addr × Obj)) (σ : St) (tg : Expr) (R : It → Hp → Prop) (itv : Value) (s2 : Shared) : Prop :=
 ∃ (it : Addr) (fp : List Addr) (tn : Nat → Heap → Prop) (J : It) (H' : Hp), itv = .ref it ∧ Inv X pins σ H' s2 ∧ Turn X.prog X.w X.K tg J fp it tn ∧ tn 0 s2.heap ∧ (∀ b ∈ fp, FpOk X pins H' b) ∧ R J H'
def PI (X : Cx) (tg iter : Expr) (wi : TI) : Prop :=
 ∀ (pins : List (Addr × Obj)) (s : Shared) (σ : St) (H : Hp) (R : It → Hp → Prop), Inv X pins σ H s → wi σ H R →
  wpAny (model X.prog X.w) X.A (eval iter X.env) (fun v s1 => wpAny (model X.prog X.w) X.A (pyIter v) (PIE X pins σ tg R) X.xe s1) X.xe s
theorem ZA {M : Model} {A : Around} {E : Value → Shared → Prop} {s : Shared} {tg : Expr} {it : Addr} {u : Value} {o : Obj} {n : String} {vs : Array Value} {Q : Unit → Shared → Prop} (ho : s.heap.get? it = some o) (hc : o.cls = .type n) (hd : o.data = .fields vs)
    (hn : ["enumerate", "zip", "dict_itemiterator", "dict_reverseitemiterator", "odict_iterator", "itertools.zip_longest", "itertools.pairwise"].contains n = false) (hQ : Q () s) : wpAny M A (letOwnedTupleGo tg (.ref it) u) Q E s := by
  unfold letOwnedTupleGo
  cases tg <;> first
    | exact wpAny_pure hQ
    | (cases u <;> first
        | exact wpAny_pure hQ
        | (refine wpAny_bind (wpAny_load ho ?_)
           rw [hc, hd]
           show wpAny M A (if (["enumerate", "zip", "dict_itemiterator", "dict_reverseitemiterator", "odict_iterator", "itertools.zip_longest", "itertools.pairwise"].contains n && vs[0]? == some (rawInt _)) = true then _ else _) Q E s
           rw [if_neg (by intro h; rw [hn, Bool.false_and] at h; cases h)]
           exact wpAny_pure hQ))
def Itl (K : W.Frag) (a : Addr) : It :=
 ⟨fun i H => ∃ xs x, SqL K H a xs ∧ xs[i]? = some x, fun i H x H' => H' = H ∧ ∀ xs, SqL K H a xs → xs[i]? = some x, fun i H => ∃ xs, SqL K H a xs ∧ xs.length ≤ i⟩
def Itt (K : W.Frag) (a : Addr) : It :=
 ⟨fun i H => ∃ xs x, SqT K H a xs ∧ xs[i]? = some x, fun i H x H' => H' = H ∧ ∀ xs, SqT K H a xs → xs[i]? = some x, fun i H => ∃ xs, SqT K H a xs ∧ xs.length ≤ i⟩
def Itr (lo : Int) (n : Nat) : It := ⟨fun i _ => i < n, fun i H x H' => H' = H ∧ x = .int (lo + i), fun i _ => n ≤ i⟩
theorem turn_list {P : Program} {w : World} {K : W.Frag} {tg : Expr} (a it : Addr) : Turn P w K tg (Itl K a) [it] it (fun i h => h.IsListIter it a i) where
 mem := by simp
 obj := fun i h st b hb => by
  have e : b = it := by simpa using hb
  subst e
  obtain ⟨o, e, c, d⟩ := st
  exact ⟨o, e, fun v z => by rw [d] at z; cases z⟩
 keep := fun i h h' st k => st.at fun o e => k it (by simp) o e
 item := by
  intro X hP hw hK hc i pins s σ H E I hf st hg
  subst hP hw hK
  obtain ⟨xs, x, hq, hx⟩ := hg
  obtain ⟨its, rv, p, hz⟩ := I.list hq
  obtain ⟨u, hu, ru⟩ := rv.get hx
  obtain ⟨f0, f1, f2, f3, f4, f5⟩ := hf it (by simp)
  refine wpAny_pyNext_list_item st p.isList (x := u) (by simpa using hu) fun h' st' sb => ?_
  have I1 : Inv X pins σ H { s with heap := h' } := I.turned (t' := s.toks) (fun b o hb e => (sb.2 b hb).trans e) f0 f1 f3 f4 f5
  obtain ⟨o, e, c, d⟩ := id st'
  exact ⟨u, rfl, ZA (s := { s with heap := h' }) e c d (by decide) ⟨x, H, I1, ru, ⟨rfl, fun ys hy => by rw [I.list_inj hy hq]; exact hx⟩, st', fun b hb => (hf b hb).1⟩⟩
 done := by
  intro X hP hw hK hc i pins s σ H E I hf st hg
  subst hP hw hK
  obtain ⟨xs, hq, hx⟩ := hg
  obtain ⟨its, rv, p, hz⟩ := I.list hq
  obtain ⟨f0, f1, f2, f3, f4, f5⟩ := hf it (by simp)
  have hl := rv.length
  exact wpAny_pyNext_list_end (I.ok.hd hc) st p.isList (by simp; omega) fun h' eb => ⟨rfl, I.turned (t' := s.toks) (fun b o hb e => eb b o hb e) f0 f1 f3 f4 f5⟩
 self := fun _ _ _ _ _ st h => wpAny_pyIter_listiter st h
theorem turn_tuple {P : Program} {w : World} {K : W.Frag} {tg : Expr} (a it : Addr) : Turn P w K tg (Itt K a) [it] it (fun i h => h.IsTupleIter it a i) where
 mem := by simp
 obj := fun i h st b hb => by
  have e : b = it := by simpa using hb
  subst e
  obtain ⟨o, e, c, d⟩ := st
  exact ⟨o, e, fun v z => by rw [d] at z; cases z⟩
 keep := fun i h h' st k => st.at fun o e => k it (by simp) o e
 item := by
  intro X hP hw hK hc i pins s σ H E I hf st hg
  subst hP hw hK
  obtain ⟨xs, x, hq, hx⟩ := hg
  obtain ⟨its, rv, p, hz⟩ := I.tuple hq
  obtain ⟨u, hu, ru⟩ := rv.get hx
  obtain ⟨f0, f1, f2, f3, f4, f5⟩ := hf it (by simp)
  refine wpAny_pyNext_tuple_item st (show s.heap.IsTuple a its.toArray from p) (x := u) (by simpa using hu) fun h' st' sb => ?_
  have I1 : Inv X pins σ H { s with heap := h' } := I.turned (t' := s.toks) (fun b o hb e => (sb.2 b hb).trans e) f0 f1 f3 f4 f5
  obtain ⟨o, e, c, d⟩ := id st'
  exact ⟨u, rfl, ZA (s := { s with heap := h' }) e c d (by decide) ⟨x, H, I1, ru, ⟨rfl, fun ys hy => by rw [I.tuple_inj hy hq]; exact hx⟩, st', fun b hb => (hf b hb).1⟩⟩
 done := by
  intro X hP hw hK hc i pins s σ H E I hf st hg
  subst hP hw hK
  obtain ⟨xs, hq, hx⟩ := hg
  obtain ⟨its, rv, p, hz⟩ := I.tuple hq
  obtain ⟨f0, f1, f2, f3, f4, f5⟩ := hf it (by simp)
  have hl := rv.length
  exact wpAny_pyNext_tuple_end (I.ok.hd hc) st (show s.heap.IsTuple a its.toArray from p) (by simp; omega) fun h' eb => ⟨rfl, I.turned (t' := s.toks) (fun b o hb e => eb b o hb e) f0 f1 f3 f4 f5⟩
 self := fun _ _ _ _ _ st h => wpAny_pyIter_tupleiter st h
theorem turn_range {P : Program} {w : World} {K : W.Frag} {tg : Expr} (it : Addr) (lo : Int) (n : Nat) : Turn P w K tg (Itr lo n) [it] it (fun i h => IsRangeIter h it (lo + (i : Nat) * 1) ((n : Int) - (i : Nat)) 1) where
 mem := by simp
 obj := fun i h st b hb => by
  have e : b = it := by simpa using hb
  subst e
  exact ⟨_, st, fun v z => by
   have z' : Data.fields _ = Data.cell v := z
   cases z'⟩
 keep := fun i h h' st k => k it (by simp) _ st
 item := by
  intro X hP hw hK hc i pins s σ H E I hf st hg
  subst hP hw hK
  obtain ⟨f0, f1, f2, f3, f4, f5⟩ := hf it (by simp)
  have W := Walks.range (prog := X.prog) (w := X.w) (I.ok.hd hc) it lo 1 n
  refine W.item i s _ _ hg st fun v h' tk hv st' kk => ?_
  obtain ⟨t, rfl⟩ := hv
  have I1 : Inv X pins σ H { s with heap := h', toks := tk } := I.turned (fun b o hb e => kk b o (by simpa using hb) e) f0 f1 f3 f4 f5
  refine ⟨_, rfl, ZA (s := { s with heap := h', toks := tk }) (n := "range_iterator") st' rfl rfl (by decide) ⟨.int (lo + i), H, I1, ⟨t, ?_⟩, ⟨rfl, rfl⟩, st', fun b hb => (hf b hb).1⟩⟩
  rw [Int.mul_one]
 done := by
  intro X hP hw hK hc i pins s σ H E I hf st hg
  subst hP hw hK
  obtain ⟨f0, f1, f2, f3, f4, f5⟩ := hf it (by simp)
  exact wpAny_pyNext_range_end (I.ok.hd hc) st (by have : n ≤ i := hg; omega) fun h' eb => ⟨rfl, I.turned (t' := s.toks) (fun b o hb e => eb b o hb e) f0 f1 f3 f4 f5⟩
 self := fun _ _ _ _ _ st h => wpAny_pyIter_rangeiter st h
section
variable {X : Cx} {tg : Expr}
def Y6 (K : W.Frag) (tl : TE) : TI := fun σ H R => tl σ H fun x H1 => ∃ a, x = .ref a ∧ (∃ xs, SqL K H1 a xs) ∧ R (Itl K a) H1
def iTup (K : W.Frag) (tl : TE) : TI := fun σ H R => tl σ H fun x H1 => ∃ a, x = .ref a ∧ (∃ xs, SqT K H1 a xs) ∧ R (Itt K a) H1
theorem vS {l : Expr} {tl : TE} (hl : PE X l tl) : PI X tg l (Y6 X.K tl) := by
 intro pins s σ H R I h
 refine thn (hl pins s σ H _ I h) fun v s1 ⟨x, H1, I1, r1, q1⟩ => ?_
 obtain ⟨a, e, ⟨xs, hq⟩, q⟩ := q1
 subst e
 cases r1
 obtain ⟨its, rv, p, hz⟩ := I1.list hq
 refine wpAny_pyIter_list p.isList ?_
 refine ⟨s1.heap.objs.size, [s1.heap.objs.size], _, _, H1, rfl, I1.kept (t' := s1.toks) fun b o e => Heap.get?_push_of_some _ e, turn_list a _, ⟨_, Heap.get?_push_size _ rfl, rfl, rfl⟩, fun b hb => ?_, q⟩
 have e : b = s1.heap.objs.size := by simpa using hb
 subst e
 exact I1.fpOk (Nat.le_refl _) (I1.hok.fresh (Nat.le_refl _))
theorem xx {l : Expr} {tl : TE} (hl : PE X l tl) : PI X tg l (iTup X.K tl) := by
 intro pins s σ H R I h
 refine thn (hl pins s σ H _ I h) fun v s1 ⟨x, H1, I1, r1, q1⟩ => ?_
 obtain ⟨a, e, ⟨xs, hq⟩, q⟩ := q1
 subst e
 cases r1
 obtain ⟨its, rv, p, hz⟩ := I1.tuple hq
 refine wpAny_pyIter_tuple (show s1.heap.IsTuple a its.toArray from p) ?_
 refine ⟨s1.heap.objs.size, [s1.heap.objs.size], _, _, H1, rfl, I1.kept (t' := s1.toks) fun b o e => Heap.get?_push_of_some _ e, turn_tuple a _, ⟨_, Heap.get?_push_size _ rfl, rfl, rfl⟩, fun b hb => ?_, q⟩
 have e : b = s1.heap.objs.size := by simpa using hb
 subst e
 exact I1.fpOk (Nat.le_refl _) (I1.hok.fresh (Nat.le_refl _))
theorem range_it {pins : List (Addr × Obj)} {σ : St} {H : Hp} {s : Shared} {R : It → Hp → Prop} {E : Value → Shared → Prop} {lo hi : Int} {t u v : Tok} {tk : Nat} (I : Inv X pins σ H s) (h1 : -(2 ^ 62) ≤ lo) (h2 : lo < 2 ^ 62) (h3 : -(2 ^ 62) ≤ hi) (h4 : hi < 2 ^ 62)
  (q : R (Itr lo (hi - lo).toNat) H) : wpAny (model X.prog X.w) X.A (pyIter (.ref s.heap.objs.size)) (PIE X pins σ tg R) E { s with heap := s.heap.push { cls := .type "range", data := .fields #[.int lo t, .int hi u, .int 1 v] }, toks := tk } := by
 refine wpAny_pyIter_range (IsRange.new ..) (small_one h1 h2 h3 h4) ?_
 have I1 : Inv X pins σ H { s with heap := s.heap.push { cls := .type "range", data := .fields #[.int lo t, .int hi u, .int 1 v] }, toks := tk } := I.kept fun b o e => Heap.get?_push_of_some _ e
 refine ⟨(s.heap.push { cls := .type "range", data := .fields #[.int lo t, .int hi u, .int 1 v] }).objs.size, [(s.heap.push { cls := .type "range", data := .fields #[.int lo t, .int hi u, .int 1 v] }).objs.size], _, _, H, rfl,
  I1.kept (t' := tk) fun b o e => Heap.get?_push_of_some _ e, turn_range _ lo (hi - lo).toNat, ?_, fun b hb => ?_, q⟩
 ·have e1 : lo + ((0 : Nat) : Int) * 1 = lo := by simp
  have e2 : (((hi - lo).toNat : Nat) : Int) - ((0 : Nat) : Int) = Builtin.Range.rangeSize lo hi 1 := by rw [rangeSize_one]; split <;> omega
  show IsRangeIter _ _ (lo + ((0 : Nat) : Int) * 1) ((((hi - lo).toNat : Nat) : Int) - ((0 : Nat) : Int)) 1
  rw [e1, e2]
  exact Heap.get?_push_size _ rfl
 ·have e : b = (s.heap.push { cls := .type "range", data := .fields #[.int lo t, .int hi u, .int 1 v] }).objs.size := by simpa using hb
  subst e
  exact I1.fpOk (Nat.le_refl _) (I1.hok.fresh (Nat.le_refl _))
def Ym (ta : TA) : TI := fun σ H R => ta σ H fun vs H1 => ∃ j : Int, vs = [.int j] ∧ -(2 ^ 62) ≤ j ∧ j < 2 ^ 62 ∧ R (Itr 0 j.toNat) H1
theorem pi_range1 {a : Expr} {ta : TA} {p pos : Pos} (hg : Gl X "range") (hm : X.mg "range" = none) (ha : PA X [a] ta) (hs : starEach [a] X.env = [(false, eval a X.env)] := by rfl) : PI X tg (.Call (.Name "range" p) [a] [] pos) (Ym ta) := by
 intro pins s σ H R I h
 refine Call_ (xR I hg hm boot_range (PyProof.Rows.callWith_type1 (thn (ha pos pins s σ H _ I h) fun us s1 ⟨vs, H1, I1, r1, q1⟩ => ?_) hs rfl))
 obtain ⟨j, e, q1, q2, q⟩ := q1
 subst e
 cases r1 with
 | cons r rr =>
  cases rr
  obtain ⟨t, rfl⟩ := r
  exact call_range_1 (range_it I1 (by omega) (by omega) q1 q2 (by simpa using q))
def tFor (wi : TI) (g : TG) (tb : TS) : TS := fun D σ H => wi σ H fun J H1 => ∃ W : Nat → Nat → St → Hp → Prop, (∃ m, W 0 m σ H1) ∧ ∀ i m σ H, W i m σ H →
 (J.stop i H ∧ D.nx σ H) ∨ (J.go i H ∧ ∃ N : St → Hp → Prop, (∀ σ' H', N σ' H' → ∃ m', m' < m ∧ W (i + 1) m' σ' H') ∧ ∀ x H', J.yld i H x H' → g x σ H' fun σ2 H2 => tb { D with nx := N, ct := N, bk := D.nx } σ2 H2)
def ww (fp : List Addr) (h : Heap) : List (Addr × Obj) := fp.filterMap fun b => (h.get? b).map fun o => (b, o)
theorem yx {fp : List Addr} {h : Heap} {b : Addr} {o : Obj} (hb : b ∈ fp) (e : h.get? b = some o) : (b, o) ∈ ww fp h := List.mem_filterMap.mpr ⟨b, hb, by rw [e]; rfl⟩
theorem of_pinsAt {fp : List Addr} {h : Heap} {p : Addr × Obj} (hp : p ∈ ww fp h) : p.1 ∈ fp ∧ h.get? p.1 = some p.2 := by
 obtain ⟨b, hb, e⟩ := List.mem_filterMap.mp hp
 cases q : h.get? b with
 | none => rw [q] at e; cases e
 | some o =>
  rw [q] at e
  have e' : (b, o) = p := Option.some.inj e
  subst e'
  exact ⟨hb, q⟩
theorem Inv.pinned {pins : List (Addr × Obj)} {σ : St} {H : Hp} {s : Shared} {fp : List Addr} (I : Inv X pins σ H s) (hf : ∀ b ∈ fp, FpOk X pins H b) (ho : ∀ b ∈ fp, ∃ o, s.heap.get? b = some o ∧ ∀ v, o.data ≠ .cell v) : Inv X (pins ++ ww fp s.heap) σ H s :=
 I.pins_of fun p hp => (List.mem_append.mp hp).elim (fun z => I.pin p (List.mem_append_right _ z)) fun z => by
  obtain ⟨hb, e⟩ := of_pinsAt z
  obtain ⟨f0, f1, f2, _⟩ := hf p.1 hb
  obtain ⟨o, e', d⟩ := ho p.1 hb
  rw [e] at e'; cases e'
  exact ⟨e, f0, f1, f2, d⟩
theorem Inv.unpinned {pins pl : List (Addr × Obj)} {σ : St} {H : Hp} {s : Shared} (I : Inv X (pins ++ pl) σ H s) : Inv X pins σ H s := I.pins_of fun p hp => I.pin p (List.mem_append_right _ (List.mem_append_left _ hp))
theorem yt {iter : Expr} {body : List Stmt} {wi : TI} {g : TG} {tb : TS} {pos : Pos} (hp : PassesOwn (model X.prog X.w) X.A X.env X.xe) (hc : X.calm = true) (hi : PI X tg iter wi) (hg : PG X tg g) (hb : PSs X body tb)
  (hs : ∀ x, foldedSetIterable iter X.env x = pure x := by intro _; rfl) : PS X (.For tg iter body [] pos) (tFor wi g tb) := by
 intro pins s σ H D I h
 refine wpAny_For (thn (hi pins s σ H _ I h) fun v s1 h1 => thn h1 fun itv s2 h2 => ?_) hs
 obtain ⟨it, fp, tn, J, H2, e, I2, T, st2, f2, W, ⟨m0, w0⟩, turn⟩ := h2
 subst e
 have stat : ∀ {H' : Hp}, (∀ b ∈ fp, H' b = none) → ∀ b ∈ fp, FpOk X pins H' b := fun hn b hb => ⟨hn b hb, (f2 b hb).2⟩
 refine codeAny_forLoop_any (fun n s' => ∃ i σ' H', Inv X pins σ' H' s' ∧ tn i s'.heap ∧ (∀ b ∈ fp, H' b = none) ∧ W i n σ' H') ?_ m0 ⟨0, σ, H2, I2, st2, fun b hb => (f2 b hb).1, w0⟩
 rintro n s3 ⟨i, σ3, H3, I3, st3, fr3, w3⟩
 rcases turn i n σ3 H3 w3 with ⟨stop, qn⟩ | ⟨go, N, hN, step⟩
 ·refine wpAny_passesOwn hp (thn (T.done X rfl rfl rfl hc i pins s3 σ3 H3 X.xe I3 (stat fr3) st3 stop) fun r s4 ⟨hr, I4⟩ => ?_)
  subst hr
  exact wpAny_execs_nil ⟨σ3, H3, I4, qn⟩
 ·refine wpAny_passesOwn hp (thn (T.item X rfl rfl rfl hc i pins s3 σ3 H3 X.xe I3 (stat fr3) st3 go) fun r s4 ⟨u, hr, h4⟩ => ?_)
  subst hr
  refine wpAny_passesOwn hp (thn h4 fun _ s5 ⟨x, H5, I5, r5, y5, st5, fr5⟩ => ?_)
  have I5' := I5.pinned (stat fr5) (T.obj _ _ st5)
  refine wpAny_passesOwn hp (thn (hg _ s5 σ3 H5 x u _ I5' r5 (step x H5 y5)) fun _ s6 ⟨σ6, H6, I6, q6⟩ => ?_)
  refine wpAny_passesOwn hp (thn (hb _ s6 σ6 H6 _ I6 q6) fun f s7 q7 => ?_)
  have again : ∀ {σ7 : St} {H7 : Hp}, Inv X (pins ++ ww fp s5.heap) σ7 H7 s7 → N σ7 H7 → ∃ m, m < n ∧ ∃ i σ' H', Inv X pins σ' H' s7 ∧ tn i s7.heap ∧ (∀ b ∈ fp, H' b = none) ∧ W i m σ' H' := fun {σ7 H7} I7 n7 => by
   obtain ⟨m', hm, w7⟩ := hN σ7 H7 n7
   refine ⟨m', hm, i + 1, σ7, H7, I7.unpinned, T.keep _ _ _ st5 fun b hb o e => (I7.pin (b, o) (List.mem_append_right _ (List.mem_append_right _ (yx hb e)))).1, fun b hb => ?_, w7⟩
   obtain ⟨o, e, d⟩ := T.obj _ _ st5 b hb
   exact (I7.pin (b, o) (List.mem_append_right _ (List.mem_append_right _ (yx hb e)))).2.1
  cases f with
  | next => obtain ⟨σ7, H7, I7, n7⟩ := q7; exact again I7 n7
  | cont => obtain ⟨σ7, H7, I7, n7⟩ := q7; exact again I7 n7
  | brk => obtain ⟨σ7, H7, I7, q7⟩ := q7; exact ⟨σ7, H7, I7.unpinned, q7⟩
  | ret v => obtain ⟨x7, σ7, H7, I7, r7, q7⟩ := q7; exact ⟨x7, σ7, H7, I7.unpinned, r7, q7⟩
end
theorem ZB {K : W.Frag} {a : Addr} {xs : List V} {g : TG} {tb : TS} {D : Ends} {σ : St} {H : Hp} (Pv : Nat → St → Hp → Prop) (h0 : Pv 0 σ H) (hl : ∀ i σ H, i ≤ xs.length → Pv i σ H → SqL K H a xs)
  (hs : ∀ i x σ H, xs[i]? = some x → Pv i σ H → g x σ H fun σ2 H2 => tb { D with nx := Pv (i + 1), ct := Pv (i + 1), bk := D.nx } σ2 H2) (hd : ∀ σ H, Pv xs.length σ H → D.nx σ H) :
  ∃ W : Nat → Nat → St → Hp → Prop, (∃ m, W 0 m σ H) ∧ ∀ i m σ H, W i m σ H →
   ((Itl K a).stop i H ∧ D.nx σ H) ∨ ((Itl K a).go i H ∧ ∃ N : St → Hp → Prop, (∀ σ' H', N σ' H' → ∃ m', m' < m ∧ W (i + 1) m' σ' H') ∧ ∀ x H', (Itl K a).yld i H x H' → g x σ H' fun σ2 H2 => tb { D with nx := N, ct := N, bk := D.nx } σ2 H2) := by
 refine ⟨fun i m σ H => m = xs.length - i ∧ i ≤ xs.length ∧ Pv i σ H, ⟨xs.length, by simp, Nat.zero_le _, h0⟩, ?_⟩
 rintro i m σ H ⟨rfl, hi, p⟩
 have q := hl i σ H hi p
 by_cases hlt : i < xs.length
 ·refine .inr ⟨⟨xs, xs[i], q, by simp [hlt]⟩, Pv (i + 1), fun σ' H' p' => ⟨xs.length - (i + 1), by omega, rfl, hlt, p'⟩, fun x H' y => ?_⟩
  obtain ⟨e, y⟩ := y
  subst e
  exact hs i x σ _ (y xs q) p
 ·have e : i = xs.length := by omega
  subst e
  exact .inl ⟨⟨xs, q, Nat.le_refl _⟩, hd σ H p⟩
theorem for_tup {K : W.Frag} {a : Addr} {xs : List V} {g : TG} {tb : TS} {D : Ends} {σ : St} {H : Hp} (Pv : Nat → St → Hp → Prop) (h0 : Pv 0 σ H) (hl : ∀ i σ H, i ≤ xs.length → Pv i σ H → SqT K H a xs)
  (hs : ∀ i x σ H, xs[i]? = some x → Pv i σ H → g x σ H fun σ2 H2 => tb { D with nx := Pv (i + 1), ct := Pv (i + 1), bk := D.nx } σ2 H2) (hd : ∀ σ H, Pv xs.length σ H → D.nx σ H) :
  ∃ W : Nat → Nat → St → Hp → Prop, (∃ m, W 0 m σ H) ∧ ∀ i m σ H, W i m σ H →
   ((Itt K a).stop i H ∧ D.nx σ H) ∨ ((Itt K a).go i H ∧ ∃ N : St → Hp → Prop, (∀ σ' H', N σ' H' → ∃ m', m' < m ∧ W (i + 1) m' σ' H') ∧ ∀ x H', (Itt K a).yld i H x H' → g x σ H' fun σ2 H2 => tb { D with nx := N, ct := N, bk := D.nx } σ2 H2) := by
 refine ⟨fun i m σ H => m = xs.length - i ∧ i ≤ xs.length ∧ Pv i σ H, ⟨xs.length, by simp, Nat.zero_le _, h0⟩, ?_⟩
 rintro i m σ H ⟨rfl, hi, p⟩
 have q := hl i σ H hi p
 by_cases hlt : i < xs.length
 ·refine .inr ⟨⟨xs, xs[i], q, by simp [hlt]⟩, Pv (i + 1), fun σ' H' p' => ⟨xs.length - (i + 1), by omega, rfl, hlt, p'⟩, fun x H' y => ?_⟩
  obtain ⟨e, y⟩ := y
  subst e
  exact hs i x σ _ (y xs q) p
 ·have e : i = xs.length := by omega
  subst e
  exact .inl ⟨⟨xs, q, Nat.le_refl _⟩, hd σ H p⟩
theorem yl {lo : Int} {n : Nat} {g : TG} {tb : TS} {D : Ends} {σ : St} {H : Hp} (Pv : Nat → St → Hp → Prop) (h0 : Pv 0 σ H)
  (hs : ∀ i σ H, i < n → Pv i σ H → g (.int (lo + i)) σ H fun σ2 H2 => tb { D with nx := Pv (i + 1), ct := Pv (i + 1), bk := D.nx } σ2 H2) (hd : ∀ σ H, Pv n σ H → D.nx σ H) :
  ∃ W : Nat → Nat → St → Hp → Prop, (∃ m, W 0 m σ H) ∧ ∀ i m σ H, W i m σ H →
   ((Itr lo n).stop i H ∧ D.nx σ H) ∨ ((Itr lo n).go i H ∧ ∃ N : St → Hp → Prop, (∀ σ' H', N σ' H' → ∃ m', m' < m ∧ W (i + 1) m' σ' H') ∧ ∀ x H', (Itr lo n).yld i H x H' → g x σ H' fun σ2 H2 => tb { D with nx := N, ct := N, bk := D.nx } σ2 H2) := by
 refine ⟨fun i m σ H => m = n - i ∧ i ≤ n ∧ Pv i σ H, ⟨n, by simp, Nat.zero_le _, h0⟩, ?_⟩
 rintro i m σ H ⟨rfl, hi, p⟩
 by_cases hlt : i < n
 ·refine .inr ⟨hlt, Pv (i + 1), fun σ' H' p' => ⟨n - (i + 1), by omega, rfl, hlt, p'⟩, fun x H' y => ?_⟩
  obtain ⟨e, y⟩ := y
  subst e y
  exact hs i σ _ hlt p
 ·have e : i = n := by omega
  subst e
  exact .inl ⟨Nat.le_refl _, hd σ H p⟩
abbrev R2 := V → V → Hp → VK → Prop
def OpR (X : Cx) (f : Value → Value → Sem Value) (r : R2) : Prop :=
 ∀ (pins : List (Addr × Obj)) (s : Shared) (σ : St) (H : Hp) (x y : V) (v u : Value) (Q : VK), Inv X pins σ H s → RelV x v → RelV y u → r x y H Q →
  wpAny (model X.prog X.w) X.A (f v u) (EP X pins σ Q) X.xe s
def UnR (X : Cx) (f : Value → Sem Value) (r : V → Hp → VK → Prop) : Prop :=
 ∀ (pins : List (Addr × Obj)) (s : Shared) (σ : St) (H : Hp) (x : V) (v : Value) (Q : VK), Inv X pins σ H s → RelV x v → r x H Q →
  wpAny (model X.prog X.w) X.A (f v) (EP X pins σ Q) X.xe s
def yk (X : Cx) (f : Value) (r : List V → Hp → VK → Prop) : Prop :=
 ∀ (pins : List (Addr × Obj)) (s : Shared) (σ : St) (H : Hp) (xs : List V) (us : List Value) (Q : VK), Inv X pins σ H s → Vals xs us → r xs H Q →
  wpAny (model X.prog X.w) X.A (call f us) (EP X pins σ Q) X.xe s
def tOp (r : R2) (ta tb : TE) : TE := fun σ H Q => ta σ H fun x H1 => tb σ H1 fun y H2 => r x y H2 Q
def tUn (r : V → Hp → VK → Prop) (ta : TE) : TE := fun σ H Q => ta σ H fun x H1 => r x H1 Q
def rI (C : Int → Int → Prop) (g : Int → Int → V) : R2 := fun x y H Q => ∃ i j, x = .int i ∧ y = .int j ∧ C i j ∧ Q (g i j) H
def rI0 (g : Int → Int → V) : R2 := fun x y H Q => ∃ i j, x = .int i ∧ y = .int j ∧ Q (g i j) H
def rU (g : Int → V) : V → Hp → VK → Prop := fun x H Q => ∃ i, x = .int i ∧ Q (g i) H
section
variable {X : Cx} {a b c : Expr} {ta tb tc : TE} {pos : Pos}
theorem binT (ha : PE X a ta) (hb : PE X b tb) {pins : List (Addr × Obj)} {s : Shared} {σ : St} {H : Hp} {R : V → V → Hp → Prop} (I : Inv X pins σ H s)
  (h : ta σ H fun x H1 => tb σ H1 fun y H2 => R x y H2) {Q : Value → Shared → Prop} {f : Value → Value → Sem Value}
  (hf : ∀ v u s2 x y H2, Inv X pins σ H2 s2 → RelV x v → RelV y u → R x y H2 → wpAny (model X.prog X.w) X.A (f v u) Q X.xe s2) :
  wpAny (model X.prog X.w) X.A (eval a X.env) (fun v s₁ => wpAny (model X.prog X.w) X.A (eval b X.env) (fun u s₂ => wpAny (model X.prog X.w) X.A (f v u) Q X.xe s₂) X.xe s₁) X.xe s := by
 refine thn (ha pins s σ H _ I h) fun v s1 ⟨x, H1, I1, r1, q1⟩ => ?_
 refine thn (hb pins s1 σ H1 _ I1 q1) fun u s2 ⟨y, H2, I2, r2, q2⟩ => ?_
 exact hf v u s2 x y H2 I2 r1 r2 q2
theorem zw {op : Operator} {r : R2} (ho : OpR X (binaryOp op) r) (ha : PE X a ta) (hb : PE X b tb) : PE X (.BinOp a op b pos) (tOp r ta tb) := by
 intro pins s σ H Q I h
 exact wpAny_BinOp (binT ha hb I h fun v u s2 x y H2 I2 rx ry q => ho pins s2 σ H2 x y v u Q I2 rx ry q)
theorem YO {op : UnaryOp} {r : V → Hp → VK → Prop} (ho : UnR X (unaryOp op) r) (ha : PE X a ta) : PE X (.UnaryOp op a pos) (tUn r ta) := by
 intro pins s σ H Q I h
 exact UnaryOp_ (thn (ha pins s σ H _ I h) fun v s1 ⟨x, H1, I1, r1, q1⟩ => ho pins s1 σ H1 x v Q I1 r1 q1)
theorem opI {f : Value → Value → Sem Value} {C : Int → Int → Prop} {g : Int → Int → Int}
  (rule : ∀ (i j : Int) (t u : Tok) (s : Shared) (Q : Value → Shared → Prop) (E : Value → Shared → Prop), C i j → Q (.int (g i j) s.toks) { s with toks := s.toks + 1 } → wpAny (model X.prog X.w) X.A (f (.int i t) (.int j u)) Q E s) :
  OpR X f (rI C fun i j => .int (g i j)) := by
 intro pins s σ H x y v u Q I rx ry h
 obtain ⟨i, j, rfl, rfl, hc, q⟩ := h
 obtain ⟨t, rfl⟩ := rx
 obtain ⟨t', rfl⟩ := ry
 exact rule i j t t' s _ _ hc ⟨.int (g i j), H, I.tok _, ⟨_, rfl⟩, q⟩
theorem opI0 {f : Value → Value → Sem Value} {g : Int → Int → Int}
  (rule : ∀ (i j : Int) (t u : Tok) (s : Shared) (Q : Value → Shared → Prop) (E : Value → Shared → Prop), Q (.int (g i j) s.toks) { s with toks := s.toks + 1 } → wpAny (model X.prog X.w) X.A (f (.int i t) (.int j u)) Q E s) :
  OpR X f (rI0 fun i j => .int (g i j)) := by
 intro pins s σ H x y v u Q I rx ry h
 obtain ⟨i, j, rfl, rfl, q⟩ := h
 obtain ⟨t, rfl⟩ := rx
 obtain ⟨t', rfl⟩ := ry
 exact rule i j t t' s _ _ ⟨.int (g i j), H, I.tok _, ⟨_, rfl⟩, q⟩
theorem opB0 {f : Value → Value → Sem Value} {g : Int → Int → Bool}
  (rule : ∀ (i j : Int) (t u : Tok) (s : Shared) (Q : Value → Shared → Prop) (E : Value → Shared → Prop), Q (.bool (g i j)) s → wpAny (model X.prog X.w) X.A (f (.int i t) (.int j u)) Q E s) :
  OpR X f (rI0 fun i j => .bl (g i j)) := by
 intro pins s σ H x y v u Q I rx ry h
 obtain ⟨i, j, rfl, rfl, q⟩ := h
 obtain ⟨t, rfl⟩ := rx
 obtain ⟨t', rfl⟩ := ry
 exact rule i j t t' s _ _ ⟨.bl (g i j), H, I, rfl, q⟩
def CDiv (i j : Int) : Prop := 0 < j ∧ j < 1073741824
def CPow (i j : Int) : Prop := 0 ≤ j ∧ j ≤ 1000000 ∧ i.natAbs < 2 ^ 64
def CMul (i j : Int) : Prop := (-(2 ^ 64) < i ∧ i < 2 ^ 64) ∨ (-(2 ^ 64) < j ∧ j < 2 ^ 64)
theorem CMul.ok {i j : Int} (h : CMul i j) : IntMulOk i j := by
 rcases h with ⟨h1, h2⟩ | ⟨h1, h2⟩
 ·exact .of_left (intBits_le_64 h1 h2)
 ·exact .of_right (intBits_le_64 h1 h2)
theorem yc : OpR X (binaryOp .Add) (rI0 fun i j => .int (i + j)) := opI0 fun _ _ _ _ _ _ _ q => add_int q
theorem ZP : OpR X (binaryOp .Sub) (rI0 fun i j => .int (i - j)) := opI0 fun _ _ _ _ _ _ _ q => sub_int q
theorem vg : OpR X (binaryOp .Mult) (rI CMul fun i j => .int (i * j)) := opI fun _ _ _ _ _ _ _ hc q => mul_int q hc.ok
theorem wj : OpR X (binaryOp .FloorDiv) (rI CDiv fun i j => .int (i / j)) := opI fun i j _ _ _ _ _ hc q => by
 have h1 : (0 : Int) < j := hc.1
 have h2 : j < 1073741824 := hc.2
 exact floordiv_int (by omega) (by rw [Int.fdiv_eq_ediv_of_nonneg i (by omega)]; exact q) (.inl (PyProof.noPylong_small (by omega)))
theorem xA : OpR X (binaryOp .Mod) (rI (fun _ j => 0 < j) fun i j => .int (i % j)) := opI fun i j _ _ _ _ _ hc q => by
 have h1 : (0 : Int) < j := hc
 exact mod_int' (by omega) (by rw [Int.fmod_eq_emod_of_nonneg i (by omega)]; exact q)
theorem op_pow : OpR X (binaryOp .Pow) (rI CPow fun i j => .int (i ^ j.toNat)) := opI fun _ _ _ _ _ _ _ hc q => pow_int_small hc.1 hc.2.1 hc.2.2 q
theorem unI {f : Value → Sem Value} {g : Int → Int}
  (rule : ∀ (i : Int) (t : Tok) (s : Shared) (Q : Value → Shared → Prop) (E : Value → Shared → Prop), Q (.int (g i) s.toks) { s with toks := s.toks + 1 } → wpAny (model X.prog X.w) X.A (f (.int i t)) Q E s) :
  UnR X f (rU fun i => .int (g i)) := by
 intro pins s σ H x v Q I rx h
 obtain ⟨i, rfl, q⟩ := h
 obtain ⟨t, rfl⟩ := rx
 exact rule i t s _ _ ⟨.int (g i), H, I.tok _, ⟨_, rfl⟩, q⟩
theorem ZF : UnR X (unaryOp .USub) (rU fun i => .int (-i)) := unI fun _ _ _ _ _ q => neg_int q
def scal : V → V → Bool
 | .non, .non => true | .non, .int _ => true | .int _, .non => true | .non, .bl _ => true | .bl _, .non => true | .non, .str _ => true | .str _, .non => true
 | .int _, .int _ => true | .bl _, .bl _ => true | .str _, .str _ => true | .byt _, .byt _ => true
 | .int _, .str _ => true | .str _, .int _ => true | .bl _, .str _ => true | .str _, .bl _ => true
 | _, _ => false
def rEq : R2 := fun x y H Q => scal x y = true ∧ Q (.bl (decide (x = y))) H
def rNe : R2 := fun x y H Q => scal x y = true ∧ Q (.bl (!decide (x = y))) H
theorem Yp {i j : Int} : decide (V.int i = V.int j) = (i == j) := by
 rw [Bool.eq_iff_iff]
 simp
theorem Y7 {i j : Bool} : decide (V.bl i = V.bl j) = (i == j) := by
 rw [Bool.eq_iff_iff]
 simp
theorem Yo {i j : Str} : decide (V.str i = V.str j) = (i == j) := by
 rw [Bool.eq_iff_iff]
 simp
theorem Yq {i j : Array UInt8} : decide (V.byt i = V.byt j) = (i.toList == j.toList) := by
 rw [Bool.eq_iff_iff]
 cases i
 cases j
 simp
theorem zR {pins : List (Addr × Obj)} {σ : St} {H : Hp} {s : Shared} {Q : VK} {k k' : Bool} (I : Inv X pins σ H s) (q : Q (.bl k) H) (e : k = k') : EP X pins σ Q (.bool k') s := by
 subst e
 exact ⟨.bl k, H, I, rfl, q⟩
theorem yE : OpR X (compareOp .Eq) rEq := by
 intro pins s σ H x y v u Q I rx ry h
 obtain ⟨hs, q⟩ := h
 cases x with
 | non =>
  cases rx
  cases y with
  | non => cases ry; exact PySem.EqNone.eq_none_none (zR I q (by simp))
  | bl j => cases ry; exact PySem.EqNone.eq_none_bool (zR I q (by simp))
  | int j => obtain ⟨t', rfl⟩ := ry; exact PySem.EqNone.eq_none_int (zR I q (by simp))
  | str j => obtain ⟨t', rfl⟩ := ry; exact PySem.EqNone.eq_none_str (zR I q (by simp))
  | _ => exact absurd (show false = true from hs) Bool.false_ne_true
 | bl i =>
  cases rx
  cases y with
  | non => cases ry; exact PySem.EqNone.eq_bool_none (zR I q (by simp))
  | bl j => cases ry; exact eq_bool (zR I q Y7)
  | str j => obtain ⟨t', rfl⟩ := ry; exact PySem.EqMixed.eq_bool_str (zR I q (by simp))
  | _ => exact absurd (show false = true from hs) Bool.false_ne_true
 | int i =>
  obtain ⟨t, rfl⟩ := rx
  cases y with
  | non => cases ry; exact PySem.EqNone.eq_int_none (zR I q (by simp))
  | int j => obtain ⟨t', rfl⟩ := ry; exact eq_int (zR I q Yp)
  | str j => obtain ⟨t', rfl⟩ := ry; exact PySem.EqMixed.eq_int_str (zR I q (by simp))
  | _ => exact absurd (show false = true from hs) Bool.false_ne_true
 | str i =>
  obtain ⟨t, rfl⟩ := rx
  cases y with
  | non => cases ry; exact PySem.EqNone.eq_str_none (zR I q (by simp))
  | bl j => cases ry; exact PySem.EqMixed.eq_str_bool (zR I q (by simp))
  | int j => obtain ⟨t', rfl⟩ := ry; exact PySem.EqMixed.eq_str_int (zR I q (by simp))
  | str j => obtain ⟨t', rfl⟩ := ry; exact eq_str (zR I q Yo)
  | _ => exact absurd (show false = true from hs) Bool.false_ne_true
 | byt i =>
  obtain ⟨t, rfl⟩ := rx
  cases y with
  | byt j => obtain ⟨t', rfl⟩ := ry; exact PySem.W.eq_bytes (zR I q Yq)
  | _ => exact absurd (show false = true from hs) Bool.false_ne_true
 | _ => cases y <;> exact absurd (show false = true from hs) Bool.false_ne_true
theorem Zp : OpR X (compareOp .NotEq) rNe := by
 intro pins s σ H x y v u Q I rx ry h
 obtain ⟨hs, q⟩ := h
 cases x with
 | non =>
  cases rx
  cases y with
  | non => cases ry; exact PySem.EqNone.ne_none_none (zR I q (by simp))
  | bl j => cases ry; exact PySem.EqNone.ne_none_bool (zR I q (by simp))
  | int j => obtain ⟨t', rfl⟩ := ry; exact PySem.EqNone.ne_none_int (zR I q (by simp))
  | str j => obtain ⟨t', rfl⟩ := ry; exact PySem.EqNone.ne_none_str (zR I q (by simp))
  | _ => exact absurd (show false = true from hs) Bool.false_ne_true
 | bl i =>
  cases rx
  cases y with
  | non => cases ry; exact PySem.EqNone.ne_bool_none (zR I q (by simp))
  | bl j => cases ry; exact ne_bool (zR I q (congrArg not Y7))
  | str j => obtain ⟨t', rfl⟩ := ry; exact PySem.EqMixed.ne_bool_str (zR I q (by simp))
  | _ => exact absurd (show false = true from hs) Bool.false_ne_true
 | int i =>
  obtain ⟨t, rfl⟩ := rx
  cases y with
  | non => cases ry; exact PySem.EqNone.ne_int_none (zR I q (by simp))
  | int j => obtain ⟨t', rfl⟩ := ry; exact ne_int (zR I q (congrArg not Yp))
  | str j => obtain ⟨t', rfl⟩ := ry; exact PySem.EqMixed.ne_int_str (zR I q (by simp))
  | _ => exact absurd (show false = true from hs) Bool.false_ne_true
 | str i =>
  obtain ⟨t, rfl⟩ := rx
  cases y with
  | non => cases ry; exact PySem.EqNone.ne_str_none (zR I q (by simp))
  | bl j => cases ry; exact PySem.EqMixed.ne_str_bool (zR I q (by simp))
  | int j => obtain ⟨t', rfl⟩ := ry; exact PySem.EqMixed.ne_str_int (zR I q (by simp))
  | str j => obtain ⟨t', rfl⟩ := ry; exact ne_str (zR I q (congrArg not Yo))
  | _ => exact absurd (show false = true from hs) Bool.false_ne_true
 | byt i =>
  obtain ⟨t, rfl⟩ := rx
  cases y with
  | byt j => obtain ⟨t', rfl⟩ := ry; exact PySem.W.ne_bytes (zR I q (congrArg not Yq))
  | _ => exact absurd (show false = true from hs) Bool.false_ne_true
 | _ => cases y <;> exact absurd (show false = true from hs) Bool.false_ne_true
theorem yY : OpR X (compareOp .Gt) (rI0 fun i j => .bl (decide (j < i))) := opB0 fun _ _ _ _ _ _ _ q => gt_int q
theorem op_ge : OpR X (compareOp .GtE) (rI0 fun i j => .bl (decide (j ≤ i))) := opB0 fun _ _ _ _ _ _ _ q => ge_int q
theorem zD (b : Expr) {op : CmpOp} (h : op ≠ .In := by decide) (h2 : op ≠ .NotIn := by decide) : behindInMarks op b = false := by
 have e1 : (op == CmpOp.In) = false := by cases op <;> first | rfl | exact absurd rfl h
 have e2 : (op == CmpOp.NotIn) = false := by cases op <;> first | rfl | exact absurd rfl h2
 cases b <;> simp [behindInMarks, e1, e2]
theorem pe_cmpR {op : CmpOp} {r : R2} (ho : OpR X (compareOp op) r) (ha : PE X a ta) (hb : PE X b tb) (hm : behindInMarks op b = false) : PE X (.Compare a [op] [b] pos) (tOp r ta tb) := by
 intro pins s σ H Q I h
 exact wpAny_Compare1 (binT ha hb I h fun v u s2 x y H2 I2 rx ry q => ho pins s2 σ H2 x y v u Q I2 rx ry q) hm
def Xf (t : TE) : TT := fun σ H Q => t σ H fun x H' => ∃ k, x = .bl k ∧ Q k H'
theorem zy {op : CmpOp} {r : R2} (ho : OpR X (compareOp op) r) (ha : PE X a ta) (hb : PE X b tb) (hm : behindInMarks op b = false) : PT X (.Compare a [op] [b] pos) (Xf (tOp r ta tb)) := by
 intro pins s σ H Q I h
 refine wpAny_isTrue_Compare1 (thn (ha pins s σ H _ I h) fun v s1 ⟨x, H1, I1, r1, q1⟩ => thn (hb pins s1 σ H1 _ I1 q1) fun u s2 ⟨y, H2, I2, r2, q2⟩ =>
  thn (ho pins s2 σ H2 x y v u _ I2 r1 r2 q2) fun c s3 ⟨z, H3, I3, r3, k, e, q3⟩ => ?_) hm
 subst e
 cases r3
 exact wpAny_truthy_bool ⟨H3, I3, q3⟩
theorem wy : (sizeLine : Nat) < 2 ^ 63 := by rw [sizeLine_eq]; decide
theorem xQ : OpR X (binaryOp .Add) (fun x y H Q => ∃ i j, x = .str i ∧ y = .str j ∧ i.length + j.length ≤ sizeLine ∧ Q (.str (i ++ j)) H) := by
 intro pins s σ H x y v u Q I rx ry h
 obtain ⟨i, j, rfl, rfl, hz, q⟩ := h
 obtain ⟨t, rfl⟩ := rx
 obtain ⟨t', rfl⟩ := ry
 exact add_str (fun t' tk => ⟨.str (i ++ j), H, I.tok _, ⟨_, rfl⟩, q⟩) hz
theorem Zl {x : V} {us : List Value} (r : Vals [x] us) : ∃ u, us = [u] ∧ RelV x u := by
 cases r with
 | cons r1 r2 => cases r2; exact ⟨_, rfl, r1⟩
theorem Xe {x y : V} {us : List Value} (r : Vals [x, y] us) : ∃ u w', us = [u, w'] ∧ RelV x u ∧ RelV y w' := by
 cases r with
 | cons r1 r2 =>
  cases r2 with
  | cons r3 r4 => cases r4; exact ⟨_, _, rfl, r1, r3⟩
theorem call_max2 (hc : X.calm = true) : yk X (.builtin "max") (fun xs H Q => ∃ i j, xs = [.int i, .int j] ∧ Q (.int (if j > i then j else i)) H) := by
 intro pins s σ H xs us Q I r h
 obtain ⟨i, j, rfl, q⟩ := h
 obtain ⟨u, w', rfl, ⟨t, rfl⟩, ⟨t', rfl⟩⟩ := Xe r
 refine max_two_ints (I.ok.hd hc) fun h' tk k => ⟨_, H, I.kept k, ?_, q⟩
 by_cases hj : j > i
 ·rw [if_pos hj, if_pos hj]; exact ⟨_, rfl⟩
 ·rw [if_neg hj, if_neg hj]; exact ⟨_, rfl⟩
theorem call_min2 (hc : X.calm = true) : yk X (.builtin "min") (fun xs H Q => ∃ i j, xs = [.int i, .int j] ∧ Q (.int (if j < i then j else i)) H) := by
 intro pins s σ H xs us Q I r h
 obtain ⟨i, j, rfl, q⟩ := h
 obtain ⟨u, w', rfl, ⟨t, rfl⟩, ⟨t', rfl⟩⟩ := Xe r
 refine min_two_ints (I.ok.hd hc) fun h' tk k => ⟨_, H, I.kept k, ?_, q⟩
 by_cases hj : j < i
 ·rw [if_pos hj, if_pos hj]; exact ⟨_, rfl⟩
 ·rw [if_neg hj, if_neg hj]; exact ⟨_, rfl⟩
theorem call_int1 : yk X (.type "int") (fun xs H Q => (∃ i, xs = [.int i] ∧ Q (.int i) H) ∨ ∃ k, xs = [.bl k] ∧ Q (.int (if k then 1 else 0)) H) := by
 intro pins s σ H xs us Q I r h
 rcases h with ⟨i, rfl, q⟩ | ⟨k, rfl, q⟩
 ·obtain ⟨u, rfl, t, rfl⟩ := Zl r
  exact call_int_int ⟨.int i, H, I, ⟨_, rfl⟩, q⟩
 ·obtain ⟨u, rfl, r1⟩ := Zl r
  cases r1
  exact call_int_bool ⟨.int (if k then 1 else 0), H, I.tok _, ⟨_, rfl⟩, q⟩
end
structure ObjM (h : Heap) (x dx C : Addr) (mA : Str → Option Value) : Prop where
 obj : h.get? x = some (PySem.W.instObj C dx)
 ns : h.Ns1 dx mA
 ne : dx ≠ x
theorem lookIn_ns {h : Heap} {dx : Addr} {mA : Str → Option Value} (n : h.Ns1 dx mA) : ∃ od, h.get? dx = some od ∧ ∀ name, PySem.W.lookIn name od = some (mA name) := by
 obtain ⟨o, es, ep, ho, hd, hk, _, hm⟩ := n
 refine ⟨o, ho, fun name => ?_⟩
 have e := hm name
 unfold nsFind findBy at e
 rw [← Array.find?_toList] at e
 unfold PySem.W.lookIn
 rw [hd]
 dsimp only
 split
 ·rename_i y q
  rw [q] at e
  exact congrArg some e
 ·rename_i q
  rw [q] at e
  have a : es.toList.any (·.refKey) = false := by
   rw [List.any_eq_false]
   intro y hy
   obtain ⟨z, t, hkey⟩ := hk y (Array.mem_toList_iff.mp hy)
   simp [DictEntry.refKey, hkey]
  have a' : ¬ es.toList.any (·.refKey) = true := by rw [a]; exact Bool.false_ne_true
  rw [if_neg a']
  exact congrArg some e
def putF (f : Str) (v : V) : List (Str × V) → List (Str × V)
 | [] => [(f, v)]
 | (g, x) :: r => if g = f then (g, v) :: r else (g, x) :: putF f v r
theorem wD (f g : Str) (v : V) : ∀ fs : List (Str × V), (putF f v fs).lookup g = if g = f then some v else fs.lookup g
 | [] => by
  show List.lookup g [(f, v)] = _
  by_cases h : g = f
  ·have hb : (g == f) = true := beq_iff_eq.mpr h
   simp only [List.lookup, hb, if_pos h]
  ·have hb : (g == f) = false := beq_eq_false_iff_ne.mpr h
   simp only [List.lookup, hb, if_neg h]
 | (k, x) :: r => by
  have ih := wD f g v r
  rw [show putF f v ((k, x) :: r) = (if k = f then (k, v) :: r else (k, x) :: putF f v r) from rfl]
  by_cases hk : k = f
  ·rw [if_pos hk]
   by_cases h : g = k
   ·have hb : (g == k) = true := beq_iff_eq.mpr h
    simp only [List.lookup, hb, if_pos (h.trans hk)]
   ·have hb : (g == k) = false := beq_eq_false_iff_ne.mpr h
    simp only [List.lookup, hb, if_neg (fun e : g = f => h (e.trans hk.symm))]
  ·rw [if_neg hk]
   by_cases h : g = k
   ·have hb : (g == k) = true := beq_iff_eq.mpr h
    simp only [List.lookup, hb, if_neg (fun e : g = f => hk (h.symm.trans e))]
   ·have hb : (g == k) = false := beq_eq_false_iff_ne.mpr h
    simp only [List.lookup, hb]
    exact ih
theorem wz (f : Str) (v : V) : ∀ fs : List (Str × V), f ∈ (putF f v fs).map (·.1) ∧ ∀ g, g ∈ fs.map (·.1) → g ∈ (putF f v fs).map (·.1)
 | [] => ⟨by simp [putF], fun g h => by simp at h⟩
 | (k, x) :: r => by
  obtain ⟨i1, i2⟩ := wz f v r
  rw [show putF f v ((k, x) :: r) = (if k = f then (k, v) :: r else (k, x) :: putF f v r) from rfl]
  by_cases hk : k = f
  ·rw [if_pos hk]
   subst hk
   exact ⟨by simp, fun g h => by simpa using h⟩
  ·rw [if_neg hk]
   refine ⟨?_, fun g h => ?_⟩
   ·rw [List.map_cons]
    exact List.mem_cons_of_mem _ i1
   ·rw [List.map_cons] at h ⊢
    rcases List.mem_cons.mp h with e | e
    ·exact List.mem_cons.mpr (.inl e)
    ·exact List.mem_cons_of_mem _ (i2 g e)
theorem RelO.some_of {v : V} {o : Option Value} (r : RelO (some v) o) : ∃ u, o = some u ∧ RelV v u := by
 cases o with
 | none => exact (show False from r).elim
 | some u => exact ⟨u, rfl, r⟩
theorem handed_of {v : V} {u : Value} (r : RelV v u) : PySem.W.handedIn u = true := by
 cases v with
 | non => cases (show u = Value.none from r); rfl
 | bl b => cases (show u = Value.bool b from r); rfl
 | int i => obtain ⟨t, e⟩ := (show ∃ t, u = Value.int i t from r); cases e; rfl
 | str x => obtain ⟨t, e⟩ := (show ∃ t, u = Value.str x t from r); cases e; rfl
 | byt b => obtain ⟨t, e⟩ := (show ∃ t, u = Value.bytes b t from r); cases e; rfl
 | flt b => obtain ⟨t, e⟩ := (show ∃ t, u = Value.float b t from r); cases e; rfl
 | ref a => cases (show u = Value.ref a from r); rfl
 | ty n => cases (show u = Value.type n from r); rfl
structure Cls (K : W.Frag) (C : Addr) : Prop where
 pg : PySem.W.plainGet K C Str.empty = true
 hd : PySem.W.hasDictIn K C = true
 po : PySem.W.plainOver K C = true
 sa : PySem.W.findIn K (.ref C) "__setattr__" = some (some (.builtin "object.__setattr__"))
def yp (K : W.Frag) (C : Addr) (f : Str) : Prop := PySem.W.findIn K (.ref C) f = some none
structure Con (K : W.Frag) (C : Addr) (f : Str) (v : V) (u : Value) : Prop where
 at_ : PySem.W.findIn K (.ref C) f = some (some u)
 rel : RelV v u
 get : PySem.W.specialIn K u "__get__" = some none
 cp : PySem.W.copiedNames.contains f = false
structure Meth (K : W.Frag) (C : Addr) (m : Str) (f : Addr) : Prop where
 at_ : PySem.W.findIn K (.ref C) m = some (some (.ref f))
 fn : PySem.W.isFn K (.ref f) = true
 kp : PySem.W.keepIn K (.ref f) = true
section
variable {X : Cx} {pins : List (Addr × Obj)} {σ : St} {H : Hp} {s : Shared} {a C dx : Addr} {fs : List (Str × V)} {f : Str} {v : V} {A : Around} {E : Value → Shared → Prop}
theorem attr_of {prog : Program} {w : World} {env : Env} {e : Expr} {f : Str} {pos : Pos} {s : Shared} {Q : Value → Shared → Prop} (hb : attributeBase e f env (eval e env) = eval e env)
  (h : wpAny (model prog w) A (eval e env) (fun o s₁ => wpAny (model prog w) A (getAttr o f true) Q E s₁) E s) : wpAny (model prog w) A (eval (.Attribute e f pos) env) Q E s :=
 Attribute_any_ h (by rw [arm_eval_Attribute, hb])
end
section
variable {X : Cx} {pins : List (Addr × Obj)} {σ : St} {H : Hp} {s : Shared} {A : Around} {E : Value → Shared → Prop} {Q : Value → Shared → Prop} {c : Value} {b : Bool}
inductive TyOf (K : W.Frag) (H : Hp) : V → Value → Prop where
 | non : TyOf K H .non (.type "NoneType")
 | bl (x : Bool) : TyOf K H (.bl x) (.type "bool")
 | int (i : Int) : TyOf K H (.int i) (.type "int")
 | str (x : Str) : TyOf K H (.str x) (.type "str")
 | flt (x : UInt64) : TyOf K H (.flt x) (.type "float")
 | lst {a : Addr} {xs : List V} (e : H a = some (.lst xs)) : TyOf K H (.ref a) (.type "list")
 | frz {a : Addr} {o : Obj} {xs : List V} (e : H a = some (.frz o (.lst xs))) : TyOf K H (.ref a) (.type "list")
 | tup {a : Addr} {xs : List V} (e : H a = some (.tup xs)) : TyOf K H (.ref a) (.type "tuple")
 | dK {a : Addr} {kvs : List (Key × V)} (e : H a = some (.dK kvs)) : TyOf K H (.ref a) (.type "dict")
 | dT {a : Addr} {kvs : List (List Key × V)} (e : H a = some (.dT kvs)) : TyOf K H (.ref a) (.type "dict")
 | ins {a C dx : Addr} {fs : List (Str × V)} (e : H a = some (.ins C dx fs)) (cl : Cls K C) (ha : PySem.W.findIn K (.ref C) "__class__" = some (some (.builtin "object.__class__")))
   (hn : PySem.W.specialIn K (.builtin "object.__class__") "__get__" = some (some (.builtin "getset_descriptor.__get__"))) (htk : PySem.W.takesIn K (.builtin "object.__class__") = some true)
   (hm : PySem.W.mroIn K C (.type "object") = some true) : TyOf K H (.ref a) (.ref C)
end
structure Room (k : Nat) (A : Around) : Prop where
 hd : A.handled = none
 dp : A.depth + 3 * k + 5 < recursionLimit
 un : A.units + 16 * k + 200 < cLine
 gd : A.guards = some []
theorem Room.mono {j k : Nat} {A : Around} (r : Room k A) (h : j ≤ k) : Room j A := ⟨r.hd, by have := r.dp; omega, by have := r.un; omega, r.gd⟩
theorem Room.deeper {k : Nat} {A : Around} (r : Room (k + 1) A) (env : Env) : Room k (A.deeper env) :=
 ⟨r.hd, by have := r.dp; show A.depth + 1 + 3 * k + 5 < _; omega, by have := r.un; show A.units + 3 + 16 * k + 200 < _; omega, r.gd⟩
theorem make_depth {A : Around} {C : Addr} {us : List Value} {kw : List (Str × Value)} : (A.under (.builtin "type.__call__" ⟨.ref C :: us, kw⟩)).depth = A.depth + 1 := by
 first | rfl | simp [Around.under, Code.weight, Code.isCreation, Code.isGuard, Code.isCaller, Code.frames, Code.isFrame, guardIds]
theorem make_units {A : Around} {C : Addr} {us : List Value} {kw : List (Str × Value)} : (A.under (.builtin "type.__call__" ⟨.ref C :: us, kw⟩)).units = A.units + 1 := by
 first | rfl | simp [Around.under, Code.cUnits, Code.frames, Code.isFrame]
theorem Room.make {k : Nat} {A : Around} (r : Room (k + 1) A) (C : Addr) (us : List Value) (kw : List (Str × Value)) : Room k (A.under (.builtin "type.__call__" ⟨.ref C :: us, kw⟩)) :=
 ⟨r.hd, by have := r.dp; rw [make_depth]; omega, by have := r.un; rw [make_units]; omega, by first | exact r.gd | simpa [Around.under, Code.isGuard, Code.isFrame, guardIds] using r.gd⟩
theorem Room.depth {k : Nat} {A : Around} (r : Room k A) : A.depth < recursionLimit := by have := r.dp; omega
theorem Room.units {k : Nat} {A : Around} (r : Room k A) : A.units + 64 < cLine := by have := r.un; omega
def tNil : TA := fun _ H Q => Q [] H
def x9 (ta : TE) (tr : TA) : TA := fun σ H Q => ta σ H fun x H1 => tr σ H1 fun xs H2 => Q (x :: xs) H2
section
variable {X : Cx} {e : Expr} {es : List Expr} {te : TE} {t : TA} {pos : Pos}
theorem yL : PA X [] tNil := fun _ _ _ _ H Q I h => Calls.spliced_nil ⟨[], H, I, .nil, h⟩
theorem Yh (ha : PE X e te) (hr : PA X es t) (hs : starEach (e :: es) X.env = (false, eval e X.env) :: starEach es X.env := by rfl) : PA X (e :: es) (x9 te t) := by
 intro pos pins s σ H Q I h
 rw [hs]
 show wpAny _ _ (spliced ((false, eval e X.env) :: backTo pos (starEach es X.env))) _ _ s
 refine Calls.spliced_cons (thn (ha pins s σ H _ I h) fun u s1 ⟨x, H1, I1, r1, q1⟩ => ?_)
 exact thn (hr pos pins s1 σ H1 _ I1 q1) fun us s2 ⟨xs, H2, I2, r2, q2⟩ => ⟨x :: xs, H2, I2, .cons r1 r2, q2⟩
def tTup (t : TA) : TE := fun σ H Q => t σ H fun xs H1 => xs.length ≤ sizeLine ∧ ∀ p, H1 p = none → Q (.ref p) (upd H1 p (.tup xs))
def tLst (t : TA) : TE := fun σ H Q => t σ H fun xs H1 => xs.length ≤ sizeLine ∧ ∀ p, H1 p = none → Q (.ref p) (upd H1 p (.lst xs))
theorem zx {x1} (h : PA X es t) : PE X (.Tuple es x1 pos) (tTup t) := by
 intro pins s σ H Q I hq
 refine wpAny_Tuple_spliced (thn (h pos pins s σ H _ I hq) fun us s1 ⟨xs, H1, I1, r, z, q⟩ => ⟨by rw [← r.length]; exact z, ?_⟩)
 have hf : H1 s1.heap.objs.size = none := I1.hok.fresh (Nat.le_refl _)
 refine ⟨.ref s1.heap.objs.size, upd H1 s1.heap.objs.size (.tup xs), I1.laid (t' := s1.toks) (fun b u e => Heap.get?_push_of_some _ e) (Nat.le_refl _) ?_, rfl, q _ hf⟩
 exact ⟨z, us, r, ⟨_, Heap.get?_push_size _ rfl, rfl, _, rfl⟩⟩
theorem zK (h : PA X es t) : PE X (.List es pos) (tLst t) := by
 intro pins s σ H Q I hq
 refine wpAny_List_spliced (thn (h pos pins s σ H _ I hq) fun us s1 ⟨xs, H1, I1, r, z, q⟩ => ⟨by rw [← r.length]; exact z, ?_⟩)
 have hf : H1 s1.heap.objs.size = none := I1.hok.fresh (Nat.le_refl _)
 refine ⟨.ref s1.heap.objs.size, upd H1 s1.heap.objs.size (.lst xs), I1.laid (t' := s1.toks) (fun b u e => Heap.get?_push_of_some _ e) (Nat.le_refl _) ?_, rfl, q _ hf⟩
 exact ⟨z, us, 0, r, Heap.get?_push_size _ rfl⟩
end
abbrev Sp := List V → Hp → VK → XK → Prop
abbrev CXT := List Env → Hp → Shared → XK → Value → Shared → Prop
structure Env0 (P : Program) (w : World) (K : W.Frag) (mg : Str → Option Value) (base : Heap) (A : Around) (outer : List Env) (s : Shared) (H : Hp) : Prop where
 frames : A.frames = some outer
 mod : Mod K mg base
 bs : ∀ b o, base.get? b = some o → s.heap.get? b = some o ∧ H b = none
 bsz : base.objs.size ≤ s.heap.objs.size
 funs : s.heap.FunFrames base outer
 frf : ∀ b ∈ frs outer, H b = none
 hok : HOk P w H s.heap
 bare : AllBare s.gens
def CE (outer : List Env) (P : Program) (w : World) (H : Hp) (s : Shared) (Q : VK) (u : Value) (s' : Shared) : Prop :=
 ∃ v H', s'.os = s.os ∧ AllBare s'.gens ∧ Un (frs outer) [] H H' s.heap s'.heap ∧ HOk P w H' s'.heap ∧ RelV v u ∧ Q v H'
def CR (CX : CXT) (outer : List Env) (P : Program) (w : World) (H : Hp) (s : Shared) (Q : VK) (E : XK) (r : Result) (s' : Shared) : Prop :=
 match r with
 | .ok (.ret u) => CE outer P w H s Q u s'
 | .ok _ => False
 | .error e => CX outer H s E e s'
structure FnOk (P : Program) (w : World) (K : W.Frag) (mg : Str → Option Value) (base : Heap) (CX : CXT) (k : Nat) (f : Addr) (fd : FuncData) (ps : List Str) (sp : Sp) : Prop where
 len : ∀ vs H Q E, sp vs H Q E → vs.length = ps.length
 run : ∀ (A : Around) (outer : List Env) (s : Shared) (H : Hp) (args : Args) (us : List Value) (vs : List V) (Q : VK) (E : XK), Room k A → Env0 P w K mg base A outer s H → BindsTo s fd args (ps.zip us) → Vals vs us → sp vs H Q E →
  codeAny (model P w) A (.call (.ref f) args) (CR CX outer P w H s Q E) s
theorem Env0.make {P : Program} {w : World} {K : W.Frag} {mg : Str → Option Value} {base : Heap} {A : Around} {outer : List Env} {s : Shared} {H : Hp} (e : Env0 P w K mg base A outer s H) (C : Addr) (us : List Value) (kw : List (Str × Value)) :
  Env0 P w K mg base (A.under (.builtin "type.__call__" ⟨.ref C :: us, kw⟩)) outer s H := ⟨by first | exact e.frames | (simpa [Around.under, Code.envs, Code.isFrame, pushEnvs] using e.frames), e.mod, e.bs, e.bsz, e.funs, e.frf, e.hok, e.bare⟩
section
variable {X : Cx} {pins : List (Addr × Obj)} {σ : St} {H : Hp} {s s' : Shared}
theorem Inv.env0 (I : Inv X pins σ H s) : Env0 X.prog X.w X.K X.mg X.base X.A X.stack s H :=
 ⟨I.ok.frames, I.ok.mod, I.bs, Nat.le_trans I.ok.bsz I.sz, I.stack, I.stkFree, I.hok, I.bare⟩
theorem Inv.after {Q : VK} {u : Value} (I : Inv X pins σ H s) (h : CE X.stack X.prog X.w H s Q u s') : EP X pins σ Q u s' := by
 obtain ⟨v, H', os, bare, un, hok, r, q⟩ := h
 obtain ⟨hh, g, d, t, os'⟩ := s'
 obtain rfl : os' = s.os := os
 exact ⟨v, H', I.call (h' := hh) (g' := g) (d' := d) (t' := t) (ch := []) un hok bare (fun b z => absurd z (by simp)), r, q⟩
end
def Z1 (sp : Sp) (dvs : List V) (E : XK) (t : TA) : TE := fun σ H Q => t σ H fun vs H1 => sp (vs ++ dvs) H1 Q E
def Binds (K : W.Frag) (fd : FuncData) (ps : List Str) (ds : List Value) : Prop :=
 ∀ (s : Shared) (us : List Value), K.In s.heap → (us ++ ds).length = ps.length → BindsTo s fd ⟨us, []⟩ (ps.zip (us ++ ds))
theorem Binds.all {K : W.Frag} {fd : FuncData} {ps : List Str} (h : ∀ us : List Value, us.length = ps.length → bindArgs fd ⟨us, []⟩ = pure (ps.zip us)) : Binds K fd ps [] := fun s us _ hl => by
 rw [List.append_nil] at hl ⊢
 exact .of_eq (h us hl)
def ZU (CX : CXT) (X : Cx) (E : XK) : Prop := ∀ (pins : List (Addr × Obj)) (σ : St) (H : Hp) (s : Shared) (e : Value) (s' : Shared), Inv X pins σ H s → CX X.stack H s E e s' → X.xe e s'
section
variable {X : Cx} {CX : CXT} {k : Nat} {f C : Addr} {fd : FuncData} {ps : List Str} {sp : Sp} {dvs : List V} {ds : List Value} {E : XK} {x m : Str} {p pos apos : Pos} {e o : Expr} {es : List Expr} {ta : TE} {t : TA}
theorem run_fn {pins : List (Addr × Obj)} {σ : St} {H : Hp} {s : Shared} {Q : VK} {us : List Value} {vs : List V} (F : FnOk X.prog X.w X.K X.mg X.base CX k f fd ps sp) (hr : Room k X.A) (hb : Binds X.K fd ps ds) (hd : Vals dvs ds) (hx : ZU CX X E)
  (I : Inv X pins σ H s) (r : Vals vs us) (h : sp (vs ++ dvs) H Q E) : wpAny (model X.prog X.w) X.A (call (.ref f) us) (EP X pins σ Q) X.xe s := by
 have r2 : Vals (vs ++ dvs) (us ++ ds) := r.append hd
 have hl : (us ++ ds).length = ps.length := by rw [← r2.length]; exact F.len _ _ _ _ h
 refine wpAny_call (codeAny_mono (F.run X.A X.stack s H ⟨us, []⟩ (us ++ ds) (vs ++ dvs) Q E hr I.env0 (hb s us I.kIn hl) r2 h) fun r s' hq => ?_)
 cases r with
 | error e => exact hx pins σ H s e s' I hq
 | ok fl =>
  cases fl with
  | ret u => exact I.after hq
  | next => exact False.elim hq
  | brk => exact False.elim hq
  | cont => exact False.elim hq
theorem pe_call (F : FnOk X.prog X.w X.K X.mg X.base CX k f fd ps sp) (hr : Room k X.A) (hg : Gl X x) (hm : X.mg x = some (.ref f)) (hk : PySem.W.keepIn X.K (.ref f) = true) (hb : Binds X.K fd ps ds) (hd : Vals dvs ds) (hx : ZU CX X E)
  (ha : PA X (e :: es) t) (hdb : (x == ("__debug__" : Str)) = false := by decide) (he : starEach (e :: es) X.env = (false, eval e X.env) :: starEach es X.env := by rfl) (hpl : (backTo pos (starEach es X.env)).any (·.1) = false := by rfl) :
  PE X (.Call (.Name x p) (e :: es) [] pos) (Z1 sp dvs E t) := by
 intro pins s σ H Q I h
 refine wpAny_Call_Name_kw (xG I hg hm ?_ hdb)
 refine PySem.W.callWith_K (h₀ := X.base) I.ok.mod.kin hk (thn (ha pos pins s σ H _ I h) fun us s1 ⟨vs, H1, I1, r, q⟩ => ⟨I1.kIn, ?_⟩) he hpl
 exact run_fn F hr hb hd hx I1 r q
structure Mk (K : W.Frag) (C f : Addr) : Prop where
 makes : PySem.W.makesIn K C = true
 init : PySem.W.findIn K (.ref C) "__init__" = some (some (.ref f))
 fn : PySem.W.isFn K (.ref f) = true
 kp : PySem.W.keepIn K (.ref C) = true
end
section
variable {X : Cx} {CX : CXT} {k : Nat} {f C : Addr} {fd : FuncData} {ps ks : List Str} {sp : Sp} {E : XK} {x m : Str} {p pos apos kpos : Pos} {e o : Expr} {es : List Expr} {kws : List Keyword} {te ta : TE} {t tk : TA} {nm : Option Str}
structure KBinds (K : W.Frag) (fd : FuncData) (ps ks : List Str) (g : List Value → List Value → List Value) (gV : List V → List V → List V) : Prop where
 to : ∀ (s : Shared) (us ws : List Value), K.In s.heap → (g us ws).length = ps.length → BindsTo s fd ⟨us, ks.zip ws⟩ (ps.zip (g us ws))
 rel : ∀ {vs : List V} {us : List Value} {zs : List V} {ws : List Value}, Vals vs us → Vals zs ws → Vals (gV vs zs) (g us ws)
variable {g : List Value → List Value → List Value} {gV : List V → List V → List V}
end
structure FnScope (N P : List Str) (sc : Scope) : Prop where
 kind : sc.kind = .function
 co : sc.isCoroutine = false
 gen : sc.isGenerator = false
 nd : N.Nodup
 pre : N.take P.length = P
 par : ∀ x ∈ P, sc.names.lookup x = some .local ∨ sc.names.lookup x = some .cell
 nofree : ∀ y ∈ sc.names, y.2 ≠ .free
theorem vG {kindOf : Str → Option NameKind} {x : Str} : ∀ {binds : List (Str × Value)} {m : Str → Option Value}, (∀ v, (x, v) ∉ binds) → bindL kindOf binds m x = m x
 | [], _, _ => rfl
 | (n, v) :: r, m, h => by
  unfold bindL
  rw [vG fun w hw => h w (List.mem_cons_of_mem _ hw)]
  split
  ·have : x ≠ n := by rintro rfl; exact h v List.mem_cons_self
   simp [this]
  ·rfl
theorem vI {kindOf : Str → Option NameKind} {x : Str} : ∀ {binds : List (Str × Value)} {m : Str → Option Value}, (∀ v, (x, v) ∉ binds) → bindC kindOf binds m x = m x
 | [], _, _ => rfl
 | (n, v) :: r, m, h => by
  unfold bindC
  rw [vI fun w hw => h w (List.mem_cons_of_mem _ hw)]
  split
  ·rfl
  ·have : x ≠ n := by rintro rfl; exact h v List.mem_cons_self
   simp [this]
theorem vH {kindOf : Str → Option NameKind} {x : Str} {v : Value} : ∀ {P : List Str} {vs : List Value} {i : Nat} {m : Str → Option Value}, P.Nodup → P[i]? = some x → vs[i]? = some v → kindOf x = some .local →
  bindL kindOf (P.zip vs) m x = some v
 | [], _, _, _, _, h, _, _ => by simp at h
 | _ :: _, [], _, _, _, _, h, _ => by simp at h
 | p :: P, w :: vs, 0, m, nd, h1, h2, hk => by
  simp at h1 h2; subst h1; subst h2
  show bindL kindOf ((p, w) :: P.zip vs) m p = _
  unfold bindL
  rw [vG fun v hv => (List.nodup_cons.mp nd).1 (List.of_mem_zip hv).1, if_pos hk]
  simp
 | p :: P, w :: vs, i + 1, m, nd, h1, h2, hk => by
  show bindL kindOf ((p, w) :: P.zip vs) m x = _
  unfold bindL
  exact vH (i := i) (List.nodup_cons.mp nd).2 (by simpa using h1) (by simpa using h2) hk
theorem vJ {kindOf : Str → Option NameKind} {x : Str} {v : Value} : ∀ {P : List Str} {vs : List Value} {i : Nat} {m : Str → Option Value}, P.Nodup → P[i]? = some x → vs[i]? = some v → kindOf x ≠ some .local →
  bindC kindOf (P.zip vs) m x = some v
 | [], _, _, _, _, h, _, _ => by simp at h
 | _ :: _, [], _, _, _, _, h, _ => by simp at h
 | p :: P, w :: vs, 0, m, nd, h1, h2, hk => by
  simp at h1 h2; subst h1; subst h2
  show bindC kindOf ((p, w) :: P.zip vs) m p = _
  unfold bindC
  rw [vI fun v hv => (List.nodup_cons.mp nd).1 (List.of_mem_zip hv).1, if_neg hk]
  simp
 | p :: P, w :: vs, i + 1, m, nd, h1, h2, hk => by
  show bindC kindOf ((p, w) :: P.zip vs) m x = _
  unfold bindC
  exact vJ (i := i) (List.nodup_cons.mp nd).2 (by simpa using h1) (by simpa using h2) hk
def wb (N : List Str) (vs : List V) : St := vs.map some ++ List.replicate (N.length - vs.length) none
def cxOf (CX : CXT) (P : Program) (w : World) (K : W.Frag) (mg : Str → Option Value) (base : Heap) (N : List Str) (qual : Str) (scope : Scope) (f : Addr) (cd : Value) (A : Around) (outer : List Env) (s : Shared) (H : Hp) (E : XK) : Cx where
 prog := P
 w := w
 K := K
 mg := mg
 base := base
 A := A.deeper (envOfC qual scope s.heap.objs.size f cd)
 N := N
 s₀ := s
 H₀ := H
 env := envOfC qual scope s.heap.objs.size f cd
 outer := outer
 stack := envOfC qual scope s.heap.objs.size f cd :: outer
 ex := []
 calm := true
 fn := fun _ => true
 pn := []
 xe := fun e s' => wpAny (model P w) (A.deeper (envOfC qual scope s.heap.objs.size f cd)) (leaving (envOfC qual scope s.heap.objs.size f cd) e) (fun _ s'' => CX outer H s E e s'') (fun e' s'' => CX outer H s E e' s'') s'
theorem wq {sc : Scope} {n : Nat} {x : Str} (h : sc.names.lookup x = some .cell) : ∃ c, (cellsFrom n sc.names []).lookup x = some c := by
 have q := PySem.W.cellsFrom_some sc.names n [] (.inl h)
 exact Option.isSome_iff_exists.mp q
theorem inv_start {CX : CXT} {P : Program} {w : World} {K : W.Frag} {mg : Str → Option Value} {base : Heap} {N ps : List Str} {qual : Str} {scope : Scope} {f : Addr} {cd : Value} {A : Around} {outer : List Env} {s s1 : Shared} {H : Hp} {E : XK} {us : List Value} {vs : List V}
  (S : FnScope N ps scope) (hd : A.handled = none) (e0 : Env0 P w K mg base A outer s H) (hl : vs.length = ps.length) (r : Vals vs us)
  (x : InCallC s s.heap.objs.size (bindL (envOfC qual scope s.heap.objs.size f cd).kindOf (ps.zip us) fun _ => none) (cellsFrom (s.heap.objs.size + 1) scope.names []) (bindC (envOfC qual scope s.heap.objs.size f cd).kindOf (ps.zip us) fun _ => none) s1) :
  Inv (cxOf CX P w K mg base N qual scope f cd A outer s H E) [] (wb N vs) H s1 := by
 have hpl : ps.length ≤ N.length := by have := congrArg List.length S.pre; rw [List.length_take] at this; omega
 obtain ⟨h1, tk, rfl, hk⟩ := x.done
 have noA : ∀ b : Addr, b ∉ (cxOf CX P w K mg base N qual scope f cd A outer s H E).ex := fun b z => absurd (show b ∈ ([] : List Addr) from z) (by simp)
 refine ⟨⟨e0.mod, S.kind, rfl, rfl, Nat.le_refl _, fun y z c h1 h2 => ?_, fun y hy => ?_, fun y c _ h => ?_, fun _ => hd, Around.frames_deeper e0.frames, .inr ⟨rfl, rfl⟩, fun b z => absurd z (noA b), e0.bs, e0.bsz, fun b _ _ => noA b, fun b z => absurd z (noA b), e0.funs, e0.frf⟩,
  rfl, e0.bare, Un.kept hk, ⟨_, x.toInCall.ns, fun i y v h1 h2 h3 => ?_⟩, fun y c h => ⟨_, x.cell y c h⟩, e0.hok.fresh (Nat.le_refl _), fun y c h => ?_, fun p hp => absurd (show p ∈ ([] : List (Addr × Obj)) from hp) (by simp), e0.hok.kept hk, ?_⟩
 ·exact name_of_addr x.apart (PySem.mem_of_lookup h1) (PySem.mem_of_lookup h2)
 ·have hy : scope.names.lookup y = some .cell ∨ scope.names.lookup y = some .free := hy
  rcases hy with hy | hy
  ·exact wq hy
  ·exact absurd rfl (S.nofree _ (PySem.mem_of_lookup hy))
 ·exact Nat.le_of_lt (x.above y c (PySem.mem_of_lookup h))
 ·have hi : i < vs.length := by
   unfold wb at h2
   by_cases hi : i < vs.length
   ·exact hi
   ·rw [List.getElem?_append_right (by simpa using hi)] at h2
    rw [List.getElem?_replicate] at h2
    split at h2 <;> cases h2
  have ha : vs[i]? = some v := by
   unfold wb at h2
   rw [List.getElem?_append_left (by simpa using hi), List.getElem?_map] at h2
   cases e : vs[i]? with
   | none => rw [e] at h2; cases h2
   | some a => rw [e] at h2; cases h2; rfl
  obtain ⟨u, hu, rv⟩ := r.get ha
  have hp : ps[i]? = some y := by
   rw [← S.pre, List.getElem?_take_of_lt (by omega)]; exact h1
  have ndP : ps.Nodup := by rw [← S.pre]; exact S.nd.sublist (List.take_sublist _ _)
  refine ⟨u, rv, ?_⟩
  rcases S.par y (List.mem_of_getElem? hp) with k | k
  ·exact .inl ⟨k, vH ndP hp hu k⟩
  ·obtain ⟨c, e⟩ := wq (n := s.heap.objs.size + 1) k
   refine .inr ⟨.inl k, c, e, ?_⟩
   have q := x.cell y c e
   rw [vJ ndP hp hu (by show scope.names.lookup y ≠ _; rw [k]; decide)] at q
   exact q
 ·exact e0.hok.fresh (Nat.le_of_lt (x.above y c (PySem.mem_of_lookup h)))
 ·unfold wb
  show _ = N.length
  rw [List.length_append, List.length_map, List.length_replicate]
  omega
theorem XH {CX : CXT} {P : Program} {w : World} {K : W.Frag} {mg : Str → Option Value} {base : Heap} {k : Nat} {f : Addr} {name qual : Str} {params : Arguments} {body : List Stmt} {scope : Scope} {dV kV doc pm cdv ct oc : Value} {an od : Option Addr}
  {osl : Array (Option Value)} {N ps : List Str} {sp : Sp} (lk : K.lookup f = some ⟨oc, od, .func (PySem.W.fnOf name qual params body scope dV kV doc pm an cdv ct), osl⟩) (hcd : PySem.W.codeIn K cdv qual = true) (S : FnScope N ps scope)
  (len : ∀ vs H Q E, sp vs H Q E → vs.length = ps.length)
  (hbody : ∀ (A : Around) (outer : List Env) (s : Shared) (H : Hp) (vs : List V) (Q : VK) (E : XK), Room k (A.deeper (envOfC qual scope s.heap.objs.size f cdv)) → sp vs H Q E →
   ∃ t, PSs (cxOf CX P w K mg base N qual scope f cdv A outer s H E) body t ∧ t { nx := fun _ H' => Q .non H', rt := Q } (wb N vs) H) :
  FnOk P w K mg base CX (k + 1) f (PySem.W.fnOf name qual params body scope dV kV doc pm an cdv ct) ps sp := by
 refine ⟨len, fun A outer s H args us vs Q E hr e0 hb r hsp => ?_⟩
 have hl := len _ _ _ _ hsp
 have KX : K.In s.heap := e0.mod.kin.keeps fun b o e => (e0.bs b o e).1
 have lim : s.heap.NoLimit := e0.mod.nolimit.keeps fun b o e => (e0.bs b o e).1
 have hkind : ∀ y ∈ ps.zip us, scope.names.lookup y.1 = some .local ∨ (scope.names.lookup y.1 = some .cell ∧ ((cellsFrom (s.heap.objs.size + 1) scope.names []).lookup y.1).isSome = true) := fun ⟨n, v⟩ hy => by
  rcases S.par n (List.of_mem_zip hy).1 with q | q
  ·exact .inl q
  ·exact .inr ⟨q, PySem.W.cellsFrom_some _ _ _ (.inl q)⟩
 refine codeAny_call_function hr.depth (KX _ _ lk) rfl S.co S.gen rfl (PySem.W.codeRec_of KX hcd) (hb _ _ _ _ ?_)
 refine wpAny_newFunctionEnv_cells S.kind hkind fun env he s1 x => ?_
 subst he
 refine ⟨lim.keeps x.toInCall.keep, codeAny_func ?_⟩
 obtain ⟨t, ht, hq⟩ := hbody A outer s H vs Q E (hr.deeper _) hsp
 have I : Inv (cxOf CX P w K mg base N qual scope f cdv A outer s H E) [] (wb N vs) H s1 := inv_start S hr.hd e0 hl r x
 refine wpAny_mono (ht [] s1 (wb N vs) H _ I hq) (fun fl s' hs => ?_) fun e s' hs => hs
 have fin : ∀ {σ' : St} {H' : Hp} {v : V} {u : Value}, Inv (cxOf CX P w K mg base N qual scope f cdv A outer s H E) [] σ' H' s' → RelV v u → Q v H' → CE outer P w H s Q u s' :=
  fun {σ' H' v u} J rv q => ⟨v, H', J.os, J.bare, J.base, J.hok, rv, q⟩
 cases fl with
 | ret u =>
  obtain ⟨v, σ', H', J, rv, q⟩ := hs
  exact fin J rv q
 | next =>
  obtain ⟨σ', H', J, q⟩ := hs
  exact fin (v := V.non) (u := Value.none) J rfl q
 | brk =>
  obtain ⟨_, _, _, q⟩ := hs
  exact False.elim q
 | cont =>
  obtain ⟨_, _, _, q⟩ := hs
  exact False.elim q
section
variable {X : Cx} {x : Str} {p pos : Pos} {e : Expr} {es : List Expr} {t : TA} {id T : String} {r : List V → Hp → VK → Prop}
def tCB (r : List V → Hp → VK → Prop) (t : TA) : TE := fun σ H Q => t σ H fun vs H1 => r vs H1 Q
theorem pe_callB (hc : yk X (.builtin id) r) (hg : Gl X x) (hm : X.mg x = none) (hv : bootBuiltins x = some (.builtin id)) (ha : PA X (e :: es) t) (hn : x ≠ "__name__" := by decide) (hdb : (x == ("__debug__" : Str)) = false := by decide)
  (he : starEach (e :: es) X.env = (false, eval e X.env) :: starEach es X.env := by rfl) (hpl : (backTo pos (starEach es X.env)).any (·.1) = false := by rfl) : PE X (.Call (.Name x p) (e :: es) [] pos) (tCB r t) := by
 intro pins s σ H Q I h
 refine wpAny_Call_Name_kw (xR I hg hm hv ?_ hn hdb)
 exact PyProof.Rows.callWith_builtin1 (thn (ha pos pins s σ H _ I h) fun us s1 ⟨vs, H1, I1, r1, q1⟩ => hc pins s1 σ H1 vs us Q I1 r1 q1) he hpl
theorem pe_callTy (hc : yk X (.type T) r) (hg : Gl X x) (hm : X.mg x = none) (hv : bootBuiltins x = some (.type T)) (ha : PA X (e :: es) t) (hn : x ≠ "__name__" := by decide) (hdb : (x == ("__debug__" : Str)) = false := by decide)
  (he : starEach (e :: es) X.env = (false, eval e X.env) :: starEach es X.env := by rfl) (hpl : (backTo pos (starEach es X.env)).any (·.1) = false := by rfl) : PE X (.Call (.Name x p) (e :: es) [] pos) (tCB r t) := by
 intro pins s σ H Q I h
 refine wpAny_Call_Name_kw (xR I hg hm hv ?_ hn hdb)
 exact PyProof.Rows.callWith_type1 (thn (ha pos pins s σ H _ I h) fun us s1 ⟨vs, H1, I1, r1, q1⟩ => hc pins s1 σ H1 vs us Q I1 r1 q1) he hpl
end
end L2
namespace HT
open PySem PyProof.Rows
section
open PySem.SeqAt
open PySem.AutoSeq1 (wpAny_loadPart')
open PySem.MeetsSeq PySem.MeetsSeq2 PySem.MeetsSeq3
end
section
variable {prog : Program} {w : World} {A : Around} {E : Value → Shared → Prop} {s : Shared}
theorem cat_tup {t b : Addr} {vs ws : List Value} {Q : Value → Shared → Prop} (ht : IsTup s.heap t vs.toArray) (hb : IsTup s.heap b ws.toArray) (hv : vs ≠ [])
  (h1 : ws = [] → Q (.ref t) s) (h2 : ws ≠ [] → Q (.ref s.heap.objs.size) { s with heap := s.heap.push { cls := .type "tuple", data := .seq (vs ++ ws).toArray } })
  (hsz : vs.length + ws.length ≤ sizeLine) : wpAny (model prog w) A (binaryOp .Add (.ref t) (.ref b)) Q E s := by
 obtain ⟨⟨cls, dd, data, sl⟩, ho, hc, n, hd⟩ := id ht
 obtain ⟨⟨cls2, dd2, data2, sl2⟩, ho2, hc2, n2, hd2⟩ := id hb
 simp only at hc hd hc2 hd2
 subst hc hd hc2 hd2
 have e : vs.toArray ++ ws.toArray = (vs ++ ws).toArray := by simp
 by_cases hw : ws = []
 ·exact concat_meets ⟨_, ho, rfl⟩ ⟨_, ho2, rfl⟩ noFill_tuple_add seq_tuple_add PySem.F.slot_tuple_add PySem.F.entry_tuple_add (PySem.F.args_tuple_add_2 _ _)
   (tuple_addW1 t b vs.toArray ws.toArray n n2 dd dd2 sl sl2 (by simpa using hv) (by simp [hw])) ⟨ho, ho2, h1 hw⟩
 ·refine concat_meets ⟨_, ho, rfl⟩ ⟨_, ho2, rfl⟩ noFill_tuple_add seq_tuple_add PySem.F.slot_tuple_add PySem.F.entry_tuple_add (PySem.F.args_tuple_add_2 _ _)
   (tuple_addW2 t b vs.toArray ws.toArray n n2 dd dd2 sl sl2 (by simpa using hv) (by simpa using hw) (by rw [List.size_toArray, List.size_toArray]; exact hsz)) ⟨ho, ho2, ?_⟩
  rw [e]
  exact h2 hw
def sIx (n d : Nat) : Option Int → Nat
 | none => d
 | some v => if v < 0 then (v + (n : Int)).toNat else min v.toNat n
theorem sIx_none (n d : Nat) : sIx n d none = d := rfl
theorem sIx_nat (n d k : Nat) : sIx n d (some (k : Int)) = min k n := by
 show (if (k : Int) < 0 then ((k : Int) + (n : Int)).toNat else min (k : Int).toNat n) = min k n
 rw [if_neg (by omega), Int.toNat_natCast]
theorem sIx_le (n d : Nat) (hd : d ≤ n) (o : Option Int) : sIx n d o ≤ n := by
 cases o with
 | none => exact hd
 | some v =>
  show (if v < 0 then (v + (n : Int)).toNat else min v.toNat n) ≤ n
  by_cases hv : v < 0
  ·rw [if_pos hv]; omega
  ·rw [if_neg hv]; exact Nat.min_le_right _ _
theorem Yr (v : Int) (n d : Nat) : (if v < 0 then max (v + (n : Int)) 0 else min v (n : Int)) = ((sIx n d (some v) : Nat) : Int) := by
 show (if v < 0 then max (v + (n : Int)) 0 else min v (n : Int)) = (((if v < 0 then (v + (n : Int)).toNat else min v.toNat n) : Nat) : Int)
 by_cases hv : v < 0
 ·simp only [if_pos hv]; omega
 ·simp only [if_neg hv]; omega
theorem adjust_gen (lo hi : Option Int) (n : Nat) : Builtin.Slice.sliceAdjust lo hi 1 (n : Int) = (((sIx n 0 lo : Nat) : Int), ((sIx n n hi : Nat) : Int)) := by
 have h1 : ¬ ((1 : Int) < 0) := by omega
 unfold Builtin.Slice.sliceAdjust
 simp only [h1, if_false]
 refine Prod.ext ?_ ?_
 ·cases lo with
  | none => rfl
  | some v => exact Yr v n 0
 ·cases hi with
  | none => rfl
  | some v => exact Yr v n n
theorem places_gen (i j : Nat) : Builtin.Slice.slicePlaces (i : Int) (j : Int) 1 = j - i := by
 unfold Builtin.Slice.slicePlaces
 have h1 : (1 : Int) > 0 := by omega
 simp only [h1, if_true, Int.ediv_one]
 split <;> omega
theorem va {v : Value} {o : Option Int} {Q : Option Int → Shared → Prop} (p : IsPart v o) (h : Q o s) : wpAny (model prog w) A (Builtin.Slice.slicePartIndex v) Q E s := by
 cases p with
 | none => exact slicePart_none h
 | int i t => exact slicePart_int h
theorem yW {sl : Addr} {vl vu : Value} {lo hi : Option Int} {n : Nat} {Q : Int × Int × Nat → Shared → Prop} (hs : s.heap.IsSliceOf sl vl vu .none) (pl : IsPart vl lo) (pu : IsPart vu hi)
  (h : Q (((sIx n 0 lo : Nat) : Int), 1, sIx n n hi - sIx n 0 lo) s) : wpAny (model prog w) A (Builtin.Slice.sliceApplied (.ref sl) (pure (n : Int))) Q E s := by
 obtain ⟨os, hos, hcs, hds⟩ := id hs
 unfold Builtin.Slice.sliceApplied Builtin.Slice.sliceFields
 refine wpAny_bind (wpAny_bind (wpAny_field hos hds (x := vl) rfl (wpAny_bind (wpAny_field hos hds (x := vu) rfl (wpAny_bind (wpAny_field hos hds (x := .none) rfl (wpAny_pure ?_)))))))
 refine wpAny_bind (slicePart_none ?_)
 show wpAny _ _ (if ((1 : Int) == 0) = true then _ else _) _ _ s
 rw [if_neg (by decide)]
 refine wpAny_bind (va pl (wpAny_bind (va pu (wpAny_bind (wpAny_pure ?_)))))
 show wpAny _ _ (match Builtin.Slice.sliceAdjust lo hi 1 (n : Int) with | (lo, hi) => pure (lo, (1 : Int), Builtin.Slice.slicePlaces lo hi 1)) _ _ s
 rw [adjust_gen lo hi n]
 show wpAny _ _ (pure (((sIx n 0 lo : Nat) : Int), (1 : Int), Builtin.Slice.slicePlaces ((sIx n 0 lo : Nat) : Int) ((sIx n n hi : Nat) : Int) 1)) _ _ s
 rw [places_gen]
 exact wpAny_pure h
theorem pick_gen (xs : Array Value) (i k : Nat) : ((List.range k).filterMap fun (m : Nat) => xs[((i : Int) + (m : Int) * 1).toNat]?).toArray = ((xs.toList.drop i).take k).toArray := by
 have e : (fun (m : Nat) => xs[((i : Int) + (m : Int) * 1).toNat]?) = fun m => xs[i + m]? := by
  funext m
  have : ((i : Int) + (m : Int) * 1).toNat = i + m := by omega
  rw [this]
 rw [e]
 have := pick_run xs i k
 rw [List.filterMap_map] at this
 have e2 : ((fun x => xs[x]?) ∘ fun x => i + x) = fun m => xs[i + m]? := rfl
 rw [e2] at this
 rw [this]
theorem getItem_tuple_cut {t sl : Addr} {items : Array Value} {vl vu : Value} {lo hi : Option Int} {Q : Value → Shared → Prop} (ht : IsTup s.heap t items) (hs : s.heap.IsSliceOf sl vl vu .none) (pl : IsPart vl lo) (pu : IsPart vu hi)
  (hw : ¬ (sIx items.size 0 lo = 0 ∧ sIx items.size items.size hi = items.size))
  (h : Q (.ref s.heap.objs.size) { s with heap := s.heap.push { cls := .type "tuple", data := .seq ((items.toList.drop (sIx items.size 0 lo)).take (sIx items.size items.size hi - sIx items.size 0 lo)).toArray } })
  (hsz : items.size ≤ sizeLine) : wpAny (model prog w) A (getItem (.ref t) (.ref sl)) Q E s := by
 have htake : sizeOk (.seq ((items.toList.drop (sIx items.size 0 lo)).take (sIx items.size items.size hi - sIx items.size 0 lo)).toArray) := by
  show ((items.toList.drop (sIx items.size 0 lo)).take (sIx items.size items.size hi - sIx items.size 0 lo)).toArray.size ≤ sizeLine
  rw [List.size_toArray, List.length_take, List.length_drop, Array.length_toList]
  omega
 have hj : sIx items.size items.size hi ≤ items.size := sIx_le _ _ (Nat.le_refl _) hi
 obtain ⟨os, hos, hcs, hds⟩ := id hs
 have hTs : s.TypeIs (.ref sl) "slice" := ⟨os, hos, hcs⟩
 unfold getItem
 try with_reducible refine wpAny_holding ?_
 first | refine wpAny_bind (wpAny_pure ?_) | skip
 refine wpAny_bind (wpAny_sequenceKey ht.typeIs (by decide) ?_)
 refine wpAny_bind (wpAny_callSpecial?_slot (name := Str.ofString "__getitem__") ht.typeIs PyProof.Rows.slot_tuple_getitem
  (wpAny_call_entry PyProof.Rows.slot_tuple_getitem ht.typeIs entry_tuple_getitem ?_ (args_tuple_getitem _ _)))
 show wpAny _ _ (Builtin.Tuple.tupleItemsOf (.ref t) >>= _) _ _ s
 refine wpAny_bind (tupleItemsOf_ ht ?_)
 refine wpAny_bind (wpAny_typeOf hTs ?_)
 rw [if_pos (by decide)]
 refine wpAny_bind (yW hs pl pu ?_)
 have hno : ¬ ((((sIx items.size 0 lo : Nat) : Int) == 0 && (1 : Int) == 1 && (sIx items.size items.size hi - sIx items.size 0 lo) == items.size) = true) := by
  intro q
  rw [Bool.and_eq_true, Bool.and_eq_true] at q
  have q1 : ((sIx items.size 0 lo : Nat) : Int) = 0 := eq_of_beq q.1.1
  have q2 : sIx items.size items.size hi - sIx items.size 0 lo = items.size := eq_of_beq q.2
  exact hw ⟨by omega, by omega⟩
 show wpAny _ _ (if (((sIx items.size 0 lo : Nat) : Int) == 0 && (1 : Int) == 1 && (sIx items.size items.size hi - sIx items.size 0 lo) == items.size) = true then _ else _) _ _ s
 rw [if_neg hno, pick_gen]
 first
  | exact wpAny_bind (m := Builtin.Tuple.tupleExact _) (wpAny_newObj_type (wpAny_pure ⟨_, rfl, wpAny_pure h⟩) htake)
  | exact wpAny_bind (m := Builtin.Tuple.tupleExact _) (wpAny_newObj_type (wpAny_bind (wpAny_pure (wpAny_pure ⟨_, rfl, wpAny_pure h⟩))) htake)
  | exact wpAny_bind (wpAny_bind (m := Builtin.Tuple.tupleExact _) (wpAny_newObj_type (wpAny_pure (wpAny_pure ⟨_, rfl, wpAny_pure h⟩)) htake))
  | exact wpAny_bind (wpAny_bind (m := Builtin.Tuple.tupleExact _) (wpAny_newObj_type (wpAny_pure ⟨_, rfl, wpAny_pure h⟩) htake))
end
end HT
namespace L2
open PySem PySem.Spec PyProof.Rows
abbrev TO := St → Hp → (Option Int → Hp → Prop) → Prop
def PO (X : Cx) (e : Option Expr) (t : TO) : Prop :=
 ∀ (pins : List (Addr × Obj)) (s : Shared) (σ : St) (H : Hp) (Q : Option Int → Hp → Prop), Inv X pins σ H s → t σ H Q →
  wpAny (model X.prog X.w) X.A (evalPart e X.env) (fun u s' => ∃ o H', Inv X pins σ H' s' ∧ IsPart u o ∧ Q o H') X.xe s
def Z0 : TO := fun _ H Q => Q none H
def Xg (t : TE) : TO := fun σ H Q => t σ H fun x H1 => ∃ i, x = .int i ∧ Q (some i) H1
section
variable {X : Cx} {e : Expr} {te : TE} {lo hi : Option Expr} {tl th : TO} {pos p2 : Pos}
theorem xD : PO X none Z0 := by
 intro pins s σ H Q I h
 rw [evalPart_none]
 exact wpAny_pure ⟨none, H, I, .none, h⟩
theorem yS (h : PE X e te) : PO X (some e) (Xg te) := by
 intro pins s σ H Q I hw
 rw [evalPart_some]
 refine thn (h pins s σ H _ I hw) fun u s1 ⟨x, H1, I1, r1, q1⟩ => ?_
 obtain ⟨i, rfl, q⟩ := q1
 obtain ⟨t, rfl⟩ := r1
 exact ⟨some i, H1, I1, .int i t, q⟩
def SlR (X : Cx) (r : V → Option Int → Option Int → Hp → VK → Prop) : Prop :=
 ∀ (pins : List (Addr × Obj)) (s : Shared) (σ : St) (H : Hp) (x : V) (v vl vu : Value) (lo hi : Option Int) (sl : Addr) (Q : VK), Inv X pins σ H s → RelV x v → s.heap.IsSliceOf sl vl vu .none → IsPart vl lo → IsPart vu hi → r x lo hi H Q →
  ∃ T id, typeLookup (.type T) "__getitem__" = pure (some (.builtin id)) ∧ s.TypeIs v T ∧ wpAny (model X.prog X.w) X.A (getItem v (.ref sl)) (EP X pins σ Q) X.xe s
def tSl (r : V → Option Int → Option Int → Hp → VK → Prop) (te : TE) (tl th : TO) : TE := fun σ H Q => te σ H fun x H1 => tl σ H1 fun l H2 => th σ H2 fun u H3 => r x l u H3 Q
theorem yK {r : V → Option Int → Option Int → Hp → VK → Prop} (hr : SlR X r) (he : PE X e te) (hl : PO X lo tl) (hu : PO X hi th) : PE X (.Subscript e (.Slice lo hi none p2) pos) (tSl r te tl th) := by
 intro pins s σ H Q I h
 refine Subscript_ (thn (he pins s σ H _ I h) fun v s1 ⟨x, H1, I1, r1, q1⟩ => ?_)
 refine wpAny_Slice (thn (hl pins s1 σ H1 _ I1 q1) fun vl s2 ⟨l, H2, I2, pl, q2⟩ => thn (hu pins s2 σ H2 _ I2 q2) fun vu s3 ⟨u, H3, I3, pu, q3⟩ => ?_)
 rw [evalPart_none]
 refine wpAny_pure ?_
 have I4 : Inv X pins σ H3 { s3 with heap := s3.heap.push { cls := .type "slice", data := .fields #[vl, vu, .none] } } := I3.kept (t' := s3.toks) fun b ob q => Heap.get?_push_of_some _ q
 obtain ⟨T, id, hT, ht, hg⟩ := hr pins { s3 with heap := s3.heap.push { cls := .type "slice", data := .fields #[vl, vu, .none] } } σ H3 x v vl vu l u s3.heap.objs.size Q I4 r1 (Heap.IsSliceOf.new ..) pl pu q3
 show wpAny (model X.prog X.w) X.A (subscriptTail e (.Slice lo hi none p2) v (.ref s3.heap.objs.size)) (EP X pins σ Q) X.xe { s3 with heap := s3.heap.push { cls := .type "slice", data := .fields #[vl, vu, .none] } }
 exact tail_any (ops := [.ref s3.heap.objs.size, v]) ht hT hg (by with_unfolding_all rfl)
def cutV (xs : List V) (lo hi : Option Int) : List V := (xs.drop (HT.sIx xs.length 0 lo)).take (HT.sIx xs.length xs.length hi - HT.sIx xs.length 0 lo)
theorem wE (xs : List V) (lo hi : Option Int) : (cutV xs lo hi).length ≤ xs.length := by
 unfold cutV
 rw [List.length_take, List.length_drop]
 omega
def rSlT (K : W.Frag) : V → Option Int → Option Int → Hp → VK → Prop := fun x lo hi H Q => ∃ a xs, x = .ref a ∧ SqT K H a xs ∧
 ¬ (HT.sIx xs.length 0 lo = 0 ∧ HT.sIx xs.length xs.length hi = xs.length) ∧ ∀ p, H p = none → Q (.ref p) (upd H p (.tup (cutV xs lo hi)))
theorem sl_tup : SlR X (rSlT X.K) := by
 intro pins s σ H x v vl vu lo hi sl Q I rx hs pl pu h
 obtain ⟨a, xs, rfl, hx, hw, q⟩ := h
 cases rx
 obtain ⟨its, r, ht, hz⟩ := I.tuple hx
 have hlen : its.toArray.size = xs.length := by rw [List.size_toArray]; exact r.length.symm
 refine ⟨"tuple", _, PyProof.Rows.slot_tuple_getitem.lookup, ht.typeIs, ?_⟩
 refine HT.getItem_tuple_cut ht hs pl pu (by rw [hlen]; exact hw) ?_ (by rw [hlen]; exact hz)
 rw [hlen]
 refine ⟨.ref s.heap.objs.size, _, I.laid (t' := s.toks) (o := .tup (cutV xs lo hi)) (fun b ob q => Heap.get?_push_of_some _ q) (Nat.le_refl _) ?_, rfl, q _ (I.hok.fresh (Nat.le_refl _))⟩
 exact ⟨Nat.le_trans (wE xs lo hi) hz, _, (r.drop (HT.sIx xs.length 0 lo)).take (HT.sIx xs.length xs.length hi - HT.sIx xs.length 0 lo), IsTup.new _ _⟩
def rCatT (K : W.Frag) : R2 := fun x y H Q => ∃ a b xs ys, x = .ref a ∧ y = .ref b ∧ SqT K H a xs ∧ SqT K H b ys ∧ xs ≠ [] ∧ xs.length + ys.length ≤ sizeLine ∧
 (ys = [] → Q (.ref a) H) ∧ (ys ≠ [] → ∀ p, H p = none → Q (.ref p) (upd H p (.tup (xs ++ ys))))
theorem Vals.nil_iff {xs : List V} {us : List Value} (r : Vals xs us) : us = [] ↔ xs = [] := by
 cases r with
 | nil => simp
 | cons _ _ => simp
theorem op_catT : OpR X (binaryOp .Add) (rCatT X.K) := by
 intro pins s σ H x y v u Q I rx ry h
 obtain ⟨a, b, xs, ys, rfl, rfl, ha, hb, hx, hz, q1, q2⟩ := h
 cases rx
 cases ry
 obtain ⟨its, r1, p1, _⟩ := I.tuple ha
 obtain ⟨its2, r2, p2, _⟩ := I.tuple hb
 refine HT.cat_tup p1 p2 (fun z => hx (r1.nil_iff.mp z)) (fun z => ⟨.ref a, H, I, rfl, q1 (r2.nil_iff.mp z)⟩) (fun z => ?_) (by rw [← r1.length, ← r2.length]; exact hz)
 refine ⟨.ref s.heap.objs.size, _, I.laid (t' := s.toks) (o := .tup (xs ++ ys)) (fun b ob q => Heap.get?_push_of_some _ q) (Nat.le_refl _) ?_, rfl, q2 (fun w => z (r2.nil_iff.mpr w)) _ (I.hok.fresh (Nat.le_refl _))⟩
 exact ⟨by rw [List.length_append]; exact hz, _, r1.append r2, IsTup.new _ _⟩
end
def ixN (n : Nat) (i : Int) : Option Nat := if 0 ≤ i then (if i < n then some i.toNat else none) else if -(n : Int) ≤ i then some (i + n).toNat else none
def atI {α : Type} (xs : List α) (i : Int) : Option α := (ixN xs.length i).bind fun j => xs[j]?
theorem wL {n : Nat} {i : Int} {j : Nat} (h : ixN n i = some j) : seqIndex? i n = some j ∧ j < n ∧ -(n : Int) ≤ i ∧ i < n := by
 unfold ixN at h
 by_cases h0 : 0 ≤ i
 ·rw [if_pos h0] at h
  by_cases h1 : i < n
  ·rw [if_pos h1] at h
   have e : i.toNat = j := Option.some.inj h
   exact ⟨by rw [seqIndex_of h0 h1, e], by omega, by omega, h1⟩
  ·rw [if_neg h1] at h; cases h
 ·rw [if_neg h0] at h
  by_cases h1 : -(n : Int) ≤ i
  ·rw [if_pos h1] at h
   have e : (i + n).toNat = j := Option.some.inj h
   exact ⟨by rw [seqIndex_neg (by omega) h1, e], by omega, h1, by omega⟩
  ·rw [if_neg h1] at h; cases h
theorem Za {α : Type} {xs : List α} {i : Int} {v : α} (h : atI xs i = some v) : ∃ j, seqIndex? i xs.length = some j ∧ xs[j]? = some v ∧ j < xs.length ∧ -(xs.length : Int) ≤ i ∧ i < xs.length := by
 unfold atI at h
 cases e : ixN xs.length i with
 | none => rw [e] at h; cases h
 | some j =>
  rw [e] at h
  obtain ⟨h1, h2, h3, h4⟩ := wL e
  exact ⟨j, h1, h, h2, h3, h4⟩
theorem yA {α : Type} {xs : List α} {j : Nat} {v : α} (h : xs[j]? = some v) : atI xs (j : Int) = some v := by
 have hj : j < xs.length := (List.getElem?_eq_some_iff.mp h).1
 have e : ixN xs.length (j : Int) = some j := by
  unfold ixN
  rw [if_pos (by omega), if_pos (by omega)]; simp
 unfold atI; rw [e]; exact h
def PlainIx (b : Expr) : Prop := ∀ o i, subscripted b false o i = operate [o, i] (getItem o i)
def IxR (X : Cx) (r : R2) : Prop :=
 ∀ (value slice : Expr) (pins : List (Addr × Obj)) (s : Shared) (σ : St) (H : Hp) (x y : V) (v u : Value) (Q : VK), Inv X pins σ H s → RelV x v → RelV y u → r x y H Q →
  subscripted slice false v u = operate [v, u] (getItem v u) → wpAny (model X.prog X.w) X.A (subscriptTail value slice v u) (EP X pins σ Q) X.xe s
def MtR (X : Cx) (id : String) (r : V → List V → Hp → VK → Prop) : Prop :=
 ∀ (pins : List (Addr × Obj)) (s : Shared) (σ : St) (H : Hp) (x : V) (xs : List V) (v : Value) (us : List Value) (Q : VK), Inv X pins σ H s → RelV x v → Vals xs us → r x xs H Q →
  wpAny (model X.prog X.w) X.A (call (.builtin id) (v :: us)) (EP X pins σ Q) X.xe s
section
variable {X : Cx} {a b : Expr} {ta tb : TE} {pos : Pos}
theorem IxR.or {r r' : R2} (h : IxR X r) (h' : IxR X r') : IxR X (fun x y H Q => r x y H Q ∨ r' x y H Q) := by
 intro value slice pins s σ H x y v u Q I rx ry q hs
 rcases q with q | q
 ·exact h value slice pins s σ H x y v u Q I rx ry q hs
 ·exact h' value slice pins s σ H x y v u Q I rx ry q hs
theorem zo {r : R2} (hr : IxR X r) (ha : PE X a ta) (hb : PE X b tb) (hs : PlainIx b) : PE X (.Subscript a b pos) (tOp r ta tb) := by
 intro pins s σ H Q I h
 exact Subscript_ (binT ha hb I h fun v u s2 x y H2 I2 rx ry q => hr a b pins s2 σ H2 x y v u Q I2 rx ry q (hs _ _))
def rIxL (K : W.Frag) : R2 := fun x y H Q => ∃ p xs i v, x = .ref p ∧ y = .int i ∧ SqL K H p xs ∧ atI xs i = some v ∧ Q v H
def rIxT (K : W.Frag) : R2 := fun x y H Q => ∃ p xs i v, x = .ref p ∧ y = .int i ∧ SqT K H p xs ∧ atI xs i = some v ∧ Q v H
def rIxS : R2 := fun x y H Q => ∃ z i c, x = .str z ∧ y = .int i ∧ z.length ≤ sizeLine ∧ atI z.cps.toList i = some c ∧ Q (.str ⟨#[c]⟩) H
theorem ix_list : IxR X (rIxL X.K) := by
 intro value slice pins s σ H x y v u Q I rx ry h hs
 obtain ⟨p, xs, i, z, rfl, rfl, hq, he, q⟩ := h
 cases rx
 obtain ⟨t, rfl⟩ := ry
 obtain ⟨its, r, pl, hz⟩ := I.list hq
 obtain ⟨j, h1, h2, h3, h4, h5⟩ := Za he
 obtain ⟨w, ew, rw'⟩ := r.get h2
 have hl := r.length
 have hn := wy
 have fin : EP X pins σ Q w s := ⟨z, H, I, rw', q⟩
 by_cases h0 : 0 ≤ i
 ·have hj : i.toNat = j := by
   rw [seqIndex_of h0 h5] at h1
   exact Option.some.inj h1
  exact item_listR pl.isList h0 (by omega) (by rw [hj]; simpa using ew) fin hs
 ·have hj : (i + (its.toArray.size : Int)).toNat = j := by
   rw [seqIndex_neg (by omega) h4] at h1
   rw [List.size_toArray, ← hl]
   exact Option.some.inj h1
  exact subscriptTail_builtinR (x := w) pl.isList.typeIs slot_list_getitem.lookup
   (wpAny_getItem_list_neg (Q := fun r s' => r = w ∧ EP X pins σ Q r s') pl.isList (by omega) (by rw [List.size_toArray] <;> omega) (by omega) (by rw [hj]; simpa using ew) ⟨rfl, fin⟩) hs
theorem ix_tup : IxR X (rIxT X.K) := by
 intro value slice pins s σ H x y v u Q I rx ry h hs
 obtain ⟨p, xs, i, z, rfl, rfl, hq, he, q⟩ := h
 cases rx
 obtain ⟨t, rfl⟩ := ry
 obtain ⟨its, r, pl, hz⟩ := I.tuple hq
 obtain ⟨j, h1, h2, h3, h4, h5⟩ := Za he
 obtain ⟨w, ew, rw'⟩ := r.get h2
 have hl := r.length
 have hn := wy
 have fin : EP X pins σ Q w s := ⟨z, H, I, rw', q⟩
 exact subscriptTail_builtinR (x := w) pl.typeIs slot_tuple_getitem.lookup
  (getItem_tuple (j := j) (Q := fun r s' => r = w ∧ EP X pins σ Q r s') pl (by omega) (by omega) (by rw [List.size_toArray, ← hl]; exact h1) (by simpa using ew) ⟨rfl, fin⟩) hs
theorem Y3 : IxR X rIxS := by
 intro value slice pins s σ H x y v u Q I rx ry h hs
 obtain ⟨z, i, c, rfl, rfl, hz, he, q⟩ := h
 obtain ⟨t, rfl⟩ := rx
 obtain ⟨t', rfl⟩ := ry
 obtain ⟨j, h1, h2, h3, h4, h5⟩ := Za he
 have hl : z.cps.toList.length = z.length := by simp [Str.length]
 rw [hl] at h1 h4 h5
 have hn := wy
 exact tail_any (typeIs_str s z t) slot_str_getitem.lookup (getItem_str (c := c) (by
  have e1 : decide (i < -(2 ^ 63 : Int)) = false := decide_eq_false (by omega)
  have e2 : decide (i ≥ 2 ^ 63) = false := decide_eq_false (by omega)
  rw [e1, e2, Bool.or_false]) (by rw [h1]; simpa using h2) ⟨.str ⟨#[c]⟩, H, I.tok _, ⟨_, rfl⟩, q⟩) hs
def rIx (K : W.Frag) : R2 := fun x y H Q => rIxL K x y H Q ∨ rIxT K x y H Q ∨ rIxS x y H Q
theorem ix_seq : IxR X (rIx X.K) := ix_list.or (ix_tup.or Y3)
theorem mapSeq_set (its : List Value) (n j : Nat) (u : Value) : Obj.mapSeq (·.setIfInBounds j u) { cls := .type "list", data := .seq its.toArray n } = { cls := .type "list", data := .seq (its.set j u).toArray n } := by
 simp [Obj.mapSeq]
theorem Inv.lst {pins : List (Addr × Obj)} {σ : St} {H : Hp} {s : Shared} {p : Addr} {xs : List V} (I : Inv X pins σ H s) (h : H p = some (.lst xs)) :
  ∃ (its : List Value) (n : Nat), Vals xs its ∧ s.heap.get? p = some { cls := .type "list", data := .seq its.toArray n } ∧ xs.length ≤ sizeLine := by
 obtain ⟨z, its, n, r, e⟩ := I.hok p _ h
 exact ⟨its, n, r, e, z⟩
theorem Inv.lstUpd {pins : List (Addr × Obj)} {σ : St} {H : Hp} {s : Shared} {p : Addr} {xs ys : List V} {its its' : List Value} {n n' : Nat} {f : Obj → Obj} (I : Inv X pins σ H s) (h : H p = some (.lst xs))
  (ho : s.heap.get? p = some { cls := .type "list", data := .seq its.toArray n }) (hf : f { cls := .type "list", data := .seq its.toArray n } = { cls := .type "list", data := .seq its'.toArray n' }) (r : Vals ys its') (hz : ys.length ≤ sizeLine) (t : Nat) :
  Inv X pins σ (upd H p (.lst ys)) { s with heap := s.heap.update p f, toks := t } := by
 have e : (s.heap.update p f).get? p = some { cls := .type "list", data := .seq its'.toArray n' } := by
  rw [Heap.get?_update_self f ho (by rw [hf] <;> rfl), hf]
 refine I.write (x := p) (e := p) (by rw [h]; trivial) (.inl rfl) (fun b u hb q => (Heap.get?_update_other _ _ (Ne.symm hb)).trans q) ⟨_, e⟩ ?_
 exact ⟨hz, its', n', r, e⟩
def rSetL : V → V → V → Hp → (Hp → Prop) → Prop := fun o i v H Q => ∃ p xs k j, o = .ref p ∧ i = .int k ∧ H p = some (.lst xs) ∧ ixN xs.length k = some j ∧ Q (upd H p (.lst (xs.set j v)))
theorem set_list : PSet X rSetL := by
 intro pins s σ H o i v ov iv u Q I ro ri rv h
 obtain ⟨p, xs, k, j, rfl, rfl, hp, hj, q⟩ := h
 cases ro
 obtain ⟨t, rfl⟩ := ri
 obtain ⟨its, n, r, ho, hz⟩ := I.lst hp
 obtain ⟨h1, h2, h3, h4⟩ := wL hj
 have hl := r.length
 have hn := wy
 have I' : Inv X pins σ (upd H p (.lst (xs.set j v))) { s with heap := s.heap.update p (Obj.mapSeq (·.setIfInBounds j u)) } :=
  I.lstUpd hp ho (mapSeq_set its n j u) (r.set rv j) (by rw [List.length_set]; exact hz) s.toks
 by_cases h0 : 0 ≤ k
 ·have hk : k.toNat = j := by
   rw [seqIndex_of h0 h4] at h1
   exact Option.some.inj h1
  exact PySem.W.ki_setAt ho h0 (by omega) (by rw [List.size_toArray, ← hl]; exact h4) (by rw [hk]; exact ⟨_, I', q⟩)
 ·have hk : (k + (its.toArray.size : Int)).toNat = j := by
   rw [seqIndex_neg (by omega) h3] at h1
   rw [List.size_toArray, ← hl]
   exact Option.some.inj h1
  exact PySem.W.ki_setBack ho (by omega) (by rw [List.size_toArray, ← hl]; exact h3) (by omega) (by rw [hk]; exact ⟨_, I', q⟩)
theorem slice_bounds (lo hi : Option Int) (n : Nat) : (sliceBounds lo hi none n).1 = ((HT.sIx n 0 lo : Nat) : Int) ∧ (sliceBounds lo hi none n).2.1 = ((HT.sIx n n hi : Nat) : Int) ∧ (sliceBounds lo hi none n).2.2 = 1 := by
 refine ⟨?_, ?_, rfl⟩
 ·cases lo with
  | none => simp [sliceBounds, HT.sIx]
  | some i =>
   simp only [sliceBounds, HT.sIx, Option.getD_none, show (1 : Int) > 0 by decide, if_true]
   by_cases h : i < 0
   ·simp only [h, if_true] <;> omega
   ·simp only [h, if_false] <;> omega
 ·cases hi with
  | none => simp [sliceBounds, HT.sIx]
  | some i =>
   simp only [sliceBounds, HT.sIx, Option.getD_none, show (1 : Int) > 0 by decide, if_true]
   by_cases h : i < 0
   ·simp only [h, if_true] <;> omega
   ·simp only [h, if_false] <;> omega
theorem slicePick_cut (its : List Value) (lo hi : Option Int) : slicePick its.toArray lo hi none = ((its.drop (HT.sIx its.length 0 lo)).take (HT.sIx its.length its.length hi - HT.sIx its.length 0 lo)).toArray := by
 obtain ⟨h1, h2, h3⟩ := slice_bounds lo hi its.toArray.size
 unfold slicePick
 rw [h1, h2, h3]
 simp only [sliceRange_one, pick_run, List.size_toArray] <;> rfl
def rSlL (K : W.Frag) : V → Option Int → Option Int → Hp → VK → Prop := fun x lo hi H Q => ∃ a xs, x = .ref a ∧ SqL K H a xs ∧ ∀ p, H p = none → Q (.ref p) (upd H p (.lst (cutV xs lo hi)))
theorem Z4 : SlR X (rSlL X.K) := by
 intro pins s σ H x v vl vu lo hi sl Q I rx hs pl pu h
 obtain ⟨a, xs, rfl, hx, q⟩ := h
 cases rx
 obtain ⟨its, r, ht, hz⟩ := I.list hx
 have hlen := r.length
 refine ⟨"list", _, slot_list_getitem.lookup, ht.isList.typeIs, ?_⟩
 refine wpAny_getItem_list_slice ht.isList hs pl pu .none (by simp) ?_ (by rw [List.size_toArray] <;> omega)
 rw [slicePick_cut, ← hlen]
 refine ⟨.ref s.heap.objs.size, _, I.laid (t' := s.toks) (o := .lst (cutV xs lo hi)) (fun b ob q => Heap.get?_push_of_some _ q) (Nat.le_refl _) ?_, rfl, q _ (I.hok.fresh (Nat.le_refl _))⟩
 exact ⟨Nat.le_trans (wE xs lo hi) hz, _, 0, (r.drop (HT.sIx xs.length 0 lo)).take (HT.sIx xs.length xs.length hi - HT.sIx xs.length 0 lo), Heap.get?_push_size _ rfl⟩
theorem zr : yk X (.builtin "len") (fun xs H Q => ∃ p ys, xs = [.ref p] ∧ (SqL X.K H p ys ∨ SqT X.K H p ys) ∧ Q (.int ys.length) H) := by
 intro pins s σ H xs us Q I r h
 obtain ⟨p, ys, rfl, hq, q⟩ := h
 obtain ⟨u, rfl, rx⟩ := Zl r
 cases rx
 have hn := wy
 rcases hq with hq | hq
 ·obtain ⟨its, r', pl, hz⟩ := I.list hq
  have hlen := r'.length
  exact Calls.call_len_list pl.isList (by simp only [List.size_toArray] <;> omega) ⟨.int ys.length, H, I.tok _, ⟨s.toks + 1, by rw [List.size_toArray, hlen]⟩, q⟩
 ·obtain ⟨its, r', pl, hz⟩ := I.tuple hq
  have hlen := r'.length
  exact len_tuple pl (by simp only [List.size_toArray] <;> omega) ⟨.int ys.length, H, I.tok _, ⟨s.toks + 1, by rw [List.size_toArray, hlen]⟩, q⟩
theorem xl : yk X (.type "list") (fun xs H Q => ∃ p ys, xs = [.ref p] ∧ (SqL X.K H p ys ∨ SqT X.K H p ys) ∧ ∀ l, H l = none → Q (.ref l) (upd H l (.lst ys))) := by
 intro pins s σ H xs us Q I r h
 obtain ⟨p, ys, rfl, hq, q⟩ := h
 obtain ⟨u, rfl, rx⟩ := Zl r
 cases rx
 have fin : ∀ (its : List Value), Vals ys its → ys.length ≤ sizeLine → ∀ (h' : Heap) (c' : Nat), (∀ b o', s.heap.get? b = some o' → h'.get? b = some o') →
   h'.get? s.heap.objs.size = some { cls := .type "list", dict := none, data := .seq its.toArray c', slots := #[] } → EP X pins σ Q (.ref s.heap.objs.size) { s with heap := h' } := fun its r' hz h' c' kp e =>
  ⟨.ref s.heap.objs.size, _, I.laid (t' := s.toks) kp (Nat.le_refl _) (show ObjOk X.prog X.w _ h' _ (.lst ys) from ⟨hz, its, c', r', e⟩), rfl, q _ (I.hok.fresh (Nat.le_refl _))⟩
 rcases hq with hq | hq
 ·obtain ⟨its, r', pl, hz⟩ := I.list hq
  have hlen := r'.length
  obtain ⟨o, ho, hc, n, hd⟩ := pl.isList
  exact call_list_seq p (.inl rfl) ho hc hd (fun h' c' kp e => fin its r' hz h' c' kp e) (by simp only [List.size_toArray] <;> omega)
 ·obtain ⟨its, r', pl, hz⟩ := I.tuple hq
  have hlen := r'.length
  obtain ⟨o, ho, hc, n, hd⟩ := pl
  exact call_list_seq p (.inr rfl) ho hc hd (fun h' c' kp e => fin its r' hz h' c' kp e) (by simp only [List.size_toArray] <;> omega)
theorem zL : yk X (.type "tuple") (fun xs H Q => ∃ p ys, xs = [.ref p] ∧ ((SqL X.K H p ys ∧ ∀ l, H l = none → Q (.ref l) (upd H l (.tup ys))) ∨ (SqT X.K H p ys ∧ Q (.ref p) H))) := by
 intro pins s σ H xs us Q I r h
 obtain ⟨p, ys, rfl, h⟩ := h
 obtain ⟨u, rfl, rx⟩ := Zl r
 cases rx
 rcases h with ⟨hq, q⟩ | ⟨hq, q⟩
 ·obtain ⟨its, r', pl, hz⟩ := I.list hq
  have hlen := r'.length
  refine call_tuple_list pl.isList (fun h' kp => ?_) (by simp only [List.size_toArray] <;> omega)
  have I1 : Inv X pins σ H { s with heap := h' } := I.kept (t' := s.toks) kp
  have I2 : Inv X pins σ (upd H h'.objs.size (.tup ys)) { s with heap := h'.push { cls := .type "tuple", data := .seq its.toArray } } :=
   I1.laid (t' := s.toks) (fun b o e => Heap.get?_push_of_some _ e) (Nat.le_refl _) (show ObjOk X.prog X.w _ _ _ (.tup ys) from ⟨hz, its, r', IsTup.new _ _⟩)
  exact ⟨.ref h'.objs.size, _, I2, rfl, q _ (I1.hok.fresh (Nat.le_refl _))⟩
 ·obtain ⟨its, r', pl, hz⟩ := I.tuple hq
  exact call_tuple_same pl ⟨.ref p, H, I, rfl, q⟩
def tyV (K : W.Frag) (T : String) (x : V) (H : Hp) : Prop := match x with
 | .str _ => T = "str"
 | .int _ => T = "int"
 | .ref p => (T = "list" ∧ ∃ xs, SqL K H p xs) ∨ (T = "tuple" ∧ ∃ o, K.lookup p = some o ∧ o.cls = .type "tuple" ∧ o.dict = none) ∨
   (T = "dict" ∧ ((∃ kvs, H p = some (.dK kvs)) ∨ ∃ kvs, H p = some (.dT kvs))) ∨ (T = "set" ∧ ∃ S n, H p = some (.set S n))
 | _ => False
theorem tyV_is {pins : List (Addr × Obj)} {σ : St} {H : Hp} {s : Shared} {T : String} {x : V} {v : Value} (I : Inv X pins σ H s) (r : RelV x v) (ty : tyV X.K T x H) :
  s.TypeIs v T ∧ ∀ a, v = .ref a → ∃ ob, s.heap.get? a = some ob ∧ ob.dict = none := by
 cases x with
 | str z =>
  obtain ⟨t, rfl⟩ := r
  cases (show T = "str" from ty)
  exact ⟨typeIs_str s z t, fun _ e => nomatch e⟩
 | int i =>
  obtain ⟨t, rfl⟩ := r
  cases (show T = "int" from ty)
  exact ⟨typeIs_int s i t, fun _ e => nomatch e⟩
 | ref p =>
  cases r
  rcases ty with ⟨rfl, xs, hq⟩ | ⟨rfl, o, hk, hc, hd⟩ | ⟨rfl, hk⟩ | ⟨rfl, S, n, hk⟩
  ·obtain ⟨its, _, pl, _⟩ := I.list hq
   refine ⟨pl.isList.typeIs, fun a e => ?_⟩
   cases e
   obtain ⟨o, n, e, c, hd, _⟩ := pl
   exact ⟨o, e, hd⟩
  ·refine ⟨⟨o, I.kIn p o hk, hc⟩, fun a e => ?_⟩
   cases e
   exact ⟨o, I.kIn _ o hk, hd⟩
  ·have z : ∃ o, s.heap.get? p = some o ∧ o.ExactDict := by
    rcases hk with ⟨kvs, hk⟩ | ⟨kvs, hk⟩
    ·obtain ⟨_, _, _, _, o, _, _, e, ex, _⟩ := I.hok p _ hk
     exact ⟨o, e, ex⟩
    ·obtain ⟨_, _, _, _, o, _, _, e, ex, _⟩ := I.hok p _ hk
     exact ⟨o, e, ex⟩
   obtain ⟨o, e, ex⟩ := z
   refine ⟨⟨o, e, ex.1⟩, fun a e2 => ?_⟩
   cases e2
   exact ⟨o, e, ex.2.1⟩
  ·obtain ⟨o, _, _, _, e, ex, _⟩ := I.hok p _ hk
   refine ⟨⟨o, e, ex.1⟩, fun a e2 => ?_⟩
   cases e2
   exact ⟨o, e, ex.2.1⟩
 | _ => exact False.elim ty
def tBM (K : W.Frag) (T : String) (r : V → List V → Hp → VK → Prop) (to : TE) (t : TA) : TE := fun σ H Q => to σ H fun x H1 => tyV K T x H1 ∧ t σ H1 fun xs H2 => r x xs H2 Q
variable {o e : Expr} {es : List Expr} {to : TE} {t : TA} {name : Str} {apos cpos : Pos} {T id : String} {r : V → List V → Hp → VK → Prop}
theorem vd (pa : PlainAttrs T) (slot : Slot T name id) (hty : typeOf (.builtin id) = pure (.type "method_descriptor")) (hm : MtR X id r) (ho : PE X o to) (ha : PA X (e :: es) t)
  (hbase : attributeBase o name X.env (eval o X.env) = eval o X.env := by rfl)
  (hfew : ((backTo cpos (starEach (e :: es) X.env)).all (fun x => !x.1) && (backToKw cpos (keywordEach [] X.env)).all (fun x => x.1.isSome)
   && decide ((e :: es).length + ([] : List Keyword).length + (if ([] : List Keyword).isEmpty then 0 else 1) < 30)) = true := by rfl)
  (hline : (apos.endLine == cpos.line) = true := by rfl) (hs : starEach (e :: es) X.env = (false, eval e X.env) :: starEach es X.env := by rfl) (hplain : (backTo cpos (starEach es X.env)).any (·.1) = false := by rfl) :
  PE X (.Call (.Attribute o name apos) (e :: es) [] cpos) (tBM X.K T r to t) := by
 intro pins s σ H Q I h
 refine wpAny_Call_method_late hbase hfew hline rfl (thn (ho pins s σ H _ I h) fun v s1 ⟨x, H1, I1, r1, ty, q1⟩ => ?_)
 obtain ⟨h1, h2⟩ := tyV_is I1 r1 ty
 refine ⟨T, id, pa, slot, hty, h1, h2, ?_⟩
 have hA := ha cpos pins s1 σ H1 _ I1 q1
 rw [hs] at hA ⊢
 refine Calls.callWith_builtin (by show (false || (backTo cpos (starEach es X.env)).any (·.1)) = false; rw [hplain] <;> rfl) (Calls.evalArgs_plain ?_)
 exact thn hA fun us s2 ⟨vs, H2, I2, r2, q2⟩ => hm pins s2 σ H2 x vs v us Q I2 r1 r2 q2
/- xs.append(e), list.index on a module's tuple .. are MtR facts of 06m -/
end
def MtM (X : Cx) (id : String) (r : V → List V → Hp → VK → Prop) : Prop :=
 ∀ (pins : List (Addr × Obj)) (s : Shared) (σ : St) (H : Hp) (x : V) (xs : List V) (v : Value) (us : List Value) (Q : VK), Inv X pins σ H s → RelV x v → Vals xs us → r x xs H Q →
  wpAny (model X.prog X.w) X.A (call (.builtin id) (v :: us)) (EP X pins σ Q) X.xe s
theorem Vals.one : ∀ {x : V} {us : List Value}, Vals [x] us → ∃ u, us = [u] ∧ RelV x u
 | _, _, .cons r .nil => ⟨_, rfl, r⟩
theorem Vals.two : ∀ {x y : V} {us : List Value}, Vals [x, y] us → ∃ u v, us = [u, v] ∧ RelV x u ∧ RelV y v
 | _, _, _, .cons r (.cons q .nil) => ⟨_, _, rfl, r, q⟩
theorem Vals.eraseIdx : ∀ {xs : List V} {us : List Value} (i : Nat), Vals xs us → Vals (xs.eraseIdx i) (us.eraseIdx i)
 | _, _, _, .nil => .nil
 | _, _, 0, .cons _ t => t
 | _, _, i + 1, .cons r t => .cons r (Vals.eraseIdx i t)
theorem Vals.rep {xs : List V} {us : List Value} (h : Vals xs us) : ∀ k : Nat, Vals (List.replicate k xs).flatten (List.replicate k us).flatten
 | 0 => .nil
 | k + 1 => by
  rw [List.replicate_succ, List.replicate_succ, List.flatten_cons, List.flatten_cons]
  exact Vals.append h (Vals.rep h k)
theorem vA {α : Type} : ∀ (l : List α) (i : Nat), (l.eraseIdx i).length ≤ l.length
 | [], _ => Nat.le_refl _
 | _ :: _, 0 => Nat.le_succ _
 | _ :: r, i + 1 => Nat.succ_le_succ (vA r i)
theorem wA (its : List Value) : ∀ (k : Nat) (acc : List Value),
  List.foldl (fun x1 x2 => x1 ++ x2) acc.toArray (List.replicate k its.toArray) = (acc ++ (List.replicate k its).flatten).toArray
 | 0, acc => by simp
 | k + 1, acc => by
  have e : acc.toArray ++ its.toArray = (acc ++ its).toArray := by simp
  have e2 : (acc ++ its) ++ (List.replicate k its).flatten = acc ++ (List.replicate (k + 1) its).flatten := by
   rw [List.replicate_succ, List.flatten_cons, List.append_assoc]
  rw [← e2, ← wA its k (acc ++ its), ← e, List.replicate_succ, List.foldl_cons]
section
variable {X : Cx} {pins : List (Addr × Obj)} {σ : St} {H : Hp} {s : Shared} {l b : Addr} {xs ys zs : List V}
theorem Inv.lset {its its' : List Value} {n : Nat} {f : Array Value → Array Value} {t' : Nat} (I : Inv X pins σ H s) (hH : H l = some (.lst xs))
  (e : s.heap.get? l = some { cls := .type "list", data := .seq its.toArray n }) (hf : f its.toArray = its'.toArray) (hv : Vals ys its') (hz : ys.length ≤ sizeLine) :
  Inv X pins σ (upd H l (.lst ys)) { s with heap := s.heap.update l (Obj.mapSeq f), toks := t' } := by
 have q := PySem.IsL.update e f
 rw [hf] at q
 refine I.write (x := l) (e := l) (by rw [hH]; exact trivial) (.inl rfl) (fun b' u hb hu => (Heap.get?_update_other s.heap (Obj.mapSeq f) (Ne.symm hb)).trans hu) ⟨_, q⟩ ?_
 exact ⟨hz, its', _, hv, q⟩
theorem Inv.lnew {its : List Value} {t' : Nat} (I : Inv X pins σ H s) (hv : Vals ys its) (hz : ys.length ≤ sizeLine) :
  Inv X pins σ (upd H s.heap.objs.size (.lst ys)) { s with heap := s.heap.push { cls := .type "list", data := .seq its.toArray }, toks := t' } :=
 I.laid (fun _ _ q => Heap.get?_push_of_some _ q) (Nat.le_refl _) ⟨hz, its, 0, hv, Heap.get?_push_size _ rfl⟩
theorem Inv.fresh (I : Inv X pins σ H s) : H s.heap.objs.size = none := I.hok.fresh (Nat.le_refl _)
theorem Inv.lstM (I : Inv X pins σ H s) (hH : H l = some (.lst xs)) : xs.length ≤ sizeLine ∧ ∃ (its : List Value) (n : Nat), Vals xs its ∧ xs.length = its.length ∧ s.heap.get? l = some { cls := .type "list", data := .seq its.toArray n } := by
 obtain ⟨z, its, n, r, e⟩ := I.hok l _ hH
 exact ⟨z, its, n, r, r.length, e⟩
theorem notLongL {n : Nat} (h : n ≤ sizeLine) : Builtin.List.listTooLong n = false := by
 unfold Builtin.List.listTooLong
 exact decide_eq_false (by omega)
end
section
variable {X : Cx}
def rAppend : V → List V → Hp → VK → Prop := fun x vs H Q => ∃ l xs y, x = .ref l ∧ vs = [y] ∧ H l = some (.lst xs) ∧ xs.length < sizeLine ∧ Q .non (upd H l (.lst (xs ++ [y])))
theorem yZ : MtM X "list.append" rAppend := by
 intro pins s σ H x vs v us Q I rx rv h
 obtain ⟨l, xs, y, rfl, rfl, hH, hz, q⟩ := h
 cases rx
 obtain ⟨u, rfl, ru⟩ := rv.one
 obtain ⟨z, its, n, r, hl, e⟩ := I.lstM hH
 refine call_meets F.slot_list_append ⟨_, e, rfl⟩ F.entry_list_append (F.args_list_append_2 _ _) (PySem.list_append l its.toArray n u (by rw [List.size_toArray]; omega)) ⟨e, ?_⟩
 refine ⟨.non, _, I.lset (its' := its ++ [u]) hH e (by simp) (r.append (.cons ru .nil)) ?_, rfl, q⟩
 rw [List.length_append, List.length_singleton]
 omega
def rPopAt : V → List V → Hp → VK → Prop := fun x vs H Q => ∃ l xs i k y, x = .ref l ∧ vs = [.int i] ∧ H l = some (.lst xs) ∧ -(2 ^ 63) ≤ i ∧ i < 2 ^ 63 ∧ seqIndex? i xs.length = some k ∧ xs[k]? = some y ∧ Q y (upd H l (.lst (xs.eraseIdx k)))
theorem Zr : MtM X "list.pop" rPopAt := by
 intro pins s σ H x vs v us Q I rx rv h
 obtain ⟨l, xs, i, k, y, rfl, rfl, hH, h1, h2, hk, hy, q⟩ := h
 cases rx
 obtain ⟨u, rfl, ru⟩ := rv.one
 obtain ⟨t, rfl⟩ := ru
 obtain ⟨z, its, n, r, hl, e⟩ := I.lstM hH
 obtain ⟨w, hw, rw'⟩ := r.get hy
 refine call_meets F.slot_list_pop ⟨_, e, rfl⟩ F.entry_list_pop (F.args_list_pop_2 _ _)
  (MeetsSeq.list_pop_at l its.toArray n i t k w (fitsIndex_both h1 h2) (by rw [List.size_toArray, ← hl]; exact hk) (by rw [← Array.getElem?_toList]; exact hw) (by rw [List.size_toArray]; omega)) ⟨e, ?_⟩
 refine ⟨y, _, I.lset (its' := its.eraseIdx k) hH e ?_ (r.eraseIdx k) ?_, rw', q⟩
 ·show its.toArray.eraseIdxIfInBounds k = (its.eraseIdx k).toArray
  rw [List.eraseIdxIfInBounds_toArray]
 ·have := vA xs k
  omega
def rCat : R2 := fun x y H Q => ∃ l b xs zs, x = .ref l ∧ y = .ref b ∧ H l = some (.lst xs) ∧ H b = some (.lst zs) ∧ xs.length + zs.length ≤ sizeLine ∧ ∀ p, H p = none → Q (.ref p) (upd H p (.lst (xs ++ zs)))
theorem yM : OpR X (binaryOp .Add) rCat := by
 intro pins s σ H x y v u Q I rx ry h
 obtain ⟨l, b, xs, zs, rfl, rfl, hH, hB, hz, q⟩ := h
 cases rx
 cases ry
 obtain ⟨z, its, n, r, hl, e⟩ := I.lstM hH
 obtain ⟨z2, its2, n2, r2, hl2, e2⟩ := I.lstM hB
 refine PySem.P.add_list e e2 ?_ (by rw [List.size_toArray, List.size_toArray]; omega)
 have ea : its.toArray ++ its2.toArray = (its ++ its2).toArray := by simp
 rw [ea]
 exact ⟨.ref _, _, I.lnew (t' := s.toks) (r.append r2) (by rw [List.length_append]; omega), rfl, q _ I.fresh⟩
def rRep : R2 := fun x y H Q => ∃ l k xs, x = .ref l ∧ y = .int k ∧ H l = some (.lst xs) ∧ -(2 ^ 63) ≤ k ∧ k < 2 ^ 63 ∧ xs.length * k.toNat ≤ sizeLine ∧
 ∀ p, H p = none → Q (.ref p) (upd H p (.lst (List.replicate k.toNat xs).flatten))
theorem wK {α : Type} (xs : List α) (k : Nat) : (List.replicate k xs).flatten.length = k * xs.length := by
 induction k with
 | zero => simp
 | succ k ih => rw [List.replicate_succ, List.flatten_cons, List.length_append, ih, Nat.succ_mul, Nat.add_comm]
theorem vf : OpR X (binaryOp .Mult) rRep := by
 intro pins s σ H x y v u Q I rx ry h
 obtain ⟨l, k, xs, rfl, rfl, hH, h1, h2, hz, q⟩ := h
 cases rx
 obtain ⟨t, rfl⟩ := ry
 obtain ⟨z, its, n, r, hl, e⟩ := I.lstM hH
 have hlen : its.toArray.size * k.toNat ≤ sizeLine := by rw [List.size_toArray, ← hl]; exact hz
 have hcap : ¬ its.toArray.size * k.toNat > (2 ^ 63 - 1) / 8 := by
  have : (sizeLine : Nat) ≤ (2 ^ 63 - 1) / 8 := by decide
  omega
 have hfit : ¬ (!Builtin.List.listFitsIndex k) = true := by
  rw [fitsIndex_both h1 h2]
  exact Bool.false_ne_true
 have hlong : ¬ Builtin.List.listTooLong (its.toArray.size * k.toNat) = true := by
  rw [notLongL hlen]
  exact Bool.false_ne_true
 have hnew : List.foldl (fun x1 x2 => x1 ++ x2) #[] (List.replicate (if its.toArray.isEmpty = true then 0 else k.toNat) its.toArray) = (List.replicate k.toNat its).flatten.toArray := by
  have f0 : ∀ m : Nat, List.foldl (fun x1 x2 => x1 ++ x2) #[] (List.replicate m its.toArray) = (List.replicate m its).flatten.toArray := fun m => by
   have := wA its m []
   rw [List.nil_append] at this
   exact this
  rw [f0]
  cases its with
  | nil => simp
  | cons a r' => rw [if_neg (by simp)]
 refine wpAny_binaryOp_repeat_ref (T := "list") (U := "int") (by decide) ⟨_, e, rfl⟩ (fun s' => typeIs_int s' k t) noFill_list_mul F.fills_int_mul F.slot_int_rmul repeat_list F.slot_int_index.lookup
  (call_meets F.slot_int_rmul (typeIs_int s k t) F.entry_int_rmul (F.args_int_rmul_2 _ _) (int___rmul___int_list k t l its.toArray n)
   ⟨e, rfl, ⟨_, e, rfl⟩, call_meets F.slot_list_mul ⟨_, e, rfl⟩ F.entry_list_mul (F.args_list_mul_2 _ _) (AutoListH.list___mul___list_int_3 l its.toArray n k t hfit hcap hlong) ⟨e, ?_⟩⟩)
 rw [hnew]
 exact ⟨.ref _, _, I.lnew (t' := s.toks) (r.rep k.toNat) (by rw [wK, Nat.mul_comm]; exact hz), rfl, q _ I.fresh⟩
end
end L2
namespace Att
open PySem PySem.W PySem.Calls PyProof.Rows
theorem ints_of_wellAll {P : Params} {h : Heap} : ∀ (ns : List Int) (vs : List Value), WellAll P h vs (ns.map WData.int) → IntsAre vs ns := by
 intro ns
 induction ns with
 | nil =>
  intro vs w
  rw [List.map_nil] at w
  cases w
  exact .nil
 | cons n ns ih =>
  intro vs w
  rw [List.map_cons] at w
  cases w with
  | cons a b =>
   cases a
   exact .cons _ _ (ih _ b)
theorem script_of {l : OpenLaw} {n : Nat} (hn : l.most = some n) {P : Params} {h : Heap} {args : List WData} {vals : List Value}
  (hpre : l.row.toRowW.claim.pre args = true) (hwl : WellAll P h vals args) :
  ∃ a vs ns, vals = [Value.ref a] ∧ args = [WData.list (ns.map WData.int)] ∧ h.get? a = some { cls := .type "list", data := .seq vs.toArray } ∧ IntsAre vs ns ∧ ns.length ≤ n := by
 have hsh : WShape.hasAll [] args [.list .int] = true := (pre_splitW hpre).1
 have hc : l.pre.holds [] { args := args } = true := (pre_splitW hpre).2
 obtain ⟨d, r, rfl, h1, h2⟩ := hasAllW_cons hsh
 obtain rfl := hasAllW_nil h2
 obtain ⟨xs, rfl, h3⟩ := hasW_list h1
 obtain ⟨ns, rfl⟩ := items_int h3
 have hlen : ns.length ≤ n := by
  unfold OpenLaw.pre at hc
  have h4 : (WTm.not (.lt (.lit (.int (n : Int))) (.len (.arg 0)))).holds [] { args := [.list (ns.map .int)] } = true := by
   have h4 := (holds_andW hc).1
   rw [hn] at h4
   exact h4
  have h5 := condW_of h4 (w_not (w_lt w_lit (w_len_list (w_arg rfl))))
  rw [List.length_map] at h5
  refine Nat.le_of_not_lt fun q => ?_
  have q' : (n : Int) < ((ns.length : Nat) : Int) := by omega
  first
   | (rw [decide_eq_true q'] at h5; exact absurd h5 (by decide))
   | (simp at h5; omega)
 cases hwl with
 | cons w1 w2 =>
  cases w2
  cases w1 with
  | list ho hall => exact ⟨_, _, ns, rfl, rfl, ho, ints_of_wellAll ns _ hall, hlen⟩
theorem post_true (l : OpenLaw) (args : List WData) : l.row.toRowW.claim.post args (.bool true) args = true :=
 postW_of (r := l.row.toRowW) (X := (true == true))
  (show WShape.has [] (.bool true) .bool = true by first | rfl | decide | simp [WShape.has, WShape.arms, WShape.armsAll])
  (show (WTm.eq .res (.lit (.bool true))).value [] { args := args, res := some (.bool true), after := args } = some (.bool (true == true)) from w_eq_bool (w_res rfl) w_lit) rfl
theorem attach_call {l : OpenLaw} {n : Nat} {q : Program} {loose : List Str} {XP : (Str → Option Value) → Heap → Prop} {YP : World → Heap → Prop} {d : DefRec}
  (hn : l.most = some n) (hdf : d.params.defaults = [])
  (call : ∀ (w : World) (s₀ s₁ : Shared) (mg mb : Str → Option Value) (fa : Addr) (o : Obj) (pm cd doc : Value) (a : Addr) (vs : List Value) (ns : List Int),
   Ground q loose [] XP w s₀ mg mb s₁.heap → YP w s₁.heap →
   s₁.heap.get? fa = some o → o.data = .func (docDef d.name d.params d.body d.scope pm cd doc) → s₁.heap.CodeRec cd d.name → mg d.name = some (.ref fa) →
   s₁.heap.get? a = some { cls := .type "list", data := .seq vs.toArray } → IntsAre vs ns → ns.length ≤ n → s₁.gens = #[] →
   codeAny (model l.prog w) callerA (.call (.ref fa) ⟨[.ref a], []⟩) (fun r s' => r = .ok (.ret (.bool true)) ∧ OldK s₁.heap s'.heap ∧ s'.os = s₁.os ∧ AllBare s'.gens) s₁) :
  WalkO q loose XP YP l.row.toRowW d [] (fun f vs => PySem.call f vs) := by
 intro w s₀ s₁ mg mb G Y fa o pm cd doc dV kV ho hd hcd hD hmg hg args vals as hpre hlay hrd hwl hlo
 obtain rfl : dV = .none := Dflts.none hD hdf
 obtain rfl : kV = .none := Dflts.noKw hD
 obtain ⟨a, vs, ns, rfl, rfl, hobj, hints, hlen⟩ := script_of hn hpre hwl
 refine enter_call (codeAny_mono (call w s₀ s₁ mg mb fa o pm cd doc a vs ns G Y ho (fd_plain hd) hcd hmg hobj hints hlen hg) fun r s' hq => ?_)
 obtain ⟨rfl, h2, h3, h4⟩ := hq
 exact ⟨.inl ⟨.bool true, .bool true, [], rfl, fun _ => rfl, .bool true, post_true l _, fun _ => ⟨List.Pairwise.nil, fun _ hm => (nomatch hm)⟩⟩, h2, h3, h4⟩
end Att
namespace L2
open PySem PySem.Spec PyProof.Rows
theorem vv : ∀ {vs : List Value} {ns : List Int}, IntsAre vs ns → Vals (ns.map V.int) vs
 | _, _, .nil => .nil
 | _, _, .cons n t h => .cons ⟨t, rfl⟩ (vv h)
def Only (H : Hp) : Prop := ∀ b, H b = none ∨ ∃ o xs, H b = some (.frz o (.lst xs))
theorem law_call {P : Program} {w : World} {K : W.Frag} {mg mb : Str → Option Value} {CX : CXT} {k : Nat} {fa a : Addr} {fd : FuncData} {x : Str} {sp : Sp} {s₁ : Shared} {vs : List Value} {ns : List Int}
  (KX : K.In s₁.heap) (hns : s₁.heap.Ns mainGlobals mg) (hb : s₁.heap.Ns builtinsNs mb) (hbb : ∀ x : Str, x ≠ "__name__" → mb x = bootBuiltins x) (hlim : s₁.heap.NoLimit) (hg : s₁.gens = #[])
  (ha : s₁.heap.get? a = some { cls := .type "list", data := .seq vs.toArray }) (hi : IntsAre vs ns) (hl : ns.length ≤ sizeLine) (hr : Room k callerA)
  (F : ∀ base : Heap, K.In base → base.Ns mainGlobals mg → FnOk P w K mg base CX k fa fd [x] sp) (hbind : ∀ (s : Shared) (u : Value), BindsTo s fd ⟨[u], []⟩ [(x, u)])
  (hsp : ∀ H : Hp, Only H → SqL K H a (ns.map V.int) → sp [.ref a] H (fun v _ => v = .bl true) fun _ _ _ => False)
  (hCX : ∀ H e s', CX [] H s₁ (fun _ _ _ => False) e s' → False) :
  codeAny (model P w) callerA (.call (.ref fa) ⟨[.ref a], []⟩) (fun r s' => r = .ok (.ret (.bool true)) ∧ OldK s₁.heap s'.heap ∧ s'.os = s₁.os ∧ AllBare s'.gens) s₁ := by
 have rv := vv hi
 have lenV := hi.length
 have core : ∀ H : Hp, Only H → SqL K H a (ns.map V.int) → HOk P w H s₁.heap → (∀ b, H b ≠ none → b = a) → (H a ≠ none → K.lookup a = none) →
   codeAny (model P w) callerA (.call (.ref fa) ⟨[.ref a], []⟩) (fun r s' => r = .ok (.ret (.bool true)) ∧ OldK s₁.heap s'.heap ∧ s'.os = s₁.os ∧ AllBare s'.gens) s₁ := by
  intro H hO hS hok hA hK
  have base_of : ∀ {b : Addr} {o : Obj}, s₁.heap.get? b = some o → H b = none → (hidT s₁.heap H).get? b = some o := fun e n => hidT_get e n
  have noA : ∀ {b : Addr} {o : Obj} {es : Array DictEntry} {ep : Nat}, s₁.heap.get? b = some o → o.data = .dict es ep → H b = none := fun {b o es ep} e d => by
   cases q : H b with
   | none => rfl
   | some u =>
    have e' : b = a := hA b (by rw [q]; simp)
    subst e'
    rw [ha] at e; cases e
    have d' : Data.seq vs.toArray _ = Data.dict es ep := d
    cases d'
  have nsK : ∀ {b : Addr} {m : Str → Option Value}, s₁.heap.Ns b m → (hidT s₁.heap H).Ns b m := fun {b m} ⟨o, es, ep, e, d, r⟩ => ⟨o, es, ep, base_of e (noA e d), d, r⟩
  have hKb : K.In (hidT s₁.heap H) := fun b o e => base_of (KX b o e) (by
   cases q : H b with
   | none => rfl
   | some u =>
    have e' : b = a := hA b (by rw [q]; simp)
    subst e'
    rw [hK (by rw [q]; simp)] at e; cases e)
  have hM : Mod K mg (hidT s₁.heap H) := ⟨hKb, nsK hns, ⟨mb, nsK hb, hbb⟩, let ⟨mc, h1, h2⟩ := hlim; ⟨mc, nsK h1, h2⟩⟩
  have e0 : Env0 P w K mg (hidT s₁.heap H) callerA [] s₁ H := ⟨rfl, hM, fun b o e => of_hidT e, Nat.le_of_eq (hidT_size _ _), trivial, fun b hb => absurd (show b ∈ ([] : List Addr) from hb) (by simp), hok, .of_eq hg⟩
  refine codeAny_mono ((F _ hKb (nsK hns)).run callerA [] s₁ H ⟨[.ref a], []⟩ [.ref a] [.ref a] _ _ hr e0 (hbind s₁ (.ref a)) (.cons rfl .nil) (hsp H hO hS)) fun r s' h => ?_
  cases r with
  | error e => exact (hCX H e s' h).elim
  | ok fl =>
   cases fl with
   | next => exact False.elim h
   | brk => exact False.elim h
   | cont => exact False.elim h
   | ret u =>
    obtain ⟨v, H', os, bare, un, hok', r', q⟩ := h
    have q' : v = .bl true := q
    subst q'
    obtain rfl : u = Value.bool true := r'
    refine ⟨rfl, OldK.of_keep fun b o e => ?_, os, bare⟩
    cases q : H b with
    | none => exact un.keep b o e q (by intro z; exact absurd (show b ∈ ([] : List Addr) from z) (by simp)) (by simp)
    | some u =>
     rcases hO b with z | ⟨ob, xs, z⟩
     ·rw [q] at z; cases z
     ·have z2 := un.frzs b ob _ z
      obtain ⟨e1, _⟩ := hok b _ z
      obtain ⟨e2, _⟩ := hok' b _ z2
      rw [e] at e1; cases e1
      exact e2
 cases hk : K.lookup a with
 | some o =>
  have e := KX a o hk
  rw [ha] at e
  cases e
  refine core (fun _ => none) (fun _ => .inl rfl) (.inr ⟨_, vs.toArray, _, hk, rfl, rfl, rfl, by rw [List.size_toArray, lenV]; exact hl, by simpa using rv⟩) (fun b u z => by have z' : (none : Option HO) = some u := z; cases z') (fun b z => absurd rfl z) fun z => absurd rfl z
 | none =>
  refine core (fun b => if b = a then some (.frz { cls := .type "list", data := .seq vs.toArray } (.lst (ns.map V.int))) else none) (fun b => ?_) (.inl (.inr ⟨{ cls := .type "list", data := .seq vs.toArray }, if_pos rfl⟩)) (fun b u z => ?_) (fun b z => ?_) fun _ => hk
  ·by_cases hb : b = a
   ·exact .inr ⟨_, _, if_pos hb⟩
   ·exact .inl (if_neg hb)
  ·by_cases hb : b = a
   ·have z' := (if_pos hb).symm.trans z
    cases z'
    subst hb
    exact ⟨ha, by rw [List.length_map]; exact hl, vs, _, rv, ha⟩
   ·have z' := (if_neg hb).symm.trans z
    cases z'
  ·by_cases hb : b = a
   ·exact hb
   ·exact absurd (if_neg hb) z
abbrev KOf {K : W.Frag} {h : Heap} (_ : K.In h) : W.Frag := K
theorem walk_of {l : PySem.W.OpenLaw} {n k : Nat} {q : Program} {loose : List Str} {XP : (Str → Option Value) → Heap → Prop} {YP : World → Heap → Prop} {d : DefRec} {K : Params → W.Frag} {CX : World → CXT} {sp : World → Sp} {x : Str}
  (hn : l.most = some n) (hn2 : n ≤ sizeLine) (hdf : d.params.defaults = []) (hr : Room k callerA)
  (hY : ∀ (w : World) (h : Heap), YP w h → (K w.params).In h)
  (F : ∀ (w : World) (mg : Str → Option Value) (fa : Addr) (h : Heap), (K w.params).In h → h.Ns mainGlobals mg → mg d.name = some (.ref fa) →
   ∃ fd : FuncData, (∀ (s : Shared) (u : Value), BindsTo s fd ⟨[u], []⟩ [(x, u)]) ∧
    ∀ base : Heap, (K w.params).In base → base.Ns mainGlobals mg → FnOk l.prog w (K w.params) mg base (CX w) k fa fd [x] (sp w))
  (hsp : ∀ (w : World) (H : Hp) (a : Addr) (ns : List Int), ns.length ≤ n → Only H → SqL (K w.params) H a (ns.map V.int) → sp w [.ref a] H (fun v _ => v = .bl true) fun _ _ _ => False)
  (hCX : ∀ (w : World) (H : Hp) (s : Shared) (e : Value) (s' : Shared), CX w [] H s (fun _ _ _ => False) e s' → False) :
  PySem.W.WalkO q loose XP YP l.row.toRowW d [] (fun f vs => PySem.call f vs) := by
 refine Att.attach_call hn hdf fun w s₀ s₁ mg mb fa o pm cd doc a vs ns G Y ho hd hcd hmg hobj hints hlen hg => ?_
 have KX := hY w _ Y
 obtain ⟨fd, hb, hF⟩ := F w mg fa _ KX G.T.g hmg
 exact law_call KX G.T.g G.T.b G.T.builtins G.T.nolimit hg hobj hints (Nat.le_trans hlen hn2) hr hF hb (fun H hO hS => hsp w H a ns hlen hO hS) fun H e s' => hCX w H s₁ e s'
end L2
/- THE LAST THEOREM (shape; LID, My.* are yours):
   My.Adr: a structure of the addresses that your layer names (classes, functions); My.Txt K t: a structure (Prop) of the equations over K;
   My.txt_mk : {K} {implicit addresses ..} (e1 : nsIn K mainGlobals "law" = some (some (.ref f))) (e2 : K.lookup f = some ⟨oc, od, .func (fnOf "law" "law" params body scope dV kV doc pm an cdv ct), sl⟩) (e3 : codeIn K cdv "law" = true) .. : ∃ t, My.Txt K t
set_option maxRecDepth 100000 in
set_option maxHeartbeats 0 in
theorem PySem.Challenge.cw_LID_holds : PySem.Challenge.rw_LID.Holds := by
 w_on; o_law; k_head; (case hw => w_witness2)
 k_fill
 refine L2.walk_of (l := PySem.Challenge.rw_LID) (n := 63) (k := 40) (x := "script") (CX := fun w => ..) (sp := fun _ => My.sp_law) rfl (by decide) rfl ⟨rfl, by decide, by decide⟩ (fun w h Y => PySem.W.kIn_of Y) ?F ?S ?C
 case F =>
  intro w mg fa h KX G hmg
  have T : ∃ t, My.Txt (L2.KOf KX) t := by
   dsimp only [L2.KOf]                          -- K must stand as «<heap const> w.params» for k_is
   refine' My.txt_mk ?e1 ?e2 ?e3 ..
   (case e1 => PySem.W.k_is)                    -- in the order: a name -> its address -> its object -> its parts
   (case e2 => PySem.W.k_is)
   ..
  obtain ⟨t, T⟩ := T
  have e0 := hmg.symm.trans (PySem.W.mg_of KX G T.law)
  cases e0                                       -- fa is the law's own address
  exact ⟨_, fun s u => .of_eq rfl, fun base kb nb => My.law_fn T kb nb⟩     -- if «.of_eq rfl» comes too early: refine' ⟨_, ?b, fun base kb nb => My.law_fn T kb nb⟩; exact fun s u => .of_eq rfl
 case S => exact fun w H a ns hl hO hS => ..
 case C => exact ..
(the tactic k_is has no namespace: write k_is) -/
namespace L2
open PySem PySem.Spec PyProof.Rows
def zG (s : Stmt) : Arguments := match s with
 | .FunctionDef _ a _ _ _ _ _ _ _ _ => a
 | _ => { posonlyargs := [], args := [], vararg := none, kwonlyargs := [], kw_defaults := [], kwarg := none, defaults := [] }
def zu (s : Stmt) : List Stmt := match s with
 | .FunctionDef _ _ b _ _ _ _ _ _ _ => b
 | _ => []
def nsc : PySem.Scope := { kind := .function, names := [], isGenerator := false, isCoroutine := false }
def zk (s : Stmt) : Scope := match s with
 | .FunctionDef _ _ _ _ _ _ sc _ _ _ => sc
 | _ => nsc
abbrev CX0 : CXT := fun _ _ _ _ _ _ => False
abbrev E0 : XK := fun _ _ _ => False
theorem pass0 {X : Cx} : ZU CX0 X E0 := fun _ _ _ _ _ _ _ h => h.elim
structure Fun (K : W.Frag) (x qual : Str) (st : Stmt) (f : Addr) (fd : FuncData) : Prop where
 ex : ∃ (oc : Value) (od : Option Addr) (kV doc pm : Value) (an : Option Addr) (cdv ct : Value) (osl : Array (Option Value)),
  fd = PySem.W.fnOf x qual (zG st) (zu st) (zk st) .none kV doc pm an cdv ct ∧ K.lookup f = some ⟨oc, od, .func fd, osl⟩ ∧ PySem.W.codeIn K cdv qual = true
 kp : PySem.W.keepIn K (.ref f) = true
section
variable {P : Program} {w : World} {K : W.Frag} {mg : Str → Option Value} {base : Heap}
theorem Fun.ok {x qual : Str} {st : Stmt} {f : Addr} {fd : FuncData} {N ps : List Str} {k : Nat} {sp : Sp} (F : Fun K x qual st f fd) (S : FnScope N ps (zk st)) (len : ∀ vs H Q E, sp vs H Q E → vs.length = ps.length)
  (hbody : ∀ (cdv : Value) (A : Around) (outer : List Env) (s : Shared) (H : Hp) (vs : List V) (Q : VK) (E : XK), Room k (A.deeper (envOfC qual (zk st) s.heap.objs.size f cdv)) → sp vs H Q E →
   ∃ t, PSs (cxOf CX0 P w K mg base N qual (zk st) f cdv A outer s H E).nox (zu st) t ∧ t { nx := fun _ H' => Q .non H', rt := Q } (wb N vs) H) : FnOk P w K mg base CX0 (k + 1) f fd ps sp := by
 obtain ⟨oc, od, kV, doc, pm, an, cdv, ct, osl, rfl, lk, hcd⟩ := F.ex
 refine XH lk hcd S len fun A outer s H vs Q E hr hsp => ?_
 obtain ⟨t, h, q⟩ := hbody cdv A outer s H vs Q E hr hsp
 exact ⟨t, h.nox, q⟩
theorem Fun.binds {x qual : Str} {st : Stmt} {f : Addr} {fd : FuncData} {ps : List Str} (F : Fun K x qual st f fd)
  (h : ∀ (kV doc pm : Value) (an : Option Addr) (cdv ct : Value) (us : List Value), us.length = ps.length → bindArgs (PySem.W.fnOf x qual (zG st) (zu st) (zk st) .none kV doc pm an cdv ct) ⟨us, []⟩ = pure (ps.zip us)) : Binds K fd ps [] := by
 obtain ⟨oc, od, kV, doc, pm, an, cdv, ct, osl, rfl, lk, hcd⟩ := F.ex
 exact .all (h kV doc pm an cdv ct)
theorem zW {x qual : Str} {st : Stmt} {f : Addr} {oc : Value} {od an : Option Addr} {osl : Array (Option Value)} {kV doc pm cdv ct : Value} (l : K.lookup f = some ⟨oc, od, .func (PySem.W.fnOf x qual (zG st) (zu st) (zk st) .none kV doc pm an cdv ct), osl⟩)
  (c : PySem.W.codeIn K cdv qual = true) (k : PySem.W.keepIn K (.ref f) = true) : Fun K x qual st f (PySem.W.fnOf x qual (zG st) (zu st) (zk st) .none kV doc pm an cdv ct) := ⟨⟨oc, od, kV, doc, pm, an, cdv, ct, osl, rfl, l, c⟩, k⟩
end
theorem XG {A : Around} {k : Nat} (hr : Room k A) : A.units + 1 < cLine := Nat.lt_of_le_of_lt (Nat.add_le_add_left (by decide : 1 ≤ 64) _) hr.units
theorem zt {n : Nat} (h : n ≤ 1000) : n < sizeLine := Nat.lt_of_le_of_lt h (by decide)
section
variable {X : Cx}
theorem pv (i : Nat) {x : Str} {pos : Pos} (hN : X.N[i]? = some x := by rfl) (hv : Vis X.env.scope x := by first | exact Or.inl rfl | exact Or.inr (Or.inl rfl) | exact Or.inr (Or.inr rfl)) (hd : (x == ("__debug__" : Str)) = false := by decide)
  (hcd : (x == ("__classdict__" : Str)) = false := by decide) : PE X (.Name x pos) (tVar i) := vT hN hv hd hcd
end
theorem iteF {A B : Prop} (h : B) : if false = true then A else B := by
 rw [if_neg Bool.false_ne_true]
 exact h
theorem iteT {A B : Prop} (h : A) : if true = true then A else B := by
 rw [if_pos rfl]
 exact h
theorem Yk {c A B : Prop} [Decidable c] (hc : c) (h : B) : if (!decide c) = true then A else B := by
 rw [decide_eq_true hc]
 exact iteF h
def Same (H H' : Hp) : Prop := ∀ b o, H b = some o → H' b = some o
theorem Same.refl (H : Hp) : Same H H := fun _ _ h => h
theorem Same.trans {H H1 H2 : Hp} (a : Same H H1) (b : Same H1 H2) : Same H H2 := fun c o h => b c o (a c o h)
theorem Same.free {H H' : Hp} (e : Same H H') {l : Addr} (h : H' l = Option.none) : H l = Option.none := by
 cases q : H l with
 | none => rfl
 | some o =>
  rw [e l o q] at h
  cases h
end L2
namespace L2
open PySem
def xk (s : Stmt) (i : Nat) : Stmt := match s with
 | .ClassDef _ _ _ body _ _ _ _ _ _ _ => body.getD i (.Pass ⟨0, 0, 0, 0⟩)
 | _ => .Pass ⟨0, 0, 0, 0⟩
end L2
namespace K52
open PySem L2
def top (i : Nat) : Stmt := PySem.Challenge.pw_dropsums_k52_put_together.main.body.getD i (.Pass ⟨0, 0, 0, 0⟩)
def dE (P : Params) (x : Str) (t : Nat) (v : Value) : DictEntry := ⟨PyData.keyHash P x, .str x t, v⟩
def cO (n : Str) (t : Nat) (q : Str) (t1 t2 : Nat) (l a f : Int) (r s x y z : Value) (k : Int) (t3 : Nat) : Obj :=
 ⟨.type "code", none, .fields #[.str n t, .str q t1, .str "/claim/cut.py" t2, .int l 0, .int a 0, .int 0 0, .int 0 0, .int f 0, r, .bool true, .int 181 0, s, .none, x, y, z, .int k 0, .int l 0, .str "/claim/cut.py" t3], #[]⟩
def fO (n q : Str) (s : Stmt) (m : Str) (t c : Nat) : Obj := ⟨.type "function", none, .func (PySem.W.fnOf n q (zG s) (zu s) (zk s) .none .none .none (.str m t) none (.ref c) .none), #[]⟩
def KK : Params → W.Frag := fun P =>
 (nat_lit 3, ⟨(.type "dict"), none, (.dict #[dE P "__name__" 165 (.str "law_dropsums_k52_put_together" 514), dE P "__doc__" 166 .none, dE P "__package__" 167 .none, dE P "__loader__" 168 (.builtin "__main__.__loader__#opaque"), dE P "__spec__" 169 .none, dE P "__annotations__" 170 (.ref 6), dE P "__builtins__" 171 (.ref 4), dE P "__file__" 173 (.str "/claim/cut.py" 172), dE P "__cached__" 174 .none, dE P "DropError" 206 (.ref 24), dE P "NoPot" 233 (.ref 44), dE P "NoStep" 258 (.ref 63), dE P "NoAsk" 283 (.ref 82), dE P "NoPaper" 310 (.ref 101), dE P "NoLines" 335 (.ref 120), dE P "NoFault" 362 (.ref 139), dE P "NoJoin" 389 (.ref 158), dE P "NoRow" 414 (.ref 177), dE P "SORTS" 418 (.int 0 417), dE P "RULES" 420 (.int 1 419), dE P "INPUTS" 422 (.int 2 421), dE P "BEGIN" 424 (.int 3 423), dE P "ANSWER" 426 (.int 4 425), dE P "TAKES" 428 (.int 0 427), dE P "GIVES" 430 (.int 1 429), dE P "MOST_SORTS" 432 (.int 8 431), dE P "MOST_RULES" 434 (.int 8 433), dE P "MOST_INPUTS" 436 (.int 3 435), dE P "MOST_BEGIN" 438 (.int 99 437), dE P "LETTERS" 440 (.str "abcdefghijklmnopqrstuvwxyz" 439), dE P "first_taker" 449 (.ref 186), dE P "noughts" 457 (.ref 191), dE P "ONE_LETTER" 461 (.str "p" 460), dE P "OTHER_LETTER" 463 (.str "q" 462), dE P "put_together" 469 (.ref 196), dE P "places_of" 482 (.ref 203), dE P "called_by" 488 (.ref 208), dE P "rules_laid" 494 (.ref 213), dE P "laid" 506 (.ref 220), dE P "look_at_bounds" 513 (.ref 227), dE P "_law_feed" 522 (.ref 234), dE P "_law_draw" 534 (.ref 241), dE P "_law_line" 540 (.ref 246), dE P "_law_ask" 551 (.ref 253), dE P "_law_asked" 557 (.ref 258), dE P "_law_row" 568 (.ref 265), dE P "_law_rule" 574 (.ref 270), dE P "_law_names" 584 (.ref 277), dE P "_law_drawn" 590 (.ref 282), dE P "_law_shaped" 601 (.ref 289), dE P "_law_bent" 612 (.ref 296), dE P "_law_pot" 618 (.ref 301), dE P "_law_is_taken" 624 (.ref 306), dE P "_law_joined" 630 (.ref 311), dE P "_law_told_join" 643 (.ref 318), dE P "_law_great" 649 (.ref 323), dE P "law" 655 (.ref 328)] 57), #[]⟩) ::
 (nat_lit 23, ⟨(.type "dict"), none, (.dict #[dE P "__module__" 196 (.str "dropsums.errors" 187), dE P "__firstlineno__" 200 (.int 2 199), dE P "__static_attributes__" 201 (.ref 22), dE P "__weakref__" 203 (.ref 25), dE P "__doc__" 204 .none] 3), #[]⟩) ::
 (nat_lit 24, ⟨(.type "type"), none, (.cls ⟨"DropError", [(.type "ValueError")], [(.ref 24), (.type "ValueError"), (.type "Exception"), (.type "BaseException"), (.type "object")], 23, "DropError", true, [], [(.ref 44), (.ref 63), (.ref 82), (.ref 101), (.ref 120), (.ref 139), (.ref 158), (.ref 177)], false, none, false⟩), #[(some (.ref 15)), none, (some (.str "DropError" 189)), (some (.str "DropError" 197)), (some (.builtin "ValueError.__new__")), (some (.bool true))]⟩) ::
 (nat_lit 40, cO "__init__" 219 "NoPot.__init__" 220 221 6 3 3 (.ref 35) (.ref 36) (.ref 37) (.ref 38) (.ref 39) 225 226) ::
 (nat_lit 41, fO "__init__" "NoPot.__init__" (xk (top 2) 0) "dropsums.errors" 187 40) ::
 (nat_lit 43, ⟨(.type "dict"), none, (.dict #[dE P "__module__" 214 (.str "dropsums.errors" 187), dE P "__firstlineno__" 218 (.int 4 217), dE P "__init__" 227 (.ref 41), dE P "__static_attributes__" 230 (.ref 42), dE P "__doc__" 231 .none] 2), #[]⟩) ::
 (nat_lit 44, ⟨(.type "type"), none, (.cls ⟨"NoPot", [(.ref 24)], [(.ref 44), (.ref 24), (.type "ValueError"), (.type "Exception"), (.type "BaseException"), (.type "object")], 43, "NoPot", true, [], [], false, none, false⟩), #[(some (.ref 28)), none, (some (.str "NoPot" 207)), (some (.str "NoPot" 215)), (some (.builtin "ValueError.__new__")), (some (.bool true))]⟩) ::
 (nat_lit 59, cO "__init__" 246 "NoStep.__init__" 247 248 11 2 3 (.ref 54) (.ref 55) (.ref 56) (.ref 57) (.ref 58) 251 252) ::
 (nat_lit 60, fO "__init__" "NoStep.__init__" (xk (top 3) 0) "dropsums.errors" 187 59) ::
 (nat_lit 62, ⟨(.type "dict"), none, (.dict #[dE P "__module__" 241 (.str "dropsums.errors" 187), dE P "__firstlineno__" 245 (.int 9 244), dE P "__init__" 253 (.ref 60), dE P "__static_attributes__" 255 (.ref 61), dE P "__doc__" 256 .none] 2), #[]⟩) ::
 (nat_lit 63, ⟨(.type "type"), none, (.cls ⟨"NoStep", [(.ref 24)], [(.ref 63), (.ref 24), (.type "ValueError"), (.type "Exception"), (.type "BaseException"), (.type "object")], 62, "NoStep", true, [], [], false, none, false⟩), #[(some (.ref 47)), none, (some (.str "NoStep" 234)), (some (.str "NoStep" 242)), (some (.builtin "ValueError.__new__")), (some (.bool true))]⟩) ::
 (nat_lit 78, cO "__init__" 271 "NoAsk.__init__" 272 273 15 2 3 (.ref 73) (.ref 74) (.ref 75) (.ref 76) (.ref 77) 276 277) ::
 (nat_lit 79, fO "__init__" "NoAsk.__init__" (xk (top 4) 0) "dropsums.errors" 187 78) ::
 (nat_lit 81, ⟨(.type "dict"), none, (.dict #[dE P "__module__" 266 (.str "dropsums.errors" 187), dE P "__firstlineno__" 270 (.int 13 269), dE P "__init__" 278 (.ref 79), dE P "__static_attributes__" 280 (.ref 80), dE P "__doc__" 281 .none] 2), #[]⟩) ::
 (nat_lit 82, ⟨(.type "type"), none, (.cls ⟨"NoAsk", [(.ref 24)], [(.ref 82), (.ref 24), (.type "ValueError"), (.type "Exception"), (.type "BaseException"), (.type "object")], 81, "NoAsk", true, [], [], false, none, false⟩), #[(some (.ref 66)), none, (some (.str "NoAsk" 259)), (some (.str "NoAsk" 267)), (some (.builtin "ValueError.__new__")), (some (.bool true))]⟩) ::
 (nat_lit 97, cO "__init__" 296 "NoPaper.__init__" 297 298 19 3 3 (.ref 92) (.ref 93) (.ref 94) (.ref 95) (.ref 96) 302 303) ::
 (nat_lit 98, fO "__init__" "NoPaper.__init__" (xk (top 5) 0) "dropsums.errors" 187 97) ::
 (nat_lit 100, ⟨(.type "dict"), none, (.dict #[dE P "__module__" 291 (.str "dropsums.errors" 187), dE P "__firstlineno__" 295 (.int 17 294), dE P "__init__" 304 (.ref 98), dE P "__static_attributes__" 307 (.ref 99), dE P "__doc__" 308 .none] 2), #[]⟩) ::
 (nat_lit 101, ⟨(.type "type"), none, (.cls ⟨"NoPaper", [(.ref 24)], [(.ref 101), (.ref 24), (.type "ValueError"), (.type "Exception"), (.type "BaseException"), (.type "object")], 100, "NoPaper", true, [], [], false, none, false⟩), #[(some (.ref 85)), none, (some (.str "NoPaper" 284)), (some (.str "NoPaper" 292)), (some (.builtin "ValueError.__new__")), (some (.bool true))]⟩) ::
 (nat_lit 116, cO "__init__" 323 "NoLines.__init__" 324 325 24 2 3 (.ref 111) (.ref 112) (.ref 113) (.ref 114) (.ref 115) 328 329) ::
 (nat_lit 117, fO "__init__" "NoLines.__init__" (xk (top 6) 0) "dropsums.errors" 187 116) ::
 (nat_lit 119, ⟨(.type "dict"), none, (.dict #[dE P "__module__" 318 (.str "dropsums.errors" 187), dE P "__firstlineno__" 322 (.int 22 321), dE P "__init__" 330 (.ref 117), dE P "__static_attributes__" 332 (.ref 118), dE P "__doc__" 333 .none] 2), #[]⟩) ::
 (nat_lit 120, ⟨(.type "type"), none, (.cls ⟨"NoLines", [(.ref 24)], [(.ref 120), (.ref 24), (.type "ValueError"), (.type "Exception"), (.type "BaseException"), (.type "object")], 119, "NoLines", true, [], [], false, none, false⟩), #[(some (.ref 104)), none, (some (.str "NoLines" 311)), (some (.str "NoLines" 319)), (some (.builtin "ValueError.__new__")), (some (.bool true))]⟩) ::
 (nat_lit 135, cO "__init__" 348 "NoFault.__init__" 349 350 28 3 3 (.ref 130) (.ref 131) (.ref 132) (.ref 133) (.ref 134) 354 355) ::
 (nat_lit 136, fO "__init__" "NoFault.__init__" (xk (top 7) 0) "dropsums.errors" 187 135) ::
 (nat_lit 138, ⟨(.type "dict"), none, (.dict #[dE P "__module__" 343 (.str "dropsums.errors" 187), dE P "__firstlineno__" 347 (.int 26 346), dE P "__init__" 356 (.ref 136), dE P "__static_attributes__" 359 (.ref 137), dE P "__doc__" 360 .none] 2), #[]⟩) ::
 (nat_lit 139, ⟨(.type "type"), none, (.cls ⟨"NoFault", [(.ref 24)], [(.ref 139), (.ref 24), (.type "ValueError"), (.type "Exception"), (.type "BaseException"), (.type "object")], 138, "NoFault", true, [], [], false, none, false⟩), #[(some (.ref 123)), none, (some (.str "NoFault" 336)), (some (.str "NoFault" 344)), (some (.builtin "ValueError.__new__")), (some (.bool true))]⟩) ::
 (nat_lit 154, cO "__init__" 375 "NoJoin.__init__" 376 377 33 3 3 (.ref 149) (.ref 150) (.ref 151) (.ref 152) (.ref 153) 381 382) ::
 (nat_lit 155, fO "__init__" "NoJoin.__init__" (xk (top 8) 0) "dropsums.errors" 187 154) ::
 (nat_lit 157, ⟨(.type "dict"), none, (.dict #[dE P "__module__" 370 (.str "dropsums.errors" 187), dE P "__firstlineno__" 374 (.int 31 373), dE P "__init__" 383 (.ref 155), dE P "__static_attributes__" 386 (.ref 156), dE P "__doc__" 387 .none] 2), #[]⟩) ::
 (nat_lit 158, ⟨(.type "type"), none, (.cls ⟨"NoJoin", [(.ref 24)], [(.ref 158), (.ref 24), (.type "ValueError"), (.type "Exception"), (.type "BaseException"), (.type "object")], 157, "NoJoin", true, [], [], false, none, false⟩), #[(some (.ref 142)), none, (some (.str "NoJoin" 363)), (some (.str "NoJoin" 371)), (some (.builtin "ValueError.__new__")), (some (.bool true))]⟩) ::
 (nat_lit 173, cO "__init__" 402 "NoRow.__init__" 403 404 38 2 3 (.ref 168) (.ref 169) (.ref 170) (.ref 171) (.ref 172) 407 408) ::
 (nat_lit 174, fO "__init__" "NoRow.__init__" (xk (top 9) 0) "dropsums.errors" 187 173) ::
 (nat_lit 176, ⟨(.type "dict"), none, (.dict #[dE P "__module__" 397 (.str "dropsums.errors" 187), dE P "__firstlineno__" 401 (.int 36 400), dE P "__init__" 409 (.ref 174), dE P "__static_attributes__" 411 (.ref 175), dE P "__doc__" 412 .none] 2), #[]⟩) ::
 (nat_lit 177, ⟨(.type "type"), none, (.cls ⟨"NoRow", [(.ref 24)], [(.ref 177), (.ref 24), (.type "ValueError"), (.type "Exception"), (.type "BaseException"), (.type "object")], 176, "NoRow", true, [], [], false, none, false⟩), #[(some (.ref 161)), none, (some (.str "NoRow" 390)), (some (.str "NoRow" 398)), (some (.builtin "ValueError.__new__")), (some (.bool true))]⟩) ::
 (nat_lit 185, cO "first_taker" 441 "first_taker" 442 443 53 1 3 (.ref 180) (.ref 181) (.ref 182) (.ref 183) (.ref 184) 447 448) ::
 (nat_lit 186, fO "first_taker" "first_taker" (top 23) "dropsums.pots" 415 185) ::
 (nat_lit 190, cO "noughts" 452 "noughts" 453 454 59 1 3 (.ref 187) (.ref 188) .none .none (.ref 189) 455 456) ::
 (nat_lit 191, fO "noughts" "noughts" (top 25) "dropsums.forms" 450 190) ::
 (nat_lit 195, cO "put_together" 464 "put_together" 465 466 64 3 3 (.ref 192) (.ref 193) .none .none (.ref 194) 467 468) ::
 (nat_lit 196, fO "put_together" "put_together" (top 29) "dropsums.together" 458 195) ::
 (nat_lit 202, cO "places_of" 470 "places_of" 471 472 75 3 3 (.ref 197) (.ref 198) (.ref 199) (.ref 200) (.ref 201) 480 481) ::
 (nat_lit 203, fO "places_of" "places_of" (top 30) "dropsums.together" 458 202) ::
 (nat_lit 207, cO "called_by" 483 "called_by" 484 485 86 2 3 (.ref 204) (.ref 205) .none .none (.ref 206) 486 487) ::
 (nat_lit 208, fO "called_by" "called_by" (top 31) "dropsums.together" 458 207) ::
 (nat_lit 212, cO "rules_laid" 489 "rules_laid" 490 491 88 3 3 (.ref 209) (.ref 210) .none .none (.ref 211) 492 493) ::
 (nat_lit 213, fO "rules_laid" "rules_laid" (top 32) "dropsums.together" 458 212) ::
 (nat_lit 219, cO "laid" 495 "laid" 496 497 90 3 3 (.ref 214) (.ref 215) (.ref 216) (.ref 217) (.ref 218) 504 505) ::
 (nat_lit 220, fO "laid" "laid" (top 33) "dropsums.together" 458 219) ::
 (nat_lit 226, cO "look_at_bounds" 507 "look_at_bounds" 508 509 95 1 3 (.ref 221) (.ref 222) (.ref 223) (.ref 224) (.ref 225) 511 512) ::
 (nat_lit 227, fO "look_at_bounds" "look_at_bounds" (top 34) "dropsums.together" 458 226) ::
 (nat_lit 233, cO "_law_feed" 516 "_law_feed" 517 518 105 1 3 (.ref 228) (.ref 229) (.ref 230) (.ref 231) (.ref 232) 520 521) ::
 (nat_lit 234, fO "_law_feed" "_law_feed" (top 36) "law_dropsums_k52_put_together" 514 233) ::
 (nat_lit 240, cO "_law_draw" 523 "_law_draw" 524 525 107 2 3 (.ref 235) (.ref 236) (.ref 237) (.ref 238) (.ref 239) 532 533) ::
 (nat_lit 241, fO "_law_draw" "_law_draw" (top 37) "law_dropsums_k52_put_together" 514 240) ::
 (nat_lit 245, cO "_law_line" 535 "_law_line" 536 537 122 3 3 (.ref 242) (.ref 243) .none .none (.ref 244) 538 539) ::
 (nat_lit 246, fO "_law_line" "_law_line" (top 38) "law_dropsums_k52_put_together" 514 245) ::
 (nat_lit 252, cO "_law_ask" 541 "_law_ask" 542 543 124 3 3 (.ref 247) (.ref 248) (.ref 249) (.ref 250) (.ref 251) 549 550) ::
 (nat_lit 253, fO "_law_ask" "_law_ask" (top 39) "law_dropsums_k52_put_together" 514 252) ::
 (nat_lit 264, cO "_law_row" 558 "_law_row" 559 560 141 3 3 (.ref 259) (.ref 260) (.ref 261) (.ref 262) (.ref 263) 566 567) ::
 (nat_lit 265, fO "_law_row" "_law_row" (top 41) "law_dropsums_k52_put_together" 514 264) ::
 (nat_lit 269, cO "_law_rule" 569 "_law_rule" 570 571 146 2 3 (.ref 266) (.ref 267) .none .none (.ref 268) 572 573) ::
 (nat_lit 270, fO "_law_rule" "_law_rule" (top 42) "law_dropsums_k52_put_together" 514 269) ::
 (nat_lit 276, cO "_law_names" 575 "_law_names" 576 577 154 2 3 (.ref 271) (.ref 272) (.ref 273) (.ref 274) (.ref 275) 582 583) ::
 (nat_lit 277, fO "_law_names" "_law_names" (top 43) "law_dropsums_k52_put_together" 514 276) ::
 (nat_lit 281, cO "_law_drawn" 585 "_law_drawn" 586 587 158 2 3 (.ref 278) (.ref 279) .none .none (.ref 280) 588 589) ::
 (nat_lit 282, fO "_law_drawn" "_law_drawn" (top 44) "law_dropsums_k52_put_together" 514 281) ::
 (nat_lit 288, cO "_law_shaped" 591 "_law_shaped" 592 593 167 1 3 (.ref 283) (.ref 284) (.ref 285) (.ref 286) (.ref 287) 599 600) ::
 (nat_lit 289, fO "_law_shaped" "_law_shaped" (top 45) "law_dropsums_k52_put_together" 514 288) ::
 (nat_lit 295, cO "_law_bent" 602 "_law_bent" 603 604 186 3 3 (.ref 290) (.ref 291) (.ref 292) (.ref 293) (.ref 294) 610 611) ::
 (nat_lit 296, fO "_law_bent" "_law_bent" (top 46) "law_dropsums_k52_put_together" 514 295) ::
 (nat_lit 300, cO "_law_pot" 613 "_law_pot" 614 615 196 1 3 (.ref 297) (.ref 298) .none .none (.ref 299) 616 617) ::
 (nat_lit 301, fO "_law_pot" "_law_pot" (top 47) "law_dropsums_k52_put_together" 514 300) ::
 (nat_lit 305, cO "_law_is_taken" 619 "_law_is_taken" 620 621 212 1 3 (.ref 302) (.ref 303) .none .none (.ref 304) 622 623) ::
 (nat_lit 306, fO "_law_is_taken" "_law_is_taken" (top 48) "law_dropsums_k52_put_together" 514 305) ::
 (nat_lit 310, cO "_law_joined" 625 "_law_joined" 626 627 217 3 3 (.ref 307) (.ref 308) .none .none (.ref 309) 628 629) ::
 (nat_lit 311, fO "_law_joined" "_law_joined" (top 49) "law_dropsums_k52_put_together" 514 310) ::
 (nat_lit 317, cO "_law_told_join" 631 "_law_told_join" 632 633 245 3 3 (.ref 312) (.ref 313) (.ref 314) (.ref 315) (.ref 316) 641 642) ::
 (nat_lit 318, fO "_law_told_join" "_law_told_join" (top 50) "law_dropsums_k52_put_together" 514 317) ::
 (nat_lit 322, cO "_law_great" 644 "_law_great" 645 646 258 2 3 (.ref 319) (.ref 320) .none .none (.ref 321) 647 648) ::
 (nat_lit 323, fO "_law_great" "_law_great" (top 51) "law_dropsums_k52_put_together" 514 322) ::
 (nat_lit 327, cO "law" 650 "law" 651 652 273 1 3 (.ref 324) (.ref 325) .none .none (.ref 326) 653 654) ::
 (nat_lit 328, fO "law" "law" (top 52) "law_dropsums_k52_put_together" 514 327) :: []
def KA : List Addr := 3 :: 23 :: 24 :: 40 :: 41 :: 43 :: 44 :: 59 :: 60 :: 62 :: 63 :: 78 :: 79 :: 81 :: 82 :: 97 :: 98 :: 100 :: 101 :: 116 :: 117 :: 119 :: 120 :: 135 :: 136 :: 138 :: 139 :: 154 :: 155 :: 157 :: 158 :: 173 :: 174 :: 176 :: 177 :: 185 :: 186 :: 190 :: 191 :: 195 :: 196 :: 202 :: 203 :: 207 :: 208 :: 212 :: 213 :: 219 :: 220 :: 226 :: 227 :: 233 :: 234 :: 240 :: 241 :: 245 :: 246 :: 252 :: 253 :: 264 :: 265 :: 269 :: 270 :: 276 :: 277 :: 281 :: 282 :: 288 :: 289 :: 295 :: 296 :: 300 :: 301 :: 305 :: 306 :: 310 :: 311 :: 317 :: 318 :: 322 :: 323 :: 327 :: 328 :: []
theorem ke : ∀ P, KA = (KK P).map (·.1) := fun _ => by kernel_rfl
def VW : Program := { PySem.Challenge.pw_dropsums_k52_put_together with main := { PySem.Challenge.pw_dropsums_k52_put_together.main with body := ([1, 2, 3, 4, 5, 6, 7, 8, 9, 11, 12, 13, 14, 15, 16, 17, 18, 19, 20, 21, 22, 23, 25, 27, 28, 29, 30, 31, 32, 33, 34, 36, 37, 38, 39, 40, 41, 42, 43, 44, 45, 46, 47, 48, 49, 50, 51, 52] : List Nat).map top } }
abbrev RR := PySem.Challenge.rw_dropsums_k52_put_together.row
theorem said0 : PySem.Challenge.rw_dropsums_k52_put_together.wellSaid = true := by decide +kernel
theorem left0 : PySem.W.LeftO RR.prog VW [] (fun s => PySem.W.xlAt VW [] s && PySem.W.recOk (PySem.W.RowW.records RR.toRowW) s) (PySem.W.Hook.obs (PySem.W.kHook KK KA ke)) (PySem.W.Hook.val (PySem.W.kHook KK KA ke)) 6234 := fun w => by kernel_rfl
end K52
namespace L2
open PySem PySem.Spec PyProof.Rows
section
variable {P : Program} {w : World} {A : Around} {R : Result → Shared → Prop} {s : Shared}
theorem vF {elt tgt iter : Expr} {ifs : List Expr} {scope : Scope} {pos : Pos} {it acc : Value} {env : Env} (J : Nat → Shared → Prop)
  (turn : ∀ n s, J n s → wpAny (model P w) A (pyNext it) (fun r c₁ => match r with
   | none => R (.ok .next) c₁
   | some v => wpAny (model P w) A (letOwnedTupleGo tgt it v) (fun _ d₁ => wpAny (model P w) A (assign tgt env v) (fun _ c₂ =>
     wpAny (model P w) A (forIn ifs true fun c r => if r = true then do let ok ← isTrue c env (eval c env); pure (ForInStep.yield ok) else pure (ForInStep.yield r)) (fun ok c₃ =>
      if ok = true then wpAny (model P w) A (eval elt env) (fun x c₄ =>
       wpAny (model P w) A (call (.builtin "list.append") [acc, x]) (fun _ c₅ => ∃ m, m < n ∧ J m c₅) (notedBy (model P w) A env fun e s' => R (.error e) s') c₄) (notedBy (model P w) A env fun e s' => R (.error e) s') c₃
      else ∃ m, m < n ∧ J m c₃) (notedBy (model P w) A env fun e s' => R (.error e) s') c₂) (notedBy (model P w) A env fun e s' => R (.error e) s') d₁) (notedBy (model P w) A env fun e s' => R (.error e) s') c₁) (notedBy (model P w) A env fun e s' => R (.error e) s') s)
  (n : Nat) (hn : J n s) :
  codeAny (model P w) A (.compLoop (.ListComp elt [⟨tgt, iter, ifs, 0⟩] scope pos) 0 it acc env) R s := by
 refine codeAny_loop rfl J (fun n s hJ => ?_) n hn
 show wpAny _ A ((compTurn (.ListComp elt [⟨tgt, iter, ifs, 0⟩] scope pos) 0 it acc env).onRaise (fun x => do noteFrame x env; theTreesLotGoes x)) _ _ s
 refine wpAny_noted ?_
 rw [compTurn_list]
 refine wpAny_bind (wpAny_standAt (wpAny_bind (wpAny_mono (turn n s hJ) (fun r c₁ e₁ => ?_) fun _ _ z => z)))
 cases r with
 | none => exact wpAny_pure e₁
 | some v =>
  refine wpAny_bind (wpAny_mono e₁ (fun _ d₁ f₁ => ?_) fun _ _ z => z)
  refine wpAny_bind (wpAny_mono f₁ (fun _ c₂ e₂ => wpAny_bind (wpAny_mono e₂ (fun ok c₃ e₃ => ?_) fun _ _ z => z)) fun _ _ z => z)
  cases ok with
  | false => exact wpAny_pure ⟨rfl, e₃⟩
  | true =>
   exact wpAny_bind (wpAny_bind (wpAny_mono e₃ (fun x c₄ e₄ => wpAny_bind (wpAny_mono e₄ (fun _ c₅ e₅ => wpAny_pure (wpAny_pure ⟨rfl, e₅⟩)) fun _ _ z => z)) fun _ _ z => z))
end
def cloF (env : Env) : List (Str × NameKind) → List (Str × Addr) → List (Str × Addr)
 | [], acc => acc
 | (n, k) :: r, acc => if k = .free then cloF env r ((n, (env.cells.lookup n).getD 0) :: acc) else cloF env r acc
theorem vn {env : Env} : ∀ (names : List (Str × NameKind)) (acc : List (Str × Addr)), (∀ x ∈ names, x.2 = .free → ∃ c, env.cells.lookup x.1 = some c) →
  (forIn names acc (fun (x : Str × NameKind) (cs : List (Str × Addr)) => (if (x.2 == NameKind.free) = true then do let a ← cellOf env x.1; pure (ForInStep.yield ((x.1, a) :: cs)) else pure (ForInStep.yield cs) : Sem (ForInStep (List (Str × Addr))))) : Sem (List (Str × Addr))) = pure (cloF env names acc)
 | [], acc, _ => by simp [cloF]
 | (n, k) :: r, acc, h => by
  have ih := fun acc => vn (env := env) r acc fun x hx => h x (List.mem_cons_of_mem _ hx)
  rw [List.forIn_cons]
  by_cases hk : k = .free
  ·subst hk
   obtain ⟨c, hc⟩ := h (n, .free) List.mem_cons_self rfl
   have hc' : env.cells.lookup n = some c := hc
   have e : cellOf env n = pure c := by unfold cellOf; rw [hc']
   simp only [cloF, if_true, hc', Option.getD_some, beq_self_eq_true, e, pure_bind]
   exact ih _
  ·have hb : (k == NameKind.free) = false := by simpa using hk
   simp only [cloF, hk, if_false, hb, Bool.false_eq_true, pure_bind]
   exact ih _
theorem vo {env : Env} {scope : Scope} (h : ∀ x ∈ scope.names, x.2 = .free → ∃ c, env.cells.lookup x.1 = some c) : closureFor scope env = pure (cloF env scope.names []) := by
 rw [← vn scope.names [] h]
 unfold closureFor
 simp only [bind_pure]
theorem yn {env : Env} {y : Str} : ∀ (names : List (Str × NameKind)) (acc : List (Str × Addr)), (cloF env names acc).lookup y = if (y, NameKind.free) ∈ names then some ((env.cells.lookup y).getD 0) else acc.lookup y
 | [], acc => by simp [cloF]
 | (n, k) :: r, acc => by
  unfold cloF
  by_cases hk : k = .free
  ·subst hk
   rw [if_pos rfl, yn r]
   by_cases hy : y = n
   ·subst hy
    simp [List.lookup_cons]
   ·have hb : (y == n) = false := by simpa using hy
    simp [List.lookup_cons, hb, hy]
  ·rw [if_neg hk, yn r]
   have : ¬ ((y, NameKind.free) = (n, k)) := by
    intro e
    exact hk (Prod.mk.inj e).2.symm
   simp [this]
structure CScope (o sc : Scope) (TN F : List Str) : Prop where
 okind : o.kind = .function
 kind : sc.kind = .function
 nocell : ∀ y ∈ sc.names, y.2 ≠ .cell
 names : ∀ y ∈ sc.names, y.2 = .local → sc.names.lookup y.1 = some .local
 fr : ∀ y ∈ sc.names, y.2 = .free → o.names.lookup y.1 = some .cell ∧ sc.names.lookup y.1 = some .free
 ff : ∀ y ∈ F, (y, NameKind.free) ∈ sc.names
theorem xh {env : Env} {y : Str} (hk : env.scope.kind = .function) (hc : env.kindOf y = some .cell) : ∀ {names : List (Str × NameKind)}, names.lookup y = some .free →
  (names.map fun (n, k) => if (k == NameKind.free && env.scope.kind == .function && env.kindOf n == some .cell) then (n, NameKind.cell) else (n, k)).lookup y = some .cell
 | [], h => by simp at h
 | (n, k) :: r, h => by
  have ih := @xh env y hk hc r
  show List.lookup y ((if (k == NameKind.free && env.scope.kind == .function && env.kindOf n == some .cell) = true then (n, NameKind.cell) else (n, k)) :: _) = _
  cases hx : y == n with
  | true =>
   rw [List.lookup_cons, hx] at h
   cases h
   have e : y = n := by simpa using hx
   subst e
   rw [if_pos (by simp [hk, hc])]
   simp [List.lookup_cons]
  | false =>
   rw [List.lookup_cons, hx] at h
   by_cases hc' : (k == NameKind.free && env.scope.kind == .function && env.kindOf n == some .cell) = true
   ·rw [if_pos hc']; simp only [List.lookup_cons, hx]; exact ih h
   ·rw [if_neg hc']; simp only [List.lookup_cons, hx]; exact ih h
theorem we {env : Env} {y : Str} : ∀ {names : List (Str × NameKind)}, (∀ z ∈ names, z.2 ≠ .cell) →
    ((names.map fun (n, k) => if (k == NameKind.free && env.scope.kind == .function && env.kindOf n == some .cell) then (n, NameKind.cell) else (n, k)).lookup y = some .cell ∨
     (names.map fun (n, k) => if (k == NameKind.free && env.scope.kind == .function && env.kindOf n == some .cell) then (n, NameKind.cell) else (n, k)).lookup y = some .free) → (y, NameKind.free) ∈ names
  | [], _, h => by simp at h
  | (n, k) :: r, hn, h => by
    have ih := @we env y r fun z hz => hn z (List.mem_cons_of_mem _ hz)
    have h' : List.lookup y ((if (k == NameKind.free && env.scope.kind == .function && env.kindOf n == some .cell) = true then (n, NameKind.cell) else (n, k)) :: (r.map fun (n, k) => if (k == NameKind.free && env.scope.kind == .function && env.kindOf n == some .cell) then (n, NameKind.cell) else (n, k))) = some .cell ∨
      List.lookup y ((if (k == NameKind.free && env.scope.kind == .function && env.kindOf n == some .cell) = true then (n, NameKind.cell) else (n, k)) :: (r.map fun (n, k) => if (k == NameKind.free && env.scope.kind == .function && env.kindOf n == some .cell) then (n, NameKind.cell) else (n, k))) = some .free := h
    clear h
    cases hx : y == n with
    | true =>
      have e : y = n := by simpa using hx
      subst e
      by_cases hc' : (k == NameKind.free && env.scope.kind == .function && env.kindOf y == some .cell) = true
      · have hk : k = .free := by
          have := (Bool.and_eq_true _ _ ▸ (Bool.and_eq_true _ _ ▸ hc').1).1
          simpa using this
        subst hk
        exact List.mem_cons_self
      · rw [if_neg hc'] at h'
        simp only [List.lookup_cons, beq_self_eq_true] at h'
        rcases h' with h' | h'
        · cases h'
          exact absurd rfl (hn _ List.mem_cons_self)
        · cases h'
          exact List.mem_cons_self
    | false =>
      by_cases hc' : (k == NameKind.free && env.scope.kind == .function && env.kindOf n == some .cell) = true
      · rw [if_pos hc'] at h'; simp only [List.lookup_cons, hx] at h'; exact List.mem_cons_of_mem _ (ih h')
      · rw [if_neg hc'] at h'; simp only [List.lookup_cons, hx] at h'; exact List.mem_cons_of_mem _ (ih h')
def cxC (X : Cx) (N : List Str) (sc : Scope) (cl : List (Str × Addr)) (C : Addr) (fp : List Addr) (s₃ : Shared) (H₃ : Hp) (xe : Value → Shared → Prop) : Cx :=
 { X with N := N, s₀ := s₃, H₀ := H₃, env := compEnvC sc cl C X.env, outer := X.stack, ex := fp, fn := fun _ => false, pn := [], xe := xe }
def sub (ix : List Nat) (σ : St) : St := ix.map fun i => (σ[i]?).join
theorem inv_comp {X : Cx} {pins : List (Addr × Obj)} {σ : St} {H : Hp} {s : Shared} {sc : Scope} {TN F : List Str} {ix : List Nat} {fp : List Addr} {h4 : Heap} {tk : Nat} {m : Str → Option Value} {xe : Value → Shared → Prop}
  (S : CScope X.env.scope sc TN F) (hix : ix.map (fun i => X.N[i]?) = F.map some) (I : Inv X pins σ H s) (hf : ∀ b ∈ fp, FpOk X pins H b) (ho : ∀ b ∈ fp, ∃ o, s.heap.get? b = some o)
  (hk : ∀ b o, s.heap.get? b = some o → h4.get? b = some o) (hn : h4.Ns s.heap.objs.size m) :
  Inv (cxC X (TN ++ F) sc (cloF X.env sc.names []) s.heap.objs.size fp s H xe) [] (List.replicate TN.length none ++ sub ix σ) H { s with heap := h4, toks := tk } := by
 have cl : ∀ x c, (cloF X.env sc.names []).lookup x = some c → X.env.cells.lookup x = some c := fun x c e => by
  rw [yn] at e
  by_cases hx : (x, NameKind.free) ∈ sc.names
  ·rw [if_pos hx] at e
   obtain ⟨c', hc'⟩ := I.ok.has x (.inl (S.fr _ hx rfl).1)
   rw [hc'] at e ⊢
   exact e
  ·rw [if_neg hx] at e
   cases e
 have cl' : ∀ x, (x, NameKind.free) ∈ sc.names → (cloF X.env sc.names []).lookup x = X.env.cells.lookup x := fun x hx => by
  rw [yn, if_pos hx]
  obtain ⟨c', hc'⟩ := I.ok.has x (.inl (S.fr _ hx rfl).1)
  rw [hc']
  rfl
 have hlen : ix.length = F.length := by
  have := congrArg List.length hix
  simpa using this
 refine ⟨⟨I.ok.mod, S.kind, I.ok.glob, I.ok.blt, Nat.le_refl _, fun x y c h1 h2 => I.ok.inj x y c (cl x c h1) (cl y c h2), fun x hx => ?_, fun x c z => (nomatch z), I.ok.hd, I.ok.frames, .inl rfl, fun b hb => ⟨?_, fun x c e => (hf b hb).2.2.2.2.1 x c (cl x c e)⟩,
  I.bs, Nat.le_trans I.ok.bsz I.sz, fun b o e hb => ?_, fun b hb hfs => ?_, I.stack, I.stkFree⟩, rfl, I.bare, Un.kept hk, ⟨m, hn, fun i x v h1 h2 h3 => ?_⟩, fun x c e => ?_, I.hok.fresh (Nat.le_refl _), fun x c e => I.freeC x c (cl x c e), fun p hp => absurd (show p ∈ ([] : List (Addr × Obj)) from hp) (by simp), I.hok.kept hk, ?_⟩
 ·have hx' : (x, NameKind.free) ∈ sc.names := we (env := X.env) S.nocell hx
  obtain ⟨c, hc⟩ := I.ok.has x (.inl (S.fr _ hx' rfl).1)
  exact ⟨c, (cl' x hx').trans hc⟩
 ·obtain ⟨o, e⟩ := ho b hb
  exact Nat.ne_of_lt (Heap.lt_size e)
 ·rcases (hf b hb).2.2.2.1 with z | z
  ·exact I.ok.noex b o e z
  ·exact absurd (Nat.lt_of_lt_of_le (Heap.lt_size e) (Nat.le_trans I.ok.bsz z)) (Nat.lt_irrefl _)
 ·rcases List.mem_cons.mp (I.stkSub b hfs) with z | z
  ·exact (hf b hb).2.1 z
  ·exact (hf b hb).2.2.1 z
 ·have hi : TN.length ≤ i := by
   apply Nat.le_of_not_lt
   intro hlt
   rw [List.getElem?_append_left (by simpa using hlt), List.getElem?_replicate] at h2
   split at h2 <;> cases h2
  rw [List.getElem?_append_right (by simpa using hi), List.length_replicate] at h2
  have h1' : F[i - TN.length]? = some x := by
   have : (TN ++ F)[i]? = some x := h1
   rw [List.getElem?_append_right hi] at this
   exact this
  have e3 := congrArg (fun l => l[i - TN.length]?) hix
  simp only [List.getElem?_map, h1', Option.map_some] at e3
  unfold sub at h2
  rw [List.getElem?_map] at h2
  cases ej : ix[i - TN.length]? with
  | none => rw [ej] at h2; cases h2
  | some k =>
   rw [ej] at h2 e3
   have h2' : (σ[k]?).join = some v := Option.some.inj h2
   have e3' : X.N[k]? = some x := Option.some.inj e3
   have hσ : σ[k]? = some (some v) := by
    cases e : σ[k]? with
    | none => rw [e] at h2'; cases h2'
    | some q =>
     rw [e] at h2'
     have : q = some v := h2'
     rw [this]
   have hfr := S.ff x (List.mem_of_getElem? h1')
   have hcell := (S.fr _ hfr rfl).1
   obtain ⟨m0, hn0, hl0⟩ := I.loc
   obtain ⟨u, r, l⟩ := hl0 k x v e3' hσ (.inr (.inl hcell))
   refine ⟨u, r, ?_⟩
   rcases l with ⟨l1, _⟩ | ⟨_, c, hc, o, ho', hd⟩
   ·have l1' : X.env.scope.names.lookup x = some .local := l1
    rw [hcell] at l1'
    cases l1'
   ·exact .inr ⟨.inl (xh (env := X.env) S.okind hcell (S.fr _ hfr rfl).2), c, (cl' x hfr).trans hc, o, hk c o ho', hd⟩
 ·obtain ⟨v, o, ho', hd⟩ := I.cell x c (cl x c e)
  exact ⟨v, o, hk c o ho', hd⟩
 ·show _ = (TN ++ F).length
  rw [List.length_append, List.length_append, List.length_replicate]
  unfold sub
  rw [List.length_map, hlen]
def PTs (X : Cx) (ifs : List Expr) (tc : TT) : Prop :=
 ∀ (pins : List (Addr × Obj)) (s : Shared) (σ : St) (H : Hp) (Q : Bool → Hp → Prop), Inv X pins σ H s → tc σ H Q →
  wpAny (model X.prog X.w) X.A (forIn ifs true fun c r => if r = true then do let ok ← isTrue c X.env (eval c X.env); pure (ForInStep.yield ok) else pure (ForInStep.yield r)) (TP X pins σ Q) X.xe s
def tAll : TT := fun _ H Q => Q true H
theorem ye {X : Cx} : PTs X [] tAll := fun _ _ _ H _ I h => wpAny_tests_nil ⟨H, I, h⟩
theorem wf {X : Cx} {c : Expr} {tc : TT} (hc : PT X c tc) : PTs X [c] tc := fun pins s σ H Q I h => wpAny_tests_one (hc pins s σ H Q I h)
def CGo (J : It) (D : Addr) (g : TG) (tc : TT) (te : TE) (Q : VK) (σ : St) (H : Hp) : Prop :=
 ∃ W : Nat → Nat → St → List V → Hp → Prop, (∃ m, W 0 m σ [] (upd H D (.lst []))) ∧ ∀ i m τ ys H, W i m τ ys H → H D = some (.lst ys) ∧
  ((J.stop i H ∧ Q (.ref D) H) ∨ (J.go i H ∧ ∀ v H', J.yld i H v H' → g v τ H' fun τ2 H2 => tc τ2 H2 fun b H3 =>
   if b = true then te τ2 H3 fun y H4 => H4 D = some (.lst ys) ∧ ys.length < sizeLine ∧ ∃ m', m' < m ∧ W (i + 1) m' τ2 (ys ++ [y]) (upd H4 D (.lst (ys ++ [y])))
   else ∃ m', m' < m ∧ W (i + 1) m' τ2 ys H3))
def wa (wi : TI) (n : Nat) (ix : List Nat) (g : TG) (tc : TT) (te : TE) : TE := fun σ H Q => wi σ H fun J H1 => ∀ D, H1 D = none → CGo J D g tc te Q (List.replicate n none ++ sub ix σ) H1
theorem vK {X : Cx} {pins : List (Addr × Obj)} {σ : St} {H : Hp} {s : Shared} {D : Addr} {ys : List V} {y : V} {u : Value} {Q : Value → Shared → Prop} {E : Value → Shared → Prop} (I : Inv X pins σ H s) (hD : H D = some (.lst ys)) (hz : ys.length < sizeLine) (r : RelV y u)
  (h : ∀ s', Inv X pins σ (upd H D (.lst (ys ++ [y]))) s' → Q .none s') : wpAny (model X.prog X.w) X.A (call (.builtin "list.append") [.ref D, u]) Q E s := by
 obtain ⟨z, its, n, rr, hl, e⟩ := I.lstM hD
 refine call_meets F.slot_list_append ⟨_, e, rfl⟩ F.entry_list_append (F.args_list_append_2 _ _) (PySem.list_append D its.toArray n u (by rw [List.size_toArray]; omega)) ⟨e, ?_⟩
 refine h _ (I.lset (its' := its ++ [u]) hD e (by simp) (rr.append (.cons r .nil)) ?_)
 rw [List.length_append, List.length_singleton]
 omega
theorem vk {X : Cx} {pins : List (Addr × Obj)} {σ : St} {H : Hp} {s : Shared} {sc : Scope} {TN F : List Str} {ix : List Nat} {elt tg iter : Expr} {ifs : List Expr} {pos : Pos} {g : TG} {tc : TT} {te : TE} {J : It} {fp : List Addr} {it : Addr} {tn : Nat → Heap → Prop} {Q : VK}
  {RR : Value → Addr → Result → Shared → Prop} {E : Value → Shared → Prop}
  (S : CScope X.env.scope sc TN F) (hix : ix.map (fun i => X.N[i]?) = F.map some) (hc : X.calm = true) (I : Inv X pins σ H s) (T : Turn X.prog X.w X.K tg J fp it tn) (st : tn 0 s.heap) (hf : ∀ b ∈ fp, FpOk X pins H b)
  (hg : ∀ cl C fp s3 H3 xe, PG (cxC X (TN ++ F) sc cl C fp s3 H3 xe) tg g) (ht : ∀ cl C fp s3 H3 xe, PTs (cxC X (TN ++ F) sc cl C fp s3 H3 xe) ifs tc) (he : ∀ cl C fp s3 H3 xe, PE (cxC X (TN ++ F) sc cl C fp s3 H3 xe) elt te)
  (hW : ∀ D, H D = none → CGo J D g tc te Q (List.replicate TN.length none ++ sub ix σ) H)
  (fin : ∀ D C H' s', Inv X pins σ H' s' → (∃ m, s'.heap.Ns C m) → H' C = none → C ≠ X.env.locals → X.s₀.heap.objs.size ≤ C → (∀ x c, X.env.cells.lookup x = some c → c ≠ C) → (∀ p ∈ X.pn ++ pins, p.1 ≠ C) → Q (.ref D) H' → RR (.ref D) C (.ok .next) s') :
  wpAny (model X.prog X.w) X.A (newList []) (fun acc s₃ => wpAny (model X.prog X.w) X.A (newFunctionEnv sc X.env.globals (cloF X.env sc.names []) [] X.env.qual none .none (some X.env)) (fun cenv s₄ =>
   codeAny (model X.prog X.w) X.A (.compStart (.ListComp elt [⟨tg, iter, ifs, 0⟩] sc pos) 0 (.ref it) acc { cenv with scope := relabel sc X.env }) (RR acc cenv.locals) s₄) E s₃) E s := by
 have hfo : ∀ b ∈ fp, ∃ o, s.heap.get? b = some o := fun b hb => let ⟨o, e, _⟩ := T.obj 0 _ st b hb; ⟨o, e⟩
 refine wpAny_newObj_type ?_
 obtain ⟨W, ⟨m0, w0⟩, go⟩ := hW s.heap.objs.size I.fresh
 have I3 : Inv X pins σ (upd H s.heap.objs.size (.lst [])) { s with heap := s.heap.push { cls := .type "list", data := .seq ([] : List Value).toArray } } := I.lnew (its := []) (ys := []) (t' := s.toks) .nil (Nat.zero_le _)
 generalize hs3 : ({ s with heap := s.heap.push { cls := .type "list", data := .seq ([] : List Value).toArray } } : Shared) = s3 at I3
 have hk3 : ∀ b o, s.heap.get? b = some o → s3.heap.get? b = some o := fun b o e => by
  rw [← hs3]
  exact Heap.get?_push_of_some _ e
 have hf3 : ∀ b ∈ fp, FpOk X pins (upd H s.heap.objs.size (.lst [])) b := fun b hb => by
  obtain ⟨o, e⟩ := hfo b hb
  exact ⟨by rw [zl (Nat.ne_of_lt (Heap.lt_size e))]; exact (hf b hb).1, (hf b hb).2⟩
 have st3 : tn 0 s3.heap := T.keep 0 _ _ st fun b hb o e => hk3 b o e
 show wpAny _ _ _ _ _ s3
 refine wpAny_newFunctionEnv S.nocell (by intro y hy; simp at hy) (fun h4 hn4 hsb => ?_) S.kind
 have hk4 : ∀ b o, s3.heap.get? b = some o → h4.get? b = some o := fun b o e => (hsb.2 b (Nat.ne_of_lt (Heap.lt_size e))).trans (Heap.get?_push_of_some _ e)
 generalize hR : RR (.ref s.heap.objs.size) s3.heap.objs.size = R
 have loop : ∀ s4 : Shared, s4 = { s3 with heap := h4, toks := s3.toks + ([] : List (Str × Value)).length } →
   codeAny (model X.prog X.w) X.A (.compLoop (.ListComp elt [⟨tg, iter, ifs, 0⟩] sc pos) 0 (.ref it) (.ref s.heap.objs.size) (compEnvC sc (cloF X.env sc.names []) s3.heap.objs.size X.env)) R s4 := by
  rintro s4 rfl
  let X' : Cx := cxC X (TN ++ F) sc (cloF X.env sc.names []) s3.heap.objs.size fp s3 (upd H s.heap.objs.size (.lst [])) (notedBy (model X.prog X.w) X.A (compEnvC sc (cloF X.env sc.names []) s3.heap.objs.size X.env) fun e s' => R (.error e) s')
  have I4 : Inv X' [] (List.replicate TN.length none ++ sub ix σ) (upd H s.heap.objs.size (.lst [])) { s3 with heap := h4, toks := s3.toks + ([] : List (Str × Value)).length } :=
   inv_comp S hix I3 hf3 (fun b hb => let ⟨o, e⟩ := hfo b hb; ⟨o, hk3 b o e⟩) hk4 hn4
  have fpx : ∀ {H' : Hp}, (∀ b ∈ fp, H' b = none) → ∀ b ∈ fp, FpOk X' [] H' b := fun {H'} hn b hb => by
   refine ⟨hn b hb, (I4.ok.exf b hb).1, fun z => I4.ok.exfs b hb z, .inl hb, fun x c e => (I4.ok.exf b hb).2 x c e, fun p hp => absurd (show p ∈ ([] : List (Addr × Obj)) from hp) (by simp)⟩
  refine vF (fun n s' => ∃ i τ ys H', Inv X' [] τ H' s' ∧ tn i s'.heap ∧ (∀ b ∈ fp, H' b = none) ∧ W i n τ ys H') ?_ m0 ⟨0, _, [], _, I4, T.keep 0 _ _ st3 fun b hb o e => hk4 b o e, fun b hb => (hf3 b hb).1, w0⟩
  rintro n s5 ⟨i, τ, ys, H5, I5, st5, fr5, w5⟩
  obtain ⟨hD, hgo⟩ := go i n τ ys H5 w5
  rcases hgo with ⟨stop, q⟩ | ⟨hgo, step⟩
  ·refine thn (T.done X' rfl rfl rfl hc i [] s5 τ H5 X'.xe I5 (fpx fr5) st5 stop) fun r s6 ⟨hr, I6⟩ => ?_
   subst hr
   show R (.ok .next) s6
   rw [← hR]
   have J6 : Inv X pins σ H5 s6 := I3.call' (ch := fp) I6.os I6.base I6.hok I6.bare fun b hb => ⟨(hf3 b hb).2.2.2.1, (hf3 b hb).2.1, (hf3 b hb).2.2.2.2.1, (hf3 b hb).2.2.2.2.2⟩
   refine fin s.heap.objs.size s3.heap.objs.size H5 s6 J6 (let ⟨m, hn, _⟩ := I6.loc; ⟨m, hn⟩) I6.free (Nat.ne_of_gt I3.lt) I3.sz (fun x c e z => ?_) (fun p hp z => ?_) q
   ·obtain ⟨v, o, ho, _⟩ := I3.cell x c e
    exact absurd (Heap.lt_size ho) (by rw [z]; exact Nat.lt_irrefl _)
   ·exact absurd (Heap.lt_size (I3.pin p hp).1) (by rw [z]; exact Nat.lt_irrefl _)
  ·refine thn (T.item X' rfl rfl rfl hc i [] s5 τ H5 X'.xe I5 (fpx fr5) st5 hgo) fun r s6 ⟨u, hr, h6⟩ => ?_
   subst hr
   refine thn h6 fun _ s7 ⟨v, H7, I7, r7, y7, st7, fr7⟩ => ?_
   have I7' := I7.pinned (fpx fr7) (T.obj _ _ st7)
   refine thn (hg _ _ _ _ _ _ _ s7 τ H7 v u _ I7' r7 (step v H7 y7)) fun _ s8 ⟨τ8, H8, I8, q8⟩ => ?_
   refine thn (ht _ _ _ _ _ _ _ s8 τ8 H8 _ I8 q8) fun ok s9 ⟨H9, I9, q9⟩ => ?_
   have again : ∀ {ys' : List V} {H' : Hp} {s' : Shared}, Inv X' ([] ++ ww fp s7.heap) τ8 H' s' → (∃ m', m' < n ∧ W (i + 1) m' τ8 ys' H') → ∃ m, m < n ∧ ∃ i τ ys H'', Inv X' [] τ H'' s' ∧ tn i s'.heap ∧ (∀ b ∈ fp, H'' b = none) ∧ W i m τ ys H'' := fun {ys' H' s'} I' ⟨m', hm, w'⟩ => by
    refine ⟨m', hm, i + 1, τ8, ys', H', I'.unpinned, T.keep _ _ _ st7 fun b hb o e => (I'.pin (b, o) (List.mem_append_right _ (List.mem_append_right _ (yx hb e)))).1, fun b hb => ?_, w'⟩
    obtain ⟨o, e, d⟩ := T.obj _ _ st7 b hb
    exact (I'.pin (b, o) (List.mem_append_right _ (List.mem_append_right _ (yx hb e)))).2.1
   cases ok with
   | false =>
    exact again I9 q9
   | true =>
    refine thn (he _ _ _ _ _ _ _ s9 τ8 H9 _ I9 q9) fun x s10 ⟨y, H10, I10, r10, hD10, hz10, q10⟩ => ?_
    exact vK (X := X') I10 hD10 hz10 r10 fun s11 I11 => again I11 q10
 subst hR
 exact codeAny_compStart_list (loop _ rfl) (T.self X.A 0 _ _ _ (T.keep 0 _ _ st3 fun b hb o e => hk4 b o e) (loop _ rfl))
section
variable {X : Cx} {sc : Scope} {TN F : List Str} {ix : List Nat} {elt tg iter : Expr} {ifs : List Expr} {pos : Pos} {g : TG} {tc : TT} {te : TE} {wi : TI}
theorem vm (S : CScope X.env.scope sc TN F) {pins : List (Addr × Obj)} {σ : St} {H : Hp} {s : Shared} (I : Inv X pins σ H s) : closureFor sc X.env = pure (cloF X.env sc.names []) :=
 vo fun x hx hk => I.ok.has x.1 (.inl (S.fr x hx hk).1)
theorem zY (S : CScope X.env.scope sc TN F) (hix : ix.map (fun i => X.N[i]?) = F.map some) (hc : X.calm = true) (hi : PI X tg iter wi)
  (hg : ∀ cl C fp s3 H3 xe, PG (cxC X (TN ++ F) sc cl C fp s3 H3 xe) tg g) (ht : ∀ cl C fp s3 H3 xe, PTs (cxC X (TN ++ F) sc cl C fp s3 H3 xe) ifs tc) (he : ∀ cl C fp s3 H3 xe, PE (cxC X (TN ++ F) sc cl C fp s3 H3 xe) elt te)
  (hs : ∀ x, foldedSetIterable iter X.env x = pure x := by intro _; rfl) : PE X (.ListComp elt [⟨tg, iter, ifs, 0⟩] sc pos) (wa wi TN.length ix g tc te) := by
 intro pins s σ H Q I h
 rw [eval_ListComp]
 refine wpAny_comprehension_free (use := none) rfl hs (vm S I) S.kind S.names (thn (hi pins s σ H _ I h) fun v s1 h1 => thn h1 fun itv s2 h2 => ?_)
 obtain ⟨it, fp, tn, J, H2, e, I2, T, st2, f2, q2⟩ := h2
 subst e
 refine vk (RR := fun acc C => compPost (model X.prog X.w) X.A X.xe none (EP X pins σ Q) acc C) S hix hc I2 T st2 f2 hg ht he q2 fun D C H' s' I' hn hC1 hC2 hC3 hC4 hC5 q => ?_
 obtain ⟨m, hn⟩ := hn
 exact ⟨m, hn, fun h' hs' => ⟨.ref D, H', I'.turned (t' := s'.toks) (fun b o hb e => (hs'.2 b hb).trans e) hC1 hC2 (.inr hC3) hC4 hC5, rfl, q⟩⟩
theorem Z9 {i : Nat} {y : Str} {py spos : Pos} (hN : X.N.Nodup) (hiy : X.N[i]? = some y) (hy : X.env.scope.names.lookup y = some .local) (S : CScope X.env.scope sc TN F) (hix : ix.map (fun i => X.N[i]?) = F.map some) (hc : X.calm = true) (hi : PI X tg iter wi)
  (hg : ∀ cl C fp s3 H3 xe, PG (cxC X (TN ++ F) sc cl C fp s3 H3 xe) tg g) (ht : ∀ cl C fp s3 H3 xe, PTs (cxC X (TN ++ F) sc cl C fp s3 H3 xe) ifs tc) (he : ∀ cl C fp s3 H3 xe, PE (cxC X (TN ++ F) sc cl C fp s3 H3 xe) elt te)
  (hsw : swapsWith (.ListComp elt [⟨tg, iter, ifs, 0⟩] sc pos) (some (.Name y py)) spos.line X.env = pure true := by rfl)
  (hs : ∀ x, foldedSetIterable iter X.env x = pure x := by intro _; rfl) : PS X (.Assign [.Name y py] (.ListComp elt [⟨tg, iter, ifs, 0⟩] sc pos) spos) (tAsg (wa wi TN.length ix g tc te) (yi i)) := by
 intro pins s σ H D I h
 rw [exec_Assign_Name_used _ _ _ _ hsw]; refine wpAny_bind (wpAny_standAt (wpAny_bind ?_))
 show wpAny _ X.A (do let _ ← comprehension (.ListComp elt [⟨tg, iter, ifs, 0⟩] sc pos) sc X.env _ (newList []) false (eval iter X.env) (some (assign (.Name y py) X.env))) _ _ s
 refine wpAny_bind (wpAny_mono (wpAny_comprehension_free (use := some (assign (.Name y py) X.env)) (Q := fun _ s' => SP X pins D .next s') rfl hs (vm S I) S.kind S.names
  (thn (hi pins s σ H _ I h) fun v s1 h1 => thn h1 fun itv s2 h2 => ?_)) (fun _ s' hq => wpAny_pure (wpAny_pure hq)) fun _ _ e => e)
 obtain ⟨it, fp, tn, J, H2, e, I2, T, st2, f2, q2⟩ := h2
 subst e
 refine vk (RR := fun acc C => compPost (model X.prog X.w) X.A X.xe (some (assign (.Name y py) X.env)) (fun _ s' => SP X pins D .next s') acc C) S hix hc I2 T st2 f2 hg ht he q2 fun Dl C H' s' I' hn hC1 hC2 hC3 hC4 hC5 q => ?_
 obtain ⟨m, hn⟩ := hn
 show wpAny _ X.A (assign (.Name y py) X.env (.ref Dl)) _ _ _
 refine wpAny_assign_Name (vx I' hN hiy (.inl hy) (show RelV (.ref Dl) (.ref Dl) from rfl) (fun s'' I'' ⟨a, hsb, ha⟩ => ?_) (.inr hy))
 have haC : C ≠ a := by
  rcases ha with z | z
  ·rw [z]; exact hC2
  ·exact fun z' => hC4 y a z z'.symm
 refine ⟨m, hn.sameBut hsb haC, fun h' hs' => ?_⟩
 exact ⟨_, H', I''.turned (t' := s''.toks) (fun b o hb e => (hs'.2 b hb).trans e) hC1 hC2 (.inr hC3) hC4 hC5, q⟩
end
def Z6 (H : Hp) (p : Addr) : Option (List V) := match H p with
 | some (.lst xs) => some xs
 | some (.tup xs) => some xs
 | _ => none
def dAt (H : Hp) (x y : V) : Option V := match x, y with
 | .ref p, .int i => (Z6 H p).bind fun xs => atI xs i
 | _, _ => none
def rIxd : R2 := fun x y H Q => ∃ v, dAt H x y = some v ∧ Q v H
section
variable {X : Cx}
theorem ix_d : IxR X rIxd := by
 intro value slice pins s σ H x y v u Q I rx ry h hs
 refine ix_seq value slice pins s σ H x y v u Q I rx ry ?_ hs
 obtain ⟨z, e, q⟩ := h
 unfold dAt at e
 split at e
 case h_2 => cases e
 case h_1 p i =>
  unfold Z6 at e
  split at e
  case h_1 xs hp => exact .inl ⟨_, xs, _, z, rfl, rfl, SqL.of hp, e, q⟩
  case h_2 xs hp => exact .inr (.inl ⟨_, xs, _, z, rfl, rfl, SqT.of hp, e, q⟩)
  case h_3 => cases e
theorem ziq {X : Cx} {a b : Expr} {ta tb : TE} {pos : Pos} (ha : PE X a ta) (hb : PE X b tb) (hs : PlainIx b := by exact fun _ _ => rfl) : PE X (.Subscript a b pos) (tOp rIxd ta tb) := zo ix_d ha hb hs
def dSet (H : Hp) (o i v : V) : Option Hp := match o, i with
 | .ref p, .int k => match H p with
  | some (.lst xs) => (ixN xs.length k).map fun j => upd H p (.lst (xs.set j v))
  | _ => none
 | _, _ => none
def Xr : V → V → V → Hp → (Hp → Prop) → Prop := fun o i v H Q => ∃ H', dSet H o i v = some H' ∧ Q H'
theorem xK : PSet X Xr := by
 intro pins s σ H o i v ov iv u Q I ro ri rv h
 refine set_list pins s σ H o i v ov iv u Q I ro ri rv ?_
 obtain ⟨H', e, q⟩ := h
 unfold dSet at e
 split at e
 case h_2 => cases e
 case h_1 p k =>
  split at e
  case h_2 => cases e
  case h_1 xs hp =>
   cases ej : ixN xs.length k with
   | none => rw [ej] at e; cases e
   | some j =>
    rw [ej] at e
    cases e
    exact ⟨p, xs, k, j, rfl, rfl, hp, ej, q⟩
end
section
variable {σ : St} {H : Hp} {Q : VK} {D : Ends} {t u : TS} {te ta tb : TE} {tr : TA} {g : TG} {r : R2} {x y v : V} {c : TT} {QB : Bool → Hp → Prop} {QL : List V → Hp → Prop} {QG : St → Hp → Prop} {n : Nat}
theorem wR (h : t { D with nx := u D } σ H) : tSeq t u D σ H := h
theorem wT (h : D.nx σ H) : Xi D σ H := h
theorem Zj (h : te σ H fun x H1 => g x σ H1 D.nx) : tAsg te g D σ H := h
theorem yy {i : Nat} (h : QG (σ.set i (some v)) H) : yi i v σ H QG := h
theorem w_op (h : ta σ H fun x H1 => tb σ H1 fun y H2 => r x y H2 Q) : tOp r ta tb σ H Q := h
theorem xS {i : Nat} (e : σ[i]? = some (some v)) (h : Q v H) : tVar i σ H Q := ⟨v, e, h⟩
theorem w_c (h : Q v H) : tC v σ H Q := h
theorem Ze {k : Int → Int → V} {i j : Int} (h : Q (k i j) H) : rI0 k (.int i) (.int j) H Q := ⟨i, j, rfl, rfl, h⟩
theorem w_rI {C : Int → Int → Prop} {k : Int → Int → V} {i j : Int} (hc : C i j) (h : Q (k i j) H) : rI C k (.int i) (.int j) H Q := ⟨i, j, rfl, rfl, hc, h⟩
theorem Zh {b : TS} (h : c σ H fun b' H1 => if b' = true then t D σ H1 else b D σ H1) : tIfS c t b D σ H := h
theorem Zi (h : c σ H fun b' H1 => if b' = true then ta σ H1 Q else tb σ H1 Q) : tIf c ta tb σ H Q := h
theorem wQ (h : te σ H fun x H' => ∃ k, x = .bl k ∧ QB k H') : Xf te σ H QB := h
theorem w_tb (h : te σ H fun x H' => ∃ k, x = .bl k ∧ QB k H') : tB te σ H QB := h
theorem w_bl {b : Bool} {P : Bool → Prop} (h : P b) : ∃ k, V.bl b = .bl k ∧ P k := ⟨b, rfl, h⟩
theorem w_not (h : c σ H fun b H1 => QB (!b) H1) : tNot c σ H QB := h
theorem Zd (h : te σ H D.rt) : tRet te D σ H := h
theorem Zf (h : QL [] H) : tNil σ H QL := h
theorem w4 (h : te σ H fun x H1 => tr σ H1 fun xs H2 => QL (x :: xs) H2) : x9 te tr σ H QL := h
theorem Zg (h : tr σ H fun xs H1 => xs.length ≤ sizeLine ∧ ∀ p, H1 p = none → Q (.ref p) (upd H1 p (.lst xs))) : tLst tr σ H Q := h
theorem Zc (h : tr σ H fun xs H1 => xs.length ≤ sizeLine ∧ ∀ p, H1 p = none → Q (.ref p) (upd H1 p (.tup xs))) : tTup tr σ H Q := h
theorem w_cb {r : List V → Hp → VK → Prop} (h : tr σ H fun vs H1 => r vs H1 Q) : tCB r tr σ H Q := h
theorem w8 {sp : Sp} {dvs : List V} {E : XK} (h : tr σ H fun vs H1 => sp (vs ++ dvs) H1 Q E) : Z1 sp dvs E tr σ H Q := h
theorem wV {to ti : TE} {ts : TSet} (h : to σ H fun o H1 => ti σ H1 fun i H2 => ts o i v H2 fun H3 => QG σ H3) : gSub to ti ts v σ H QG := h
theorem yd {p : Addr} {xs : List V} {i : Int} (hp : H p = some (.lst xs)) (e : atI xs i = some v) (h : Q v H) : rIxd (.ref p) (.int i) H Q := ⟨v, by simp only [dAt, Z6, hp, Option.bind_some, e], h⟩
theorem zm {p : Addr} {xs : List V} {i : Int} (hp : H p = some (.tup xs)) (e : atI xs i = some v) (h : Q v H) : rIxd (.ref p) (.int i) H Q := ⟨v, by simp only [dAt, Z6, hp, Option.bind_some, e], h⟩
theorem xo {p : Addr} {xs : List V} {i : Int} {j : Nat} {QH : Hp → Prop} (hp : H p = some (.lst xs)) (e : ixN xs.length i = some j) (h : QH (upd H p (.lst (xs.set j v)))) : Xr (.ref p) (.int i) v H QH :=
 ⟨_, by simp only [dSet, hp, e, Option.map_some], h⟩
theorem Zk {c d : TT} (h : c σ H fun b H1 => if b = true then d σ H1 QB else QB false H1) : tAnd c d σ H QB := h
theorem w_or {c d : TT} (h : c σ H fun b H1 => if b = true then QB true H1 else d σ H1 QB) : tOr c d σ H QB := h
theorem iteD {p A B : Prop} [Decidable p] (h1 : p → A) (h2 : ¬ p → B) : if decide p = true then A else B := by
 by_cases h : p
 ·rw [decide_eq_true h, if_pos rfl]
  exact h1 h
 ·rw [decide_eq_false h, if_neg Bool.false_ne_true]
  exact h2 h
end
def Has (P : Program) (w : World) (K : W.Frag) (mg : Str → Option Value) (base : Heap) (k : Nat) (x : Str) (ps : List Str) (sp : Sp) : Prop :=
 ∃ f fd, FnOk P w K mg base CX0 k f fd ps sp ∧ mg x = some (.ref f) ∧ PySem.W.keepIn K (.ref f) = true ∧ Binds K fd ps []
theorem pe_fn {X : Cx} {k j : Nat} {x : Str} {ps : List Str} {sp : Sp} {e : Expr} {es : List Expr} {t : TA} {p pos : Pos} (h : Has X.prog X.w X.K X.mg X.base k x ps sp) (hr : Room j X.A) (hkj : k ≤ j) (ha : PA X (e :: es) t) (hg : Gl X x := by rfl)
  (hdb : (x == ("__debug__" : Str)) = false := by decide) (he : starEach (e :: es) X.env = (false, eval e X.env) :: starEach es X.env := by rfl) (hpl : (backTo pos (starEach es X.env)).any (·.1) = false := by rfl) :
  PE X (.Call (.Name x p) (e :: es) [] pos) (Z1 sp [] E0 t) := by
 obtain ⟨f, fd, F, hm, hk, hb⟩ := h
 exact pe_call F (hr.mono hkj) hg hm hk hb .nil pass0 ha hdb he hpl
section
variable {lo : Int} {n : Nat} {D : Addr} {te : TE} {tc : TT} {Q : VK} {ρ : St} {H : Hp}
theorem ym (Pv : Nat → List V → Hp → Prop) (h0 : Pv 0 [] (upd H D (.lst [])))
  (hs : ∀ i ys H', i < n → Pv i ys H' → H' D = some (.lst ys) → ∀ (R : V → Hp → Prop) (S : Hp → Prop), (∀ y H4, H4 D = some (.lst ys) → ys.length < sizeLine → Pv (i + 1) (ys ++ [y]) (upd H4 D (.lst (ys ++ [y]))) → R y H4) → (∀ H3, H3 D = some (.lst ys) → Pv (i + 1) ys H3 → S H3) →
   tc (some (.int (lo + i)) :: ρ) H' fun b H3 => if b = true then te (some (.int (lo + i)) :: ρ) H3 R else S H3)
  (hd : ∀ ys H', Pv n ys H' → H' D = some (.lst ys) → Q (.ref D) H') : CGo (Itr lo n) D (yi 0) tc te Q (none :: ρ) H := by
 refine ⟨fun i m τ ys H' => m = n - i ∧ i ≤ n ∧ (∃ tv, τ = tv :: ρ) ∧ Pv i ys H' ∧ H' D = some (.lst ys), ⟨n, by omega, Nat.zero_le _, ⟨_, rfl⟩, h0, zi⟩, ?_⟩
 rintro i m τ ys H' ⟨rfl, hi, ⟨tv, rfl⟩, hp, hD⟩
 refine ⟨hD, ?_⟩
 by_cases hlt : i < n
 ·refine .inr ⟨hlt, ?_⟩
  rintro v H'' ⟨rfl, rfl⟩
  show tc (some (.int (lo + i)) :: ρ) _ _
  exact hs i ys _ hlt hp hD _ _ (fun y H4 a b c => ⟨a, b, n - (i + 1), by omega, rfl, hlt, ⟨_, rfl⟩, c, zi⟩) fun H3 a c => ⟨n - (i + 1), by omega, rfl, hlt, ⟨_, rfl⟩, c, a⟩
 ·have e : i = n := by omega
  subst e
  exact .inl ⟨Nat.le_refl _, hd ys _ hp hD⟩
theorem wn {K : W.Frag} {a : Addr} {xs : List V} (Pv : Nat → List V → Hp → Prop) (h0 : Pv 0 [] (upd H D (.lst []))) (hl : ∀ i ys H', i ≤ xs.length → Pv i ys H' → SqT K H' a xs)
  (hs : ∀ i x ys H', xs[i]? = some x → Pv i ys H' → H' D = some (.lst ys) → ∀ (R : V → Hp → Prop) (S : Hp → Prop), (∀ y H4, H4 D = some (.lst ys) → ys.length < sizeLine → Pv (i + 1) (ys ++ [y]) (upd H4 D (.lst (ys ++ [y]))) → R y H4) → (∀ H3, H3 D = some (.lst ys) → Pv (i + 1) ys H3 → S H3) →
   tc (some x :: ρ) H' fun b H3 => if b = true then te (some x :: ρ) H3 R else S H3)
  (hd : ∀ ys H', Pv xs.length ys H' → H' D = some (.lst ys) → Q (.ref D) H') : CGo (Itt K a) D (yi 0) tc te Q (none :: ρ) H := by
 refine ⟨fun i m τ ys H' => m = xs.length - i ∧ i ≤ xs.length ∧ (∃ tv, τ = tv :: ρ) ∧ Pv i ys H' ∧ H' D = some (.lst ys), ⟨xs.length, by omega, Nat.zero_le _, ⟨_, rfl⟩, h0, zi⟩, ?_⟩
 rintro i m τ ys H' ⟨rfl, hi, ⟨tv, rfl⟩, hp, hD⟩
 refine ⟨hD, ?_⟩
 have sq := hl i ys H' hi hp
 by_cases hlt : i < xs.length
 ·refine .inr ⟨⟨xs, xs[i], sq, by simp [hlt]⟩, ?_⟩
  rintro v H'' ⟨rfl, hv⟩
  have hv' := hv xs sq
  show tc (some v :: ρ) _ _
  exact hs i v ys _ hv' hp hD _ _ (fun y H4 a b c => ⟨a, b, xs.length - (i + 1), by omega, rfl, hlt, ⟨_, rfl⟩, c, zi⟩) fun H3 a c => ⟨xs.length - (i + 1), by omega, rfl, hlt, ⟨_, rfl⟩, c, a⟩
 ·have e : i = xs.length := by omega
  subst e
  exact .inl ⟨⟨xs, sq, Nat.le_refl _⟩, hd ys _ hp hD⟩
end
theorem xJ {σ : St} {H : Hp} {Q : Bool → Hp → Prop} (h : Q true H) : tAll σ H Q := h
def yC (sc o : Scope) : Scope :=
 { sc with names := sc.names.map fun (n, k) => if (k == .free && o.kind == .function && o.names.lookup n == some .cell) then (n, .cell) else (n, k) }
instance {sc : Scope} {x : Str} : Decidable (Vis sc x) := by unfold Vis; infer_instance
structure BScope (o sc : Scope) (TN F G : List Str) : Prop extends CScope o sc TN F where
 nd : (TN ++ F).Nodup
 vis : ∀ x ∈ TN ++ F, Vis (yC sc o) x
 loc : ∀ x ∈ TN, (yC sc o).names.lookup x = some .local
 gl : ∀ x ∈ G, (yC sc o).names.lookup x = some .globalImplicit
section
variable {X : Cx} {sc : Scope} {TN F G : List Str} {cl : List (Str × Addr)} {C : Addr} {fp : List Addr} {s3 : Shared} {H3 : Hp} {xe : Value → Shared → Prop} {x : Str} {pos : Pos}
theorem pvb (S : BScope X.env.scope sc TN F G) (i : Nat) (hN : (TN ++ F)[i]? = some x := by rfl) (hd : (x == ("__debug__" : Str)) = false := by decide) (hcd : (x == ("__classdict__" : Str)) = false := by decide) : PE (cxC X (TN ++ F) sc cl C fp s3 H3 xe) (.Name x pos) (tVar i) :=
 vT hN (S.vis x (List.mem_of_getElem? hN)) hd hcd
theorem pgb (S : BScope X.env.scope sc TN F G) (i : Nat) (hN : (TN ++ F)[i]? = some x := by rfl) (hT : TN[i]? = some x := by rfl) : PG (cxC X (TN ++ F) sc cl C fp s3 H3 xe) (.Name x pos) (yi i) :=
 wI S.nd hN (.inl (S.loc x (List.mem_of_getElem? hT))) (.inr (S.loc x (List.mem_of_getElem? hT)))
theorem BScope.g (S : BScope X.env.scope sc TN F G) (i : Nat) (hG : G[i]? = some x := by rfl) : Gl (cxC X (TN ++ F) sc cl C fp s3 H3 xe) x := S.gl x (List.mem_of_getElem? hG)
end
def ZZ (vs : List V) : TA := fun _ H Q => Q vs H
theorem wP {vs : List V} {σ : St} {H : Hp} {Q : List V → Hp → Prop} (h : Q vs H) : ZZ vs σ H Q := h
instance {sc : Scope} {x : Str} : Decidable (Loc sc x) := by unfold Loc; infer_instance
structure Nm (N : List Str) (sc : Scope) : Prop where
 nd : N.Nodup
 loc : ∀ x ∈ N, Loc sc x
section
variable {X : Cx} {x : Str} {pos : Pos}
theorem Loc.vis {sc : Scope} (h : Loc sc x) : Vis sc x := h.elim .inl fun z => .inr (.inl z)
theorem pvd (M : Nm X.N X.env.scope) (i : Nat) (hN : X.N[i]? = some x := by rfl) (hd : (x == ("__debug__" : Str)) = false := by decide) (hcd : (x == ("__classdict__" : Str)) = false := by decide) : PE X (.Name x pos) (tVar i) :=
 vT hN (M.loc x (List.mem_of_getElem? hN)).vis hd hcd
theorem zq {e : Expr} {te : TE} {pos' : Pos} (M : Nm X.N X.env.scope) (i : Nat) (he : PE X e te) (hi : X.N[i]? = some x := by rfl) (hs : swapsWith e (some (.Name x pos')) pos.line X.env = pure false := by rfl) (hf : X.fn x = true := by rfl) :
  PS X (.Assign [.Name x pos'] e pos) (tAsg te (yi i)) := ps_set M.nd hi (M.loc x (List.mem_of_getElem? hi)) he hs (.inl hf)
theorem pgd (M : Nm X.N X.env.scope) (i : Nat) (hi : X.N[i]? = some x := by rfl) (hf : X.fn x = true := by rfl) : PG X (.Name x pos) (yi i) := wI M.nd hi (M.loc x (List.mem_of_getElem? hi)) (.inl hf)
end
section
variable {ta : TA} {tl : TE} {n : Nat} {ix : List Nat} {g : TG} {tc : TT} {te : TE} {σ : St} {H : Hp} {Q : VK}
theorem xW (h : ta σ H fun vs H1 => ∃ j : Int, vs = [.int j] ∧ -(2 ^ 62) ≤ j ∧ j < 2 ^ 62 ∧ ∀ D, H1 D = none → CGo (Itr 0 j.toNat) D g tc te Q (List.replicate n none ++ sub ix σ) H1) : wa (Ym ta) n ix g tc te σ H Q := h
theorem xV {K : W.Frag} (h : tl σ H fun x H1 => ∃ a, x = .ref a ∧ (∃ xs, SqT K H1 a xs) ∧ ∀ D, H1 D = none → CGo (Itt K a) D g tc te Q (List.replicate n none ++ sub ix σ) H1) : wa (iTup K tl) n ix g tc te σ H Q := h
end
def ForJ (J : It) (g : TG) (tb : TS) (D : Ends) (σ : St) (H1 : Hp) : Prop := ∃ W : Nat → Nat → St → Hp → Prop, (∃ m, W 0 m σ H1) ∧ ∀ i m σ H, W i m σ H →
 (J.stop i H ∧ D.nx σ H) ∨ (J.go i H ∧ ∃ N : St → Hp → Prop, (∀ σ' H', N σ' H' → ∃ m', m' < m ∧ W (i + 1) m' σ' H') ∧ ∀ x H', J.yld i H x H' → g x σ H' fun σ2 H2 => tb { D with nx := N, ct := N, bk := D.nx } σ2 H2)
theorem wX {ta : TA} {g : TG} {tb : TS} {D : Ends} {σ : St} {H : Hp} (h : ta σ H fun vs H1 => ∃ j : Int, vs = [.int j] ∧ -(2 ^ 62) ≤ j ∧ j < 2 ^ 62 ∧ ForJ (Itr 0 j.toNat) g tb D σ H1) : tFor (Ym ta) g tb D σ H := h
theorem wW {K : W.Frag} {tl : TE} {g : TG} {tb : TS} {D : Ends} {σ : St} {H : Hp} (h : tl σ H fun x H1 => ∃ a, x = .ref a ∧ (∃ xs, SqT K H1 a xs) ∧ ForJ (Itt K a) g tb D σ H1) : tFor (iTup K tl) g tb D σ H := h
theorem wY {K : W.Frag} {tl : TE} {g : TG} {tb : TS} {D : Ends} {σ : St} {H : Hp} (h : tl σ H fun x H1 => ∃ a, x = .ref a ∧ (∃ xs, SqL K H1 a xs) ∧ ForJ (Itl K a) g tb D σ H1) : tFor (Y6 K tl) g tb D σ H := h
def zX : Expr → Bool
 | .Starred .. => true
 | _ => false
theorem xm {e : Expr} {es : List Expr} {env : Env} (h : zX e = false) : starEach (e :: es) env = (false, eval e env) :: starEach es env := by
 cases e <;> first | rfl | cases h
theorem yB {env : Env} {pos : Pos} : ∀ {es : List Expr}, es.all (fun e => !zX e) = true → (backTo pos (starEach es env)).any (·.1) = false
 | [], _ => rfl
 | e :: es, h => by
  rw [List.all_cons, Bool.and_eq_true] at h; rw [xm (by simpa using h.1)]
  cases es with
  | nil => rfl
  | cons a r =>
   have ih := yB (env := env) (pos := pos) (es := a :: r) h.2
   rw [xm (by simpa using (by simpa using h.2 : zX a = false ∧ _).1)] at ih ⊢
   exact ih
section
variable {X : Cx} {e a : Expr} {es : List Expr} {te : TE} {t ta : TA} {x : Str} {p pos : Pos} {tg : Expr} {id T : String} {r : List V → Hp → VK → Prop}
theorem pa_c (ha : PE X e te) (hr : PA X es t) (h : zX e = false := by rfl) : PA X (e :: es) (x9 te t) := Yh ha hr (xm h)
theorem yD (hm : X.mg "range" = none) (ha : PA X [a] ta) (hg : Gl X "range" := by rfl) (h : zX a = false := by rfl) : PI X tg (.Call (.Name "range" p) [a] [] pos) (Ym ta) := pi_range1 hg hm ha (xm h)
theorem zJ (hc : yk X (.builtin id) r) (hm : X.mg x = none) (hv : bootBuiltins x = some (.builtin id)) (ha : PA X (e :: es) t) (hg : Gl X x := by rfl) (h : zX e = false := by rfl) (h2 : es.all (fun e => !zX e) = true := by rfl) (hn : x ≠ "__name__" := by decide) (hdb : (x == ("__debug__" : Str)) = false := by decide) :
  PE X (.Call (.Name x p) (e :: es) [] pos) (tCB r t) := pe_callB hc hg hm hv ha hn hdb (xm h) (yB h2)
theorem zU (hc : yk X (.type T) r) (hm : X.mg x = none) (hv : bootBuiltins x = some (.type T)) (ha : PA X (e :: es) t) (hg : Gl X x := by rfl) (h : zX e = false := by rfl) (h2 : es.all (fun e => !zX e) = true := by rfl) (hn : x ≠ "__name__" := by decide) (hdb : (x == ("__debug__" : Str)) = false := by decide) :
  PE X (.Call (.Name x p) (e :: es) [] pos) (tCB r t) := pe_callTy hc hg hm hv ha hn hdb (xm h) (yB h2)
theorem pe_f {k j : Nat} {ps : List Str} {sp : Sp} (h : Has X.prog X.w X.K X.mg X.base k x ps sp) (hr : Room j X.A) (hkj : k ≤ j) (ha : PA X (e :: es) t) (hg : Gl X x := by rfl) (h1 : zX e = false := by rfl) (h2 : es.all (fun e => !zX e) = true := by rfl)
  (hdb : (x == ("__debug__" : Str)) = false := by decide) : PE X (.Call (.Name x p) (e :: es) [] pos) (Z1 sp [] E0 t) := pe_fn h hr hkj ha hg hdb (xm h1) (yB h2)
end
end L2
namespace L2
theorem pa_1 {X : Cx} {e : PySem.Expr} {te : TE} (ha : PE X e te) (h : zX e = false := by rfl) : PA X [e] (x9 te tNil) := pa_c ha yL h
theorem pa_2 {X : Cx} {e e' : PySem.Expr} {te te' : TE} (ha : PE X e te) (hb : PE X e' te') (h : zX e = false := by rfl) (h' : zX e' = false := by rfl) : PA X [e, e'] (x9 te (x9 te' tNil)) := pa_c ha (pa_1 hb h') h
end L2
namespace L2
open PySem PySem.Spec PyProof.Rows
theorem wZ {te : TE} {D : Ends} {σ : St} {H : Hp} (h : te σ H fun _ H1 => D.nx σ H1) : Xj te D σ H := h
theorem w_bm {K : W.Frag} {T : String} {r : V → List V → Hp → VK → Prop} {to : TE} {t : TA} {σ : St} {H : Hp} {Q : VK} (h : to σ H fun x H1 => tyV K T x H1 ∧ t σ H1 fun xs H2 => r x xs H2 Q) : tBM K T r to t σ H Q := h
mutual
inductive RdV (H : Hp) : V → PyData → Prop
 | non : RdV H .non .none
 | bl (b : Bool) : RdV H (.bl b) (.bool b)
 | int (i : Int) : RdV H (.int i) (.int i)
 | str (x : Str) : RdV H (.str x) (.str x)
 | lst {p : Addr} {xs : List V} {ds : List PyData} : H p = some (.lst xs) → RdVs H xs ds → RdV H (.ref p) (.list ds)
 | tup {p : Addr} {xs : List V} {ds : List PyData} : H p = some (.tup xs) → RdVs H xs ds → RdV H (.ref p) (.tuple ds)
 | ftup {p : Addr} {o : Obj} {xs : List V} {ds : List PyData} : H p = some (.frz o (.tup xs)) → RdVs H xs ds → RdV H (.ref p) (.tuple ds)
inductive RdVs (H : Hp) : List V → List PyData → Prop
 | nil : RdVs H [] []
 | cons {v : V} {d : PyData} {vs : List V} {ds : List PyData} : RdV H v d → RdVs H vs ds → RdVs H (v :: vs) (d :: ds)
end
section
variable {X : Cx} {pins : List (Addr × Obj)} {σ : St} {H : Hp} {s : Shared}
mutual
theorem RdV.reads (I : Inv X pins σ H s) {v : V} {d : PyData} : RdV H v d → ∀ {u : Value}, RelV v u → ∃ as, Reads s.heap u d as
 | .non, u, r => by
  cases r
  exact ⟨[], .none⟩
 | .bl b, u, r => by
  cases r
  exact ⟨[], .bool b⟩
 | .int i, u, r => by
  obtain ⟨t, rfl⟩ := r
  exact ⟨[], .int i t⟩
 | .str x, u, r => by
  obtain ⟨t, rfl⟩ := r
  exact ⟨[], .str x t⟩
 | .lst (p := p) hp h, u, r => by
  cases r
  obtain ⟨its, n, rv, e, z⟩ := I.lst hp
  obtain ⟨as, q⟩ := RdVs.reads I h rv
  exact ⟨p :: as, .list e rfl rfl (by simpa using q)⟩
 | .tup (p := p) hp h, u, r => by
  cases r
  obtain ⟨z, its, rv, o, e, c, n, d⟩ := I.hok p _ hp
  obtain ⟨as, q⟩ := RdVs.reads I h rv
  exact ⟨as, .tuple e c d (by simpa using q)⟩
 | .ftup (p := p) hp h, u, r => by
  cases r
  obtain ⟨_, z, its, rv, o, e, c, n, d⟩ := I.hok p _ hp
  obtain ⟨as, q⟩ := RdVs.reads I h rv
  exact ⟨as, .tuple e c d (by simpa using q)⟩
theorem RdVs.reads (I : Inv X pins σ H s) {vs : List V} {ds : List PyData} : RdVs H vs ds → ∀ {us : List Value}, Vals vs us → ∃ as, ReadsAll s.heap us ds as
 | .nil, us, r => by
  cases r
  exact ⟨[], .nil⟩
 | .cons h hs, us, r => by
  cases r with
  | cons r1 r2 =>
   obtain ⟨as, q⟩ := RdV.reads I h r1
   obtain ⟨bs, q2⟩ := RdVs.reads I hs r2
   exact ⟨as ++ bs, .cons q q2⟩
end
end
theorem yV {H : Hp} : ∀ (ns : List Int), RdVs H (ns.map V.int) (ns.map PyData.int)
 | [] => .nil
 | n :: ns => .cons (.int n) (yV ns)
section
variable {X : Cx} {k : Nat}
def rEqD : R2 := fun x y H Q => ∃ dx dy, RdV H x dx ∧ RdV H y dy ∧ dx.canLay0 = true ∧ dy.canLay0 = true ∧ dx.depth ≤ 60 ∧ Q (.bl (PyData.eqv dx dy)) H
theorem op_eqD (hr : Room k X.A) : OpR X (compareOp .Eq) rEqD := by
 intro pins s σ H x y v u Q I rx ry h
 obtain ⟨dx, dy, hx, hy, cx, cy, hd, q⟩ := h
 obtain ⟨as, ra⟩ := hx.reads I rx
 obtain ⟨bs, rb⟩ := hy.reads I ry
 have := hr.units
 exact SeqAt.compareEq_reads ra rb cx cy (by omega) ⟨.bl _, H, I, rfl, q⟩
def Xs : List V → Hp → VK → Prop := fun xs H Q => ∃ v d, xs = [v] ∧ RdV H v d ∧ d.showable = true ∧ d.hasDict = false ∧ d.depth ≤ 50 ∧ d.shown.length ≤ sizeLine ∧ Q (.str d.shown) H
theorem xI (hr : Room k X.A) : yk X (.builtin "repr") Xs := by
 intro pins s σ H xs us Q I r h
 obtain ⟨v, d, rfl, hv, h1, h2, h3, h4, q⟩ := h
 obtain ⟨u, rfl, ru⟩ := r.one
 have hu := hr.units
 cases hv with
 | non =>
  cases ru
  exact PySem.P.repr_of_none ⟨.str _, H, I.tok _, ⟨_, rfl⟩, q⟩
 | bl b =>
  cases ru
  exact PySem.P.repr_of_bool ⟨.str _, H, I.tok _, ⟨_, rfl⟩, q⟩
 | int i =>
  obtain ⟨t, rfl⟩ := ru
  exact PySem.P.repr_of_int (by simpa [PyData.showable] using h1) ⟨.str _, H, I.tok _, ⟨_, rfl⟩, q⟩
 | str x =>
  obtain ⟨t, rfl⟩ := ru
  exact PySem.P.repr_of_str ⟨.str _, H, I.tok _, ⟨_, rfl⟩, q⟩ h4
 | lst hp hs =>
  obtain ⟨as, ra⟩ := RdV.reads I (.lst hp hs) ru
  cases ru
  exact repr_of_reads' ra h1 (fun z => by rw [h2] at z; cases z) hr.gd (by omega) (fun _ _ e => e) (fun h' u tk hk => ⟨.str _, H, I.kept hk, ⟨_, rfl⟩, q⟩) h4
 | tup hp hs =>
  obtain ⟨as, ra⟩ := RdV.reads I (.tup hp hs) ru
  cases ru
  exact repr_of_reads' ra h1 (fun z => by rw [h2] at z; cases z) hr.gd (by omega) (fun _ _ e => e) (fun h' u tk hk => ⟨.str _, H, I.kept hk, ⟨_, rfl⟩, q⟩) h4
 | ftup hp hs =>
  obtain ⟨as, ra⟩ := RdV.reads I (.ftup hp hs) ru
  cases ru
  exact repr_of_reads' ra h1 (fun z => by rw [h2] at z; cases z) hr.gd (by omega) (fun _ _ e => e) (fun h' u tk hk => ⟨.str _, H, I.kept hk, ⟨_, rfl⟩, q⟩) h4
end
theorem wm : ∀ (ns ms : List Int), PyData.eqvAll (ns.map PyData.int) (ms.map PyData.int) = decide (ns = ms)
 | [], [] => by simp only [List.map_nil, PyData.eqvAll, decide_true]
 | [], m :: ms => by simp [PyData.eqvAll]
 | n :: ns, [] => by simp [PyData.eqvAll]
 | n :: ns, m :: ms => by
  simp only [List.map_cons, PyData.eqvAll, PyData.eqv, wm ns ms]
  by_cases h : n = m
  ·subst h; simp
  ·simp [h]
theorem xb : ∀ (ns : List Int), PyData.canLayAll0 (ns.map PyData.int) = true
 | [] => rfl
 | n :: ns => by simp [PyData.canLayAll0, PyData.canLay0, xb ns]
theorem yP : ∀ (ns : List Int), PyData.depthAll (ns.map PyData.int) = 0
 | [] => rfl
 | n :: ns => by simp [PyData.depthAll, PyData.depth, yP ns]
section
variable {X : Cx}
theorem vN : ∀ {xs : List V} {us : List Value}, xs.length = us.length → (∀ (j : Nat) (x : V) (u : Value), xs[j]? = some x → us[j]? = some u → RelV x u) → Vals xs us
 | [], [], _, _ => .nil
 | [], v :: vs, h, _ => absurd h (by simp)
 | v :: vs, [], h, _ => absurd h (by simp)
 | x :: xs, u :: us, h, k => .cons (k 0 x u rfl rfl) (vN (by simpa using h) fun j y v e1 e2 => k (j + 1) y v (by simpa using e1) (by simpa using e2))
def rRange : List V → Hp → VK → Prop := fun xs H Q => ∃ j : Int, xs = [.int j] ∧ ∀ r, H r = none → Q (.ref r) (upd H r (.rng 0 j))
theorem xB : yk X (.type "range") rRange := by
 intro pins s σ H xs us Q I r h
 obtain ⟨j, rfl, q⟩ := h
 obtain ⟨u, rfl, ru⟩ := r.one
 obtain ⟨t, rfl⟩ := ru
 refine call_range_1 ⟨.ref _, _, I.laid (fun b o e => Heap.get?_push_of_some _ e) (Nat.le_refl _) ?_, rfl, q _ I.fresh⟩
 exact ⟨_, _, _, Heap.get?_push_size _ rfl⟩
def rListR : List V → Hp → VK → Prop := fun xs H Q => ∃ (p : Addr) (n : Nat), xs = [.ref p] ∧ H p = some (.rng 0 (n : Int)) ∧ n ≤ 1000 ∧ ∀ l, H l = none → Q (.ref l) (upd H l (.lst ((List.range n).map fun (i : Nat) => V.int (i : Int))))
theorem wt (hc : X.calm = true) : yk X (.type "list") rListR := by
 intro pins s σ H xs us Q I r h
 obtain ⟨p, n, rfl, hp, hn, q⟩ := h
 obtain ⟨u, rfl, ru⟩ := r.one
 cases ru
 obtain ⟨t, u, v, e⟩ := I.hok p _ hp
 refine call_list_range (n := n) (I.ok.hd hc) e (small_one (by omega) (by omega) (by omega) (by omega)) (by rw [rangeSize_one]; split <;> omega) (by omega) fun h' tk acc' c' hk hS hacc => ?_
 refine ⟨.ref _, _, I.laid (t' := tk) hk (Nat.le_refl _) ?_, rfl, q _ I.fresh⟩
 obtain ⟨hsz, hit⟩ := hacc
 refine ⟨by rw [List.length_map, List.length_range]; exact Nat.le_of_lt (zt hn), acc'.toList, c', vN (by simp [hsz]) fun j x u ex eu => ?_, hS⟩
 have hj : j < n := by
  have := (List.getElem?_eq_some_iff.mp ex).1
  simpa using this
 rw [List.getElem?_map, List.getElem?_range hj] at ex
 have ex' : V.int (j : Int) = x := Option.some.inj ex
 subst ex'
 obtain ⟨t, ht⟩ := hit j u (by simpa using eu)
 exact ⟨t, by rw [ht]; congr 1; omega⟩
theorem Yl : ∀ {ns : List Int} {us : List Value}, Vals (ns.map V.int) us → ∃ xs : List (Int × Tok), us = xs.map (fun q => Value.int q.1 q.2) ∧ xs.map (·.1) = ns
 | [], us, r => by
  cases r
  exact ⟨[], rfl, rfl⟩
 | n :: ns, us, r => by
  cases r with
  | cons r1 r2 =>
   obtain ⟨t, rfl⟩ := r1
   obtain ⟨xs, rfl, e⟩ := Yl r2
   exact ⟨(n, t) :: xs, rfl, by simp [e]⟩
end
section
variable {prog : Program} {w : World} {A : Around} {E : Value → Shared → Prop} {s : Shared}
theorem yN {j t : Addr} {i : Nat} {its : Array Value} {v : Value} {Q : Value → Shared → Prop} (J : s.heap.IsTupleIter j t i) (T : s.heap.IsTuple t its) (e : its[i]? = some v)
  (k : ∀ h', h'.IsTupleIter j t (i + 1) → Heap.SameBut j s.heap h' → Q v { s with heap := h' }) : wpAny (model prog w) A (Builtin.SmallTypes.nextOf (.ref j)) Q E s := by
 obtain ⟨o, ho, hc, hd⟩ := id J; obtain ⟨ot, hot, _, n, hdt⟩ := T
 unfold Builtin.SmallTypes.nextOf; refine wpAny_bind (wpAny_callSpecial?_slot (name := Str.ofString "__next__") J.typeIs F.slot_tuple_iterator_next (wpAny_call_entry F.slot_tuple_iterator_next J.typeIs F.entry_tuple_iterator_next ?_ (F.args_tuple_iterator_next_1 _)))
 show wpAny _ _ (field (.ref j) 0 >>= _) _ _ s; refine wpAny_bind (wpAny_field ho hd (x := .ref t) rfl ?_)
 show wpAny _ _ (if (Value.ref t == Value.none) = true then _ else _) _ _ s; rw [if_neg (show ¬ ((Value.ref t == Value.none) = true) from Bool.false_ne_true)]
 show wpAny _ _ (field (.ref j) 1 >>= _) _ _ s; refine wpAny_bind (wpAny_field ho hd (x := .int i 0) rfl ?_)
 show wpAny _ _ (seqItems? (.ref t) >>= _) _ _ s; refine wpAny_bind (wpAny_seqItems hot hdt ?_)
 simp only [Int.toNat_natCast, e]
 refine wpAny_bind (wpAny_setField ho hd (by simp) (wpAny_pure ⟨v, rfl, wpAny_pure (k _ ?_ (Heap.SameBut.update ..))⟩))
 exact ⟨_, Heap.get?_update_self _ ho (Obj.isFreed_of_fields (Obj.data_mapFields hd _)), (Obj.cls_mapFields ..).trans hc, by rw [Obj.data_mapFields hd]; simp [rawInt]⟩
theorem xF {j t : Addr} {i : Nat} {its : Array Value} {Q : Value → Shared → Prop} (hh : A.handled = none) (J : s.heap.IsTupleIter j t i) (T : s.heap.IsTuple t its) (e : its[i]? = none)
  (k : ∀ h' x, Heap.ExtBut j s.heap h' → (∃ o, h'.get? x = some o ∧ o.cls = .type "StopIteration") → E (.ref x) { s with heap := h' }) : wpAny (model prog w) A (Builtin.SmallTypes.nextOf (.ref j)) Q E s := by
 obtain ⟨o, ho, hc, hd⟩ := id J; obtain ⟨ot, hot, _, n, hdt⟩ := T
 unfold Builtin.SmallTypes.nextOf; refine wpAny_bind (wpAny_callSpecial?_slot (name := Str.ofString "__next__") J.typeIs F.slot_tuple_iterator_next (wpAny_call_entry F.slot_tuple_iterator_next J.typeIs F.entry_tuple_iterator_next ?_ (F.args_tuple_iterator_next_1 _)))
 show wpAny _ _ (field (.ref j) 0 >>= _) _ _ s; refine wpAny_bind (wpAny_field ho hd (x := .ref t) rfl ?_)
 show wpAny _ _ (if (Value.ref t == Value.none) = true then _ else _) _ _ s; rw [if_neg (show ¬ ((Value.ref t == Value.none) = true) from Bool.false_ne_true)]
 show wpAny _ _ (field (.ref j) 1 >>= _) _ _ s; refine wpAny_bind (wpAny_field ho hd (x := .int i 0) rfl ?_)
 show wpAny _ _ (seqItems? (.ref t) >>= _) _ _ s; refine wpAny_bind (wpAny_seqItems hot hdt ?_)
 simp only [Int.toNat_natCast, e]; refine wpAny_bind (wpAny_rule (wpAny_bind (wpAny_setField ho hd (by simp) ?_)))
 show wpAny _ _ (newExc (.type "StopIteration") [] >>= _) _ _ _; refine wpAny_bind ?_; simp only [newExc, newTuple]
 refine wpAny_bind (wpAny_newObj_type ?_ (by size_fits)); refine wpAny_bind (m := firstArgMember _ _) (wpAny_of_eq (a := Value.none) (by first | rfl | (simp only [firstArgMember]; rfl)) ?_)
 refine wpAny_newObj_type ?_ (by size_fits); simp only [raiseNew]; refine wpAny_bind (wpAny_handled ?_)
 (first | rw [show A.in1.handled = none from hh] | rw [hh]); refine wpAny_bind (wpAny_pure (wpAny_throw ?_)); exact k _ _ (((Heap.SameBut.update ..).extBut.push _).push _) ⟨_, Heap.get?_push_size _ rfl, rfl⟩
theorem vD (hh : A.handled = none) (j t : Addr) (ne : t ≠ j) (its : Array Value) : Draws prog w A j [j, t] its.size (fun i v => its[i]? = some v) (fun i h => h.IsTupleIter j t i ∧ h.IsTuple t its) where
 live := fun _ _ q => let ⟨o, e, _⟩ := q.1; ⟨o, e⟩
 frame := fun _ _ _ q hk => ⟨q.1.at fun o e => hk j (by simp) o e, let ⟨o, e, r⟩ := q.2; ⟨o, hk t (by simp) o e, r⟩⟩
 item := fun i s Q E hi q k => yN q.1 q.2 (v := its[i]) (by simp [hi]) fun h' J' sb => k _ h' s.toks (by simp [hi]) ⟨J', let ⟨o, e, r⟩ := q.2; ⟨o, sb.extBut t o ne e, r⟩⟩ sb
 done := fun s Q E q k => xF hh q.1 q.2 (by simp) k
abbrev enuH (h : Heap) (t : Addr) : Heap := h.push { cls := .type "tuple_iterator", data := .fields #[.ref t, .int 0 0] }
abbrev enuH2 (h : Heap) (t : Addr) : Heap := (enuH h t).push { cls := .type "enumerate", data := .fields #[.none, .bool false, .ref h.objs.size, rawInt 0, .none, .none] }
theorem enu_new (t : Addr) (its : Array Value) : Meets (Builtin.«enumerate.__new__» ⟨[.type "enumerate", .ref t], []⟩) (fun _ R s => s.heap.IsTuple t its ∧ R (.ok (.ret (.ref (enuH s.heap t).objs.size))) { s with heap := enuH2 s.heap t }) :=
 .of_wp fun prog w A R s h => by
  obtain ⟨hp, g, d, tk, os⟩ := s; obtain ⟨hT, h⟩ := h
  have hsub := sub_enumerate; obtain ⟨o, ho, hc, n, hd⟩ := id hT
  have hT' : Heap.IsTuple (Shared.heap ⟨hp, g, d, tk, os⟩) t its := hT
  obtain ⟨c, dct, dt, sl⟩ := o
  replace hc : c = .type "tuple" := hc
  replace hd : dt = .seq its n := hd
  subst hc hd
  wp_walk using AutoSeq1.wpAny_loadPart' ho
  refine wpAny_stack_any fun st => wpAny_pure ?_; split
  ·rename_i cl _ _ _ _ _; cases (cl == Value.type "enumerate")
   ·wp_walk using AutoSeq1.wpAny_loadPart' ho, wpAny_pyIter_tuple hT'; exact ⟨_, rfl, h⟩
   ·wp_walk using AutoSeq1.wpAny_loadPart' ho, wpAny_pyIter_tuple hT'; exact ⟨_, rfl, h⟩
  ·wp_walk using AutoSeq1.wpAny_loadPart' ho, wpAny_pyIter_tuple hT'; exact ⟨_, rfl, h⟩
theorem call_enu {t : Addr} {its : Array Value} {Q : Value → Shared → Prop} (hT : s.heap.IsTuple t its)
  (k : ∀ h', IsEnum h' (s.heap.objs.size + 1) s.heap.objs.size 0 .none → h'.IsTupleIter s.heap.objs.size t 0 → (∀ b o, s.heap.get? b = some o → h'.get? b = some o) → Q (.ref (s.heap.objs.size + 1)) { s with heap := h' }) :
  wpAny (model prog w) A (call (.type "enumerate") [.ref t]) Q E s := by
 refine callType_new F.called_enumerate (by decide) (F.typeCall_enumerate_1 _) (F.newCall_enumerate_1 _) (fun obj => F.args_object_init_2 obj _) F.entry_enumerate_new (enu_new t its) ⟨hT, ?_⟩
 have z1 : (enuH s.heap t).objs.size = s.heap.objs.size + 1 := Heap.size_push ..
 have he := Heap.get?_push_size (enuH s.heap t) (o := { cls := .type "enumerate", data := .fields #[.none, .bool false, .ref s.heap.objs.size, rawInt 0, .none, .none] }) rfl
 show _ ∧ _
 rw [z1] at he ⊢
 exact ⟨⟨_, he, rfl⟩, k _ he ⟨_, Heap.get?_push_of_some _ (Heap.get?_push_size _ rfl), rfl, rfl⟩ fun b o x => Heap.get?_push_of_some _ (Heap.get?_push_of_some _ x)⟩
end
section
variable {X : Cx} {pins : List (Addr × Obj)} {σ : St} {H : Hp} {s : Shared}
theorem Inv.turnNew {h' : Heap} {tk : Nat} {ch : List Addr} {T : Addr} {xs : List V} {vals : List Value} (I : Inv X pins σ H s) (hf : ∀ b ∈ ch, FpOk X pins H b) (k : ∀ b o, b ∉ ch → s.heap.get? b = some o → h'.get? b = some o) (ht : ∀ b ∈ ch, ∃ o, h'.get? b = some o)
  (hT : s.heap.objs.size ≤ T) (r : Vals xs vals) (hz : xs.length ≤ sizeLine) (hv : h'.IsTuple T vals.toArray) : Inv X pins σ (upd H T (.tup xs)) { s with heap := h', toks := tk } := by
 have hn : H T = none := I.hok.fresh hT
 have nT : ∀ b o, s.heap.get? b = some o → b ≠ T := fun b o e z => absurd (Nat.lt_of_lt_of_le (Heap.lt_size e) (z ▸ hT)) (Nat.lt_irrefl _)
 have nc : ∀ b u, H b = some u → b ∉ ch := fun b u e z => by rw [(hf b z).1] at e; cases e
 refine I.step (g' := s.gens) (d' := s.drawn) (ch := ch) (fun b hb => ⟨(hf b hb).2.2.2.1, (hf b hb).2.1, (hf b hb).2.2.2.2.1, (hf b hb).2.2.2.2.2⟩) (fun b o _ _ hc e _ => k b o hc e) (fun b o _ _ hc e _ => ⟨o.slots, k b o hc e⟩)
  (fun b o _ e n => by rw [zl (nT b o e)]; exact n) (fun b o hc e => ⟨o, k b o hc e⟩) (fun b ys e => by rw [zl (zp e hn)]; exact e) (fun b o u e => by rw [zl (zp e hn)]; exact e)
  (fun b ps e => ⟨#[], by rw [zl (zp e hn), e]; simp⟩) (fun m hm => ?_) (fun b u e => ?_) I.bare
 ·obtain ⟨o, es, ep, ho, q⟩ := hm
  exact ⟨o, es, ep, k _ o (fun z => (hf _ z).2.1 rfl) ho, q⟩
 ·by_cases hb : b = T
  ·subst hb
   rw [zi] at e
   cases e
   exact ⟨hz, vals, r, hv⟩
  ·rw [zl hb] at e
   refine (I.hok b u e).stay (fun c v hc q => k c v ?_ q) (fun c q => by rw [zl (zp q hn)]; exact q) fun c ys q => by rw [zl (zp q hn)]; exact q
   rcases hc with z | z
   ·rw [z]; exact nc b u e
   ·exact nc c _ z
theorem Inv.turnOnly {h' : Heap} {tk : Nat} {ch : List Addr} (I : Inv X pins σ H s) (hf : ∀ b ∈ ch, FpOk X pins H b) (k : ∀ b o, b ∉ ch → s.heap.get? b = some o → h'.get? b = some o) : Inv X pins σ H { s with heap := h', toks := tk } := by
 have nc : ∀ b u, H b = some u → b ∉ ch := fun b u e z => by rw [(hf b z).1] at e; cases e
 refine I.step (g' := s.gens) (d' := s.drawn) (ch := ch) (fun b hb => ⟨(hf b hb).2.2.2.1, (hf b hb).2.1, (hf b hb).2.2.2.2.1, (hf b hb).2.2.2.2.2⟩) (fun b o _ _ hc e _ => k b o hc e) (fun b o _ _ hc e _ => ⟨o.slots, k b o hc e⟩)
  (fun b o _ e n => n) (fun b o hc e => ⟨o, k b o hc e⟩) (fun b ys e => e) (fun b o u e => e) (fun b ps e => ⟨#[], by rw [e]; simp⟩) (fun m hm => ?_) (fun b u e => ?_) I.bare
 ·obtain ⟨o, es, ep, ho, q⟩ := hm
  exact ⟨o, es, ep, k _ o (fun z => (hf _ z).2.1 rfl) ho, q⟩
 ·refine (I.hok b u e).stay (fun c v hc q => k c v ?_ q) (fun c q => q) fun c ys q => q
  rcases hc with z | z
  ·rw [z]; exact nc b u e
  ·exact nc c _ z
end
def Ite (K : W.Frag) (a : Addr) : It :=
 ⟨fun i H => ∃ xs x, SqT K H a xs ∧ xs[i]? = some x, fun i H v H' => ∃ p x, v = .ref p ∧ H p = none ∧ H' = upd H p (.tup [.int (i : Int), x]) ∧ ∀ xs, SqT K H a xs → xs[i]? = some x, fun i H => ∃ xs, SqT K H a xs ∧ xs.length = i⟩
theorem turn_enu {P : Program} {w : World} {K : W.Frag} {es : List Expr} {kt : Nat} {pt : Pos} (a e it : Addr) (hei : e ≠ it) (hai : a ≠ it) (hae : a ≠ e) :
  Turn P w K (.Tuple es kt pt) (Ite K a) [e, it] e (fun i h => (∃ old, IsEnum h e it i old) ∧ h.IsTupleIter it a i) where
 mem := by simp
 obj := fun i h st b hb => by
  obtain ⟨⟨old, he⟩, o, eo, c, d⟩ := st
  rcases List.mem_cons.mp hb with rfl | hq
  ·exact ⟨_, he, fun v z => by have z' : Data.fields _ = Data.cell v := z; cases z'⟩
  ·rw [List.mem_singleton.mp hq]; exact ⟨o, eo, fun v z => by rw [d] at z; cases z⟩
 keep := fun i h h' st k => ⟨let ⟨old, he⟩ := st.1; ⟨old, k e (by simp) _ he⟩, st.2.at fun o x => k it (by simp) o x⟩
 item := by
  intro X hP hw hK hc i pins s σ H E I hf st hg
  subst hP hw hK
  obtain ⟨xs, x, hq, hx⟩ := hg
  obtain ⟨its, rv, p, hz⟩ := I.tuple hq
  obtain ⟨u, hu, ru⟩ := rv.get hx
  have W := WalksT.enumerateD (vD (prog := X.prog) (w := X.w) (A := X.A.in1) (I.ok.hd hc) it a hai its.toArray) e hei (by simp [hei, Ne.symm hae]) (by simp)
  have hi : i < its.toArray.size := by
   have := (List.getElem?_eq_some_iff.mp hu).1
   simpa using this
  refine W.item i s _ E hi ⟨st.1, st.2, p⟩ fun T vals h' tk hP hsz hT hM hk => ⟨.ref T, rfl, ?_⟩
  obtain ⟨t, x', hx', rfl⟩ := hP
  have ex : x' = u := by
   have : its[i]? = some x' := by simpa using hx'
   rw [this] at hu
   exact Option.some.inj hu
  subst ex
  refine W.go es kt pt i T { s with heap := h', toks := tk } _ E hM fun h'' hst hk2 => ?_
  obtain ⟨⟨old2, he2⟩, hit2, _⟩ := hst
  have hTw := W.apart i T h' hM
  obtain ⟨oT, eT, cT⟩ := hT
  have I2 : Inv X pins σ (upd H T (.tup [.int (i : Int), x])) { s with heap := h'', toks := tk } := I.turnNew (ch := [e, it]) hf (fun b o hb q => hk2 b o hb (hk b o hb q)) (fun b hb => by
   rcases List.mem_cons.mp hb with rfl | hq
   ·exact ⟨_, he2⟩
   ·rw [List.mem_singleton.mp hq]; obtain ⟨o, eo, _⟩ := hit2; exact ⟨o, eo⟩) hsz (vals := [.int i t, x']) (.cons ⟨t, rfl⟩ (.cons ru .nil)) (sz2) ⟨oT, hk2 T oT hTw eT, cT⟩
  refine ⟨.ref T, _, I2, rfl, ⟨T, x, rfl, I.hok.fresh hsz, rfl, fun ys hy => by rw [I.tuple_inj hy hq]; exact hx⟩, ⟨⟨old2, he2⟩, hit2⟩, fun b hb => ?_⟩
  rw [zl (fun z => hTw (by rw [← z]; exact hb))]
  exact (hf b hb).1
 done := by
  intro X hP hw hK hc i pins s σ H E I hf st hg
  subst hP hw hK
  obtain ⟨xs, hq, hx⟩ := hg
  obtain ⟨its, rv, p, hz⟩ := I.tuple hq
  have hl := rv.length
  have W := WalksT.enumerateD (vD (prog := X.prog) (w := X.w) (A := X.A.in1) (I.ok.hd hc) it a hai its.toArray) e hei (by simp [hei, Ne.symm hae]) (by simp)
  have ei : i = its.toArray.size := by rw [List.size_toArray]; omega
  subst ei
  exact W.done s _ E ⟨st.1, st.2, p⟩ fun h' tk hk => ⟨rfl, I.turnOnly hf hk⟩
 self := fun _ _ s _ _ st h => by
  obtain ⟨⟨old, he⟩, _⟩ := st
  exact wpAny_pyIter_enum he h
section
variable {X : Cx} {es : List Expr} {kt : Nat} {pt : Pos}
def iEnu (K : W.Frag) (ta : TA) : TI := fun σ H R => ta σ H fun vs H1 => ∃ a, vs = [.ref a] ∧ (∃ xs, SqT K H1 a xs) ∧ R (Ite K a) H1
theorem YM {e : Expr} {ta : TA} {p pos : Pos} (hm : X.mg "enumerate" = none) (ha : PA X [e] ta) (hg : Gl X "enumerate" := by rfl) (h : zX e = false := by rfl) : PI X (.Tuple es kt pt) (.Call (.Name "enumerate" p) [e] [] pos) (iEnu X.K ta) := by
 intro pins s σ H R I hh
 refine Call_ (xR I hg hm boot_enumerate (PyProof.Rows.callWith_type1 (thn (ha pos pins s σ H _ I hh) fun us s1 ⟨vs, H1, I1, r1, q1⟩ => ?_) (xm h) rfl))
 obtain ⟨a, rfl, ⟨xs, hq⟩, q⟩ := q1
 obtain ⟨u, rfl, ru⟩ := r1.one
 cases ru
 obtain ⟨its, rv, pl, hz⟩ := I1.tuple hq
 have hlt : a < s1.heap.objs.size := by
  obtain ⟨o, eo, _⟩ := pl
  exact Heap.lt_size eo
 refine call_enu (its := its.toArray) pl fun h' he hi hk => wpAny_pyIter_enum he ?_
 refine ⟨_, [s1.heap.objs.size + 1, s1.heap.objs.size], _, _, H1, rfl, I1.kept (t' := s1.toks) hk, turn_enu a (s1.heap.objs.size + 1) s1.heap.objs.size (Nat.succ_ne_self _) (Nat.ne_of_lt hlt) (Nat.ne_of_lt (Nat.lt_of_lt_of_le hlt (Nat.le_succ _))), ⟨⟨_, he⟩, hi⟩, fun b hb => ?_, q⟩
 have hb' : s1.heap.objs.size ≤ b := by
  rcases List.mem_cons.mp hb with z | z
  ·rw [z]; exact Nat.le_succ _
  ·rw [List.mem_singleton.mp z]
   exact Nat.le_refl _
 exact I1.fpOk hb' (I1.hok.fresh hb')
end
section
variable {prog : Program} {w : World} {A : Around} {E : Value → Shared → Prop} {s : Shared}
theorem tupX {h h' : Heap} {t a : Addr} {its : Array Value} (T : h.IsTuple t its) (x : Heap.ExtBut a h h') (n : t ≠ a) : h'.IsTuple t its := let ⟨o, e, r⟩ := T; ⟨o, x t o n e, r⟩
theorem tupJ {h h' : Heap} {j t a : Addr} {i : Nat} (J : h.IsTupleIter j t i) (x : Heap.ExtBut a h h') (n : j ≠ a) : h'.IsTupleIter j t i := J.at fun o e => x j o n e
theorem zipT_item {z TI TO i1 i2 l1 l2 : Addr} {k1 k2 : Nat} {xs ys : Array Value} {x y a b : Value} {Q : Value → Shared → Prop} (D : ZipApart z TI TO i1 i2 l1 l2) (hz : IsZip s.heap z TI TO .none) (hTI : IsPair s.heap TI (.ref i1) (.ref i2)) (hTO : IsPair s.heap TO a b)
  (h1 : s.heap.IsTupleIter i1 l1 k1) (h2 : s.heap.IsTupleIter i2 l2 k2) (hl1 : s.heap.IsTuple l1 xs) (hl2 : s.heap.IsTuple l2 ys) (hx : xs[k1]? = some x) (hy : ys[k2]? = some y)
  (hQ : ∀ h', IsZip h' z TI TO (rawInt s.heap.objs.size) → IsPair h' TO x y → h'.IsTupleIter i1 l1 (k1 + 1) → h'.IsTupleIter i2 l2 (k2 + 1) → IsPair h' s.heap.objs.size x y →
   (∀ d o, d ≠ z → d ≠ TO → d ≠ i1 → d ≠ i2 → s.heap.get? d = some o → h'.get? d = some o) → Q (.ref s.heap.objs.size) { s with heap := h' }) :
  wpAny (model prog w) A (Builtin.«zip.__next__» ⟨[.ref z], []⟩) (fun f s' => ∃ v, f = .done (.ret v) ∧ Q v s') E s := by
 show wpAny _ _ (field (.ref z) 2 >>= _) _ _ _; refine wpAny_bind (wpAny_field hz rfl (x := .bool false) rfl ?_)
 show wpAny _ _ (field (.ref z) 3 >>= _) _ _ _; refine wpAny_bind (wpAny_field hz rfl (x := .ref TI) rfl ?_)
 refine wpAny_bind (wpAny_seqItems hTI rfl ?_); show wpAny _ _ (Builtin.SmallTypes.ownedTupleIsFree (.ref z) >>= _) _ _ _
 refine wpAny_bind ?_; unfold Builtin.SmallTypes.ownedTupleIsFree
 refine wpAny_bind (wpAny_field hz rfl (x := .none) rfl (wpAny_pure ?_)); simp only [if_true]
 refine wpAny_bind (wpAny_rule ?_); refine wpAny_bind (wpAny_field hz rfl (x := .ref TO) rfl ?_)
 refine wpAny_bind (wpAny_setField_rec hz (by simp) fun g1 zz1 s1 => ?_); replace zz1 : IsZip g1 z TI TO .ellipsis := zz1
 refine wpAny_bind ?_; simp only [List.zipIdx_cons, List.zipIdx_nil, List.forIn_cons, List.forIn_nil]
 refine wpAny_bind (wpAny_bind (wpAny_onRaise ?_)); show wpAny _ _ (Builtin.SmallTypes.nextOf (.ref i1) >>= _) _ _ _
 refine wpAny_bind (yN (tupJ h1 s1.extBut D.i1z) (tupX hl1 s1.extBut D.l1z) hx fun g2 j2 s2 => wpAny_pure ?_)
 have o2 : IsPair g2 TO a b := s2.extBut _ _ D.TOi1 (s1.extBut _ _ D.TOz hTO)
 refine wpAny_bind (wpAny_seqItems o2 rfl ?_); refine wpAny_bind (wpAny_updateSeq_pair o2 fun g3 o3 s3 => ?_); replace o3 : IsPair g3 TO x b := o3
 refine wpAny_bind (wpAny_letGo (wpAny_pure ?_)); refine wpAny_bind (wpAny_bind (wpAny_onRaise ?_)); show wpAny _ _ (Builtin.SmallTypes.nextOf (.ref i2) >>= _) _ _ _
 refine wpAny_bind (yN (tupJ (tupJ (tupJ h2 s1.extBut D.i2z) s2.extBut D.i12.symm) s3.extBut D.TOi2.symm) (tupX (tupX (tupX hl2 s1.extBut D.l2z) s2.extBut D.l2i1) s3.extBut D.l2TO) hy fun g4 j4 s4 => wpAny_pure ?_)
 have o4 : IsPair g4 TO x b := s4.extBut _ _ D.TOi2 o3
 refine wpAny_bind (wpAny_seqItems o4 rfl ?_); refine wpAny_bind (wpAny_updateSeq_pair o4 fun g5 o5 s5 => ?_); replace o5 : IsPair g5 TO x y := o5
 refine wpAny_bind (wpAny_letGo (wpAny_pure (wpAny_pure ?_))); refine wpAny_bind (wpAny_seqItems o5 rfl ?_); refine wpAny_bind (wpAny_newTuple ?_)
 have sz : g5.objs.size = s.heap.objs.size := by rw [s5.1, s4.1, s3.1, s2.1, s1.1]
 have z5 : IsZip g5 z TI TO .ellipsis := s5.extBut _ _ D.TOz.symm (s4.extBut _ _ D.i2z.symm (s3.extBut _ _ D.TOz.symm (s2.extBut _ _ D.i1z.symm zz1)))
 have k5 : ∀ c o, c ≠ z → c ≠ TO → c ≠ i1 → c ≠ i2 → s.heap.get? c = some o → g5.get? c = some o := fun c o c1 c2 c3 c4 q => s5.extBut _ _ c2 (s4.extBut _ _ c4 (s3.extBut _ _ c2 (s2.extBut _ _ c3 (s1.extBut _ _ c1 q))))
 have a5 : g5.IsTupleIter i1 l1 (k1 + 1) := tupJ (tupJ (tupJ j2 s3.extBut D.TOi1.symm) s4.extBut D.i12) s5.extBut D.TOi1.symm
 have b5 : g5.IsTupleIter i2 l2 (k2 + 1) := tupJ j4 s5.extBut D.TOi2.symm
 have zlt : z < g5.objs.size := Heap.lt_size z5
 show wpAny _ _ (Builtin.SmallTypes.ownedTupleHandOut (.ref z) (.ref g5.objs.size) >>= _) _ _ _; refine wpAny_bind ?_; unfold Builtin.SmallTypes.ownedTupleHandOut
 have z6 : IsZip (g5.push { cls := .type "tuple", data := .seq #[x, y] }) z TI TO .ellipsis := Heap.get?_push_of_some _ z5
 refine wpAny_bind (wpAny_setField_rec z6 (by simp) fun g7 z7 s7 => ?_); replace z7 : IsZip g7 z TI TO (rawInt g5.objs.size) := z7
 refine wpAny_setField_rec z7 (by simp) fun g8 z8 s8 => ?_; replace z8 : IsZip g8 z TI TO (rawInt g5.objs.size) := z8
 have up : ∀ c o, c ≠ z → g5.get? c = some o → g8.get? c = some o := fun c o c1 q => s8.extBut _ _ c1 (s7.extBut _ _ c1 (Heap.get?_push_of_some _ q))
 have t8 : IsPair g8 g5.objs.size x y := s8.extBut _ _ (Nat.ne_of_gt zlt) (s7.extBut _ _ (Nat.ne_of_gt zlt) (Heap.get?_push_size _ rfl))
 rw [sz] at z8 t8; refine wpAny_pure ⟨_, rfl, ?_⟩; show Q (.ref g5.objs.size) _; rw [sz]
 exact hQ g8 z8 (up _ _ D.TOz o5) (a5.at fun o q => up _ o D.i1z q) (b5.at fun o q => up _ o D.i2z q) t8 fun c o c1 c2 c3 c4 q => up c o c1 (k5 c o c1 c2 c3 c4 q)
theorem zipT_end {z TI TO i1 i2 l1 l2 : Addr} {k1 k2 : Nat} {xs ys : Array Value} {a b : Value} {Q : Fin → Shared → Prop} (hh : A.handled = none) (D : ZipApart z TI TO i1 i2 l1 l2) (hz : IsZip s.heap z TI TO .none) (hTI : IsPair s.heap TI (.ref i1) (.ref i2)) (hTO : IsPair s.heap TO a b)
  (h1 : s.heap.IsTupleIter i1 l1 k1) (h2 : s.heap.IsTupleIter i2 l2 k2) (hl1 : s.heap.IsTuple l1 xs) (hl2 : s.heap.IsTuple l2 ys) (hend : xs[k1]? = none ∨ ys[k2]? = none)
  (hE : ∀ h' e, (∀ d o, d ≠ z → d ≠ TO → d ≠ i1 → d ≠ i2 → s.heap.get? d = some o → h'.get? d = some o) → (∃ o, h'.get? e = some o ∧ o.cls = .type "StopIteration") → E (.ref e) { s with heap := h' }) : wpAny (model prog w) A (Builtin.«zip.__next__» ⟨[.ref z], []⟩) Q E s := by
 show wpAny _ _ (field (.ref z) 2 >>= _) _ _ _; refine wpAny_bind (wpAny_field hz rfl (x := .bool false) rfl ?_)
 show wpAny _ _ (field (.ref z) 3 >>= _) _ _ _; refine wpAny_bind (wpAny_field hz rfl (x := .ref TI) rfl ?_)
 refine wpAny_bind (wpAny_seqItems hTI rfl ?_); show wpAny _ _ (Builtin.SmallTypes.ownedTupleIsFree (.ref z) >>= _) _ _ _
 refine wpAny_bind ?_; unfold Builtin.SmallTypes.ownedTupleIsFree
 refine wpAny_bind (wpAny_field hz rfl (x := .none) rfl (wpAny_pure ?_)); simp only [if_true]
 refine wpAny_bind (wpAny_rule ?_); refine wpAny_bind (wpAny_field hz rfl (x := .ref TO) rfl ?_)
 refine wpAny_bind (wpAny_setField_rec hz (by simp) fun g1 zz1 s1 => ?_); replace zz1 : IsZip g1 z TI TO .ellipsis := zz1
 refine wpAny_bind ?_; simp only [List.zipIdx_cons, List.zipIdx_nil, List.forIn_cons, List.forIn_nil]
 refine wpAny_bind (wpAny_bind (wpAny_onRaise ?_)); show wpAny _ _ (Builtin.SmallTypes.nextOf (.ref i1) >>= _) _ _ _
 cases hx : xs[k1]? with
 | none =>
  refine wpAny_bind (xF hh (tupJ h1 s1.extBut D.i1z) (tupX hl1 s1.extBut D.l1z) hx fun g2 e s2 he => ?_)
  obtain ⟨oe, hoe, hce⟩ := he; have z2 : IsZip g2 z TI TO .ellipsis := s2 _ _ D.i1z.symm zz1
  have ez : e ≠ z := fun q => by subst q; rw [z2] at hoe; cases hoe; simp at hce
  refine wpAny_setField_rec z2 (by simp) fun g3 _ s3 => hE g3 e (fun c o c1 _ c3 _ q => s3.extBut _ _ c1 (s2 _ _ c3 (s1.extBut _ _ c1 q))) ⟨oe, s3.extBut _ _ ez hoe, hce⟩
 | some x =>
  have hy : ys[k2]? = none := by rcases hend with q | q; rw [hx] at q; cases q; exact q
  refine wpAny_bind (yN (tupJ h1 s1.extBut D.i1z) (tupX hl1 s1.extBut D.l1z) hx fun g2 j2 s2 => wpAny_pure ?_)
  have o2 : IsPair g2 TO a b := s2.extBut _ _ D.TOi1 (s1.extBut _ _ D.TOz hTO)
  refine wpAny_bind (wpAny_seqItems o2 rfl ?_); refine wpAny_bind (wpAny_updateSeq_pair o2 fun g3 o3 s3 => ?_); refine wpAny_bind (wpAny_letGo (wpAny_pure ?_))
  refine wpAny_bind (wpAny_bind (wpAny_onRaise ?_)); show wpAny _ _ (Builtin.SmallTypes.nextOf (.ref i2) >>= _) _ _ _
  refine wpAny_bind (xF hh (tupJ (tupJ (tupJ h2 s1.extBut D.i2z) s2.extBut D.i12.symm) s3.extBut D.TOi2.symm) (tupX (tupX (tupX hl2 s1.extBut D.l2z) s2.extBut D.l2i1) s3.extBut D.l2TO) hy fun g4 e s4 he => ?_)
  obtain ⟨oe, hoe, hce⟩ := he; have z4 : IsZip g4 z TI TO .ellipsis := s4 _ _ D.i2z.symm (s3.extBut _ _ D.TOz.symm (s2.extBut _ _ D.i1z.symm zz1))
  have ez : e ≠ z := fun q => by subst q; rw [z4] at hoe; cases hoe; simp at hce
  refine wpAny_setField_rec z4 (by simp) fun g5 _ s5 => hE g5 e (fun c o c1 c2 c3 c4 q => s5.extBut _ _ c1 (s4 _ _ c4 (s3.extBut _ _ c2 (s2.extBut _ _ c3 (s1.extBut _ _ c1 q))))) ⟨oe, s5.extBut _ _ ez hoe, hce⟩
abbrev zpH1 (h : Heap) (a : Addr) : Heap := h.push { cls := .type "tuple_iterator", data := .fields #[.ref a, .int 0 0] }
abbrev zpH2 (h : Heap) (a b : Addr) : Heap := (zpH1 h a).push { cls := .type "tuple_iterator", data := .fields #[.ref b, .int 0 0] }
abbrev zpH3 (h : Heap) (a b : Addr) : Heap := (zpH2 h a b).push { cls := .type "tuple", data := .seq #[.ref h.objs.size, .ref (zpH1 h a).objs.size] }
abbrev zpH4 (h : Heap) (a b : Addr) : Heap := (zpH3 h a b).push { cls := .type "tuple", data := .seq #[.none, .none] }
abbrev zpH5 (h : Heap) (a b : Addr) : Heap := (zpH4 h a b).push { cls := .type "zip", data := .fields #[.none, .bool false, .bool false, .ref (zpH2 h a b).objs.size, .ref (zpH3 h a b).objs.size] }
theorem zp_new (a b : Addr) (xs ys : Array Value) : Meets (Builtin.«zip.__new__» ⟨[.type "zip", .ref a, .ref b], []⟩) (fun _ R s => s.heap.IsTuple a xs ∧ s.heap.IsTuple b ys ∧ R (.ok (.ret (.ref (zpH4 s.heap a b).objs.size))) { s with heap := zpH5 s.heap a b }) :=
 .of_wp fun prog w A R s h => by
  obtain ⟨hp, g, d, tk, os⟩ := s; obtain ⟨hA, hB, h⟩ := h; have hsub := sub_zip
  have tA : Heap.IsTuple (Shared.heap ⟨hp, g, d, tk, os⟩) a xs := hA
  have tB : Heap.IsTuple (Shared.heap ⟨hp.push { cls := .type "tuple_iterator", data := .fields #[.ref a, .int 0 0] }, g, d, tk, os⟩) b ys := let ⟨o, e, r⟩ := hB; ⟨o, Heap.get?_push_of_some _ e, r⟩
  wp_walk using wpAny_pyIter_tuple tA, wpAny_pyIter_tuple tB
  exact ⟨_, rfl, h⟩
theorem call_zp {a b : Addr} {xs ys : Array Value} {Q : Value → Shared → Prop} (hA : s.heap.IsTuple a xs) (hB : s.heap.IsTuple b ys)
  (k : ∀ h', IsZip h' (s.heap.objs.size + 4) (s.heap.objs.size + 2) (s.heap.objs.size + 3) .none → IsPair h' (s.heap.objs.size + 2) (.ref s.heap.objs.size) (.ref (s.heap.objs.size + 1)) → IsPair h' (s.heap.objs.size + 3) .none .none →
   h'.IsTupleIter s.heap.objs.size a 0 → h'.IsTupleIter (s.heap.objs.size + 1) b 0 → (∀ c o, s.heap.get? c = some o → h'.get? c = some o) → Q (.ref (s.heap.objs.size + 4)) { s with heap := h' }) :
  wpAny (model prog w) A (call (.type "zip") [.ref a, .ref b]) Q E s := by
 refine callType_new F.called_zip (by decide) (F.typeCall_zip_2 _ _) (F.newCall_zip_2 _ _) (fun obj => F.args_object_init_3 obj _ _) F.entry_zip_new (zp_new a b xs ys) ⟨hA, hB, ?_⟩
 have z1 : (zpH1 s.heap a).objs.size = s.heap.objs.size + 1 := Heap.size_push ..
 have z2 : (zpH2 s.heap a b).objs.size = s.heap.objs.size + 2 := by rw [Heap.size_push, z1]
 have z3 : (zpH3 s.heap a b).objs.size = s.heap.objs.size + 3 := by rw [Heap.size_push, z2]
 have z4 : (zpH4 s.heap a b).objs.size = s.heap.objs.size + 4 := by rw [Heap.size_push, z3]
 have g5 : (zpH5 s.heap a b).get? (zpH4 s.heap a b).objs.size = some _ := Heap.get?_push_size _ rfl
 have g4 : (zpH5 s.heap a b).get? (zpH3 s.heap a b).objs.size = some _ := Heap.get?_push_of_some _ (Heap.get?_push_size _ rfl)
 have g3 : (zpH5 s.heap a b).get? (zpH2 s.heap a b).objs.size = some _ := Heap.get?_push_of_some _ (Heap.get?_push_of_some _ (Heap.get?_push_size _ rfl))
 have g2 : (zpH5 s.heap a b).get? (zpH1 s.heap a).objs.size = some _ := Heap.get?_push_of_some _ (Heap.get?_push_of_some _ (Heap.get?_push_of_some _ (Heap.get?_push_size _ rfl)))
 have g1 : (zpH5 s.heap a b).get? s.heap.objs.size = some _ := Heap.get?_push_of_some _ (Heap.get?_push_of_some _ (Heap.get?_push_of_some _ (Heap.get?_push_of_some _ (Heap.get?_push_size _ rfl))))
 show _ ∧ _
 rw [z2, z3, z4] at g5; rw [z1, z2] at g3; rw [z3] at g4; rw [z1] at g2
 have kk : ∀ c o, s.heap.get? c = some o → (zpH5 s.heap a b).get? c = some o := fun c o q => Heap.get?_push_of_some _ (Heap.get?_push_of_some _ (Heap.get?_push_of_some _ (Heap.get?_push_of_some _ (Heap.get?_push_of_some _ q))))
 rw [z4]
 exact ⟨⟨_, g5, rfl⟩, k _ g5 g3 g4 ⟨_, g1, rfl, rfl⟩ ⟨_, g2, rfl, rfl⟩ kk⟩
end
def Itz (K : W.Frag) (a b : Addr) : It :=
 ⟨fun i H => ∃ xs ys x y, SqT K H a xs ∧ SqT K H b ys ∧ xs[i]? = some x ∧ ys[i]? = some y, fun i H v H' => ∃ p x y, v = .ref p ∧ H p = none ∧ H' = upd H p (.tup [x, y]) ∧ (∀ xs, SqT K H a xs → xs[i]? = some x) ∧ ∀ ys, SqT K H b ys → ys[i]? = some y,
  fun i H => ∃ xs ys, SqT K H a xs ∧ SqT K H b ys ∧ (xs.length ≤ i ∨ ys.length ≤ i)⟩
theorem turn_zp {P : Program} {w : World} {K : W.Frag} {es : List Expr} {kt : Nat} {pt : Pos} (a b z TI TO i1 i2 : Addr) (D : ZipApart z TI TO i1 i2 a b) :
  Turn P w K (.Tuple es kt pt) (Itz K a b) [z, TI, TO, i1, i2] z (fun i h => IsZip h z TI TO .none ∧ IsPair h TI (.ref i1) (.ref i2) ∧ (∃ u v, IsPair h TO u v) ∧ h.IsTupleIter i1 a i ∧ h.IsTupleIter i2 b i) where
 mem := by simp
 obj := fun i h st q hq => by
  obtain ⟨hz, hI, ⟨u, v, hO⟩, ⟨o1, e1, c1, d1⟩, ⟨o2, e2, c2, d2⟩⟩ := st
  simp only [List.mem_cons, List.not_mem_nil, or_false] at hq
  rcases hq with rfl | rfl | rfl | rfl | rfl
  ·exact ⟨_, hz, fun v y => by have y' : Data.fields _ = Data.cell v := y; cases y'⟩
  ·exact ⟨_, hI, fun v y => by have y' : Data.seq _ _ = Data.cell v := y; cases y'⟩
  ·exact ⟨_, hO, fun v y => by have y' : Data.seq _ _ = Data.cell v := y; cases y'⟩
  ·exact ⟨o1, e1, fun v y => by rw [d1] at y; cases y⟩
  ·exact ⟨o2, e2, fun v y => by rw [d2] at y; cases y⟩
 keep := fun i h h' st k => ⟨k z (by simp) _ st.1, k TI (by simp) _ st.2.1, let ⟨u, v, q⟩ := st.2.2.1; ⟨u, v, k TO (by simp) _ q⟩, st.2.2.2.1.at fun o x => k i1 (by simp) o x, st.2.2.2.2.at fun o x => k i2 (by simp) o x⟩
 item := by
  intro X hP hw hK hc i pins s σ H E I hf st hg
  subst hP hw hK
  obtain ⟨xs, ys, x, y, hqa, hqb, hx, hy⟩ := hg
  obtain ⟨ia, rva, pa, za⟩ := I.tuple hqa
  obtain ⟨ib, rvb, pb, zb⟩ := I.tuple hqb
  obtain ⟨u, hu, ru⟩ := rva.get hx
  obtain ⟨v, hv, rv⟩ := rvb.get hy
  obtain ⟨hz, hI, ⟨ou, ov, hO⟩, h1, h2⟩ := st
  have hT : s.TypeIs (.ref z) "zip" := ⟨_, hz, rfl⟩; unfold pyNext
  refine wpAny_bind (wpAny_attempt (wpAny_callSpecial?_slot (name := Str.ofString "__next__") hT F.slot_zip_next (wpAny_call_entry F.slot_zip_next hT F.entry_zip_next
   (zipT_item D hz hI hO h1 h2 pa pb (x := u) (y := v) (by simpa using hu) (by simpa using hv) fun h' z' o' a' b' t' k' => wpAny_pure ?_) (F.args_zip_next_1 _))))
  refine ⟨_, rfl, wpAny_letOwnedTupleGo_zip z' fun h'' z'' sb => ?_⟩
  have nz : s.heap.objs.size ≠ z := Nat.ne_of_gt (Heap.lt_size hz)
  have nTO : s.heap.objs.size ≠ TO := Nat.ne_of_gt (Heap.lt_size hO)
  have nTI : s.heap.objs.size ≠ TI := Nat.ne_of_gt (Heap.lt_size hI)
  have n1 : s.heap.objs.size ≠ i1 := by obtain ⟨o, e, _⟩ := h1; exact Nat.ne_of_gt (Heap.lt_size e)
  have n2 : s.heap.objs.size ≠ i2 := by obtain ⟨o, e, _⟩ := h2; exact Nat.ne_of_gt (Heap.lt_size e)
  have up : ∀ q o, q ≠ z → h'.get? q = some o → h''.get? q = some o := fun q o hq e => (sb.2 q hq).trans e
  have hI'' : IsPair h'' TI (.ref i1) (.ref i2) := up _ _ D.TIz (k' TI _ D.TIz D.TITO D.TIi1 D.TIi2 hI)
  have I2 : Inv X pins σ (upd H s.heap.objs.size (.tup [x, y])) { s with heap := h'', toks := s.toks } := I.turnNew (ch := [z, TI, TO, i1, i2]) hf (fun q o hq e => by
   simp only [List.mem_cons, List.not_mem_nil, or_false, not_or] at hq
   exact up q o hq.1 (k' q o hq.1 hq.2.2.1 hq.2.2.2.1 hq.2.2.2.2 e)) (fun q hq => by
   simp only [List.mem_cons, List.not_mem_nil, or_false] at hq
   rcases hq with rfl | rfl | rfl | rfl | rfl
   ·exact ⟨_, z''⟩
   ·exact ⟨_, hI''⟩
   ·exact ⟨_, up _ _ D.TOz o'⟩
   ·obtain ⟨o, e, _⟩ := a'; exact ⟨o, up _ o D.i1z e⟩
   ·obtain ⟨o, e, _⟩ := b'; exact ⟨o, up _ o D.i2z e⟩) (Nat.le_refl _) (vals := [u, v]) (.cons ru (.cons rv .nil)) (sz2) ⟨_, up _ _ nz t', rfl, _, rfl⟩
  refine ⟨.ref s.heap.objs.size, _, I2, rfl, ⟨_, x, y, rfl, I.fresh, rfl, fun zs hzs => by rw [I.tuple_inj hzs hqa]; exact hx, fun zs hzs => by rw [I.tuple_inj hzs hqb]; exact hy⟩,
   ⟨z'', hI'', ⟨_, _, up _ _ D.TOz o'⟩, a'.at fun o e => up _ o D.i1z e, b'.at fun o e => up _ o D.i2z e⟩, fun q hq => ?_⟩
  have hq0 := (hf q hq).1
  simp only [List.mem_cons, List.not_mem_nil, or_false] at hq
  rw [zl]
  ·exact hq0
  ·rcases hq with rfl | rfl | rfl | rfl | rfl
   ·exact Ne.symm nz
   ·exact Ne.symm nTI
   ·exact Ne.symm nTO
   ·exact Ne.symm n1
   ·exact Ne.symm n2
 done := by
  intro X hP hw hK hc i pins s σ H E I hf st hg
  subst hP hw hK
  obtain ⟨xs, ys, hqa, hqb, hx⟩ := hg
  obtain ⟨ia, rva, pa, za⟩ := I.tuple hqa
  obtain ⟨ib, rvb, pb, zb⟩ := I.tuple hqb
  obtain ⟨hz, hI, ⟨ou, ov, hO⟩, h1, h2⟩ := st
  have la := rva.length
  have lb := rvb.length
  have hT : s.TypeIs (.ref z) "zip" := ⟨_, hz, rfl⟩; unfold pyNext
  refine wpAny_bind (wpAny_attempt (wpAny_callSpecial?_slot (name := Str.ofString "__next__") hT F.slot_zip_next (wpAny_call_entry F.slot_zip_next hT F.entry_zip_next
   (zipT_end (I.ok.hd hc) D hz hI hO h1 h2 pa pb (hx.elim (fun q => .inl (by simp; omega)) fun q => .inr (by simp; omega)) fun h' e k' he => ?_) (F.args_zip_next_1 _))))
  obtain ⟨o, ho, hcl⟩ := he
  refine wpAny_bind (wpAny_isInstance (T := "StopIteration") (b := true) ⟨o, ho, hcl⟩ isSubtype_stop ?_)
  refine wpAny_pure ⟨rfl, I.turnOnly (tk := s.toks) hf fun q o hq e => ?_⟩
  simp only [List.mem_cons, List.not_mem_nil, or_false, not_or] at hq
  exact k' q o hq.1 hq.2.2.1 hq.2.2.2.1 hq.2.2.2.2 e
 self := fun _ _ s _ _ st h => wpAny_pyIter_zip st.1 h
section
variable {X : Cx} {es : List Expr} {kt : Nat} {pt : Pos}
def iZp (K : W.Frag) (ta : TA) : TI := fun σ H R => ta σ H fun vs H1 => ∃ a b, vs = [.ref a, .ref b] ∧ (∃ xs, SqT K H1 a xs) ∧ (∃ ys, SqT K H1 b ys) ∧ R (Itz K a b) H1
theorem pi_zp {e e' : Expr} {ta : TA} {p pos : Pos} (hm : X.mg "zip" = none) (ha : PA X [e, e'] ta) (hg : Gl X "zip" := by rfl) (h : zX e = false := by rfl) (h' : zX e' = false := by rfl) : PI X (.Tuple es kt pt) (.Call (.Name "zip" p) [e, e'] [] pos) (iZp X.K ta) := by
 intro pins s σ H R I hh
 refine Call_ (xR I hg hm boot_zip (PyProof.Rows.callWith_type1 (thn (ha pos pins s σ H _ I hh) fun us s1 ⟨vs, H1, I1, r1, q1⟩ => ?_) (xm h) (yB (by simp [h']))))
 obtain ⟨a, b, rfl, ⟨xs, hqa⟩, ⟨ys, hqb⟩, q⟩ := q1
 cases r1 with
 | cons ru r2 =>
  cases r2 with
  | cons rv r3 =>
   cases r3
   cases ru
   cases rv
   obtain ⟨ia, rva, pa, za⟩ := I1.tuple hqa
   obtain ⟨ib, rvb, pb, zb⟩ := I1.tuple hqb
   have la : a < s1.heap.objs.size := by obtain ⟨o, e, _⟩ := pa; exact Heap.lt_size e
   have lb : b < s1.heap.objs.size := by obtain ⟨o, e, _⟩ := pb; exact Heap.lt_size e
   refine call_zp (xs := ia.toArray) (ys := ib.toArray) pa pb fun g hz hI hO j1 j2 hk => wpAny_pyIter_zip hz ?_
   refine ⟨_, [s1.heap.objs.size + 4, s1.heap.objs.size + 2, s1.heap.objs.size + 3, s1.heap.objs.size, s1.heap.objs.size + 1], _, _, H1, rfl, I1.kept (t' := s1.toks) hk, turn_zp a b _ _ _ _ _ (zipApart_new la lb), ⟨hz, hI, ⟨_, _, hO⟩, j1, j2⟩, fun q hq => ?_, by assumption⟩
   have hq' : s1.heap.objs.size ≤ q := by
    simp only [List.mem_cons, List.not_mem_nil, or_false] at hq
    rcases hq with z | z | z | z | z <;> rw [z] <;> first | exact Nat.le_refl _ | exact Nat.le_add_right _ _
   exact I1.fpOk hq' (I1.hok.fresh hq')
end
structure Apart3 (z TI TO i1 i2 i3 l1 l2 l3 : Addr) : Prop where
 nz : TI ≠ z ∧ TO ≠ z ∧ i1 ≠ z ∧ i2 ≠ z ∧ i3 ≠ z
 nI : TI ≠ TO ∧ TI ≠ i1 ∧ TI ≠ i2 ∧ TI ≠ i3
 nO : TO ≠ i1 ∧ TO ≠ i2 ∧ TO ≠ i3
 ni : i1 ≠ i2 ∧ i1 ≠ i3 ∧ i2 ≠ i3
 l1 : l1 ≠ z ∧ l1 ≠ TO ∧ l1 ≠ i1 ∧ l1 ≠ i2 ∧ l1 ≠ i3
 l2 : l2 ≠ z ∧ l2 ≠ TO ∧ l2 ≠ i1 ∧ l2 ≠ i2 ∧ l2 ≠ i3
 l3 : l3 ≠ z ∧ l3 ≠ TO ∧ l3 ≠ i1 ∧ l3 ≠ i2 ∧ l3 ≠ i3
section
variable {D : Addr} {te : TE} {tc : TT} {Q : VK} {ρ : St} {H : Hp}
theorem cgo_zip {K : W.Frag} {a b : Addr} {xs zs : List V} (hlen : xs.length = zs.length) (Pv : Nat → List V → Hp → Prop) (h0 : Pv 0 [] (upd H D (.lst []))) (hl : ∀ i ys H', i ≤ xs.length → Pv i ys H' → SqT K H' a xs ∧ SqT K H' b zs)
  (hs : ∀ i x z ys H' p, xs[i]? = some x → zs[i]? = some z → Pv i ys H' → H' D = some (.lst ys) → H' p = none → ∀ (R : V → Hp → Prop) (S : Hp → Prop), (∀ y H4, H4 D = some (.lst ys) → ys.length < sizeLine → Pv (i + 1) (ys ++ [y]) (upd H4 D (.lst (ys ++ [y]))) → R y H4) → (∀ H3, H3 D = some (.lst ys) → Pv (i + 1) ys H3 → S H3) →
   tc (some x :: some z :: ρ) (upd H' p (.tup [x, z])) fun b H3 => if b = true then te (some x :: some z :: ρ) H3 R else S H3)
  (hd : ∀ ys H', Pv xs.length ys H' → H' D = some (.lst ys) → Q (.ref D) H') : CGo (Itz K a b) D (gTup K 2 (wl (yi 0) (wl (yi 1) gNil))) tc te Q (none :: none :: ρ) H := by
 refine ⟨fun i m τ ys H' => m = xs.length - i ∧ i ≤ xs.length ∧ (∃ tv tw, τ = tv :: tw :: ρ) ∧ Pv i ys H' ∧ H' D = some (.lst ys), ⟨xs.length, by omega, Nat.zero_le _, ⟨_, _, rfl⟩, h0, zi⟩, ?_⟩
 rintro i m τ ys H' ⟨rfl, hi, ⟨tv, tw, rfl⟩, hp, hD⟩
 refine ⟨hD, ?_⟩
 obtain ⟨sq, sq'⟩ := hl i ys H' hi hp
 by_cases hlt : i < xs.length
 ·have hlt' : i < zs.length := by omega
  refine .inr ⟨⟨xs, zs, xs[i], zs[i], sq, sq', by simp [hlt], by simp [hlt']⟩, ?_⟩
  rintro v H'' ⟨p, x, z, rfl, hpn, rfl, hx, hz⟩
  have hx' := hx xs sq
  have hz' := hz zs sq'
  refine ⟨p, [x, z], rfl, SqT.of zi, rfl, x, [z], rfl, z, [], rfl, rfl, ?_⟩
  exact hs i x z ys _ p hx' hz' hp hD hpn _ _ (fun y H4 a b c => ⟨a, b, xs.length - (i + 1), by omega, rfl, hlt, ⟨_, _, rfl⟩, c, zi⟩) fun H3 a c => ⟨xs.length - (i + 1), by omega, rfl, hlt, ⟨_, _, rfl⟩, c, a⟩
 ·have e : i = xs.length := by omega
  subst e
  exact .inl ⟨⟨xs, zs, sq, sq', .inl (Nat.le_refl _)⟩, hd ys _ hp hD⟩
end
section
variable {ta : TA} {tl : TE} {n : Nat} {ix : List Nat} {g : TG} {tc : TT} {te : TE} {σ : St} {H : Hp} {Q : VK}
theorem xU {K : W.Frag} (h : ta σ H fun vs H1 => ∃ a b, vs = [.ref a, .ref b] ∧ (∃ xs, SqT K H1 a xs) ∧ (∃ ys, SqT K H1 b ys) ∧ ∀ D, H1 D = none → CGo (Itz K a b) D g tc te Q (List.replicate n none ++ sub ix σ) H1) : wa (iZp K ta) n ix g tc te σ H Q := h
theorem xX {K : W.Frag} (h : tl σ H fun x H1 => ∃ a, x = .ref a ∧ (∃ xs, SqL K H1 a xs) ∧ ∀ D, H1 D = none → CGo (Itl K a) D g tc te Q (List.replicate n none ++ sub ix σ) H1) : wa (Y6 K tl) n ix g tc te σ H Q := h
end
section
variable {σ : St} {H : Hp} {Q : VK} {te ta tb tc : TE} {r r' : R2} {tl th : TO}
theorem w_sl {r : V → Option Int → Option Int → Hp → VK → Prop} (h : te σ H fun x H1 => tl σ H1 fun l H2 => th σ H2 fun u H3 => r x l u H3 Q) : tSl r te tl th σ H Q := h
theorem xp {QO : Option Int → Hp → Prop} (h : QO none H) : Z0 σ H QO := h
theorem wS {QO : Option Int → Hp → Prop} (h : te σ H fun x H1 => ∃ i, x = .int i ∧ QO (some i) H1) : Xg te σ H QO := h
end
theorem wH {X : Cx} {sc : Scope} {N : List Str} {cl : List (Str × Addr)} {C : Addr} {fp : List Addr} {s3 : Shared} {H3 : Hp} {xe : Value → Shared → Prop} {es : List Expr} {k n : Nat} {pos : Pos} {t : TGs} (hc : X.calm = true) (h : PGs (cxC X N sc cl C fp s3 H3 xe) es t)
  (hn : (assignEach es (cxC X N sc cl C fp s3 H3 xe).env).length = n := by rfl) (hst : (assignEach es (cxC X N sc cl C fp s3 H3 xe).env).findIdx? (·.1) = none := by rfl) : PG (cxC X N sc cl C fp s3 H3 xe) (.Tuple es k pos) (gTup X.K n t) := wx (X := cxC X N sc cl C fp s3 H3 xe) hc h hn hst
theorem yX {t u : TS} {D : Ends} {σ : St} {H : Hp} (Post : St → Hp → Prop) (h2 : ∀ σ' H', Post σ' H' → u D σ' H') (h1 : (∀ σ' H', Post σ' H' → u D σ' H') → t { D with nx := u D } σ H) : tSeq t u D σ H := h1 h2
def Y8 : Expr → Option V
 | .Constant (.int n) _ _ => some (.int n)
 | .Constant (.str y) _ _ => some (.str y)
 | .UnaryOp .USub (.Constant (.int n) _ _) _ => some (.int (-n))
 | _ => none
def wM : List Expr → Option (List V)
 | [] => some []
 | e :: r => match Y8 e, wM r with
  | some v, some vs => some (v :: vs)
  | _, _ => none
theorem ve {X : Cx} : ∀ {es : List Expr} {vs : List V}, wM es = some vs → PA X es (ZZ vs)
 | [], vs, h => by
  cases h
  exact yL
 | e :: r, vs, h => by
  unfold wM at h
  split at h
  case h_2 => cases h
  case h_1 v vs' h1 h2 =>
   cases h
   have ih := ve (X := X) h2
   have go : ∀ {te : TE}, PE X e te → (starEach (e :: r) X.env = (false, eval e X.env) :: starEach r X.env) → (∀ σ H Q, Q v H → te σ H Q) → PA X (e :: r) (ZZ (v :: vs')) := fun {te} he hs hq => by
    have q := Yh he ih hs
    intro pos pins s σ H Q I hh
    exact q pos pins s σ H Q I (hq σ H _ hh)
   unfold Y8 at h1
   split at h1
   case h_1 => cases h1; exact go zh rfl fun _ _ _ h => h
   case h_2 => cases h1; exact go zQ rfl fun _ _ _ h => h
   case h_3 => cases h1; exact go (YO ZF zh) rfl fun _ _ _ h => ⟨_, rfl, h⟩
   case h_4 => cases h1
theorem wJ {X : Cx} {es : List Expr} {pos : Pos} {vs : List V} (h : wM es = some vs) : PE X (.List es pos) (tLst (ZZ vs)) := zK (ve h)
theorem Zb {σ : St} {H : Hp} {Q : VK} {g : Int → V} {ta : TE} (h : ta σ H fun x H1 => ∃ i, x = .int i ∧ Q (g i) H1) : tUn (rU g) ta σ H Q := h
end L2
namespace G2
open PySem L2
theorem md {i j : Int} (h : 0 < j) : 0 ≤ i % j ∧ i % j < j := ⟨Int.emod_nonneg _ (Int.ne_of_gt h), Int.emod_lt_of_pos _ h⟩
theorem mulL {i j : Int} (h1 : -4000000000 < i) (h2 : i < 4000000000) : CMul i j := .inl ⟨by omega, by omega⟩
theorem mulR {i j : Int} (h1 : -4000000000 < j) (h2 : j < 4000000000) : CMul i j := .inr ⟨by omega, by omega⟩
theorem ofI {r : Int} (h : 0 ≤ r) : ∃ n : Nat, r = (n : Int) := ⟨r.toNat, by omega⟩
structure TK (H H' : Hp) : Prop where
 t : ∀ q xs, H q = some (.tup xs) → H' q = some (.tup xs)
 f : ∀ q o u, H q = some (.frz o u) → H' q = some (.frz o u)
section
variable {p l : Addr} {H H' H'' : Hp} {o : HO}
theorem TK.trans (a : TK H H') (b : TK H' H'') : TK H H'' := ⟨fun q xs e => b.t q xs (a.t q xs e), fun q o u e => b.f q o u (a.f q o u e)⟩
theorem TK.new (h : H l = none) : TK H (upd H l o) := ⟨fun q xs e => by rw [zl (zp e h)]; exact e, fun q ob u e => by rw [zl (zp e h)]; exact e⟩
theorem TK.lst {ys : List V} (h : H l = some (.lst ys)) : TK H (upd H l o) := ⟨fun q xs e => by rw [zl (yr e h (by intro z; cases z))]; exact e, fun q ob u e => by rw [zl (yr e h (by intro z; cases z))]; exact e⟩
theorem TK.same (k : Same H H') : TK H H' := ⟨fun _ _ e => k _ _ e, fun _ _ _ e => k _ _ e⟩
end
theorem _root_.L2.Same.new {H H' : Hp} {l : Addr} {o : HO} (k : Same H H') (h : H' l = none) : Same H (upd H' l o) := fun b u e => by
 rw [zl (zp (k b u e) h)]
 exact k b u e
theorem _root_.L2.Same.put {H H' : Hp} {l : Addr} {o : HO} (k : Same H H') (h : H l = none) : Same H (upd H' l o) := fun b u e => by
 rw [zl (zp e h)]
 exact k b u e
def SqF (K : W.Frag) (H : Hp) (a : Addr) (xs : List V) : Prop :=
 (∃ o, H a = some (.frz o (.lst xs))) ∨ ∃ (o : Obj) (its : Array Value) (n : Nat), K.lookup a = some o ∧ o.cls = .type "list" ∧ o.dict = none ∧ o.data = .seq its n ∧ its.size ≤ sizeLine ∧ Vals xs its.toList
theorem SqF.sq {K : W.Frag} {H : Hp} {a : Addr} {xs : List V} : SqF K H a xs → SqL K H a xs
 | .inl ⟨o, e⟩ => .inl (.inr ⟨o, e⟩)
 | .inr h => .inr h
theorem SqF.of {K : W.Frag} {H : Hp} {a : Addr} {xs : List V} (O : Only H) : SqL K H a xs → SqF K H a xs
 | .inl (.inl e) => by
  rcases O a with z | ⟨o, ys, z⟩
  ·rw [e] at z; cases z
  ·rw [e] at z; cases z
 | .inl (.inr h) => .inl h
 | .inr h => .inr h
structure Tp (H : Hp) (p l : Addr) (ns : List Int) : Prop where
 ex : ∃ c e : Int, H p = some (.lst [.ref l, .int c, .int e])
 hl : H l = some (.lst (ns.map V.int))
 ne : p ≠ l
theorem vz {n : Nat} (h : n < 1000000000000000) : n.log2 < 1920 := by
 by_cases h0 : n = 0
 ·subst h0
  decide
 ·exact (Nat.log2_lt h0).mpr (Nat.lt_of_lt_of_le h (by decide +kernel))
def Sm (i : Int) : Prop := -1000000000000000 < i ∧ i < 1000000000000000
theorem vy : ∀ (ns : List Int), (∀ n ∈ ns, Sm n) → PyData.showableAll (ns.map PyData.int) = true
 | [], _ => rfl
 | n :: ns, h => by
  obtain ⟨h0, h1⟩ := h n List.mem_cons_self
  have hs : n.natAbs.log2 < 1920 := vz (by omega)
  simp only [List.map_cons, PyData.showableAll, PyData.showable, decide_eq_true hs, vy ns fun m hm => h m (List.mem_cons_of_mem _ hm), Bool.and_self]
theorem wC : ∀ (ns : List Int), PyData.hasDictAll (ns.map PyData.int) = false
 | [] => rfl
 | n :: ns => by simp only [List.map_cons, PyData.hasDictAll, PyData.hasDict, wC ns, Bool.or_self]
theorem Yj {n : Int} (h : Sm n) : (PyData.shown (.int n)).length ≤ 16 := by
 obtain ⟨h0, h1⟩ := h
 have := int_text_length_le10 (a := n) (k := 15) (by decide) (by omega)
 show (Str.ofString (toString n)).length ≤ 16
 rw [ofString_length]
 exact this
theorem Zu : ∀ (ns : List Int), (∀ n ∈ ns, Sm n) → ((PyData.shownAll (ns.map PyData.int)).map (·.length)).sum ≤ 16 * ns.length ∧ (PyData.shownAll (ns.map PyData.int)).length = ns.length
 | [], _ => ⟨Nat.le_refl _, rfl⟩
 | n :: ns, h => by
  obtain ⟨i1, i2⟩ := Zu ns fun m hm => h m (List.mem_cons_of_mem _ hm)
  have e := Yj (h n List.mem_cons_self)
  simp only [List.map_cons, PyData.shownAll, List.sum_cons, List.length_cons]
  exact ⟨by omega, by omega⟩
theorem vX (ds : List PyData) : (PyData.shown (.tuple ds)).length ≤ ((PyData.shownAll ds).map (·.length)).sum + 2 * (PyData.shownAll ds).length + 3 := tupleText_len_le _
structure Shw (d : PyData) (n h : Nat) : Prop where
 s : d.showable = true
 nd : d.hasDict = false
 p : d.depth ≤ h
 l : d.shown.length ≤ n
theorem Shw.up {d : PyData} {n h m i : Nat} (x : Shw d n h) (h1 : n ≤ m) (h2 : h ≤ i) : Shw d m i := ⟨x.s, x.nd, Nat.le_trans x.p h2, Nat.le_trans x.l h1⟩
theorem Shw.int {i : Int} (h : Sm i) : Shw (.int i) 16 0 := ⟨by
 obtain ⟨h0, h1⟩ := h
 have hs : i.natAbs.log2 < 1920 := vz (by omega)
 simp only [PyData.showable, decide_eq_true hs], rfl, Nat.zero_le _, Yj h⟩
theorem Shw.ints {ns : List Int} (h : ∀ n ∈ ns, Sm n) : Shw (.tuple (ns.map PyData.int)) (18 * ns.length + 3) 1 := ⟨by
  simp only [PyData.showable]
  exact vy ns h, by
  simp only [PyData.hasDict]
  exact wC ns, by
  show PyData.depthAll _ + 1 ≤ 1
  rw [yP]
  decide, by
  have h1 := vX (ns.map PyData.int)
  obtain ⟨h2, h3⟩ := Zu ns h
  omega⟩
theorem Shw.two {a b : PyData} {m n h : Nat} (ha : Shw a m h) (hb : Shw b n h) : Shw (.tuple [a, b]) (m + n + 7) (h + 1) := ⟨by
  simp only [PyData.showable, PyData.showableAll, ha.s, hb.s, Bool.and_self], by
  simp only [PyData.hasDict, PyData.hasDictAll, ha.nd, hb.nd, Bool.or_self], by
  show PyData.depthAll [a, b] + 1 ≤ h + 1
  have := ha.p
  have := hb.p
  simp only [PyData.depthAll]
  omega, by
  have h1 := vX [a, b]
  have := ha.l
  have := hb.l
  simp only [PyData.shownAll, List.map_cons, List.map_nil, List.sum_cons, List.sum_nil, List.length_cons, List.length_nil] at h1
  omega⟩
theorem ZW {H : Hp} {Q : VK} {v : V} {d : PyData} {n h : Nat} (r : RdV H v d) (x : Shw d n h) (hn : n ≤ 100000) (hh : h ≤ 50) (q : Q (.str d.shown) H) : Xs [v] H Q :=
 ⟨v, d, rfl, r, x.s, x.nd, Nat.le_trans x.p hh, Nat.le_trans x.l (Nat.le_trans hn (by decide : 100000 ≤ sizeLine)), q⟩
end G2
namespace L2
open PySem PySem.Spec PyProof.Rows
theorem wU {K : W.Frag} {n : Nat} {t : TGs} {σ : St} {H : Hp} {Q : St → Hp → Prop} {a : Addr} {xs : List V} (h : H a = some (.tup xs)) (hn : xs.length = n) (q : t xs σ H Q) : gTup K n t (.ref a) σ H Q := ⟨a, xs, rfl, SqT.of h, hn, q⟩
end L2
namespace G2
open PySem L2
theorem _root_.itl {α : Type} {g : α → V} {xs : List α} {i : Nat} {x : V} (h : (xs.map g)[i]? = some x) : i < xs.length := by have := (List.getElem?_eq_some_iff.mp h).1; simpa using this
theorem _root_.itx {α : Type} {g : α → V} {xs : List α} {i : Nat} {x : V} (h : (xs.map g)[i]? = some x) (hi : i < xs.length) : x = g xs[i] := by rw [List.getElem?_map, List.getElem?_eq_getElem hi] at h; exact (Option.some.inj h).symm
theorem _root_.lm1 {α : Type} {g : α → V} {xs : List α} (h : xs.length ≤ 1000) : (xs.map g).length < sizeLine := by rw [List.length_map]; exact Nat.lt_of_le_of_lt h (by decide)
section
variable {D : Addr} {te : TE} {tc : TT} {Q : VK} {ρ : St} {H : Hp} {K : W.Frag} {a b : Addr}
theorem zip_map {xs ys : List Int} (g : Int → Int → Int) (ha : H a = some (.tup (xs.map V.int))) (hb : H b = some (.tup (ys.map V.int))) (hlen : xs.length = ys.length) (hn : xs.length ≤ 1000)
  (step : ∀ (i : Nat) (x y : Int) (H' : Hp), xs[i]? = some x → ys[i]? = some y → Same H H' → ∀ R : V → Hp → Prop, (∀ H'', Same H' H'' → R (.int (g x y)) H'') → te (some (.int x) :: some (.int y) :: ρ) H' R)
  (q : ∀ H', Same H H' → H' D = some (.lst ((List.zipWith g xs ys).map V.int)) → Q (.ref D) H') (hD : H D = none) : CGo (Itz K a b) D (gTup K 2 (wl (yi 0) (wl (yi 1) gNil))) tAll te Q (none :: none :: ρ) H := by
 refine cgo_zip (xs := xs.map V.int) (zs := ys.map V.int) (by simp [hlen]) (fun i zs H' => zs = ((List.zipWith g xs ys).take i).map V.int ∧ Same H H') ⟨rfl, Same.new (Same.refl H) hD⟩ (fun i zs H' _ ⟨_, k'⟩ => ⟨SqT.of (k' _ _ ha), SqT.of (k' _ _ hb)⟩) ?_ ?_
 ·rintro i x z zs H' p hx hz ⟨rfl, K'⟩ hDz hp R S kR _
  have hi1 : i < xs.length := itl hx
  have hi2 : i < ys.length := by omega
  have ex : x = .int xs[i] := itx hx hi1
  have ez : z = .int ys[i] := itx hz hi2
  subst ex ez
  refine xJ ?_
  refine iteT ?_
  have hD' : upd H' p (.tup [.int xs[i], .int ys[i]]) D = some (.lst (((List.zipWith g xs ys).take i).map V.int)) := by rw [zl (zp hDz hp)]; exact hDz
  refine step i _ _ _ (by simp [hi1]) (by simp [hi2]) (K'.new hp) R fun H'' K'' => ?_
  refine kR _ _ (K'' _ _ hD') (by rw [List.length_map, List.length_take]; exact zt (by omega)) ⟨?_, ((K'.new hp).trans K'').put hD⟩
  have hz' : (List.zipWith g xs ys)[i]? = some (g xs[i] ys[i]) := by simp [List.getElem?_zipWith, hi1, hi2]
  rw [List.take_add_one, List.map_append, hz']
  rfl
 ·rintro zs H' ⟨rfl, K'⟩ hDz
  refine q H' K' ?_
  rw [hDz, List.take_of_length_le]
  simp
  omega
theorem tup_map {xs : List Int} (g : Int → Int) (ha : H a = some (.tup (xs.map V.int))) (hn : xs.length ≤ 1000)
  (step : ∀ (i : Nat) (x : Int) (H' : Hp), xs[i]? = some x → Same H H' → ∀ R : V → Hp → Prop, (∀ H'', Same H' H'' → R (.int (g x)) H'') → te (some (.int x) :: ρ) H' R)
  (q : ∀ H', Same H H' → H' D = some (.lst ((xs.map g).map V.int)) → Q (.ref D) H') (hD : H D = none) : CGo (Itt K a) D (yi 0) tAll te Q (none :: ρ) H := by
 refine wn (xs := xs.map V.int) (fun i zs H' => zs = ((xs.map g).take i).map V.int ∧ Same H H') ⟨rfl, Same.new (Same.refl H) hD⟩ (fun i zs H' _ ⟨_, k'⟩ => SqT.of (k' _ _ ha)) ?_ ?_
 ·rintro i x zs H' hx ⟨rfl, K'⟩ hDz R S kR _
  have hi1 : i < xs.length := itl hx
  have ex : x = .int xs[i] := itx hx hi1
  subst ex
  refine xJ ?_
  refine iteT ?_
  refine step i _ _ (by simp [hi1]) K' R fun H'' K'' => ?_
  refine kR _ _ (K'' _ _ hDz) (by rw [List.length_map, List.length_take]; exact zt (by omega)) ⟨?_, (K'.trans K'').put hD⟩
  rw [List.take_add_one, List.map_append]
  simp [hi1]
 ·rintro zs H' ⟨rfl, K'⟩ hDz
  refine q H' K' ?_
  rw [hDz, List.take_of_length_le]
  simp
theorem rng_map {n : Nat} (g : Nat → Int) (hn : n ≤ 1000)
  (step : ∀ (i : Nat) (H' : Hp), i < n → Same H H' → ∀ R : V → Hp → Prop, (∀ H'', Same H' H'' → R (.int (g i)) H'') → te (some (.int (i : Int)) :: ρ) H' R)
  (q : ∀ H', Same H H' → H' D = some (.lst (((List.range n).map g).map V.int)) → Q (.ref D) H') (hD : H D = none) : CGo (Itr 0 n) D (yi 0) tAll te Q (none :: ρ) H := by
 refine ym (fun i zs H' => zs = ((List.range i).map g).map V.int ∧ Same H H') ⟨rfl, Same.new (Same.refl H) hD⟩ ?_ ?_
 ·rintro i zs H' hi ⟨rfl, K'⟩ hDz R S kR _
  rw [Int.zero_add]
  refine xJ ?_
  refine iteT ?_
  refine step i _ hi K' R fun H'' K'' => ?_
  refine kR _ _ (K'' _ _ hDz) (by rw [List.length_map, List.length_map, List.length_range]; exact zt (by omega)) ⟨?_, (K'.trans K'').put hD⟩
  rw [List.range_succ, List.map_append, List.map_append]
  rfl
 ·rintro zs H' ⟨rfl, K'⟩ hDz
  exact q H' K' hDz
end
section
variable {X : Cx} {k : Nat}
def rNeD : R2 := fun x y H Q => ∃ dx dy, RdV H x dx ∧ RdV H y dy ∧ dx.canLay0 = true ∧ dy.canLay0 = true ∧ dx.depth ≤ 60 ∧ Q (.bl (!PyData.eqv dx dy)) H
theorem YU (hr : Room k X.A) : OpR X (compareOp .NotEq) rNeD := by
 intro pins s σ H x y v u Q I rx ry h
 obtain ⟨dx, dy, hx, hy, cx, cy, hd, q⟩ := h
 obtain ⟨as, ra⟩ := hx.reads I rx
 obtain ⟨bs, rb⟩ := hy.reads I ry
 have := hr.units
 exact SeqAt.compareNe_reads ra rb cx cy (by omega) ⟨.bl _, H, I, rfl, q⟩
end
structure Fm where
 ins : List Int
 sts : List Int
 plus : Int
structure FmOk (n m : Nat) (B : Int) (f : Fm) : Prop where
 li : f.ins.length = n
 ls : f.sts.length = m
 bi : ∀ x ∈ f.ins, -B ≤ x ∧ x ≤ B
 bs : ∀ x ∈ f.sts, -B ≤ x ∧ x ≤ B
 bp : -B ≤ f.plus ∧ f.plus ≤ B
end G2
namespace L2
open PySem PySem.Spec PyProof.Rows
def isI (i : Int) : Value → Bool
 | .int a _ => a == i
 | _ => false
theorem map_erase (k : Nat) (xs : List Int) : (xs.map V.int).eraseIdx k = (xs.eraseIdx k).map V.int := by
 induction xs generalizing k with
 | nil => rfl
 | cons x xs ih => cases k with
  | zero => rfl
  | succ k => simp [ih]
theorem cgo_list {D : Addr} {tc : TT} {te : TE} {Q : VK} {ρ : St} {H : Hp} {K : W.Frag} {a : Addr} {xs : List V} (Pv : Nat → List V → Hp → Prop) (h0 : Pv 0 [] (upd H D (.lst []))) (hl : ∀ i ys H', i ≤ xs.length → Pv i ys H' → SqL K H' a xs)
  (hs : ∀ i x ys H', xs[i]? = some x → Pv i ys H' → H' D = some (.lst ys) → ∀ (R : V → Hp → Prop) (S : Hp → Prop), (∀ y H4, H4 D = some (.lst ys) → ys.length < sizeLine → Pv (i + 1) (ys ++ [y]) (upd H4 D (.lst (ys ++ [y]))) → R y H4) → (∀ H3, H3 D = some (.lst ys) → Pv (i + 1) ys H3 → S H3) →
   tc (some x :: ρ) H' fun b H3 => if b = true then te (some x :: ρ) H3 R else S H3)
  (hd : ∀ ys H', Pv xs.length ys H' → H' D = some (.lst ys) → Q (.ref D) H') : CGo (Itl K a) D (yi 0) tc te Q (none :: ρ) H := by
 refine ⟨fun i m τ ys H' => m = xs.length - i ∧ i ≤ xs.length ∧ (∃ tv, τ = tv :: ρ) ∧ Pv i ys H' ∧ H' D = some (.lst ys), ⟨xs.length, by omega, Nat.zero_le _, ⟨_, rfl⟩, h0, zi⟩, ?_⟩
 rintro i m τ ys H' ⟨rfl, hi, ⟨tv, rfl⟩, hp, hD⟩
 refine ⟨hD, ?_⟩
 have sq := hl i ys H' hi hp
 by_cases hlt : i < xs.length
 ·refine .inr ⟨⟨xs, xs[i], sq, by simp [hlt]⟩, ?_⟩
  rintro v H'' ⟨rfl, hv⟩
  have hv' := hv xs sq
  show tc (some v :: ρ) _ _
  exact hs i v ys _ hv' hp hD _ _ (fun y H4 a b c => ⟨a, b, xs.length - (i + 1), by omega, rfl, hlt, ⟨_, rfl⟩, c, zi⟩) fun H3 a c => ⟨xs.length - (i + 1), by omega, rfl, hlt, ⟨_, rfl⟩, c, a⟩
 ·have e : i = xs.length := by omega
  subst e
  exact .inl ⟨⟨xs, sq, Nat.le_refl _⟩, hd ys _ hp hD⟩
end L2
namespace G2
open PySem L2
end G2
namespace L2
open PySem PySem.Spec PyProof.Rows
structure NScope (o sc : Scope) (TN F : List Str) : Prop where
 okind : o.kind = .function
 kind : sc.kind = .function
 names : ∀ y ∈ sc.names, y.2 = .local → sc.names.lookup y.1 = some .local
 clN : ∀ y ∈ sc.names, y.2 = .cell → sc.names.lookup y.1 = some .cell
 fr : ∀ y ∈ sc.names, y.2 = .free → o.names.lookup y.1 = some .cell ∧ sc.names.lookup y.1 = some .free
 ff : ∀ y ∈ F, (y, NameKind.free) ∈ sc.names
theorem yz : ∀ (names : List (Str × NameKind)) (n : Nat) (acc : List (Str × Addr)), cellsFrom n names acc = cellsFrom n names [] ++ acc
 | [], n, acc => by simp [cellsFrom]
 | (x, k) :: r, n, acc => by
  unfold cellsFrom
  split
  ·rw [yz r (n + 1) ((x, n) :: acc), yz r (n + 1) [(x, n)]]
   simp
  ·exact yz r n acc
theorem yQ : ∀ (names : List (Str × NameKind)) (n : Nat) (acc : List (Str × Addr)) (x : Str) (c : Addr), (x, c) ∈ cellsFrom n names acc → (x, NameKind.cell) ∈ names ∨ (x, c) ∈ acc
 | [], n, acc, x, c, h => .inr h
 | (y, k) :: r, n, acc, x, c, h => by
  unfold cellsFrom at h
  split at h
  ·rename_i hk
   have hk' : k = .cell := by simpa using hk
   subst hk'
   rcases yQ r (n + 1) ((y, n) :: acc) x c h with z | z
   ·exact .inl (List.mem_cons_of_mem _ z)
   ·rcases List.mem_cons.mp z with e | z
    ·cases e
     exact .inl List.mem_cons_self
    ·exact .inr z
  ·rcases yQ r n acc x c h with z | z
   ·exact .inl (List.mem_cons_of_mem _ z)
   ·exact .inr z
def ownC (n : Nat) (sc : Scope) : List (Str × Addr) := cellsFrom (n + 1) sc.names []
def allC (env : Env) (n : Nat) (sc : Scope) : List (Str × Addr) := ownC n sc ++ cloF env sc.names []
theorem Zt {α : Type} {x : Str} {c : α} : ∀ {l r : List (Str × α)}, (l ++ r).lookup x = some c → l.lookup x = some c ∨ (l.lookup x = none ∧ r.lookup x = some c)
 | [], r, h => .inr ⟨rfl, h⟩
 | (y, d) :: l, r, h => by
  rw [List.cons_append, List.lookup_cons] at h
  rw [List.lookup_cons]
  cases e : x == y with
  | true => rw [e] at h; exact .inl h
  | false => rw [e] at h; exact Zt h
theorem ZQ {α : Type} {x : Str} {c : α} : ∀ {l r : List (Str × α)}, l.lookup x = some c → (l ++ r).lookup x = some c
 | [], r, h => by cases h
 | (y, d) :: l, r, h => by
  rw [List.lookup_cons] at h
  rw [List.cons_append, List.lookup_cons]
  cases e : x == y with
  | true => rw [e] at h; exact h
  | false => rw [e] at h; exact ZQ h
theorem Y0 {α : Type} {x : Str} : ∀ {l r : List (Str × α)}, l.lookup x = none → (l ++ r).lookup x = r.lookup x
 | [], r, h => rfl
 | (y, d) :: l, r, h => by
  rw [List.lookup_cons] at h
  rw [List.cons_append, List.lookup_cons]
  cases e : x == y with
  | true => rw [e] at h; cases h
  | false => rw [e] at h; exact Y0 h
theorem NScope.own {o sc : Scope} {TN F : List Str} (S : NScope o sc TN F) {n : Nat} {x : Str} {c : Addr} (h : (ownC n sc).lookup x = some c) : sc.names.lookup x = some .cell := by
 rcases yQ sc.names (n + 1) [] x c (PySem.mem_of_lookup h) with z | z
 ·exact S.clN _ z rfl
 ·cases z
theorem NScope.notown {o sc : Scope} {TN F : List Str} (S : NScope o sc TN F) {n : Nat} {x : Str} (h : (x, NameKind.free) ∈ sc.names) : (ownC n sc).lookup x = none := by
 cases e : (ownC n sc).lookup x with
 | none => rfl
 | some c =>
  have h1 := S.own e
  rw [(S.fr _ h rfl).2] at h1
  cases h1
theorem xL {env : Env} {y : Str} : ∀ {names : List (Str × NameKind)},
    ((names.map fun (n, k) => if (k == NameKind.free && env.scope.kind == .function && env.kindOf n == some .cell) then (n, NameKind.cell) else (n, k)).lookup y = some .cell ∨
     (names.map fun (n, k) => if (k == NameKind.free && env.scope.kind == .function && env.kindOf n == some .cell) then (n, NameKind.cell) else (n, k)).lookup y = some .free) → (y, NameKind.free) ∈ names ∨ (y, NameKind.cell) ∈ names
  | [], h => by simp at h
  | (n, k) :: r, h => by
    have ih := @xL env y r
    have h' : List.lookup y ((if (k == NameKind.free && env.scope.kind == .function && env.kindOf n == some .cell) = true then (n, NameKind.cell) else (n, k)) :: (r.map fun (n, k) => if (k == NameKind.free && env.scope.kind == .function && env.kindOf n == some .cell) then (n, NameKind.cell) else (n, k))) = some .cell ∨
      List.lookup y ((if (k == NameKind.free && env.scope.kind == .function && env.kindOf n == some .cell) = true then (n, NameKind.cell) else (n, k)) :: (r.map fun (n, k) => if (k == NameKind.free && env.scope.kind == .function && env.kindOf n == some .cell) then (n, NameKind.cell) else (n, k))) = some .free := h
    clear h
    have more : ((y, NameKind.free) ∈ r ∨ (y, NameKind.cell) ∈ r) → (y, NameKind.free) ∈ (n, k) :: r ∨ (y, NameKind.cell) ∈ (n, k) :: r := fun z => z.elim (fun z => .inl (List.mem_cons_of_mem _ z)) fun z => .inr (List.mem_cons_of_mem _ z)
    cases hx : y == n with
    | true =>
      have e : y = n := by simpa using hx
      subst e
      by_cases hc' : (k == NameKind.free && env.scope.kind == .function && env.kindOf y == some .cell) = true
      · have hk : k = .free := by
          have := (Bool.and_eq_true _ _ ▸ (Bool.and_eq_true _ _ ▸ hc').1).1
          simpa using this
        subst hk
        exact .inl List.mem_cons_self
      · rw [if_neg hc'] at h'
        simp only [List.lookup_cons, beq_self_eq_true] at h'
        rcases h' with h' | h'
        · cases h'
          exact .inr List.mem_cons_self
        · cases h'
          exact .inl List.mem_cons_self
    | false =>
      by_cases hc' : (k == NameKind.free && env.scope.kind == .function && env.kindOf n == some .cell) = true
      · rw [if_pos hc'] at h'; simp only [List.lookup_cons, hx] at h'; exact more (ih h')
      · rw [if_neg hc'] at h'; simp only [List.lookup_cons, hx] at h'; exact more (ih h')
theorem newEnv_cells {M : Model} {A : Around} {E : Value → Shared → Prop} {s : Shared} {scope : Scope} {globals : Addr} {cl : List (Str × Addr)} {qual : Str} {env : Env} {Q : Env → Shared → Prop}
  (hQ : ∀ h', h'.Ns s.heap.objs.size (fun _ => none) → (∀ b o, s.heap.get? b = some o → h'.get? b = some o) → (∀ x c, (ownC s.heap.objs.size scope).lookup x = some c → h'.IsCell c none ∧ s.heap.objs.size < c) → ((ownC s.heap.objs.size scope).Pairwise fun x y => x.2 ≠ y.2) →
   Q { scope := scope, locals := s.heap.objs.size, globals := globals, cells := ownC s.heap.objs.size scope ++ cl, qual := qual, func := none, code := env.code, frame := env.frame, builtins := env.builtins } { s with heap := h' }) :
  wpAny M A (newFunctionEnv scope globals cl [] qual none .none (some env)) Q E s := by
 simp only [newFunctionEnv, Option.isSome_some, if_true]
 refine wpAny_bind (wpAny_alloc ?_)
 refine wpAny_bind (wpAny_layCells _ (fun name kind cells => by cases hkc : kind == NameKind.cell <;> simp [hkc]) _ _ _ _ ?_)
 have ok := cellsFrom_ok scope.names (s.heap.push { cls := .type "dict", data := .dict #[] }) (s.heap.objs.size + 1) [] ⟨fun _ _ hm => (nomatch hm), List.Pairwise.nil⟩ (by rw [Heap.size_push]; exact Nat.le_refl _)
 rw [Heap.size_push] at ok
 rw [show ({ s with heap := s.heap.push { cls := .type "dict", data := .dict #[] } } : Shared).heap.objs.size = s.heap.objs.size + 1 from Heap.size_push ..]
 rw [yz]
 refine wpAny_bind ?_
 rw [List.forIn_nil]
 refine wpAny_pure (wpAny_pure ?_)
 exact hQ _ ((Heap.Ns.new s.heap (.type "dict")).keeps (pushCells_keeps _ _)) (fun b o e => pushCells_keeps _ _ b o (Heap.get?_push_of_some _ e)) (fun x c hc => ⟨(ok.empty x c (PySem.mem_of_lookup hc)).1, (ok.empty x c (PySem.mem_of_lookup hc)).2⟩) ok.apart
def cxN (X : Cx) (N : List Str) (sc : Scope) (cl : List (Str × Addr)) (C : Addr) (fp : List Addr) (s₃ : Shared) (H₃ : Hp) (xe : Value → Shared → Prop) : Cx :=
 { X with N := N, s₀ := s₃, H₀ := H₃, env := compEnvC sc cl C X.env, outer := X.stack, ex := fp, fn := fun y => sc.names.lookup y == some .cell, pn := [], xe := xe }
theorem inv_compN {X : Cx} {pins : List (Addr × Obj)} {σ : St} {H : Hp} {s : Shared} {sc : Scope} {TN F : List Str} {ix : List Nat} {fp : List Addr} {h4 : Heap} {tk : Nat} {m : Str → Option Value} {xe : Value → Shared → Prop}
  (S : NScope X.env.scope sc TN F) (hix : ix.map (fun i => X.N[i]?) = F.map some) (I : Inv X pins σ H s) (hf : ∀ b ∈ fp, FpOk X pins H b) (ho : ∀ b ∈ fp, ∃ o, s.heap.get? b = some o)
  (hk : ∀ b o, s.heap.get? b = some o → h4.get? b = some o) (hn : h4.Ns s.heap.objs.size m) (hcl : ∀ x c, (ownC s.heap.objs.size sc).lookup x = some c → h4.IsCell c none ∧ s.heap.objs.size < c) (hap : (ownC s.heap.objs.size sc).Pairwise fun x y => x.2 ≠ y.2) :
  Inv (cxN X (TN ++ F) sc (allC X.env s.heap.objs.size sc) s.heap.objs.size fp s H xe) [] (List.replicate TN.length none ++ sub ix σ) H { s with heap := h4, toks := tk } := by
 have cl0 : ∀ x c, (cloF X.env sc.names []).lookup x = some c → X.env.cells.lookup x = some c := fun x c e => by
  rw [yn] at e
  by_cases hx : (x, NameKind.free) ∈ sc.names
  ·rw [if_pos hx] at e
   obtain ⟨c', hc'⟩ := I.ok.has x (.inl (S.fr _ hx rfl).1)
   rw [hc'] at e ⊢
   exact e
  ·rw [if_neg hx] at e
   cases e
 have cl : ∀ x c, (allC X.env s.heap.objs.size sc).lookup x = some c → (ownC s.heap.objs.size sc).lookup x = some c ∨ X.env.cells.lookup x = some c := fun x c e => by
  rcases Zt e with z | ⟨_, z⟩
  ·exact .inl z
  ·exact .inr (cl0 x c z)
 have old : ∀ x c, X.env.cells.lookup x = some c → c < s.heap.objs.size := fun x c e => by
  obtain ⟨v, o, ho', _⟩ := I.cell x c e
  exact Heap.lt_size ho'
 have cl' : ∀ x, (x, NameKind.free) ∈ sc.names → (allC X.env s.heap.objs.size sc).lookup x = X.env.cells.lookup x := fun x hx => by
  unfold allC
  rw [Y0 (S.notown hx), yn, if_pos hx]
  obtain ⟨c', hc'⟩ := I.ok.has x (.inl (S.fr _ hx rfl).1)
  rw [hc']
  rfl
 have hlen : ix.length = F.length := by
  have := congrArg List.length hix
  simpa using this
 refine ⟨⟨I.ok.mod, S.kind, I.ok.glob, I.ok.blt, Nat.le_refl _, fun x y c h1 h2 => ?_, fun x hx => ?_, fun x c z h => ?_, I.ok.hd, I.ok.frames, .inl rfl, fun b hb => ⟨?_, fun x c e => ?_⟩,
  I.bs, Nat.le_trans I.ok.bsz I.sz, fun b o e hb => ?_, fun b hb hfs => ?_, I.stack, I.stkFree⟩, rfl, I.bare, Un.kept hk, ⟨m, hn, fun i x v h1 h2 h3 => ?_⟩, fun x c e => ?_, I.hok.fresh (Nat.le_refl _), fun x c e => ?_, fun p hp => absurd (show p ∈ ([] : List (Addr × Obj)) from hp) (by simp), I.hok.kept hk, ?_⟩
 ·rcases cl x c h1 with a | a <;> rcases cl y c h2 with b | b
  ·exact name_of_addr hap (PySem.mem_of_lookup a) (PySem.mem_of_lookup b)
  ·exact absurd (old y c b) (Nat.not_lt.mpr (Nat.le_of_lt (hcl x c a).2))
  ·exact absurd (old x c a) (Nat.not_lt.mpr (Nat.le_of_lt (hcl y c b).2))
  ·exact I.ok.inj x y c a b
 ·rcases xL (env := X.env) hx with hx' | hx'
  ·obtain ⟨c, hc⟩ := I.ok.has x (.inl (S.fr _ hx' rfl).1)
   exact ⟨c, (cl' x hx').trans hc⟩
  ·obtain ⟨c, hc⟩ := wq (n := s.heap.objs.size + 1) (S.clN _ hx' rfl)
   exact ⟨c, ZQ hc⟩
 ·have z' : sc.names.lookup x = some .cell := by simpa [cxN] using z
  obtain ⟨c', hc⟩ := wq (n := s.heap.objs.size + 1) z'
  have hc' : (allC X.env s.heap.objs.size sc).lookup x = some c' := ZQ hc
  have h' : (allC X.env s.heap.objs.size sc).lookup x = some c := h
  have ec : c' = c := Option.some.inj (hc'.symm.trans h')
  rw [← ec]
  exact Nat.le_of_lt (hcl x c' hc).2
 ·obtain ⟨o, e⟩ := ho b hb
  exact Nat.ne_of_lt (Heap.lt_size e)
 ·rcases cl x c e with z | z
  ·obtain ⟨o, eb⟩ := ho b hb
   exact fun w => absurd (Heap.lt_size eb) (by rw [← w]; exact Nat.not_lt.mpr (Nat.le_of_lt (hcl x c z).2))
  ·exact (hf b hb).2.2.2.2.1 x c z
 ·rcases (hf b hb).2.2.2.1 with z | z
  ·exact I.ok.noex b o e z
  ·exact absurd (Nat.lt_of_lt_of_le (Heap.lt_size e) (Nat.le_trans I.ok.bsz z)) (Nat.lt_irrefl _)
 ·rcases List.mem_cons.mp (I.stkSub b hfs) with z | z
  ·exact (hf b hb).2.1 z
  ·exact (hf b hb).2.2.1 z
 ·have hi : TN.length ≤ i := by
   apply Nat.le_of_not_lt
   intro hlt
   rw [List.getElem?_append_left (by simpa using hlt), List.getElem?_replicate] at h2
   split at h2 <;> cases h2
  rw [List.getElem?_append_right (by simpa using hi), List.length_replicate] at h2
  have h1' : F[i - TN.length]? = some x := by
   have : (TN ++ F)[i]? = some x := h1
   rw [List.getElem?_append_right hi] at this
   exact this
  have e3 := congrArg (fun l => l[i - TN.length]?) hix
  simp only [List.getElem?_map, h1', Option.map_some] at e3
  unfold sub at h2
  rw [List.getElem?_map] at h2
  cases ej : ix[i - TN.length]? with
  | none => rw [ej] at h2; cases h2
  | some k =>
   rw [ej] at h2 e3
   have h2' : (σ[k]?).join = some v := Option.some.inj h2
   have e3' : X.N[k]? = some x := Option.some.inj e3
   have hσ : σ[k]? = some (some v) := by
    cases e : σ[k]? with
    | none => rw [e] at h2'; cases h2'
    | some q =>
     rw [e] at h2'
     have : q = some v := h2'
     rw [this]
   have hfr := S.ff x (List.mem_of_getElem? h1')
   have hcell := (S.fr _ hfr rfl).1
   obtain ⟨m0, hn0, hl0⟩ := I.loc
   obtain ⟨u, r, l⟩ := hl0 k x v e3' hσ (.inr (.inl hcell))
   refine ⟨u, r, ?_⟩
   rcases l with ⟨l1, _⟩ | ⟨_, c, hc, o, ho', hd⟩
   ·have l1' : X.env.scope.names.lookup x = some .local := l1
    rw [hcell] at l1'
    cases l1'
   ·exact .inr ⟨.inl (xh (env := X.env) S.okind hcell (S.fr _ hfr rfl).2), c, (cl' x hfr).trans hc, o, hk c o ho', hd⟩
 ·rcases cl x c e with z | z
  ·exact ⟨_, (hcl x c z).1⟩
  ·obtain ⟨v, o, ho', hd⟩ := I.cell x c z
   exact ⟨v, o, hk c o ho', hd⟩
 ·rcases cl x c e with z | z
  ·exact I.hok.fresh (Nat.le_of_lt (hcl x c z).2)
  ·exact I.freeC x c z
 ·show _ = (TN ++ F).length
  rw [List.length_append, List.length_append, List.length_replicate]
  unfold sub
  rw [List.length_map, hlen]
theorem comp_blockN {X : Cx} {pins : List (Addr × Obj)} {σ : St} {H : Hp} {s : Shared} {sc : Scope} {TN F : List Str} {ix : List Nat} {elt tg iter : Expr} {ifs : List Expr} {pos : Pos} {g : TG} {tc : TT} {te : TE} {J : It} {fp : List Addr} {it : Addr} {tn : Nat → Heap → Prop} {Q : VK}
  {RR : Value → Addr → Result → Shared → Prop} {E : Value → Shared → Prop}
  (S : NScope X.env.scope sc TN F) (hix : ix.map (fun i => X.N[i]?) = F.map some) (hc : X.calm = true) (I : Inv X pins σ H s) (T : Turn X.prog X.w X.K tg J fp it tn) (st : tn 0 s.heap) (hf : ∀ b ∈ fp, FpOk X pins H b)
  (hg : ∀ cl C fp s3 H3 xe, PG (cxN X (TN ++ F) sc cl C fp s3 H3 xe) tg g) (ht : ∀ cl C fp s3 H3 xe, PTs (cxN X (TN ++ F) sc cl C fp s3 H3 xe) ifs tc) (he : ∀ cl C fp s3 H3 xe, PE (cxN X (TN ++ F) sc cl C fp s3 H3 xe) elt te)
  (hW : ∀ D, H D = none → CGo J D g tc te Q (List.replicate TN.length none ++ sub ix σ) H)
  (fin : ∀ D C H' s', Inv X pins σ H' s' → (∃ m, s'.heap.Ns C m) → H' C = none → C ≠ X.env.locals → X.s₀.heap.objs.size ≤ C → (∀ x c, X.env.cells.lookup x = some c → c ≠ C) → (∀ p ∈ X.pn ++ pins, p.1 ≠ C) → Q (.ref D) H' → RR (.ref D) C (.ok .next) s') :
  wpAny (model X.prog X.w) X.A (newList []) (fun acc s₃ => wpAny (model X.prog X.w) X.A (newFunctionEnv sc X.env.globals (cloF X.env sc.names []) [] X.env.qual none .none (some X.env)) (fun cenv s₄ =>
   codeAny (model X.prog X.w) X.A (.compStart (.ListComp elt [⟨tg, iter, ifs, 0⟩] sc pos) 0 (.ref it) acc { cenv with scope := relabel sc X.env }) (RR acc cenv.locals) s₄) E s₃) E s := by
 have hfo : ∀ b ∈ fp, ∃ o, s.heap.get? b = some o := fun b hb => let ⟨o, e, _⟩ := T.obj 0 _ st b hb; ⟨o, e⟩
 refine wpAny_newObj_type ?_
 obtain ⟨W, ⟨m0, w0⟩, go⟩ := hW s.heap.objs.size I.fresh
 have I3 : Inv X pins σ (upd H s.heap.objs.size (.lst [])) { s with heap := s.heap.push { cls := .type "list", data := .seq ([] : List Value).toArray } } := I.lnew (its := []) (ys := []) (t' := s.toks) .nil (Nat.zero_le _)
 generalize hs3 : ({ s with heap := s.heap.push { cls := .type "list", data := .seq ([] : List Value).toArray } } : Shared) = s3 at I3
 have hk3 : ∀ b o, s.heap.get? b = some o → s3.heap.get? b = some o := fun b o e => by
  rw [← hs3]
  exact Heap.get?_push_of_some _ e
 have hf3 : ∀ b ∈ fp, FpOk X pins (upd H s.heap.objs.size (.lst [])) b := fun b hb => by
  obtain ⟨o, e⟩ := hfo b hb
  exact ⟨by rw [zl (Nat.ne_of_lt (Heap.lt_size e))]; exact (hf b hb).1, (hf b hb).2⟩
 have st3 : tn 0 s3.heap := T.keep 0 _ _ st fun b hb o e => hk3 b o e
 show wpAny _ _ _ _ _ s3
 refine newEnv_cells (fun h4 hn4 hk4 hcl4 hap4 => ?_)
 generalize hR : RR (.ref s.heap.objs.size) s3.heap.objs.size = R
 have loop : ∀ s4 : Shared, s4 = { s3 with heap := h4 } →
   codeAny (model X.prog X.w) X.A (.compLoop (.ListComp elt [⟨tg, iter, ifs, 0⟩] sc pos) 0 (.ref it) (.ref s.heap.objs.size) (compEnvC sc (allC X.env s3.heap.objs.size sc) s3.heap.objs.size X.env)) R s4 := by
  rintro s4 rfl
  let X' : Cx := cxN X (TN ++ F) sc (allC X.env s3.heap.objs.size sc) s3.heap.objs.size fp s3 (upd H s.heap.objs.size (.lst [])) (notedBy (model X.prog X.w) X.A (compEnvC sc (allC X.env s3.heap.objs.size sc) s3.heap.objs.size X.env) fun e s' => R (.error e) s')
  have I4 : Inv X' [] (List.replicate TN.length none ++ sub ix σ) (upd H s.heap.objs.size (.lst [])) { s3 with heap := h4 } :=
   inv_compN S hix I3 hf3 (fun b hb => let ⟨o, e⟩ := hfo b hb; ⟨o, hk3 b o e⟩) hk4 hn4 hcl4 hap4
  have fpx : ∀ {H' : Hp}, (∀ b ∈ fp, H' b = none) → ∀ b ∈ fp, FpOk X' [] H' b := fun {H'} hn b hb => by
   refine ⟨hn b hb, (I4.ok.exf b hb).1, fun z => I4.ok.exfs b hb z, .inl hb, fun x c e => (I4.ok.exf b hb).2 x c e, fun p hp => absurd (show p ∈ ([] : List (Addr × Obj)) from hp) (by simp)⟩
  refine vF (fun n s' => ∃ i τ ys H', Inv X' [] τ H' s' ∧ tn i s'.heap ∧ (∀ b ∈ fp, H' b = none) ∧ W i n τ ys H') ?_ m0 ⟨0, _, [], _, I4, T.keep 0 _ _ st3 fun b hb o e => hk4 b o e, fun b hb => (hf3 b hb).1, w0⟩
  rintro n s5 ⟨i, τ, ys, H5, I5, st5, fr5, w5⟩
  obtain ⟨hD, hgo⟩ := go i n τ ys H5 w5
  rcases hgo with ⟨stop, q⟩ | ⟨hgo, step⟩
  ·refine thn (T.done X' rfl rfl rfl hc i [] s5 τ H5 X'.xe I5 (fpx fr5) st5 stop) fun r s6 ⟨hr, I6⟩ => ?_
   subst hr
   show R (.ok .next) s6
   rw [← hR]
   have J6 : Inv X pins σ H5 s6 := I3.call' (ch := fp) I6.os I6.base I6.hok I6.bare fun b hb => ⟨(hf3 b hb).2.2.2.1, (hf3 b hb).2.1, (hf3 b hb).2.2.2.2.1, (hf3 b hb).2.2.2.2.2⟩
   refine fin s.heap.objs.size s3.heap.objs.size H5 s6 J6 (let ⟨m, hn, _⟩ := I6.loc; ⟨m, hn⟩) I6.free (Nat.ne_of_gt I3.lt) I3.sz (fun x c e z => ?_) (fun p hp z => ?_) q
   ·obtain ⟨v, o, ho, _⟩ := I3.cell x c e
    exact absurd (Heap.lt_size ho) (by rw [z]; exact Nat.lt_irrefl _)
   ·exact absurd (Heap.lt_size (I3.pin p hp).1) (by rw [z]; exact Nat.lt_irrefl _)
  ·refine thn (T.item X' rfl rfl rfl hc i [] s5 τ H5 X'.xe I5 (fpx fr5) st5 hgo) fun r s6 ⟨u, hr, h6⟩ => ?_
   subst hr
   refine thn h6 fun _ s7 ⟨v, H7, I7, r7, y7, st7, fr7⟩ => ?_
   have I7' := I7.pinned (fpx fr7) (T.obj _ _ st7)
   refine thn (hg _ _ _ _ _ _ _ s7 τ H7 v u _ I7' r7 (step v H7 y7)) fun _ s8 ⟨τ8, H8, I8, q8⟩ => ?_
   refine thn (ht _ _ _ _ _ _ _ s8 τ8 H8 _ I8 q8) fun ok s9 ⟨H9, I9, q9⟩ => ?_
   have again : ∀ {ys' : List V} {H' : Hp} {s' : Shared}, Inv X' ([] ++ ww fp s7.heap) τ8 H' s' → (∃ m', m' < n ∧ W (i + 1) m' τ8 ys' H') → ∃ m, m < n ∧ ∃ i τ ys H'', Inv X' [] τ H'' s' ∧ tn i s'.heap ∧ (∀ b ∈ fp, H'' b = none) ∧ W i m τ ys H'' := fun {ys' H' s'} I' ⟨m', hm, w'⟩ => by
    refine ⟨m', hm, i + 1, τ8, ys', H', I'.unpinned, T.keep _ _ _ st7 fun b hb o e => (I'.pin (b, o) (List.mem_append_right _ (List.mem_append_right _ (yx hb e)))).1, fun b hb => ?_, w'⟩
    obtain ⟨o, e, d⟩ := T.obj _ _ st7 b hb
    exact (I'.pin (b, o) (List.mem_append_right _ (List.mem_append_right _ (yx hb e)))).2.1
   cases ok with
   | false =>
    exact again I9 q9
   | true =>
    refine thn (he _ _ _ _ _ _ _ s9 τ8 H9 _ I9 q9) fun x s10 ⟨y, H10, I10, r10, hD10, hz10, q10⟩ => ?_
    exact vK (X := X') I10 hD10 hz10 r10 fun s11 I11 => again I11 q10
 subst hR
 exact codeAny_compStart_list (loop _ rfl) (T.self X.A 0 _ _ _ (T.keep 0 _ _ st3 fun b hb o e => hk4 b o e) (loop _ rfl))
section
variable {X : Cx} {sc : Scope} {TN F : List Str} {ix : List Nat} {elt tg iter : Expr} {ifs : List Expr} {pos : Pos} {g : TG} {tc : TT} {te : TE} {wi : TI}
theorem closure_ofN (S : NScope X.env.scope sc TN F) {pins : List (Addr × Obj)} {σ : St} {H : Hp} {s : Shared} (I : Inv X pins σ H s) : closureFor sc X.env = pure (cloF X.env sc.names []) :=
 vo fun x hx hk => I.ok.has x.1 (.inl (S.fr x hx hk).1)
theorem pe_compN (S : NScope X.env.scope sc TN F) (hix : ix.map (fun i => X.N[i]?) = F.map some) (hc : X.calm = true) (hi : PI X tg iter wi)
  (hg : ∀ cl C fp s3 H3 xe, PG (cxN X (TN ++ F) sc cl C fp s3 H3 xe) tg g) (ht : ∀ cl C fp s3 H3 xe, PTs (cxN X (TN ++ F) sc cl C fp s3 H3 xe) ifs tc) (he : ∀ cl C fp s3 H3 xe, PE (cxN X (TN ++ F) sc cl C fp s3 H3 xe) elt te)
  (hs : ∀ x, foldedSetIterable iter X.env x = pure x := by intro _; rfl) : PE X (.ListComp elt [⟨tg, iter, ifs, 0⟩] sc pos) (wa wi TN.length ix g tc te) := by
 intro pins s σ H Q I h
 rw [eval_ListComp]
 refine wpAny_comprehension_free (use := none) rfl hs (closure_ofN S I) S.kind S.names (thn (hi pins s σ H _ I h) fun v s1 h1 => thn h1 fun itv s2 h2 => ?_)
 obtain ⟨it, fp, tn, J, H2, e, I2, T, st2, f2, q2⟩ := h2
 subst e
 refine comp_blockN (RR := fun acc C => compPost (model X.prog X.w) X.A X.xe none (EP X pins σ Q) acc C) S hix hc I2 T st2 f2 hg ht he q2 fun D C H' s' I' hn hC1 hC2 hC3 hC4 hC5 q => ?_
 obtain ⟨m, hn⟩ := hn
 exact ⟨m, hn, fun h' hs' => ⟨.ref D, H', I'.turned (t' := s'.toks) (fun b o hb e => (hs'.2 b hb).trans e) hC1 hC2 (.inr hC3) hC4 hC5, rfl, q⟩⟩
end
structure NBScope (o sc : Scope) (TN F G : List Str) : Prop extends NScope o sc TN F where
 nd : (TN ++ F).Nodup
 vis : ∀ x ∈ TN ++ F, Vis (yC sc o) x
 loc : ∀ x ∈ TN, (yC sc o).names.lookup x = some .local ∨ ((yC sc o).names.lookup x = some .cell ∧ sc.names.lookup x = some .cell)
 gl : ∀ x ∈ G, (yC sc o).names.lookup x = some .globalImplicit
section
variable {X : Cx} {sc : Scope} {TN F G : List Str} {cl : List (Str × Addr)} {C : Addr} {fp : List Addr} {s3 : Shared} {H3 : Hp} {xe : Value → Shared → Prop} {x : Str} {pos : Pos}
theorem pvbN (S : NBScope X.env.scope sc TN F G) (i : Nat) (hN : (TN ++ F)[i]? = some x := by rfl) (hd : (x == ("__debug__" : Str)) = false := by decide) (hcd : (x == ("__classdict__" : Str)) = false := by decide) : PE (cxN X (TN ++ F) sc cl C fp s3 H3 xe) (.Name x pos) (tVar i) :=
 vT hN (S.vis x (List.mem_of_getElem? hN)) hd hcd
theorem pgbN (S : NBScope X.env.scope sc TN F G) (i : Nat) (hN : (TN ++ F)[i]? = some x := by rfl) (hT : TN[i]? = some x := by rfl) : PG (cxN X (TN ++ F) sc cl C fp s3 H3 xe) (.Name x pos) (yi i) := by
 rcases S.loc x (List.mem_of_getElem? hT) with z | ⟨z, z'⟩
 ·exact wI S.nd hN (.inl z) (.inr z)
 ·exact wI S.nd hN (.inr z) (.inl (by show (sc.names.lookup x == some .cell) = true; rw [z']; rfl))
theorem NBScope.g (S : NBScope X.env.scope sc TN F G) (i : Nat) (hG : G[i]? = some x := by rfl) : Gl (cxN X (TN ++ F) sc cl C fp s3 H3 xe) x := S.gl x (List.mem_of_getElem? hG)
end
end L2
namespace PySem
open Sem (wp)
open Builtin
open AutoSeq1 (wpAny_loadPart')
theorem yw : fillsNumberSlot (.type "tuple") "mul" = pure false :=
 fillsNumberSlot_seq (id := "tuple.__mul__") (r := some (.builtin "tuple.__rmul__")) F.slot_tuple_mul.lookup (by decide +kernel) F.slot_tuple_rmul.lookup (by decide +kernel)
theorem xg : seqRepeat? (.type "tuple") = pure (some (.builtin "tuple.__mul__")) := by
 unfold seqRepeat?
 rw [seqSlot_of (T := "tuple") (name := "__mul__") (id := "tuple.__mul__") F.slot_tuple_mul.lookup (by decide +kernel), seqSlot_of (T := "tuple") (name := "__rmul__") (id := "tuple.__rmul__") F.slot_tuple_rmul.lookup (by decide +kernel)]
 rfl
theorem YG (a : Int) (t : Tok) (l : Addr) (items : Array Value) (n : Nat) (dd : Option Addr) (sl : Array (Option Value)) :
  Meets (Builtin.«int.__rmul__» ⟨[.int a t, .ref l], []⟩) (fun _ R s => s.heap.get? l = some { cls := .type "tuple", dict := dd, data := .seq items n, slots := sl } ∧ R (.ok (.ret Value.notImplemented)) s) :=
 .of_wp fun prog w A R s h => by obtain ⟨hp, g, d, tk, os⟩ := s; obtain ⟨hl, h⟩ := h; wp_walk; exact ⟨_, rfl, h⟩
theorem tuple_mulW1 (l : Addr) (items : Array Value) (n : Nat) (dd : Option Addr) (sl : Array (Option Value)) (u : Tok) :
  Meets (Builtin.«tuple.__mul__» ⟨[.ref l, .int 1 u], []⟩) (fun _ R s => s.heap.get? l = some { cls := .type "tuple", dict := dd, data := .seq items n, slots := sl } ∧ R (.ok (.ret (.ref l))) s) :=
 .of_wp fun prog w A R s h => by
  obtain ⟨hp, g, d, tk, os⟩ := s; obtain ⟨hl, h⟩ := h
  have f1 := AutoSeq1.idx_int
  wp_walk using wpAny_loadPart' hl
  exact ⟨_, rfl, h⟩
theorem tuple_mulW2 (l : Addr) (items : Array Value) (n : Nat) (dd : Option Addr) (sl : Array (Option Value)) (x : Int) (u : Tok) (c1 : (decide (x < -2 ^ 63) || decide (x ≥ 2 ^ 63)) = false) (c2 : (items.isEmpty || x == 1) = false) (c3 : (decide (x ≤ 0) || items.isEmpty) = false) (c4 : ¬ (items.size : Int) * x > (2 ^ 63 - 1) / 8) (c5 : Tuple.tupleTooMany ((items.size : Int) * x) = false) (hz : (List.foldl (fun x1 x2 => x1 ++ x2) #[] (List.replicate x.toNat items)).size ≤ sizeLine) :
  Meets (Builtin.«tuple.__mul__» ⟨[.ref l, .int x u], []⟩) (fun _ R s => s.heap.get? l = some { cls := .type "tuple", dict := dd, data := .seq items n, slots := sl } ∧ R (.ok (.ret (Value.ref s.heap.objs.size))) { s with heap := s.heap.push { cls := Value.type "tuple", data := Data.seq (List.foldl (fun x1 x2 => x1 ++ x2) #[] (List.replicate x.toNat items)) }, toks := s.toks }) :=
 .of_wp fun prog w A R s h => by
  obtain ⟨hp, g, d, tk, os⟩ := s; obtain ⟨hl, h⟩ := h
  have f1 := AutoSeq1.idx_int
  wp_walk using wpAny_loadPart' hl
  refine wpAny_ite_false (decide_eq_false (by rw [c1]; exact Bool.false_ne_true)) ?_
  wp_walk using wpAny_loadPart' hl
  refine wpAny_ite_false (decide_eq_false c4) ?_
  wp_walk using wpAny_loadPart' hl
  exact ⟨_, rfl, h⟩
end PySem
namespace L2
open PySem PySem.Spec PyProof.Rows
section
variable {X : Cx}
def rRepT : R2 := fun x y H Q => ∃ a k xs, x = .ref a ∧ y = .int k ∧ H a = some (.tup xs) ∧ xs ≠ [] ∧ 0 < k ∧ k ≤ 1000 ∧ xs.length * k.toNat ≤ 1000 ∧ (k = 1 → Q (.ref a) H) ∧
 (k ≠ 1 → ∀ p, H p = none → Q (.ref p) (upd H p (.tup (List.replicate k.toNat xs).flatten)))
theorem vV : OpR X (binaryOp .Mult) rRepT := by
 intro pins s σ H x y v u Q I rx ry h
 obtain ⟨a, k, xs, rfl, rfl, hH, hne, h0, h1, hz, q1, q2⟩ := h
 cases rx
 obtain ⟨t, rfl⟩ := ry
 obtain ⟨z, its, rv, ⟨cls, dd, data, sl⟩, e, c, n, d⟩ := I.hok a _ hH
 simp only at c d
 subst c d
 have hl : xs.length = its.length := rv.length
 have hits : its ≠ [] := fun z => hne (rv.nil_iff.mp z)
 by_cases hk : k = 1
 ·subst hk
  refine wpAny_binaryOp_repeat_ref (T := "tuple") (U := "int") (by decide) ⟨_, e, rfl⟩ (fun s' => typeIs_int s' 1 t) yw F.fills_int_mul F.slot_int_rmul xg F.slot_int_index.lookup
   (call_meets F.slot_int_rmul (typeIs_int s 1 t) F.entry_int_rmul (F.args_int_rmul_2 _ _) (YG 1 t a its.toArray n dd sl)
    ⟨e, rfl, ⟨_, e, rfl⟩, call_meets F.slot_tuple_mul ⟨_, e, rfl⟩ F.entry_tuple_mul (F.args_tuple_mul_2 _ _) (tuple_mulW1 a its.toArray n dd sl t) ⟨e, ?_⟩⟩)
  exact ⟨.ref a, H, I, rfl, q1 rfl⟩
 ·have hnew : List.foldl (fun x1 x2 => x1 ++ x2) #[] (List.replicate k.toNat its.toArray) = (List.replicate k.toNat its).flatten.toArray := by
   have := wA its k.toNat []
   rw [List.nil_append] at this
   exact this
  have hsz : its.length * k.toNat ≤ 1000 := by rw [← hl]; exact hz
  have h10 : (1000 : Nat) ≤ sizeLine := by decide
  have hmul : ((its.toArray.size : Nat) : Int) * k ≤ 1000 := by
   rw [List.size_toArray]
   have : ((its.length : Nat) : Int) * k = ((its.length * k.toNat : Nat) : Int) := by
    rw [Int.natCast_mul, Int.toNat_of_nonneg (by omega)]
   omega
  have hlen : (List.replicate k.toNat its).flatten.length ≤ sizeLine := by
   rw [wK, Nat.mul_comm]
   omega
  refine wpAny_binaryOp_repeat_ref (T := "tuple") (U := "int") (by decide) ⟨_, e, rfl⟩ (fun s' => typeIs_int s' k t) yw F.fills_int_mul F.slot_int_rmul xg F.slot_int_index.lookup
   (call_meets F.slot_int_rmul (typeIs_int s k t) F.entry_int_rmul (F.args_int_rmul_2 _ _) (YG k t a its.toArray n dd sl)
    ⟨e, rfl, ⟨_, e, rfl⟩, call_meets F.slot_tuple_mul ⟨_, e, rfl⟩ F.entry_tuple_mul (F.args_tuple_mul_2 _ _) (tuple_mulW2 a its.toArray n dd sl k t ?_ ?_ ?_ ?_ ?_ ?_) ⟨e, ?_⟩⟩)
  ·have a1 : ¬ k < -2 ^ 63 := by omega
   have a2 : ¬ k ≥ 2 ^ 63 := by omega
   rw [decide_eq_false a1, decide_eq_false a2]
   rfl
  ·simp [hits, hk]
  ·have a1 : ¬ k ≤ 0 := by omega
   simp [hits, a1]
  ·omega
  ·show decide (_ > (sizeLine : Int)) = false
   refine decide_eq_false ?_
   have : ((1000 : Nat) : Int) ≤ (sizeLine : Int) := Int.ofNat_le.mpr h10
   omega
  ·rw [hnew, List.size_toArray]
   exact hlen
  ·rw [hnew]
   refine ⟨.ref s.heap.objs.size, _, I.laid (t' := s.toks) (o := .tup (List.replicate k.toNat xs).flatten) (fun b ob q => Heap.get?_push_of_some _ q) (Nat.le_refl _) ?_, rfl, q2 hk _ (I.hok.fresh (Nat.le_refl _))⟩
   exact ⟨by rw [wK, hl, ← wK]; exact hlen, _, rv.rep k.toNat, IsTup.new _ _⟩
theorem XE {c A B : Prop} [Decidable c] (hc : ¬ c) (h : A) : if (!decide c) = true then A else B := by
 rw [decide_eq_false hc]
 exact h
theorem Zz {c A B : Prop} [Decidable c] (h1 : ¬ c → A) (h2 : c → B) : if (!decide c) = true then A else B := by
 by_cases hc : c
 ·rw [decide_eq_true hc]
  exact h2 hc
 ·rw [decide_eq_false hc]
  exact h1 hc
theorem Z7 (m : Nat) (c : Int) : (List.replicate m [V.int c]).flatten = (List.replicate m c).map V.int := by
 induction m with
 | zero => rfl
 | succ m ih => rw [List.replicate_succ, List.flatten_cons, ih, List.replicate_succ]; rfl
end
section
variable {prog : Program} {w : World} {A : Around} {E : Value → Shared → Prop} {s : Shared}
theorem lstX {h h' : Heap} {t a : Addr} {its : Array Value} (T : h.IsList t its) (x : Heap.ExtBut a h h') (n : t ≠ a) : h'.IsList t its := T.extBut x n
theorem lstJ {h h' : Heap} {j t a : Addr} {i : Nat} (J : h.IsListIter j t i) (x : Heap.ExtBut a h h') (n : j ≠ a) : h'.IsListIter j t i := J.at fun o e => x j o n e
end
end L2
namespace HT
open PySem PyProof.Rows
section
variable {prog : Program} {w : World} {A : Around} {E : Value → Shared → Prop} {s : Shared}
theorem getItem_tuple_all {t sl : Addr} {items : Array Value} {vl vu : Value} {lo hi : Option Int} {Q : Value → Shared → Prop} (ht : IsTup s.heap t items) (hs : s.heap.IsSliceOf sl vl vu .none) (pl : IsPart vl lo) (pu : IsPart vu hi)
  (hw : sIx items.size 0 lo = 0 ∧ sIx items.size items.size hi = items.size) (h : Q (.ref t) s) : wpAny (model prog w) A (getItem (.ref t) (.ref sl)) Q E s := by
 obtain ⟨os, hos, hcs, hds⟩ := id hs
 have hTs : s.TypeIs (.ref sl) "slice" := ⟨os, hos, hcs⟩
 unfold getItem
 try with_reducible refine wpAny_holding ?_
 first | refine wpAny_bind (wpAny_pure ?_) | skip
 refine wpAny_bind (wpAny_sequenceKey ht.typeIs (by decide) ?_)
 refine wpAny_bind (wpAny_callSpecial?_slot (name := Str.ofString "__getitem__") ht.typeIs PyProof.Rows.slot_tuple_getitem
  (wpAny_call_entry PyProof.Rows.slot_tuple_getitem ht.typeIs entry_tuple_getitem ?_ (args_tuple_getitem _ _)))
 show wpAny _ _ (Builtin.Tuple.tupleItemsOf (.ref t) >>= _) _ _ s
 refine wpAny_bind (tupleItemsOf_ ht ?_)
 refine wpAny_bind (wpAny_typeOf hTs ?_)
 rw [if_pos (by decide)]
 refine wpAny_bind (yW hs pl pu ?_)
 have hyes : (((sIx items.size 0 lo : Nat) : Int) == 0 && (1 : Int) == 1 && (sIx items.size items.size hi - sIx items.size 0 lo) == items.size) = true := by
  rw [hw.1, hw.2]
  simp
 show wpAny _ _ (if (((sIx items.size 0 lo : Nat) : Int) == 0 && (1 : Int) == 1 && (sIx items.size items.size hi - sIx items.size 0 lo) == items.size) = true then _ else _) _ _ s
 rw [if_pos hyes]
 refine wpAny_bind (m := Builtin.Tuple.tupleIsExact _) ?_
 unfold Builtin.Tuple.tupleIsExact
 refine wpAny_bind (wpAny_typeOf ht.typeIs (wpAny_pure ?_))
 rw [if_pos (by decide)]
 refine wpAny_bind (wpAny_rule ?_)
 first
  | exact wpAny_pure ⟨_, rfl, wpAny_pure h⟩
  | exact wpAny_bind (wpAny_pure (wpAny_pure ⟨_, rfl, wpAny_pure h⟩))
  | exact wpAny_bind (wpAny_pure ⟨_, rfl, wpAny_pure h⟩)
end
end HT
namespace L2
open PySem PySem.Spec PyProof.Rows
section
variable {X : Cx}
def rSlG : V → Option Int → Option Int → Hp → VK → Prop := fun x lo hi H Q => ∃ a xs, x = .ref a ∧ H a = some (.tup xs) ∧ ∀ q H', Same H H' → H' q = some (.tup (cutV xs lo hi)) → Q (.ref q) H'
theorem vQ : SlR X rSlG := by
 intro pins s σ H x v vl vu lo hi sl Q I rx hs pl pu h
 obtain ⟨a, xs, rfl, hH, q⟩ := h
 by_cases hw : HT.sIx xs.length 0 lo = 0 ∧ HT.sIx xs.length xs.length hi = xs.length
 ·cases rx
  obtain ⟨its, r, ht, hz⟩ := I.tuple (SqT.of hH)
  have hlen : its.toArray.size = xs.length := by rw [List.size_toArray]; exact r.length.symm
  refine ⟨"tuple", _, PyProof.Rows.slot_tuple_getitem.lookup, ht.typeIs, ?_⟩
  refine HT.getItem_tuple_all ht hs pl pu (by rw [hlen]; exact hw) ?_
  refine ⟨.ref a, H, I, rfl, q a H (Same.refl H) ?_⟩
  have e : cutV xs lo hi = xs := by
   unfold cutV
   rw [hw.1, hw.2, List.drop_zero, Nat.sub_zero, List.take_length]
  rw [e]
  exact hH
 ·exact sl_tup pins s σ H _ v vl vu lo hi sl Q I rx hs pl pu ⟨a, xs, rfl, SqT.of hH, hw, fun p hp => q p _ (Same.new (Same.refl H) hp) zi⟩
def rCatG : R2 := fun x y H Q => ∃ a b xs ys, x = .ref a ∧ y = .ref b ∧ H a = some (.tup xs) ∧ H b = some (.tup ys) ∧ xs.length + ys.length ≤ 1000 ∧ ∀ q H', Same H H' → H' q = some (.tup (xs ++ ys)) → Q (.ref q) H'
theorem yI : OpR X (binaryOp .Add) rCatG := by
 intro pins s σ H x y v u Q I rx ry h
 obtain ⟨a, b, xs, ys, rfl, rfl, ha, hb, hz, q⟩ := h
 have hz' : xs.length + ys.length ≤ sizeLine := Nat.le_trans hz (by decide)
 by_cases hx : xs = []
 ·cases rx
  cases ry
  obtain ⟨its, r1, p1, _⟩ := I.tuple (SqT.of ha)
  obtain ⟨its2, r2, p2, _⟩ := I.tuple (SqT.of hb)
  obtain ⟨⟨cls, dd, data, sl⟩, ho, hc, n, hd⟩ := id p1
  obtain ⟨⟨cls2, dd2, data2, sl2⟩, ho2, hc2, n2, hd2⟩ := id p2
  simp only at hc hd hc2 hd2
  subst hc hd hc2 hd2
  have hv : its = [] := r1.nil_iff.mpr hx
  refine concat_meets ⟨_, ho, rfl⟩ ⟨_, ho2, rfl⟩ noFill_tuple_add seq_tuple_add PySem.F.slot_tuple_add PySem.F.entry_tuple_add (PySem.F.args_tuple_add_2 _ _)
   (tuple_addW0 a b its.toArray its2.toArray n n2 dd dd2 sl sl2 (by simp [hv])) ⟨ho, ho2, ?_⟩
  refine ⟨.ref b, H, I, rfl, q b H (Same.refl H) ?_⟩
  rw [hx, List.nil_append]
  exact hb
 ·refine op_catT pins s σ H _ _ v u Q I rx ry ⟨a, b, xs, ys, rfl, rfl, SqT.of ha, SqT.of hb, hx, hz', fun e => ?_, fun _ p hp => q p _ (Same.new (Same.refl H) hp) zi⟩
  refine q a H (Same.refl H) ?_
  rw [e, List.append_nil]
  exact ha
end
end L2
namespace PySem
open Sem (wp)
open Builtin
open AutoSeq1 (wpAny_loadPart')
theorem tuple_mulW0 (l : Addr) (items : Array Value) (n : Nat) (dd : Option Addr) (sl : Array (Option Value)) (u : Tok) (c2 : (items.isEmpty || (0 : Int) == 1) = false) :
    Meets (Builtin.«tuple.__mul__» ⟨[.ref l, .int 0 u], []⟩) (fun _ R s => s.heap.get? l = some { cls := .type "tuple", dict := dd, data := .seq items n, slots := sl } ∧ R (.ok (.ret (Value.ref s.heap.objs.size))) { s with heap := s.heap.push { cls := Value.type "tuple", data := Data.seq #[] }, toks := s.toks }) :=
  .of_wp fun prog w A R s h => by
    obtain ⟨hp, g, d, tk, os⟩ := s; obtain ⟨hl, h⟩ := h
    have f1 := AutoSeq1.idx_int
    wp_walk using wpAny_loadPart' hl
    first
      | exact ⟨_, rfl, h⟩
      | (refine wpAny_ite_false (decide_eq_false (by rw [c2]; exact Bool.false_ne_true)) ?_
         wp_walk using wpAny_loadPart' hl
         exact ⟨_, rfl, h⟩)
end PySem
namespace L2
open PySem PySem.Spec PyProof.Rows
section
variable {X : Cx}
def rRepB : R2 := fun x y H Q => ∃ a k v, x = .ref a ∧ y = .int k ∧ H a = some (.tup [v]) ∧ (k = 0 ∨ k = 1) ∧ (k = 1 → Q (.ref a) H) ∧ (k = 0 → ∀ p, H p = none → Q (.ref p) (upd H p (.tup [])))
theorem op_repB : OpR X (binaryOp .Mult) rRepB := by
 intro pins s σ H x y v u Q I rx ry h
 obtain ⟨a, k, v0, rfl, rfl, hH, hk, q1, q0⟩ := h
 rcases hk with rfl | rfl
 ·cases rx
  obtain ⟨t, rfl⟩ := ry
  obtain ⟨z, its, rv, ⟨cls, dd, data, sl⟩, e, c, n, d⟩ := I.hok a _ hH
  simp only at c d
  subst c d
  have hits : its ≠ [] := fun z => by have := rv.nil_iff.mp z; cases this
  refine wpAny_binaryOp_repeat_ref (T := "tuple") (U := "int") (by decide) ⟨_, e, rfl⟩ (fun s' => typeIs_int s' 0 t) yw F.fills_int_mul F.slot_int_rmul xg F.slot_int_index.lookup
   (call_meets F.slot_int_rmul (typeIs_int s 0 t) F.entry_int_rmul (F.args_int_rmul_2 _ _) (YG 0 t a its.toArray n dd sl)
    ⟨e, rfl, ⟨_, e, rfl⟩, call_meets F.slot_tuple_mul ⟨_, e, rfl⟩ F.entry_tuple_mul (F.args_tuple_mul_2 _ _) (tuple_mulW0 a its.toArray n dd sl t (by simp [hits])) ⟨e, ?_⟩⟩)
  refine ⟨.ref s.heap.objs.size, _, I.laid (t' := s.toks) (o := .tup []) (fun b ob q => Heap.get?_push_of_some _ q) (Nat.le_refl _) ?_, rfl, q0 rfl _ (I.hok.fresh (Nat.le_refl _))⟩
  exact ⟨Nat.zero_le _, [], .nil, IsTup.new _ _⟩
 ·exact vV pins s σ H _ _ v u Q I rx ry ⟨a, 1, [v0], rfl, rfl, hH, by simp, by decide, by decide, by simp, fun _ => q1 rfl, fun h => absurd rfl h⟩
theorem Same.none {H H' : Hp} {a : Addr} (k : Same H H') (h : H' a = .none) : H a = .none := by
 cases e : H a with
 | none => rfl
 | some o => rw [k _ _ e] at h; cases h
def rRepG : R2 := fun x y H Q => ∃ (a : Addr) (k : Nat) (v : V), x = .ref a ∧ y = .int (k : Int) ∧ H a = some (.tup [v]) ∧ k ≤ 1000 ∧ ∀ q H', Same H H' → H' q = some (.tup (List.replicate k v)) → Q (.ref q) H'
theorem vj {α : Type} (k : Nat) (v : α) : (List.replicate k [v]).flatten = List.replicate k v := by
 induction k with
 | zero => rfl
 | succ k ih => rw [List.replicate_succ, List.flatten_cons, ih, List.replicate_succ]; rfl
theorem xE : OpR X (binaryOp .Mult) rRepG := by
 intro pins s σ H x y v u Q I rx ry h
 obtain ⟨a, k, v0, rfl, rfl, hH, hk, q⟩ := h
 by_cases h0 : k = 0
 ·subst h0
  exact op_repB pins s σ H _ _ v u Q I rx ry ⟨a, _, v0, rfl, rfl, hH, .inl rfl, fun z => absurd z (by decide), fun _ p hp => q p _ (Same.new (Same.refl H) hp) zi⟩
 ·refine vV pins s σ H _ _ v u Q I rx ry ⟨a, _, [v0], rfl, rfl, hH, by simp, by omega, by omega, by rw [Int.toNat_natCast]; simp; omega, fun h1 => ?_, fun _ p hp => ?_⟩
  ·have : k = 1 := by omega
   subst this
   exact q a H (Same.refl H) hH
  ·rw [Int.toNat_natCast, vj]
   exact q p _ (Same.new (Same.refl H) hp) zi
def rLnT : List V → Hp → VK → Prop := fun xs H Q => ∃ (p : Addr) (ys : List V), xs = [.ref p] ∧ H p = some (.tup ys) ∧ Q (.int ys.length) H
theorem call_lnT : yk X (.builtin "len") rLnT := fun pins s σ H xs us Q I r h => zr pins s σ H xs us Q I r (let ⟨p, ys, e, hp, q⟩ := h; ⟨p, ys, e, .inr (SqT.of hp), q⟩)
def rLnL : List V → Hp → VK → Prop := fun xs H Q => ∃ (p : Addr) (ys : List V), xs = [.ref p] ∧ H p = some (.lst ys) ∧ Q (.int ys.length) H
theorem yR : yk X (.builtin "len") rLnL := fun pins s σ H xs us Q I r h => zr pins s σ H xs us Q I r (let ⟨p, ys, e, hp, q⟩ := h; ⟨p, ys, e, .inl (SqL.of hp), q⟩)
def rTupL : List V → Hp → VK → Prop := fun xs H Q => ∃ (p : Addr) (ys : List V), xs = [.ref p] ∧ H p = some (.lst ys) ∧ ∀ q H', Same H H' → H' q = some (.tup ys) → Q (.ref q) H'
theorem zV : yk X (.type "tuple") rTupL := fun pins s σ H xs us Q I r h => zL pins s σ H xs us Q I r (let ⟨p, ys, e, hp, q⟩ := h; ⟨p, ys, e, .inl ⟨SqL.of hp, fun l hl => q l _ (Same.new (Same.refl H) hl) zi⟩⟩)
end
end L2
namespace G2
open PySem L2
theorem Yt {n h : Nat} : ∀ ds : List PyData, (∀ d ∈ ds, Shw d n h) → PyData.showableAll ds = true ∧ PyData.hasDictAll ds = false ∧ PyData.depthAll ds ≤ h ∧ ((PyData.shownAll ds).map (·.length)).sum ≤ n * ds.length ∧ (PyData.shownAll ds).length = ds.length
 | [], _ => ⟨rfl, rfl, Nat.zero_le _, Nat.zero_le _, rfl⟩
 | d :: ds, k => by
  obtain ⟨h1, h2, h3, h4, h5⟩ := Yt ds fun x hx => k x (List.mem_cons_of_mem _ hx)
  have e := k d List.mem_cons_self
  have e3 := e.p
  have e4 := e.l
  refine ⟨?_, ?_, ?_, ?_, ?_⟩
  ·simp only [PyData.showableAll, e.s, h1, Bool.and_self]
  ·simp only [PyData.hasDictAll, e.nd, h2, Bool.or_self]
  ·simp only [PyData.depthAll]
   omega
  ·simp only [PyData.shownAll, List.map_cons, List.sum_cons, List.length_cons, Nat.mul_succ]
   omega
  ·simp only [PyData.shownAll, List.length_cons, h5]
theorem Shw.tups {n h : Nat} {ds : List PyData} (k : ∀ d ∈ ds, Shw d n h) : Shw (.tuple ds) ((n + 2) * ds.length + 3) (h + 1) := by
 obtain ⟨h1, h2, h3, h4, h5⟩ := Yt ds k
 refine ⟨by simp only [PyData.showable]; exact h1, by simp only [PyData.hasDict]; exact h2, ?_, ?_⟩
 ·show PyData.depthAll _ + 1 ≤ h + 1
  omega
 ·have := vX ds
  rw [Nat.add_mul]
  omega
end G2
namespace K52
open PySem L2 G2
end K52
local macro_rules | `(tactic| walk_at "v") => `(tactic| repeat (with_reducible first
  | refine L2.wR ?_ | refine L2.Zj ?_ | refine L2.yy ?_ | refine L2.w_op ?_ | refine L2.xS rfl ?_ | refine L2.w_c ?_ | refine L2.Ze ?_ | refine L2.Zh ?_ | refine L2.Zi ?_ | refine L2.wQ ?_ | refine L2.w_tb ?_ | refine L2.w_bl ?_ | refine L2.w_not ?_ | refine L2.Zd ?_ | refine L2.w_retN ?_
  | refine L2.Zf ?_ | refine L2.w4 ?_ | refine L2.Zg ?_ | refine L2.Zc ?_ | refine L2.w_cb ?_ | refine L2.w8 ?_ | refine L2.wV ?_ | refine L2.Zk ?_ | refine L2.w_or ?_ | refine L2.wT ?_ | refine L2.xJ ?_ | refine L2.wP ?_ | refine L2.xW ?_ | refine L2.xV ?_ | refine L2.wX ?_ | refine L2.wW ?_ | refine L2.wY ?_ | refine L2.wZ ?_ | refine L2.w_bm ?_ | refine L2.xU ?_ | refine L2.xX ?_ | refine L2.w_chain ?_ | refine L2.w_sl ?_ | refine L2.xp ?_ | refine L2.wS ?_ | refine L2.Zb ?_ | refine L2.iteT ?_ | refine L2.iteF ?_))
namespace K52
open PySem L2 G2
abbrev vb : Stmt := top 36
abbrev vc : Stmt := top 37
structure Blt (mg : Str → Option Value) : Prop where
 len : mg "len" = none
 range : mg "range" = none
 tuple : mg "tuple" = none
 list : mg "list" = none
 int : mg "int" = none
 min : mg "min" = none
 max : mg "max" = none
 zip : mg "zip" = none
structure Tq (H : Hp) (p l : Addr) (ns : List Int) (n : Nat) : Prop where
 ex : ∃ c e f : Int, H p = some (.lst [.ref l, .int c, .int e, .int f]) ∧ 0 ≤ f ∧ f ≤ (n : Int)
 hl : H l = some (.lst (ns.map V.int))
 ne : p ≠ l
 pos : 0 < ns.length
 l64 : ns.length ≤ 64
section
variable {p l a : Addr} {H H' : Hp} {o : HO} {ns : List Int} {n n' : Nat}
theorem Tq.up (t : Tq H p l ns n) (h : n ≤ n') : Tq H p l ns n' := let ⟨c, e, f, h1, h2, h3⟩ := t.ex; ⟨⟨c, e, f, h1, h2, by omega⟩, t.hl, t.ne, t.pos, t.l64⟩
theorem Tq.draw (t : Tq H p l ns n) {c e f : Int} (h0 : 0 ≤ f) (h1 : f ≤ (n' : Int)) : Tq (upd H p (.lst [.ref l, .int c, .int e, .int f])) p l ns n' := ⟨⟨c, e, f, zi, h0, h1⟩, by rw [zl (Ne.symm t.ne)]; exact t.hl, t.ne, t.pos, t.l64⟩
theorem Tq.np (t : Tq H p l ns n) (h : H a = none) : p ≠ a := let ⟨_, _, _, e, _⟩ := t.ex; zp e h
theorem Tq.nl (t : Tq H p l ns n) (h : H a = none) : l ≠ a := zp t.hl h
theorem Tq.new (t : Tq H p l ns n) (h : H a = none) : Tq (upd H a o) p l ns n := by
 obtain ⟨c, e, f, hp, r⟩ := t.ex
 exact ⟨⟨c, e, f, by rw [zl (zp hp h)]; exact hp, r⟩, by rw [zl (zp t.hl h)]; exact t.hl, t.ne, t.pos, t.l64⟩
theorem Tq.put (t : Tq H p l ns n) (h1 : p ≠ a) (h2 : l ≠ a) : Tq (upd H a o) p l ns n := by
 obtain ⟨c, e, f, hp, r⟩ := t.ex
 exact ⟨⟨c, e, f, by rw [zl h1]; exact hp, r⟩, by rw [zl h2]; exact t.hl, t.ne, t.pos, t.l64⟩
theorem Tq.same (t : Tq H p l ns n) (k : Same H H') : Tq H' p l ns n := by
 obtain ⟨c, e, f, hp, r⟩ := t.ex
 exact ⟨⟨c, e, f, k _ _ hp, r⟩, k _ _ t.hl, t.ne, t.pos, t.l64⟩
theorem Tq.tk (t : Tq H p l ns n) : TK H (upd H p o) := let ⟨_, _, _, e, _⟩ := t.ex; TK.lst e
end
def ZJ (K : W.Frag) : Sp := fun vs H Q _ => ∃ (a : Addr) (ns : List Int), vs = [.ref a] ∧ SqL K H a (ns.map V.int) ∧ ∀ p l (ms : List Int) H', Tq H' p l ms 0 → Same H H' → Q (.ref p) H'
def yG : Sp := fun vs H Q _ => ∃ (p l : Addr) (ns : List Int) (n : Nat) (m : Int), vs = [.ref p, .int m] ∧ Tq H p l ns n ∧ n ≤ 100000 ∧ 0 < m ∧ m < 1000000 ∧ ∀ (r c e f : Int), 0 ≤ r → r < m → 0 ≤ f → f ≤ ((n + 1 : Nat) : Int) → Q (.int r) (upd H p (.lst [.ref l, .int c, .int e, .int f]))
theorem op_eqS {X : Cx} {k : Nat} (hr : Room k X.A) : OpR X (compareOp .Eq) (fun x y H Q => ∃ a z ns, x = .ref a ∧ y = .ref z ∧ SqL X.K H a (ns.map V.int) ∧ H z = some (.lst []) ∧ Q (.bl (decide (ns = []))) H) := by
 intro pins s σ H x y v u Q I rx ry h
 obtain ⟨a, z, ns, rfl, rfl, ha, hz, q⟩ := h
 obtain ⟨bs, rb⟩ := (RdV.lst hz .nil).reads I ry
 cases rx
 obtain ⟨its, r, ht, _⟩ := I.list ha
 obtain ⟨cs, rc⟩ := (yV (H := H) ns).reads I r
 obtain ⟨o, e, c, n, d⟩ := ht.isList
 have ra : Reads s.heap (.ref a) (.list (ns.map PyData.int)) (a :: cs) := .list e c d (by simpa using rc)
 have hu := hr.units
 have hd : (PyData.list (ns.map PyData.int)).depth ≤ 60 := by
  show PyData.depthAll _ + 1 ≤ 60
  rw [yP]
  decide
 refine SeqAt.compareEq_reads ra rb (xb ns) rfl (by omega) ⟨.bl _, H, I, rfl, ?_⟩
 have e' : PyData.eqv (.list (ns.map PyData.int)) (.list []) = decide (ns = []) := wm ns []
 rw [e']
 exact q
abbrev XD : List Str := ["_law_feed_here", "_law_many", "_law_found", "_law_cell", "_law_turn", "_law_mixed"]
theorem zI : Nm XD (zk vc) := ⟨by decide +kernel, by decide +kernel⟩
theorem scDraw : FnScope XD ["_law_feed_here", "_law_many"] (zk vc) := ⟨rfl, rfl, rfl, by decide +kernel, rfl, by decide +kernel, by decide +kernel⟩
abbrev XB : List Str := ["_law_script"]
theorem YX : Nm XB (zk vb) := ⟨by decide +kernel, by decide +kernel⟩
theorem scFeed : FnScope XB ["_law_script"] (zk vb) := ⟨rfl, rfl, rfl, by decide +kernel, rfl, by decide +kernel, by decide +kernel⟩
section
variable {P : Program} {w : World} {K : W.Frag} {mg : Str → Option Value} {base : Heap}
theorem ok_Draw {f : Addr} {fd : FuncData} (B : Blt mg) (F : Fun K "_law_draw" "_law_draw" vc f fd) : FnOk P w K mg base CX0 1 f fd ["_law_feed_here", "_law_many"] yG := by
 refine F.ok scDraw (fun vs H Q E h => ?_) (fun cdv A outer s H vs Q E hr h => ?_)
 ·obtain ⟨p, l, ns, n, m, rfl, _⟩ := h
  rfl
 obtain ⟨p, l, ns, n, m, rfl, T, hn, hm, hm2, k⟩ := h
 refine' ⟨_, ?hb, ?rd⟩
 case hb =>
  refine' zj ?s1 ?r1
  case' r1 => refine' zj ?s2 ?r2
  case' r2 => refine' zj ?s3 ?r3
  case' r3 => refine' zj ?s4 ?r4
  case' r4 => refine' zj ?s5 ?r5
  case' r5 => refine' zj ?s6 ?r6
  case' r6 => refine' zj ?s7 ?r7
  case' r7 => refine' zj ?s8 ?r8
  case' r8 => refine' zn ?s9
  case s1 => exact yu (zw yc (ziq (pvd zI 0) zh) zh) (xj (pvd zI 0) zh xK)
  case s2 =>
   refine' zT (zy yY (ziq (pvd zI 0) zh) zh (zD _)) ?a0 zB
   case' a0 => refine' zj ?a1 ?b1
   case' b1 => refine' zj ?a2 ?b2
   case' b2 => refine' zn ?a3
   case a1 => exact zq zI 2 (zw xA (ziq (pvd zI 0) zh) (pvd zI 1))
   case a2 => exact yu (zw wj (ziq (pvd zI 0) zh) (pvd zI 1)) (xj (pvd zI 0) zh xK)
   case a3 => exact zE (pvd zI 2)
  case s3 =>
   refine' zq zI 3 ?c1
   case' c1 => refine' ziq (ziq (pvd zI 0) zh) ?c2
   case' c2 => refine' zw xA (ziq (pvd zI 0) zh) ?c3
   case c3 => exact zJ zr B.len PySem.boot_len (pa_1 (ziq (pvd zI 0) zh))
  case s4 => exact yu (zw yc (ziq (pvd zI 0) zh) zh) (xj (pvd zI 0) zh xK)
  case s5 =>
   refine' zT (zy op_ge (pvd zI 3) (zw op_pow zh zh) (zD _)) ?d0 zB
   case' d0 => refine' zj ?d1 ?e1
   case' e1 => refine' zn ?d2
   case d1 => exact yu (zw wj (pvd zI 3) (pvd zI 1)) (xj (pvd zI 0) zh xK)
   case d2 => exact zE (zw xA (pvd zI 3) (pvd zI 1))
  case s6 =>
   refine' zq zI 4 ?f1
   case' f1 => refine' zw yc ?f2 zh
   case' f2 => refine' zw yc ?f3 ?f4
   case f3 => exact zw vg (zw vg zh (ziq (pvd zI 0) zh)) (ziq (pvd zI 0) zh)
   case f4 => exact zw vg zh (ziq (pvd zI 0) zh)
  case s7 =>
   refine' zq zI 5 ?g1
   case g1 => exact zw xA (zw vg (zw yc (zw xA (pvd zI 3) zh) zh) (pvd zI 4)) zh
  case s8 =>
   refine' zq zI 5 ?h1
   case h1 => exact zw yc (zw vg (pvd zI 5) (zw yc (zw xA (pvd zI 5) zh) zh)) (ziq (pvd zI 0) zh)
  case s9 => exact zE (zw xA (zw wj (zw xA (pvd zI 5) zh) zh) (pvd zI 1))
 obtain ⟨c, e, f, hp, f0, f1⟩ := T.ex
 have hne := T.ne
 have hl := T.hl
 have hpos := T.pos
 walk_at "v"
 refine yd hp rfl ?_
 walk_at "v"
 refine xo hp rfl ?_
 walk_at "v"
 refine yd zi rfl ?_
 walk_at "v"
 refine iteD (fun _ => ?_) (fun _ => ?_)
 ·walk_at "v"
  refine yd zi rfl ?_
  walk_at "v"
  refine w_rI hm ?_
  walk_at "v"
  refine yd zi rfl ?_
  walk_at "v"
  refine w_rI ⟨hm, by omega⟩ ?_
  walk_at "v"
  refine xo zi rfl ?_
  walk_at "v"
  rw [vO]
  exact k _ _ _ _ (md hm).1 (md hm).2 (by omega) (by omega)
 ·walk_at "v"
  refine yd zi rfl ?_
  walk_at "v"
  refine yd zi rfl ?_
  walk_at "v"
  refine yd zi rfl ?_
  walk_at "v"
  have hl1 : ∀ {o : HO}, upd H p o l = some (.lst (ns.map V.int)) := by
   intro o
   rw [zl (Ne.symm hne)]
   exact hl
  refine ⟨l, _, rfl, .inl (SqL.of hl1), ?_⟩
  rw [List.length_map]
  have hp0 : (0 : Int) < (ns.length : Int) := by omega
  refine w_rI hp0 ?_
  obtain ⟨x, hx, hat⟩ : ∃ x, x ∈ ns ∧ atI (ns.map V.int) (c % (ns.length : Int)) = some (.int x) := by
   obtain ⟨j, hj⟩ := ofI (md (i := c) hp0).1
   have hj2 := (md (i := c) hp0).2
   rw [hj] at hj2 ⊢
   have hjl : j < ns.length := by omega
   exact ⟨ns[j], List.getElem_mem hjl, yA (by simp [hjl])⟩
  refine yd hl1 hat ?_
  walk_at "v"
  refine yd zi rfl ?_
  walk_at "v"
  refine xo zi rfl ?_
  rw [vO]
  walk_at "v"
  refine w_rI ⟨by decide, by decide, by decide⟩ ?_
  walk_at "v"
  refine iteD (fun _ => ?_) (fun _ => ?_)
  ·walk_at "v"
   refine w_rI ⟨hm, by omega⟩ ?_
   walk_at "v"
   refine xo zi rfl ?_
   rw [vO]
   walk_at "v"
   refine w_rI hm ?_
   exact k _ _ _ _ (md hm).1 (md hm).2 (by omega) (by omega)
  ·walk_at "v"
   refine yd zi rfl ?_
   refine w_rI (mulL (by decide) (by decide)) ?_
   walk_at "v"
   refine yd zi rfl ?_
   refine w_rI (mulR (by omega) (by omega)) ?_
   walk_at "v"
   refine yd zi rfl ?_
   refine w_rI (mulL (by decide) (by decide)) ?_
   walk_at "v"
   generalize 31 * (f + 1) * (f + 1) + 7919 * (f + 1) + 1 = tn
   refine w_rI (by decide) ?_
   walk_at "v"
   have q1 := md (i := x) (j := 2147483629) (by decide)
   refine w_rI (mulL (by omega) (by omega)) ?_
   walk_at "v"
   refine w_rI (by decide) ?_
   generalize hy : (x % 2147483629 + 1) * tn % 2147483647 = y
   have h1 := md (i := (x % 2147483629 + 1) * tn) (j := 2147483647) (by decide)
   rw [hy] at h1
   walk_at "v"
   refine w_rI (by decide) ?_
   walk_at "v"
   refine w_rI (mulL (by omega) (by omega)) ?_
   walk_at "v"
   refine yd zi rfl ?_
   walk_at "v"
   refine w_rI (by decide) ?_
   walk_at "v"
   refine w_rI ⟨by decide, by decide⟩ ?_
   walk_at "v"
   refine w_rI hm ?_
   exact k _ _ _ _ (md hm).1 (md hm).2 (by omega) (by omega)
theorem ok_Feed {f : Addr} {fd : FuncData} (B : Blt mg) (F : Fun K "_law_feed" "_law_feed" vb f fd) : FnOk P w K mg base CX0 1 f fd ["_law_script"] (ZJ K) := by
 refine F.ok scFeed (fun vs H Q E h => ?_) (fun cdv A outer s H vs Q E hr h => ?_)
 ·obtain ⟨a, ns, rfl, _⟩ := h
  rfl
 obtain ⟨a, ns, rfl, hS, k⟩ := h
 refine' ⟨_, ?hb, ?rd⟩
 case hb =>
  refine' zn ?s1
  case' s1 => refine' zE ?p1
  case' p1 => refine' zK ?p2
  case' p2 => refine' pa_c ?p3 ?p4
  case p4 => exact pa_c zh (pa_2 zh zh)
  case' p3 => refine' zw yM ?p5 ?p6
  case p5 => exact yK Z4 (pvd YX 0) xD (yS zh)
  case' p6 => refine' zw vf (zK (pa_1 zh)) ?p7
  case' p7 => refine' zU call_int1 B.int PyProof.Rows.boot_int ?p8
  case' p8 => refine' pa_1 ?p9
  case p9 => exact pe_cmpR (op_eqS hr) (pvd YX 0) (zK yL) (zD _)
 walk_at "v"
 refine ⟨_, rfl, ?_⟩
 refine ⟨a, _, rfl, hS, fun l1 hl1 => ?_⟩
 have hcut : cutV (ns.map V.int) none (some 63) = (ns.take 63).map V.int := by
  unfold cutV HT.sIx
  dsimp only
  rw [if_neg (by decide : ¬ (63 : Int) < 0), List.drop_zero, Nat.sub_zero, List.map_take, List.length_map]
  show List.take (min 63 ns.length) _ = _
  by_cases h : ns.length ≤ 63
  ·rw [Nat.min_eq_right h, List.take_of_length_le (by rw [List.length_map]; omega), List.take_of_length_le (by rw [List.length_map]; omega)]
  ·rw [Nat.min_eq_left (by omega)]
 rw [hcut]
 have K1 : Same H (upd H l1 (.lst ((ns.take 63).map V.int))) := Same.new (Same.refl H) hl1
 have e1 : upd H l1 (.lst ((ns.take 63).map V.int)) l1 = some (.lst ((ns.take 63).map V.int)) := zi
 have S1 : SqL K (upd H l1 (.lst ((ns.take 63).map V.int))) a (ns.map V.int) := by
  rcases hS with (e | ⟨o, e⟩) | h
  ·exact .inl (.inl (K1 _ _ e))
  ·exact .inl (.inr ⟨o, K1 _ _ e⟩)
  ·exact .inr h
 generalize upd H l1 (.lst ((ns.take 63).map V.int)) = H1 at K1 e1 S1 ⊢
 walk_at "v"
 refine ⟨sz1, fun z0 hz0 => ?_⟩
 have K2 : Same H1 (upd H1 z0 (.lst [.int 0])) := Same.new (Same.refl H1) hz0
 have e2 : upd H1 z0 (.lst [.int 0]) z0 = some (.lst [.int 0]) := zi
 have S2 : SqL K (upd H1 z0 (.lst [.int 0])) a (ns.map V.int) := by
  rcases S1 with (e | ⟨o, e⟩) | h
  ·exact .inl (.inl (K2 _ _ e))
  ·exact .inl (.inr ⟨o, K2 _ _ e⟩)
  ·exact .inr h
 generalize upd H1 z0 (.lst [.int 0]) = H2 at K2 e2 S2 ⊢
 walk_at "v"
 refine ⟨Nat.zero_le _, fun z1 hz1 => ?_⟩
 have K3 : Same H2 (upd H2 z1 (.lst [])) := Same.new (Same.refl H2) hz1
 have e3 : upd H2 z1 (.lst []) z1 = some (.lst []) := zi
 have S3 : SqL K (upd H2 z1 (.lst [])) a (ns.map V.int) := by
  rcases S2 with (e | ⟨o, e⟩) | h
  ·exact .inl (.inl (K3 _ _ e))
  ·exact .inl (.inr ⟨o, K3 _ _ e⟩)
  ·exact .inr h
 generalize upd H2 z1 (.lst []) = H3 at K3 e3 S3 ⊢
 refine ⟨a, z1, ns, rfl, rfl, S3, e3, ?_⟩
 walk_at "v"
 refine .inr ⟨_, rfl, ?_⟩
 obtain ⟨j, hj, hj1, hjn⟩ : ∃ j : Nat, (if decide (ns = []) = true then (1 : Int) else 0) = (j : Int) ∧ j ≤ 1 ∧ (ns = [] → j = 1) := by
  by_cases h : ns = []
  ·exact ⟨1, by simp [h], by omega, fun _ => rfl⟩
  ·exact ⟨0, by simp [h], by omega, fun z => absurd z h⟩
 rw [hj]
 refine ⟨z0, _, _, rfl, rfl, K3 _ _ e2, by omega, by omega, by rw [Int.toNat_natCast]; exact Nat.le_of_lt (zt (by simp; omega)), fun z2 hz2 => ?_⟩
 rw [Int.toNat_natCast, Z7]
 have K4 : Same H3 (upd H3 z2 (.lst ((List.replicate j (0 : Int)).map V.int))) := Same.new (Same.refl H3) hz2
 have e4 : upd H3 z2 (.lst ((List.replicate j (0 : Int)).map V.int)) z2 = some (.lst ((List.replicate j (0 : Int)).map V.int)) := zi
 generalize upd H3 z2 (.lst ((List.replicate j (0 : Int)).map V.int)) = H4 at K4 e4 ⊢
 have K14 := (K2.trans K3).trans K4
 refine ⟨l1, z2, _, _, rfl, rfl, K14 _ _ e1, e4, Nat.le_of_lt (zt (by simp; omega)), fun l hl => ?_⟩
 rw [← List.map_append]
 have K5 : Same H (upd H4 l (.lst ((ns.take 63 ++ List.replicate j (0 : Int)).map V.int))) := (K1.trans K14).new hl
 have e5 : upd H4 l (.lst ((ns.take 63 ++ List.replicate j (0 : Int)).map V.int)) l = some (.lst ((ns.take 63 ++ List.replicate j (0 : Int)).map V.int)) := zi
 generalize upd H4 l (.lst ((ns.take 63 ++ List.replicate j (0 : Int)).map V.int)) = H5 at K5 e5 ⊢
 walk_at "v"
 refine ⟨sz4, fun p hp => ?_⟩
 have nlp : l ≠ p := zp e5 hp
 refine k p l (ns.take 63 ++ List.replicate j 0) _ ⟨⟨0, 0, 0, zi, by decide, by decide⟩, by rw [zl nlp]; exact e5, Ne.symm nlp, ?_, ?_⟩ (K5.new hp)
 ·rw [List.length_append, List.length_take, List.length_replicate]
  cases ns with
  | nil => rw [hjn rfl]; decide
  | cons x xs => rw [List.length_cons]; omega
 ·rw [List.length_append, List.length_take, List.length_replicate]
  omega
end
def Bp (p : Addr) (H H' : Hp) : Prop := ∀ q o, q ≠ p → H q = some o → H' q = some o
section
variable {p l a : Addr} {H H' H'' : Hp} {o : HO} {ns : List Int}
theorem Bp.refl : Bp p H H := fun _ _ _ e => e
theorem Bp.new (b : Bp p H H') (h : H' a = none) : Bp p H (upd H' a o) := fun q u hq e => by
 have e' := b q u hq e
 rw [zl (zp e' h)]
 exact e'
theorem Bp.at (b : Bp p H H') : Bp p H (upd H' p o) := fun q u hq e => by
 rw [zl hq]
 exact b q u hq e
theorem Bp.put (b : Bp p H H') (h : H a = none) : Bp p H (upd H' a o) := fun q u hq e => by
 rw [zl (zp e h)]
 exact b q u hq e
theorem Bp.trans (a : Bp p H H') (b : Bp p H' H'') : Bp p H H'' := fun q o hq e => b q o hq (a q o hq e)
theorem Bp.same (k : Same H H') : Bp p H H' := fun q o _ e => k q o e
theorem Bp.free (b : Bp p H H') (hp : p ≠ a) (h : H' a = none) : H a = none := by
 cases e : H a with
 | none => rfl
 | some o => rw [b a o (Ne.symm hp) e] at h; cases h
end
theorem Tq.tkb {p l : Addr} {H H' : Hp} {ns : List Int} {n : Nat} (t : Tq H p l ns n) (b : Bp p H H') : TK H H' := by
 obtain ⟨c, e, f, hp, _⟩ := t.ex
 exact ⟨fun q xs eq => b q _ (yr eq hp (by intro z; cases z)) eq, fun q o u eq => b q _ (yr eq hp (by intro z; cases z)) eq⟩
theorem YL {xs : List Int} {r : Int} (h0 : 0 ≤ r) (h1 : r < xs.length) : ∃ x, x ∈ xs ∧ atI (xs.map V.int) r = some (.int x) := by
 obtain ⟨j, rfl⟩ := ofI h0
 have hj : j < xs.length := by omega
 exact ⟨xs[j], List.getElem_mem hj, yA (by simp [hj])⟩
theorem ixK {n : Nat} {r : Int} (h0 : 0 ≤ r) (h1 : r < n) : ixN n r = some r.toNat := by
 unfold ixN
 rw [if_pos h0, if_pos h1]
def RuleT (m : Nat) (H : Hp) (r : Addr) : Prop := ∃ (a b : Addr) (ts gs : List Int), H r = some (.tup [.ref a, .ref b]) ∧ H a = some (.tup (ts.map V.int)) ∧ H b = some (.tup (gs.map V.int)) ∧ ts.length = m ∧ gs.length = m ∧ (∀ x ∈ ts, 0 ≤ x ∧ x ≤ 9) ∧ (∀ x ∈ gs, 0 ≤ x ∧ x ≤ 9)
theorem RuleT.tk {m : Nat} {H H' : Hp} {r : Addr} (k : TK H H') (R : RuleT m H r) : RuleT m H' r := let ⟨a, b, ts, gs, h1, h2, h3, h4⟩ := R; ⟨a, b, ts, gs, k.t _ _ h1, k.t _ _ h2, k.t _ _ h3, h4⟩
abbrev sRow : Stmt := top 41
abbrev xu : Stmt := top 42
abbrev xO : Stmt := top 43
abbrev nRow : List Str := ["_law_feed_here", "_law_many", "_law_sides", "_law_row_here", "_law_k"]
theorem wk : Nm nRow (zk sRow) := ⟨by decide +kernel, by decide +kernel⟩
theorem scRow : FnScope nRow ["_law_feed_here", "_law_many", "_law_sides"] (zk sRow) := ⟨rfl, rfl, rfl, by decide +kernel, rfl, by decide +kernel, by decide +kernel⟩
abbrev Xy : List Str := ["_law_feed_here", "_law_many", "_law_takes", "_law_gives"]
theorem yj : Nm Xy (zk xu) := ⟨by decide +kernel, by decide +kernel⟩
theorem scRule : FnScope Xy ["_law_feed_here", "_law_many"] (zk xu) := ⟨rfl, rfl, rfl, by decide +kernel, rfl, by decide +kernel, by decide +kernel⟩
abbrev YY : List Str := ["_law_feed_here", "_law_many", "_law_some", "_law_turn"]
theorem yT : Nm YY (zk xO) := ⟨by decide +kernel, by decide +kernel⟩
theorem scNames : FnScope YY ["_law_feed_here", "_law_many"] (zk xO) := ⟨rfl, rfl, rfl, by decide +kernel, rfl, by decide +kernel, by decide +kernel⟩
def Y5 (s : Stmt) : List Stmt := match s with
 | .If _ b _ _ => b
 | _ => []
def wN (s : Stmt) : Scope := match s with
 | .Assign _ (.Call _ [.ListComp _ _ sc _] _ _) _ => sc
 | _ => nsc
abbrev cRua : Scope := wN ((Y5 ((zu xu).getD 2 (.Pass ⟨0, 0, 0, 0⟩))).getD 0 (.Pass ⟨0, 0, 0, 0⟩))
abbrev cRub : Scope := wN ((Y5 ((zu xu).getD 3 (.Pass ⟨0, 0, 0, 0⟩))).getD 0 (.Pass ⟨0, 0, 0, 0⟩))
theorem bsRua : BScope (zk xu) cRua ["_law_one", "_law_other"] [] ["max"] := { okind := by decide +kernel, kind := by decide +kernel, nocell := by decide +kernel, names := by decide +kernel, fr := by decide +kernel, ff := by decide +kernel, nd := by decide +kernel, vis := by decide +kernel, loc := by decide +kernel, gl := by decide +kernel }
theorem bsRub : BScope (zk xu) cRub ["_law_one"] [] [] := { okind := by decide +kernel, kind := by decide +kernel, nocell := by decide +kernel, names := by decide +kernel, fr := by decide +kernel, ff := by decide +kernel, nd := by decide +kernel, vis := by decide +kernel, loc := by decide +kernel, gl := by decide +kernel }
def pool10 : List Str := ["a", "ab", "b", "abcdefgh", "x", "xy", "ins", "outs", "top", "ba"]
theorem w_eqT {H : Hp} {Q : VK} {p q : Addr} {ns ms : List Int} (hp : H p = some (.tup (ns.map V.int))) (hq : H q = some (.tup (ms.map V.int))) (h : Q (.bl (decide (ns = ms))) H) : rEqD (.ref p) (.ref q) H Q := by
 refine ⟨_, _, .tup hp (yV ns), .tup hq (yV ms), xb ns, xb ms, ?_, ?_⟩
 ·show PyData.depthAll _ + 1 ≤ 60
  rw [yP]
  decide
 ·show Q (.bl (PyData.eqvAll _ _)) H
  rw [wm]
  exact h
def Rw (m : Nat) (H : Hp) (q : Addr) (xs : List Int) : Prop := H q = some (.tup (xs.map V.int)) ∧ xs.length = m ∧ ∀ x ∈ xs, 0 ≤ x ∧ x ≤ 9
def vL (xs : List Str) : Prop := ∀ x ∈ xs, x.length ≤ 8 ∧ ∀ c ∈ x.cps.toList, c < 128
theorem pool_nice : ∀ x ∈ pool10 ++ pool10, x.length ≤ 8 ∧ ∀ c ∈ x.cps.toList, c < 128 := by decide +kernel
def YB : Sp := fun vs H Q _ => ∃ (p l : Addr) (ms : List Int) (n m s : Nat), vs = [.ref p, .int (m : Int), .int (s : Int)] ∧ Tq H p l ms n ∧ n ≤ 90000 ∧ 0 < m ∧ m ≤ 8 ∧ s ≤ 3 ∧ ∀ q xs H', Rw m H' q xs → Tq H' p l ms (n + 6) → Bp p H H' → Q (.ref q) H'
def ZH : Sp := fun vs H Q _ => ∃ (p l : Addr) (ms : List Int) (n m : Nat), vs = [.ref p, .int (m : Int)] ∧ Tq H p l ms n ∧ n ≤ 80000 ∧ 0 < m ∧ m ≤ 8 ∧ ∀ q H', RuleT m H' q → Tq H' p l ms (n + 15) → Bp p H H' → Q (.ref q) H'
def wF : Sp := fun vs H Q _ => ∃ (p l : Addr) (ms : List Int) (n m : Nat), vs = [.ref p, .int (m : Int)] ∧ Tq H p l ms n ∧ n ≤ 90000 ∧ m ≤ 8 ∧ ∀ q (xs : List Str) H', (xs.length = m ∧ vL xs) → H' q = some (.tup (xs.map V.str)) → Tq H' p l ms (n + 1) → Bp p H H' → Q (.ref q) H'
section
variable {P : Program} {w : World} {K : W.Frag} {mg : Str → Option Value} {base : Heap}
theorem ok_Row {f : Addr} {fd : FuncData} (B : Blt mg) (D : Has P w K mg base 1 "_law_draw" ["_law_feed_here", "_law_many"] yG) (F : Fun K "_law_row" "_law_row" sRow f fd) : FnOk P w K mg base CX0 2 f fd ["_law_feed_here", "_law_many", "_law_sides"] YB := by
 refine F.ok scRow (fun vs H Q E h => ?_) (fun cdv A outer s H vs Q E hr h => ?_)
 ·obtain ⟨p, l, ms, n, m, s, rfl, _⟩ := h
  rfl
 obtain ⟨p, l, ms, n, m, s, rfl, T0, hn, m0, m8, s3, k⟩ := h
 refine' ⟨_, ?hb, ?rd⟩
 case hb =>
  refine' zj ?s1 ?r1
  case' r1 => refine' zj ?s2 ?r2
  case' r2 => refine' zn ?s3
  case s1 => exact zq wk 3 (zw vf (zK (pa_1 zh)) (pvd wk 1))
  case s2 =>
   refine' yt PassesOwn.never rfl (yD B.range (pa_1 (pvd wk 2))) (pgd wk 4) ?b1
   case b1 =>
    refine' zn ?b2
    case' b2 => refine' yu ?b3 (xj (pvd wk 3) (pe_f D hr (by decide) (pa_2 (pvd wk 0) (pvd wk 1))) xK)
    case' b3 => refine' zw yc zh ?b4
    case b4 => exact zw wj (pe_f D hr (by decide) (pa_2 (pvd wk 0) zh)) zh
  case s3 => exact zE (zU zL B.tuple PyProof.Rows.boot_tuple (pa_1 (pvd wk 3)))
 walk_at "v"
 refine ⟨sz1, fun z0 hz0 => ?_⟩
 have K1 : Same H (upd H z0 (.lst [.int 0])) := Same.new (Same.refl H) hz0
 have e1 : upd H z0 (.lst [.int 0]) z0 = some (.lst [.int 0]) := zi
 generalize upd H z0 (.lst [.int 0]) = H1 at K1 e1 ⊢
 walk_at "v"
 refine ⟨z0, _, _, rfl, rfl, e1, by omega, by omega, by rw [Int.toNat_natCast]; exact Nat.le_of_lt (zt (by simp; omega)), fun a ha => ?_⟩
 rw [Int.toNat_natCast, Z7]
 have T1 := T0.same K1
 have npa := T1.np ha
 have nla := T1.nl ha
 have h0a : H a = none := Same.none K1 ha
 have T2 := T1.new (o := .lst ((List.replicate m (0 : Int)).map V.int)) ha
 have b2 : Bp p H (upd H1 a (.lst ((List.replicate m (0 : Int)).map V.int))) := (Bp.same K1).new ha
 have e2 : upd H1 a (.lst ((List.replicate m (0 : Int)).map V.int)) a = some (.lst ((List.replicate m (0 : Int)).map V.int)) := zi
 generalize upd H1 a (.lst ((List.replicate m (0 : Int)).map V.int)) = H2 at T2 b2 e2 ⊢
 walk_at "v"
 refine ⟨_, rfl, by omega, by omega, ?_⟩
 rw [Int.toNat_natCast]
 refine yl (fun i σ H' => ∃ (u4 : Option V) (xs : List Int), σ = [some (.ref p), some (.int (m : Int)), some (.int (s : Int)), some (.ref a), u4] ∧ H' a = some (.lst (xs.map V.int)) ∧ xs.length = m ∧ (∀ x ∈ xs, 0 ≤ x ∧ x ≤ 9) ∧ Tq H' p l ms (n + 2 * i) ∧ Bp p H H') ⟨none, _, rfl, e2, List.length_replicate, (fun x hx => by rw [List.eq_of_mem_replicate hx]; exact ⟨by decide, by decide⟩), T2, b2⟩ ?_ ?_
 ·rintro i σ H' hi ⟨u4, xs, rfl, ea, hxl, hxb, T, bb⟩
  walk_at "v"
  refine ⟨p, l, ms, _, 6, rfl, T, by omega, by decide, by decide, fun r c e f r0 r1 f0 f1 => ?_⟩
  have T' := T.draw (n' := n + 2 * i + 1) (c := c) (e := e) (f := f) f0 f1
  have bb' : Bp p H (upd H' p (.lst [.ref l, .int c, .int e, .int f])) := bb.at
  have ea' : upd H' p (.lst [.ref l, .int c, .int e, .int f]) a = some (.lst (xs.map V.int)) := by rw [zl (Ne.symm npa)]; exact ea
  generalize upd H' p (.lst [.ref l, .int c, .int e, .int f]) = G at T' bb' ea' ⊢
  walk_at "v"
  refine w_rI ⟨by decide, by decide⟩ ?_
  have hr4 : 0 ≤ r / 4 ∧ r / 4 ≤ 1 := by omega
  generalize r / 4 = r4 at hr4
  walk_at "v"
  refine ⟨p, l, ms, _, m, rfl, T', by omega, by omega, by omega, fun r c e f r0 r1 f0 f1 => ?_⟩
  have T'' := T'.draw (n' := n + 2 * (i + 1)) (c := c) (e := e) (f := f) f0 (by omega)
  have bb'' : Bp p H (upd G p (.lst [.ref l, .int c, .int e, .int f])) := bb'.at
  have ea'' : upd G p (.lst [.ref l, .int c, .int e, .int f]) a = some (.lst (xs.map V.int)) := by rw [zl (Ne.symm npa)]; exact ea'
  generalize upd G p (.lst [.ref l, .int c, .int e, .int f]) = G' at T'' bb'' ea'' ⊢
  refine xo ea'' (ixK r0 (by rw [List.length_map, hxl]; exact r1)) ?_
  refine ⟨_, xs.set r.toNat (1 + r4), rfl, by rw [zi, List.map_set], by rw [List.length_set]; exact hxl, fun x hx => ?_, T''.put npa nla, bb''.put h0a⟩
  rcases List.mem_or_eq_of_mem_set hx with h | h
  ·exact hxb x h
  ·rw [h]
   omega
 ·rintro σ H3 ⟨u4, xs, rfl, ea, hxl, hxb, T3, b3⟩
  walk_at "v"
  refine ⟨a, _, rfl, .inl ⟨SqL.of ea, fun q hq => ?_⟩⟩
  exact k q xs _ ⟨zi, hxl, hxb⟩ ((T3.new hq).up (by omega)) (b3.new hq)
theorem ok_Rule {f : Addr} {fd : FuncData} (B : Blt mg) (D : Has P w K mg base 1 "_law_draw" ["_law_feed_here", "_law_many"] yG) (fW : Has P w K mg base 2 "_law_row" ["_law_feed_here", "_law_many", "_law_sides"] YB) (F : Fun K "_law_rule" "_law_rule" xu f fd) : FnOk P w K mg base CX0 3 f fd ["_law_feed_here", "_law_many"] ZH := by
 refine F.ok scRule (fun vs H Q E h => ?_) (fun cdv A outer s H vs Q E hr h => ?_)
 ·obtain ⟨p, l, ms, n, m, rfl, _⟩ := h
  rfl
 obtain ⟨p, l, ms, n, m, rfl, T0, hn, m0, m8, k⟩ := h
 refine' ⟨_, ?hb, ?rd⟩
 case hb =>
  refine' zj ?s1 ?r1
  case' r1 => refine' zj ?s2 ?r2
  case' r2 => refine' zj ?s3 ?r3
  case' r3 => refine' zj ?s4 ?r4
  case' r4 => refine' zn ?s5
  case s1 => exact zq yj 2 (pe_f fW hr (by decide) (pa_c (pvd yj 0) (pa_2 (pvd yj 1) (zw yc zh (pe_f D hr (by decide) (pa_2 (pvd yj 0) zh))))))
  case s2 => exact zq yj 3 (pe_f fW hr (by decide) (pa_c (pvd yj 0) (pa_2 (pvd yj 1) (pe_f D hr (by decide) (pa_2 (pvd yj 0) zh)))))
  case s3 =>
   refine' zT (zy yE (pe_f D hr (by decide) (pa_2 (pvd yj 0) zh)) zh (zD _)) ?a1 zB
   case' a1 => refine' zn ?a2
   case' a2 => refine' zq yj 3 ?a3
   case' a3 => refine' zU zL B.tuple PyProof.Rows.boot_tuple ?a4
   case' a4 => refine' pa_1 ?a5
   case a5 =>
    refine' zY (ix := []) bsRua.toCScope rfl rfl (pi_zp B.zip (pa_2 (pvd yj 2) (pvd yj 3))) ?h4 ?h5 ?h6
    case h4 =>
     intro _ _ _ _ _ _
     refine' wH (n := 2) rfl ?z1
     case' z1 => refine' zF ?z2 ?z3
     case z2 => exact pgb bsRua 0
     case' z3 => refine' zF ?z4 yo
     case z4 => exact pgb bsRua 1
    case h5 => exact fun _ _ _ _ _ _ => ye
    case h6 => exact fun _ _ _ _ _ _ => zJ (call_max2 rfl) B.max PyProof.Rows.boot_max (pa_2 (pvb bsRua 0) (pvb bsRua 1)) (bsRua.g 0)
  case s4 =>
   refine' zT (zy (op_eqD hr) (pvd yj 3) (pvd yj 2) (zD _)) ?c1 zB
   case' c1 => refine' zn ?c2
   case' c2 => refine' zq yj 3 ?c3
   case' c3 => refine' zU zL B.tuple PyProof.Rows.boot_tuple ?c4
   case' c4 => refine' pa_1 ?c5
   case c5 =>
    refine' zY (ix := []) bsRub.toCScope rfl rfl (xx (pvd yj 2)) ?i4 ?i5 ?i6
    case i4 => exact fun _ _ _ _ _ _ => pgb bsRub 0
    case i5 => exact fun _ _ _ _ _ _ => ye
    case i6 => exact fun _ _ _ _ _ _ => zw wj (pvb bsRub 0) zh
  case s5 => exact zE (zx (pa_2 (pvd yj 2) (pvd yj 3)))
 walk_at "v"
 refine ⟨p, l, ms, _, 2, rfl, T0, by omega, by decide, by decide, fun r c e f r0 r1 f0 f1 => ?_⟩
 have T1 := T0.draw (n' := n + 1) (c := c) (e := e) (f := f) f0 f1
 have b1 : Bp p H (upd H p (.lst [.ref l, .int c, .int e, .int f])) := Bp.refl.at
 generalize upd H p (.lst [.ref l, .int c, .int e, .int f]) = H1 at T1 b1 ⊢
 obtain ⟨s, rfl⟩ := ofI r0
 obtain ⟨s', hs'⟩ : ∃ s' : Nat, (1 + (s : Int)) = (s' : Int) := ⟨1 + s, by omega⟩
 walk_at "v"
 rw [hs']
 refine ⟨p, l, ms, _, m, s', rfl, T1, by omega, m0, m8, by omega, fun qt ts H2 ht T2 b2 => ?_⟩
 have b12 := b1.trans b2
 walk_at "v"
 refine ⟨p, l, ms, _, 3, rfl, T2, by omega, by decide, by decide, fun r c e f r0 r1 f0 f1 => ?_⟩
 have T3 := T2.draw (n' := n + 8) (c := c) (e := e) (f := f) f0 (by omega)
 have b3 : Bp p H (upd H2 p (.lst [.ref l, .int c, .int e, .int f])) := b12.at
 have ht3 := T2.tk (o := .lst [.ref l, .int c, .int e, .int f])
 have ht3' := ht3.t _ _ ht.1
 generalize upd H2 p (.lst [.ref l, .int c, .int e, .int f]) = H3 at T3 b3 ht3' ⊢
 obtain ⟨s2, rfl⟩ := ofI r0
 walk_at "v"
 refine ⟨p, l, ms, _, m, s2, rfl, T3, by omega, m0, m8, by omega, fun qg gs H4 hg T4 b4 => ?_⟩
 have TK4 := T3.tkb b4
 have ht4 := TK4.t _ _ ht3'
 have b04 := b3.trans b4
 refine yy ?_
 with_reducible refine yX (fun σ' H' => ∃ (qg : Addr) (gs : List Int), σ' = [some (.ref p), some (.int (m : Int)), some (.ref qt), some (.ref qg)] ∧ H' qt = some (.tup (ts.map V.int)) ∧ Rw m H' qg gs ∧ Tq H' p l ms (n + 15) ∧ Bp p H H') ?_ fun rest => ?_
 ·rintro σ' H5 ⟨qg, gs, rfl, ht5, hg5, T5, b5⟩
  with_reducible refine yX (fun σ' H' => ∃ (qg : Addr) (gs : List Int), σ' = [some (.ref p), some (.int (m : Int)), some (.ref qt), some (.ref qg)] ∧ H' qt = some (.tup (ts.map V.int)) ∧ Rw m H' qg gs ∧ Tq H' p l ms (n + 15) ∧ Bp p H H') ?_ fun rest2 => ?_
  ·rintro σ' H6 ⟨qg, gs, rfl, ht6, hg6, T6, b6⟩
   walk_at "v"
   refine ⟨sz2, fun q hq => ?_⟩
   have K7 : Same H6 (upd H6 q (.tup [.ref qt, .ref qg])) := Same.new (Same.refl _) hq
   exact k q _ ⟨qt, qg, ts, gs, zi, K7 _ _ ht6, K7 _ _ hg6.1, ht.2.1, hg6.2.1, ht.2.2, hg6.2.2⟩ (T6.new hq) (b6.new hq)
  ·walk_at "v"
   refine w_eqT hg5.1 ht5 ?_
   walk_at "v"
   refine iteD (fun _ => ?_) (fun _ => ?_)
   ·walk_at "v"
    refine ⟨qt, rfl, ⟨_, SqT.of ht5⟩, fun dd hdd => ?_⟩
    refine tup_map (ρ := []) (fun x => x / 2) ht5 (by rw [ht.2.1]; omega) (fun i x H' hx K' R kR => ?_) (fun H6 K6 e6 => ?_) hdd
    ·walk_at "v"
     refine w_rI ⟨by decide, by decide⟩ ?_
     exact kR _ (Same.refl _)
    walk_at "v"
    refine ⟨dd, _, rfl, .inl ⟨SqL.of e6, fun q2 hq2 => ?_⟩⟩
    have K7 := K6.new (o := .tup ((ts.map fun x => x / 2).map V.int)) hq2
    refine yy ?_
    refine rest2 _ _ ⟨q2, _, rfl, K7 _ _ ht5, ⟨zi, by rw [List.length_map]; exact ht.2.1, fun x hx => ?_⟩, T5.same K7, b5.trans (Bp.same K7)⟩
    obtain ⟨y, hy, rfl⟩ := List.mem_map.mp hx
    have := ht.2.2 y hy
    show 0 ≤ y / 2 ∧ y / 2 ≤ 9
    omega
   ·exact rest2 _ _ ⟨qg, gs, rfl, ht5, hg5, T5, b5⟩
 ·walk_at "v"
  refine ⟨p, l, ms, _, 6, rfl, T4, by omega, by decide, by decide, fun r c e f r0 r1 f0 f1 => ?_⟩
  have T5 := T4.draw (n' := n + 15) (c := c) (e := e) (f := f) f0 (by omega)
  have b5 : Bp p H (upd H4 p (.lst [.ref l, .int c, .int e, .int f])) := b04.at
  have TK5 := T4.tk (o := .lst [.ref l, .int c, .int e, .int f])
  have ht5 := TK5.t _ _ ht4
  have hg5 := TK5.t _ _ hg.1
  generalize upd H4 p (.lst [.ref l, .int c, .int e, .int f]) = H5 at T5 b5 ht5 hg5 ⊢
  refine ⟨rfl, ?_⟩
  walk_at "v"
  refine iteD (fun _ => ?_) (fun _ => ?_)
  ·walk_at "v"
   refine ⟨qt, qg, rfl, ⟨_, SqT.of ht5⟩, ⟨_, SqT.of hg5⟩, fun dd hdd => ?_⟩
   refine zip_map (ρ := []) (fun x y => if y > x then y else x) ht5 hg5 (by rw [ht.2.1, hg.2.1]) (by rw [ht.2.1]; omega) (fun i x y H' hx hy K' R kR => ?_) (fun H6 K6 e6 => ?_) hdd
   ·walk_at "v"
    refine ⟨_, _, rfl, ?_⟩
    exact kR _ (Same.refl _)
   walk_at "v"
   refine ⟨dd, _, rfl, .inl ⟨SqL.of e6, fun q2 hq2 => ?_⟩⟩
   have K7 := K6.new (o := .tup ((List.zipWith (fun x y => if y > x then y else x) ts gs).map V.int)) hq2
   refine yy ?_
   refine rest _ _ ⟨q2, _, rfl, K7 _ _ ht5, ⟨zi, by rw [List.length_zipWith, ht.2.1, hg.2.1]; omega, fun x hx => ?_⟩, T5.same K7, b5.trans (Bp.same K7)⟩
   obtain ⟨i, hi, rfl⟩ := List.getElem_of_mem hx
   rw [List.length_zipWith] at hi
   have hi1 : i < ts.length := by omega
   have hi2 : i < gs.length := by omega
   have h1 := ht.2.2 _ (List.getElem_mem hi1)
   have h2 := hg.2.2 _ (List.getElem_mem hi2)
   rw [List.getElem_zipWith]
   split <;> omega
  ·exact rest _ _ ⟨qg, gs, rfl, ht5, ⟨hg5, hg.2⟩, T5, b5⟩
end
abbrev yJ : Stmt := top 44
abbrev YZ : List Str := ["_law_feed_here", "_law_most", "_law_many", "_law_rules", "_law_left", "_law_inputs", "_law_k", "_law_begin"]
theorem zO : Nm YZ (zk yJ) := ⟨by decide +kernel, by decide +kernel⟩
theorem scDrawn : FnScope YZ ["_law_feed_here", "_law_most"] (zk yJ) := ⟨rfl, rfl, rfl, by decide +kernel, rfl, by decide +kernel, by decide +kernel⟩
theorem cutC {t m : Nat} (xs : List Str) (h : t + m ≤ xs.length) : cutV (xs.map V.str) (some (t : Int)) (some ((t : Int) + (m : Int))) = ((xs.drop t).take m).map V.str := by
 unfold cutV HT.sIx
 dsimp only
 rw [if_neg (by omega), if_neg (by omega), List.length_map, show ((t : Int) + (m : Int)).toNat = t + m by omega, Int.toNat_natCast, Nat.min_eq_left (by omega), Nat.min_eq_left (by omega), Nat.add_sub_cancel_left, List.map_take, List.map_drop]
abbrev cDra : Scope := wN ((zu yJ).getD 1 (.Pass ⟨0, 0, 0, 0⟩))
abbrev cDrb : Scope := wN ((zu yJ).getD 5 (.Pass ⟨0, 0, 0, 0⟩))
theorem bsDra : BScope (zk yJ) cDra ["_law_k"] ["_law_feed_here", "_law_many"] ["_law_rule"] := { okind := by decide +kernel, kind := by decide +kernel, nocell := by decide +kernel, names := by decide +kernel, fr := by decide +kernel, ff := by decide +kernel, nd := by decide +kernel, vis := by decide +kernel, loc := by decide +kernel, gl := by decide +kernel }
theorem bsDrb : BScope (zk yJ) cDrb ["_law_k"] ["_law_feed_here"] ["_law_draw"] := { okind := by decide +kernel, kind := by decide +kernel, nocell := by decide +kernel, names := by decide +kernel, fr := by decide +kernel, ff := by decide +kernel, nd := by decide +kernel, vis := by decide +kernel, loc := by decide +kernel, gl := by decide +kernel }
structure SQ (p l : Addr) (ns : List Int) (H0 H : Hp) (n : Nat) : Prop where
 tp : Tq H p l ns n
 bt : Bp p H0 H
section
variable {p l a : Addr} {ns : List Int} {H0 H H' : Hp} {o : HO} {n n' : Nat}
theorem SQ.draw (r : SQ p l ns H0 H n) {c e f : Int} (h0 : 0 ≤ f) (h1 : f ≤ (n' : Int)) : SQ p l ns H0 (upd H p (.lst [.ref l, .int c, .int e, .int f])) n' := ⟨r.tp.draw h0 h1, r.bt.at⟩
theorem SQ.new (r : SQ p l ns H0 H n) (h : H a = none) : SQ p l ns H0 (upd H a o) n := ⟨r.tp.new h, r.bt.new h⟩
theorem SQ.put (r : SQ p l ns H0 H n) (h : H0 a = none) (h1 : p ≠ a) (h2 : l ≠ a) : SQ p l ns H0 (upd H a o) n := ⟨r.tp.put h1 h2, r.bt.put h⟩
theorem SQ.call (r : SQ p l ns H0 H n) (t : Tq H' p l ns n') (b : Bp p H H') : SQ p l ns H0 H' n' := ⟨t, r.bt.trans b⟩
theorem SQ.none (r : SQ p l ns H0 H n) (h : H a = none) : H0 a = none := r.bt.free (r.tp.np h) h
theorem SQ.tk (r : SQ p l ns H0 H n) {c e f : Int} : TK H (upd H p (.lst [.ref l, .int c, .int e, .int f])) := r.tp.tk
theorem SQ.up (r : SQ p l ns H0 H n) (h : n ≤ n') : SQ p l ns H0 H n' := ⟨r.tp.up h, r.bt⟩
end
structure PotD (H : Hp) (q : Addr) (rs : List Addr) (ins beg : List Int) (ans : Int) (m : Nat) : Prop where
 ex : ∃ (ps pr pin pb : Addr) (xs : List Str), H q = some (.tup [.ref ps, .ref pr, .ref pin, .ref pb, .int ans]) ∧ H ps = some (.tup (xs.map V.str)) ∧ (xs.length = m ∧ vL xs) ∧ H pr = some (.tup (rs.map V.ref)) ∧ H pin = some (.tup (ins.map V.int)) ∧ H pb = some (.tup (beg.map V.int))
 hr : ∀ r ∈ rs, RuleT m H r
 r8 : rs.length ≤ 8
 m0 : 0 < m
 m8 : m ≤ 8
 hi : ∀ i ∈ ins, 0 ≤ i ∧ i < (m : Int)
 i3 : ins.length ≤ 3
 bl : beg.length = m
 hb : ∀ b ∈ beg, 0 ≤ b ∧ b ≤ 99
 ha : 0 ≤ ans ∧ ans < (m : Int)
theorem PotD.tk {H H' : Hp} {q : Addr} {rs : List Addr} {ins beg : List Int} {ans : Int} {m : Nat} (k : TK H H') (h : PotD H q rs ins beg ans m) : PotD H' q rs ins beg ans m :=
 let ⟨ps, pr, pin, pb, xs, h1, h2, h3, h4, h5, h6⟩ := h.ex
 ⟨⟨ps, pr, pin, pb, xs, k.t _ _ h1, k.t _ _ h2, h3, k.t _ _ h4, k.t _ _ h5, k.t _ _ h6⟩, fun r hr => (h.hr r hr).tk k, h.r8, h.m0, h.m8, h.hi, h.i3, h.bl, h.hb, h.ha⟩
theorem map_erase4 (k : Nat) (xs : List Int) : (xs.map V.int).eraseIdx k = (xs.eraseIdx k).map V.int := map_erase k xs
def vP : Sp := fun vs H Q _ => ∃ (p l : Addr) (ms : List Int) (n mo : Nat), vs = [.ref p, .int (mo : Int)] ∧ Tq H p l ms n ∧ n ≤ 70000 ∧ mo ≤ 3 ∧ ∀ q rs ins beg ans m H', PotD H' q rs ins beg ans m → Tq H' p l ms (n + 100) → Bp p H H' → Q (.ref q) H'
section
variable {P : Program} {w : World} {K : W.Frag} {mg : Str → Option Value} {base : Heap}
theorem ok_Names {f : Addr} {fd : FuncData} (B : Blt mg) (D : Has P w K mg base 1 "_law_draw" ["_law_feed_here", "_law_many"] yG) (F : Fun K "_law_names" "_law_names" xO f fd) : FnOk P w K mg base CX0 2 f fd ["_law_feed_here", "_law_many"] wF := by
 refine F.ok scNames (fun vs H Q E h => ?_) (fun cdv A outer s H vs Q E hr h => ?_)
 ·obtain ⟨p, l, ms, n, m, rfl, _⟩ := h
  rfl
 obtain ⟨p, l, ms, n, m, rfl, T0, hn, m8, k⟩ := h
 refine' ⟨_, ?hb, ?rd⟩
 case hb =>
  refine' zj ?s1 ?r1
  case' r1 => refine' zj ?s2 ?r2
  case' r2 => refine' zn ?s3
  case s1 =>
   refine' zq yT 2 ?p1
   case p1 =>
    refine wJ (vs := pool10.map V.str) ?_
    decide +kernel
  case s2 => exact zq yT 3 (pe_f D hr (by decide) (pa_2 (pvd yT 0) zh))
  case s3 =>
   refine' zE ?p2
   case' p2 => refine' zU zL B.tuple PyProof.Rows.boot_tuple ?p3
   case' p3 => refine' pa_1 ?p4
   case p4 => exact yK Z4 (zw yM (pvd yT 2) (pvd yT 2)) (yS (pvd yT 3)) (yS (zw yc (pvd yT 3) (pvd yT 1)))
 walk_at "v"
 refine ⟨by show 10 ≤ sizeLine; decide, fun a1 ha1 => ?_⟩
 have T1 := T0.new (o := .lst (pool10.map V.str)) ha1
 have np1 := T0.np ha1
 have b1 : Bp p H (upd H a1 (.lst (pool10.map V.str))) := Bp.refl.new ha1
 have e1 : upd H a1 (.lst (pool10.map V.str)) a1 = some (.lst (pool10.map V.str)) := zi
 generalize upd H a1 (.lst (pool10.map V.str)) = H1 at T1 b1 e1 ⊢
 walk_at "v"
 refine ⟨p, l, ms, _, 10, rfl, T1, by omega, by decide, by decide, fun r c e f r0 r1 f0 f1 => ?_⟩
 have T2 := T1.draw (n' := n + 1) (c := c) (e := e) (f := f) f0 f1
 have b2 : Bp p H (upd H1 p (.lst [.ref l, .int c, .int e, .int f])) := b1.at
 have e2 : upd H1 p (.lst [.ref l, .int c, .int e, .int f]) a1 = some (.lst (pool10.map V.str)) := by rw [zl (Ne.symm np1)]; exact e1
 generalize upd H1 p (.lst [.ref l, .int c, .int e, .int f]) = H2 at T2 b2 e2 ⊢
 obtain ⟨t, rfl⟩ := ofI r0
 walk_at "v"
 refine ⟨a1, a1, _, _, rfl, rfl, e2, e2, by show 10 + 10 ≤ sizeLine; decide, fun a2 ha2 => ?_⟩
 have K3 : Same H2 (upd H2 a2 (.lst (pool10.map V.str ++ pool10.map V.str))) := Same.new (Same.refl _) ha2
 have e3 : upd H2 a2 (.lst (pool10.map V.str ++ pool10.map V.str)) a2 = some (.lst ((pool10 ++ pool10).map V.str)) := by rw [zi, List.map_append]
 generalize upd H2 a2 (.lst (pool10.map V.str ++ pool10.map V.str)) = H3 at K3 e3 ⊢
 walk_at "v"
 refine ⟨_, rfl, ?_⟩
 walk_at "v"
 refine ⟨_, rfl, ?_⟩
 refine ⟨a2, _, rfl, SqL.of e3, fun a3 ha3 => ?_⟩
 have hlen : t + m ≤ (pool10 ++ pool10).length := by show t + m ≤ 20; omega
 rw [cutC _ hlen]
 have K4 := K3.new (o := .lst ((((pool10 ++ pool10).drop t).take m).map V.str)) ha3
 have e4 : upd H3 a3 (.lst ((((pool10 ++ pool10).drop t).take m).map V.str)) a3 = some (.lst ((((pool10 ++ pool10).drop t).take m).map V.str)) := zi
 generalize upd H3 a3 (.lst ((((pool10 ++ pool10).drop t).take m).map V.str)) = H4 at K4 e4 ⊢
 walk_at "v"
 refine ⟨a3, _, rfl, .inl ⟨SqL.of e4, fun q hq => ?_⟩⟩
 exact k q _ _ ⟨by rw [List.length_take, List.length_drop]; omega, fun x hx => pool_nice x (List.mem_of_mem_drop (List.mem_of_mem_take hx))⟩ zi ((T2.same K4).new hq) ((b2.trans (Bp.same K4)).new hq)
theorem ok_Drawn {f : Addr} {fd : FuncData} (B : Blt mg) (D : Has P w K mg base 1 "_law_draw" ["_law_feed_here", "_law_many"] yG) (fN : Has P w K mg base 2 "_law_names" ["_law_feed_here", "_law_many"] wF) (fR : Has P w K mg base 3 "_law_rule" ["_law_feed_here", "_law_many"] ZH) (F : Fun K "_law_drawn" "_law_drawn" yJ f fd) : FnOk P w K mg base CX0 4 f fd ["_law_feed_here", "_law_most"] vP := by
 refine F.ok scDrawn (fun vs H Q E h => ?_) (fun cdv A outer s H vs Q E hr h => ?_)
 ·obtain ⟨p, l, ms, n, mo, rfl, _⟩ := h
  rfl
 obtain ⟨p, l, ms, n, mo, rfl, T0, hn, mo3, k⟩ := h
 refine' ⟨_, ?hb, ?rd⟩
 case hb =>
  refine' zj ?s1 ?r1
  case' r1 => refine' zj ?s2 ?r2
  case' r2 => refine' zj ?s3 ?r3
  case' r3 => refine' zj ?s4 ?r4
  case' r4 => refine' zj ?s5 ?r5
  case' r5 => refine' zj ?s6 ?r6
  case' r6 => refine' zn ?s7
  case s1 => exact zq zO 2 (zw yc zh (pe_f D hr (by decide) (pa_2 (pvd zO 0) zh)))
  case s2 =>
   refine' zq zO 3 ?p3
   case' p3 => refine' zU zL B.tuple PyProof.Rows.boot_tuple ?qc3
   case' qc3 => refine' pa_1 ?c3
   case c3 =>
    refine' zY (ix := [0, 2]) bsDra.toCScope rfl rfl ?h3 ?h4 ?h5 ?h6
    case h3 => exact yD B.range (pa_1 (pe_f D hr (by decide) (pa_2 (pvd zO 0) zh)))
    case h4 => exact fun _ _ _ _ _ _ => pgb bsDra 0
    case h5 => exact fun _ _ _ _ _ _ => ye
    case h6 => exact fun _ _ _ _ _ _ => pe_f fR hr (by decide) (pa_2 (pvb bsDra 1) (pvb bsDra 2)) (bsDra.g 0)
  case s3 =>
   refine' zq zO 4 ?p4
   case' p4 => refine' zU (wt rfl) B.list PyProof.Rows.boot_list ?q4
   case' q4 => refine' pa_1 ?u4
   case u4 => exact zU xB B.range PyProof.Rows.boot_range (pa_1 (pvd zO 2))
  case s4 => exact zq zO 5 (zK yL)
  case s5 =>
   refine' yt PassesOwn.never rfl ?i6 (pgd zO 6) ?b6
   case' i6 => refine' yD B.range ?pa6
   case' pa6 => refine' pa_1 ?j6
   case' j6 => refine' zJ (call_min2 rfl) B.min PyProof.Rows.boot_min ?q6
   case q6 => exact pa_2 (pvd zO 2) (pe_f D hr (by decide) (pa_2 (pvd zO 0) (zw yc (pvd zO 1) zh)))
   case b6 =>
    refine' zn ?b6a
    case' b6a => refine' xi ?b6b
    case' b6b => refine' vd PySem.F.plainAttrs_list PySem.F.slot_list_append PySem.F.type_list_append yZ (pvd zO 5) ?b6c
    case' b6c => refine' pa_1 ?b6d
    case' b6d => refine' vd PySem.F.plainAttrs_list PySem.F.slot_list_pop PySem.F.type_list_pop Zr (pvd zO 4) ?b6e
    case' b6e => refine' pa_1 ?b6f
    case' b6f => refine' pe_f D hr (by decide) ?b6g
    case' b6g => refine' pa_2 (pvd zO 0) ?b6h
    case b6h => exact zJ yR B.len PySem.boot_len (pa_1 (pvd zO 4))
  case s6 =>
   refine' zq zO 7 ?p7
   case' p7 => refine' zU zL B.tuple PyProof.Rows.boot_tuple ?qc7
   case' qc7 => refine' pa_1 ?c7
   case c7 =>
    refine' zY (ix := [0]) bsDrb.toCScope rfl rfl (yD B.range (pa_1 (pvd zO 2))) ?k4 ?k5 ?k6
    case k4 => exact fun _ _ _ _ _ _ => pgb bsDrb 0
    case k5 => exact fun _ _ _ _ _ _ => ye
    case k6 =>
     intro _ _ _ _ _ _
     refine' ziq ?e7 ?g7
     case g7 => exact pe_f D hr (by decide) (pa_2 (pvb bsDrb 1) zh) (bsDrb.g 0)
     case e7 =>
      refine wJ (vs := ([0, 0, 1, 2] : List Int).map V.int) ?_
      decide +kernel
  case s7 =>
   refine' zE ?z1
   case' z1 => refine' zx ?z2
   case' z2 => refine' pa_c (pe_f fN hr (by decide) (pa_2 (pvd zO 0) (pvd zO 2))) ?z3
   case' z3 => refine' pa_c (pvd zO 3) ?z4
   case' z4 => refine' pa_c (zU zL B.tuple PyProof.Rows.boot_tuple (pa_1 (pvd zO 5))) ?z5
   case z5 => exact pa_2 (pvd zO 7) (pe_f D hr (by decide) (pa_2 (pvd zO 0) (pvd zO 2)))
 walk_at "v"
 refine ⟨p, l, ms, _, 5, rfl, T0, by omega, by decide, by decide, fun r c e f r0 r1 f0 f1 => ?_⟩
 have S1 : SQ p l ms H (upd H p (.lst [.ref l, .int c, .int e, .int f])) (n + 1) := ⟨T0.draw f0 f1, Bp.refl.at⟩
 generalize upd H p (.lst [.ref l, .int c, .int e, .int f]) = H1 at S1 ⊢
 obtain ⟨r', rfl⟩ := ofI r0
 obtain ⟨m, hm⟩ : ∃ m : Nat, (1 + (r' : Int)) = (m : Int) := ⟨1 + r', by omega⟩
 have m0 : 0 < m := by omega
 have m5 : m ≤ 5 := by omega
 walk_at "v"
 rw [hm]
 walk_at "v"
 refine ⟨p, l, ms, _, 5, rfl, S1.tp, by omega, by decide, by decide, fun r c e f r0 r1 f0 f1 => ?_⟩
 have S3 := S1.draw (n' := n + 2) (c := c) (e := e) (f := f) f0 (by omega)
 generalize upd H1 p (.lst [.ref l, .int c, .int e, .int f]) = H3 at S3 ⊢
 obtain ⟨rn, rfl⟩ := ofI r0
 refine ⟨_, rfl, by omega, by omega, fun d hd => ?_⟩
 rw [Int.toNat_natCast]
 have npd := S3.tp.np hd
 have nld := S3.tp.nl hd
 have h0d := S3.none hd
 refine ym (ρ := [some (.ref p), some (.int (m : Int))]) (fun i ys H' => ∃ rs : List Addr, ys = rs.map V.ref ∧ rs.length = i ∧ (∀ r ∈ rs, RuleT m H' r) ∧ SQ p l ms H H' (n + 2 + 15 * i) ∧ TK H3 H') ⟨[], rfl, rfl, (fun r h => by cases h), S3.new hd, TK.new hd⟩ ?_ ?_
 ·rintro i ys H' hi ⟨rs, rfl, hrl, hrs, S, T⟩ hDz R S' kR _
  walk_at "v"
  refine ⟨p, l, ms, _, m, rfl, S.tp, by omega, m0, by omega, fun q H'' hq t' b' => ?_⟩
  have tk' := S.tp.tkb b'
  have hD' := b' _ _ (Ne.symm npd) hDz
  have tk2 : TK H'' (upd H'' d (.lst (rs.map V.ref ++ [.ref q]))) := TK.lst hD'
  refine kR _ _ hD' (lm1 (by omega)) ⟨rs ++ [q], by rw [List.map_append]; rfl, by simp [hrl], fun r hr' => ?_, ((S.call t' b').put h0d npd nld).up (by omega), (T.trans tk').trans tk2⟩
  rcases List.mem_append.mp hr' with old | new
  ·exact (hrs r old).tk (tk'.trans tk2)
  ·rw [List.mem_singleton.mp new]
   exact hq.tk tk2
 rintro ys H4 ⟨rs, rfl, hrl, hrs, S4, TK4⟩ hD
 walk_at "v"
 refine ⟨d, _, rfl, .inl ⟨SqL.of hD, fun pr hpr => ?_⟩⟩
 have S8 := (S4.new (o := .tup (rs.map V.ref)) hpr).up (n' := n + 62) (by omega)
 have T8 : TK H4 (upd H4 pr (.tup (rs.map V.ref))) := TK.new hpr
 have hrs8 : ∀ r ∈ rs, RuleT m (upd H4 pr (.tup (rs.map V.ref))) r := fun r h => (hrs r h).tk T8
 have er8 : upd H4 pr (.tup (rs.map V.ref)) pr = some (.tup (rs.map V.ref)) := zi
 generalize upd H4 pr (.tup (rs.map V.ref)) = H8 at S8 er8 hrs8 ⊢
 clear T8 hD hrs hpr S4 TK4
 walk_at "v"
 refine ⟨m, rfl, fun rg hrg => ?_⟩
 have S9 := S8.new (o := .rng 0 m) hrg
 have T9 : TK H8 (upd H8 rg (.rng 0 m)) := TK.new hrg
 have erg : upd H8 rg (.rng 0 m) rg = some (.rng 0 m) := zi
 generalize upd H8 rg (.rng 0 m) = H9 at S9 T9 erg ⊢
 walk_at "v"
 refine ⟨rg, m, rfl, erg, by omega, fun pl hpl => ?_⟩
 have S10 := S9.new (o := .lst ((List.range m).map fun (i : Nat) => V.int (i : Int))) hpl
 have T10 := T9.trans (TK.new (o := .lst ((List.range m).map fun (i : Nat) => V.int (i : Int))) hpl)
 have n0l := S9.none hpl
 have ppl := S9.tp.np hpl
 have lpl := S9.tp.nl hpl
 have el : upd H9 pl (.lst ((List.range m).map fun (i : Nat) => V.int (i : Int))) pl = some (.lst (((List.range m).map fun (i : Nat) => (i : Int)).map V.int)) := by rw [zi, List.map_map]; rfl
 generalize upd H9 pl (.lst ((List.range m).map fun (i : Nat) => V.int (i : Int))) = H10 at S10 T10 el ⊢
 clear S9 T9 erg hpl hrg
 walk_at "v"
 refine ⟨Nat.zero_le _, fun pi hpi => ?_⟩
 have S11 := S10.new (o := .lst []) hpi
 have T11 := T10.trans (TK.new (o := .lst []) hpi)
 have n0i := S10.none hpi
 have ppi := S10.tp.np hpi
 have lpi := S10.tp.nl hpi
 have nli : pl ≠ pi := zp el hpi
 have el11 : upd H10 pi (.lst []) pl = some (.lst (((List.range m).map fun (i : Nat) => (i : Int)).map V.int)) := by rw [zl nli]; exact el
 have ei11 : upd H10 pi (.lst []) pi = some (.lst (([] : List Int).map V.int)) := zi
 generalize upd H10 pi (.lst []) = H11 at S11 T11 el11 ei11 ⊢
 clear S10 T10 el hpi
 walk_at "v"
 refine ⟨p, l, ms, _, _, rfl, S11.tp, by omega, by omega, by omega, fun r c e f r0 r1 f0 f1 => ?_⟩
 have S13 := S11.draw (n' := n + 63) (c := c) (e := e) (f := f) f0 (by omega)
 have T13 := T11.trans (S11.tk (c := c) (e := e) (f := f))
 have el13 : upd H11 p (.lst [.ref l, .int c, .int e, .int f]) pl = some (.lst (((List.range m).map fun (i : Nat) => (i : Int)).map V.int)) := by rw [zl (Ne.symm ppl)]; exact el11
 have ei13 : upd H11 p (.lst [.ref l, .int c, .int e, .int f]) pi = some (.lst (([] : List Int).map V.int)) := by rw [zl (Ne.symm ppi)]; exact ei11
 generalize upd H11 p (.lst [.ref l, .int c, .int e, .int f]) = H13 at S13 T13 el13 ei13 ⊢
 clear S11 T11 el11 ei11
 obtain ⟨c4, rfl⟩ := ofI r0
 walk_at "v"
 refine ⟨_, _, rfl, ?_⟩
 obtain ⟨cn, hcn, cn3, cnm⟩ : ∃ cn : Nat, (if (c4 : Int) < (m : Int) then (c4 : Int) else (m : Int)) = (cn : Int) ∧ cn ≤ 3 ∧ cn ≤ m := by
  by_cases h : (c4 : Int) < (m : Int)
  ·exact ⟨c4, by rw [if_pos h], by omega, by omega⟩
  ·exact ⟨m, by rw [if_neg h], by omega, by omega⟩
 rw [hcn]
 walk_at "v"
 refine ⟨_, rfl, by omega, by omega, ?_⟩
 rw [Int.toNat_natCast]
 refine yl (fun i σ H' => ∃ (u : Option V) (lf is : List Int), σ = [some (.ref p), some (.int (mo : Int)), some (.int (m : Int)), some (.ref pr), some (.ref pl), some (.ref pi), u, none] ∧ H' pl = some (.lst (lf.map V.int)) ∧ H' pi = some (.lst (is.map V.int)) ∧ lf.length + i = m ∧ is.length = i ∧ (∀ j ∈ lf, 0 ≤ j ∧ j < (m : Int)) ∧ (∀ j ∈ is, 0 ≤ j ∧ j < (m : Int)) ∧ SQ p l ms H H' (n + 63 + i) ∧ TK H8 H')
  ⟨none, _, [], rfl, el13, ei13, by simp, rfl, fun j hj => by
   obtain ⟨q, hq, rfl⟩ := List.mem_map.mp hj
   have := List.mem_range.mp hq
   omega, (fun j hj => by cases hj), S13, T13⟩ ?_ ?_
 ·rintro i σ H' hi ⟨u, lf, is, rfl, el, ei, hlen1, hlen2, hlf, his, S, T⟩
  walk_at "v"
  refine ⟨.inl ⟨rfl, _, SqL.of ei⟩, ?_⟩
  walk_at "v"
  refine ⟨.inl ⟨rfl, _, SqL.of el⟩, ?_⟩
  walk_at "v"
  refine ⟨pl, _, rfl, el, ?_⟩
  rw [List.length_map]
  refine ⟨p, l, ms, _, lf.length, rfl, S.tp, by omega, by omega, by omega, fun r c e f r0 r1 f0 f1 => ?_⟩
  have S' := S.draw (n' := n + 63 + (i + 1)) (c := c) (e := e) (f := f) f0 (by omega)
  have T' := T.trans (S.tk (c := c) (e := e) (f := f))
  have el' : upd H' p (.lst [.ref l, .int c, .int e, .int f]) pl = some (.lst (lf.map V.int)) := by rw [zl (Ne.symm ppl)]; exact el
  have ei' : upd H' p (.lst [.ref l, .int c, .int e, .int f]) pi = some (.lst (is.map V.int)) := by rw [zl (Ne.symm ppi)]; exact ei
  generalize upd H' p (.lst [.ref l, .int c, .int e, .int f]) = H2 at S' T' el' ei' ⊢
  obtain ⟨j, rfl⟩ := ofI r0
  have hj : j < lf.length := by omega
  have hix : ixN (lf.map V.int).length (j : Int) = some j := by
   rw [List.length_map]
   unfold ixN
   rw [if_pos r0, if_pos r1]
   rfl
  walk_at "v"
  refine ⟨pl, _, _, j, .int lf[j], rfl, rfl, el', by omega, by omega, (wL hix).1, by simp [hj], ?_⟩
  have S'' := S'.put (o := .lst ((lf.map V.int).eraseIdx j)) n0l ppl lpl
  have T'' := T'.trans (TK.lst (o := .lst ((lf.map V.int).eraseIdx j)) el')
  have el'' : upd H2 pl (.lst ((lf.map V.int).eraseIdx j)) pl = some (.lst ((lf.eraseIdx j).map V.int)) := by rw [zi, map_erase4]
  have ei'' : upd H2 pl (.lst ((lf.map V.int).eraseIdx j)) pi = some (.lst (is.map V.int)) := by rw [zl (Ne.symm nli)]; exact ei'
  generalize upd H2 pl (.lst ((lf.map V.int).eraseIdx j)) = H3' at S'' T'' el'' ei'' ⊢
  walk_at "v"
  refine ⟨pi, _, _, rfl, rfl, ei'', lm1 (by omega), ?_⟩
  refine ⟨_, lf.eraseIdx j, is ++ [lf[j]], rfl, by rw [zl nli]; exact el'', by rw [zi, List.map_append]; rfl, ?_, by simp [hlen2], ?_, ?_, S''.put n0i ppi lpi, T''.trans (TK.lst ei'')⟩
  ·rw [List.length_eraseIdx_of_lt hj]
   omega
  ·exact fun q hq => hlf q (List.mem_of_mem_eraseIdx hq)
  ·intro q hq
   rcases List.mem_append.mp hq with old | new
   ·exact his q old
   ·rw [List.mem_singleton.mp new]
    exact hlf _ (List.getElem_mem hj)
 ·rintro σ H14 ⟨u, lf, is, rfl, el, ei, hlen1, hlen2, hlf, his, S14', T14⟩
  have S14 := S14'.up (n' := n + 66) (by omega)
  have hi3 : is.length ≤ 3 := by omega
  walk_at "v"
  refine ⟨_, rfl, by omega, by omega, fun db hdb => ?_⟩
  rw [Int.toNat_natCast]
  have pdb := S14.tp.np hdb
  have ldb := S14.tp.nl hdb
  have n0b := S14.none hdb
  have nib : pi ≠ db := zp ei hdb
  refine ym (ρ := [some (.ref p)]) (fun i ys H' => ∃ bs : List Int, ys = bs.map V.int ∧ bs.length = i ∧ (∀ b ∈ bs, 0 ≤ b ∧ b ≤ 99) ∧ SQ p l ms H H' (n + 66 + i) ∧ TK H8 H' ∧ H' pi = some (.lst (is.map V.int)))
   ⟨[], rfl, rfl, (fun b hb => by cases hb), S14.new hdb, T14.trans (TK.new hdb), by rw [zl nib]; exact ei⟩ ?_ ?_
  ·rintro i ys H' hi ⟨bs, rfl, hbl, hbs, S, T, ei'⟩ hD R S' kR _
   walk_at "v"
   refine ⟨sz4, fun z hz => ?_⟩
   have Sz := S.new (o := .lst (([0, 0, 1, 2] : List Int).map V.int)) hz
   have Tz := T.trans (TK.new (o := .lst (([0, 0, 1, 2] : List Int).map V.int)) hz)
   have npz := S.tp.np hz
   have ez : upd H' z (.lst (([0, 0, 1, 2] : List Int).map V.int)) z = some (.lst (([0, 0, 1, 2] : List Int).map V.int)) := zi
   have dz : upd H' z (.lst (([0, 0, 1, 2] : List Int).map V.int)) db = some (.lst (bs.map V.int)) := by rw [zl (zp hD hz)]; exact hD
   have iz : upd H' z (.lst (([0, 0, 1, 2] : List Int).map V.int)) pi = some (.lst (is.map V.int)) := by rw [zl (zp ei' hz)]; exact ei'
   generalize upd H' z (.lst (([0, 0, 1, 2] : List Int).map V.int)) = Hz at Sz Tz ez dz iz ⊢
   walk_at "v"
   refine ⟨p, l, ms, _, 4, rfl, Sz.tp, by omega, by decide, by decide, fun r c e f r0 r1 f0 f1 => ?_⟩
   obtain ⟨v, hv, hat⟩ := YL (xs := [0, 0, 1, 2]) r0 r1
   refine yd (by rw [zl (Ne.symm npz)]; exact ez) hat ?_
   have hD' : upd Hz p (.lst [.ref l, .int c, .int e, .int f]) db = some (.lst (bs.map V.int)) := by rw [zl (Ne.symm pdb)]; exact dz
   have hI' : upd Hz p (.lst [.ref l, .int c, .int e, .int f]) pi = some (.lst (is.map V.int)) := by rw [zl (Ne.symm ppi)]; exact iz
   refine kR _ _ hD' (lm1 (by omega)) ⟨bs ++ [v], by rw [List.map_append]; rfl, by simp [hbl], fun b hb => ?_, (Sz.draw (n' := n + 66 + (i + 1)) f0 (by omega)).put n0b pdb ldb, (Tz.trans Sz.tk).trans (TK.lst hD'), by rw [zl nib]; exact hI'⟩
   rcases List.mem_append.mp hb with old | new
   ·exact hbs b old
   ·rw [List.mem_singleton.mp new]
    simp only [List.mem_cons, List.not_mem_nil, or_false] at hv
    omega
  ·rintro ys H15 ⟨bs, rfl, hbl, hbs, S15, T15, ei15⟩ hD
   walk_at "v"
   refine ⟨db, _, rfl, .inl ⟨SqL.of hD, fun pb hpb => ?_⟩⟩
   have S16 := S15.new (o := .tup (bs.map V.int)) hpb
   have T16 := T15.trans (TK.new (o := .tup (bs.map V.int)) hpb)
   have eb : upd H15 pb (.tup (bs.map V.int)) pb = some (.tup (bs.map V.int)) := zi
   have ei16 : upd H15 pb (.tup (bs.map V.int)) pi = some (.lst (is.map V.int)) := by rw [zl (zp ei15 hpb)]; exact ei15
   generalize upd H15 pb (.tup (bs.map V.int)) = H16 at S16 T16 eb ei16 ⊢
   walk_at "v"
   refine ⟨p, l, ms, _, m, rfl, S16.tp, by omega, by omega, fun ps xs H17 hxl exs t17 b17 => ?_⟩
   have S17 := S16.call t17 b17
   have T67 := S16.tp.tkb b17
   have ei17 := b17 _ _ (Ne.symm ppi) ei16
   walk_at "v"
   refine ⟨pi, _, rfl, .inl ⟨SqL.of ei17, fun pin hpin => ?_⟩⟩
   have S18 := S17.new (o := .tup (is.map V.int)) hpin
   have T78 : TK H17 (upd H17 pin (.tup (is.map V.int))) := TK.new hpin
   have en : upd H17 pin (.tup (is.map V.int)) pin = some (.tup (is.map V.int)) := zi
   generalize upd H17 pin (.tup (is.map V.int)) = H18 at S18 T78 en ⊢
   walk_at "v"
   refine ⟨p, l, ms, _, m, rfl, S18.tp, by omega, by omega, by omega, fun ans c e f a0 a1 f0 f1 => ?_⟩
   have S19 := S18.draw (n' := n + 100) (c := c) (e := e) (f := f) f0 (by omega)
   have T89 := S18.tk (c := c) (e := e) (f := f)
   generalize upd H18 p (.lst [.ref l, .int c, .int e, .int f]) = H19 at S19 T89 ⊢
   walk_at "v"
   refine ⟨sz5, fun q hq => ?_⟩
   have T9A : TK H19 (upd H19 q (.tup [.ref ps, .ref pr, .ref pin, .ref pb, .int ans])) := TK.new hq
   have TA := ((T67.trans T78).trans T89).trans T9A
   have TB := T16.trans TA
   have SA := S19.new (o := .tup [.ref ps, .ref pr, .ref pin, .ref pb, .int ans]) hq
   exact k q rs is bs ans m _ ⟨⟨ps, pr, pin, pb, xs, zi, ((T78.trans T89).trans T9A).t _ _ exs, hxl, TB.t _ _ er8, (T89.trans T9A).t _ _ en, TA.t _ _ eb⟩, fun r hr' => (hrs8 r hr').tk TB, by omega, m0, by omega, his, hi3, hbl, hbs, a0, a1⟩ SA.tp SA.bt
abbrev wc : Stmt := top 38
abbrev sAsk : Stmt := top 39
structure _root_.G2.Ln where
 bys : List Int
 plus : Int
def _root_.G2.Ln.ok (m : Nat) (a : Ln) : Prop := a.bys.length = m ∧ (∀ x ∈ a.bys, -99 ≤ x ∧ x ≤ 99) ∧ -99 ≤ a.plus ∧ a.plus ≤ 99
def _root_.G2.LnAt (H : Hp) (q : Addr) (a : Ln) : Prop := ∃ b, H q = some (.tup [.ref b, .int a.plus]) ∧ H b = some (.tup (a.bys.map V.int))
theorem _root_.G2.LnAt.tk {H H' : Hp} {q : Addr} {a : Ln} (k : TK H H') : LnAt H q a → LnAt H' q a
 | ⟨b, h1, h2⟩ => ⟨b, k.t _ _ h1, k.t _ _ h2⟩
inductive _root_.G2.Ak where
 | sum (a : Ln)
 | part (a : Ln) (m : Int)
 | two (w : Str) (a b : Ln)
def _root_.G2.AkAt (H : Hp) (q : Addr) : Ak → Prop
 | .sum a => ∃ l, H q = some (.tup [.str "sum", .ref l]) ∧ LnAt H l a
 | .part a m => ∃ l, H q = some (.tup [.str "part", .ref l, .int m]) ∧ LnAt H l a
 | .two w a b => ∃ l r, H q = some (.tup [.str w, .ref l, .ref r]) ∧ LnAt H l a ∧ LnAt H r b
def _root_.G2.four (w : Str) : Prop := w = "least" ∨ w = "most" ∨ w = "more" ∨ w = "same"
def _root_.G2.Ak.ok (m : Nat) : Ak → Prop
 | .sum a => a.ok m
 | .part a k => a.ok m ∧ 2 ≤ k ∧ k ≤ 9
 | .two w a b => four w ∧ a.ok m ∧ b.ok m
theorem _root_.G2.AkAt.tk {H H' : Hp} {q : Addr} (k : TK H H') : ∀ {A : Ak}, AkAt H q A → AkAt H' q A
 | .sum a, ⟨l, h1, h2⟩ => ⟨l, k.t _ _ h1, h2.tk k⟩
 | .part a m, ⟨l, h1, h2⟩ => ⟨l, k.t _ _ h1, h2.tk k⟩
 | .two w a b, ⟨l, r, h1, h2, h3⟩ => ⟨l, r, k.t _ _ h1, h2.tk k, h3.tk k⟩
abbrev Xz : List Str := ["_law_feed_here", "_law_many", "_law_most"]
theorem YW : Nm Xz (zk wc) := ⟨by decide +kernel, by decide +kernel⟩
theorem scLine : FnScope Xz ["_law_feed_here", "_law_many", "_law_most"] (zk wc) := ⟨rfl, rfl, rfl, by decide +kernel, rfl, by decide +kernel, by decide +kernel⟩
abbrev nAsk : List Str := ["_law_feed_here", "_law_many", "_law_most", "_law_word", "_law_one"]
theorem yq : Nm nAsk (zk sAsk) := ⟨by decide +kernel, by decide +kernel⟩
theorem scAsk : FnScope nAsk ["_law_feed_here", "_law_many", "_law_most"] (zk sAsk) := ⟨rfl, rfl, rfl, by decide +kernel, rfl, by decide +kernel, by decide +kernel⟩
theorem pickS {xs : List Str} {r : Int} (h0 : 0 ≤ r) (h1 : r < xs.length) : ∃ x, x ∈ xs ∧ atI (xs.map V.str) r = some (.str x) := by
 obtain ⟨j, rfl⟩ := ofI h0
 have hj : j < xs.length := by omega
 exact ⟨xs[j], List.getElem_mem hj, yA (by simp [hj])⟩
def pairComp (s : Stmt) : Scope := match s with
 | .Return (some (.Tuple (.Call _ [.ListComp _ _ sc _] _ _ :: _) _ _)) _ => sc
 | _ => nsc
abbrev cLine : Scope := pairComp ((zu wc).getD 0 (.Pass ⟨0, 0, 0, 0⟩))
theorem bsLine : BScope (zk wc) cLine ["_law_k"] ["_law_feed_here", "_law_most"] ["_law_draw"] := { okind := by decide +kernel, kind := by decide +kernel, nocell := by decide +kernel, names := by decide +kernel, fr := by decide +kernel, ff := by decide +kernel, nd := by decide +kernel, vis := by decide +kernel, loc := by decide +kernel, gl := by decide +kernel }
def Ln.sm (a : Ln) : Prop := (∀ x ∈ a.bys, 0 ≤ x ∧ x ≤ 4) ∧ 0 ≤ a.plus ∧ a.plus ≤ 3
def words6 : List Str := ["sum", "part", "least", "most", "more", "same"]
def akSm : Ak → Prop
 | .sum a => Ln.sm a
 | .part a _ => Ln.sm a
 | .two _ a b => Ln.sm a ∧ Ln.sm b
def ZI : Sp := fun vs H Q _ => ∃ (p l : Addr) (ms : List Int) (n m mo : Nat), vs = [.ref p, .int (m : Int), .int (mo : Int)] ∧ Tq H p l ms n ∧ n ≤ 90000 ∧ m ≤ 3 ∧ mo ≤ 4 ∧ ∀ (q : Addr) (a : Ln) (H' : Hp), a.ok m → Ln.sm a → LnAt H' q a → Tq H' p l ms (n + 4) → Bp p H H' → Q (.ref q) H'
def YE : Sp := fun vs H Q _ => ∃ (p l : Addr) (ms : List Int) (n m mo : Nat), vs = [.ref p, .int (m : Int), .int (mo : Int)] ∧ Tq H p l ms n ∧ n ≤ 80000 ∧ m ≤ 3 ∧ mo ≤ 4 ∧ ∀ (q : Addr) (A : Ak) (H' : Hp), A.ok m → akSm A → AkAt H' q A → Tq H' p l ms (n + 10) → Bp p H H' → Q (.ref q) H'
theorem ok_Line {f : Addr} {fd : FuncData} (B : Blt mg) (D : Has P w K mg base 1 "_law_draw" ["_law_feed_here", "_law_many"] yG) (F : Fun K "_law_line" "_law_line" wc f fd) : FnOk P w K mg base CX0 2 f fd ["_law_feed_here", "_law_many", "_law_most"] ZI := by
 refine F.ok scLine (fun vs H Q E h => ?_) (fun cdv A outer s H vs Q E hr h => ?_)
 ·obtain ⟨p, l, ms, n, m, mo, rfl, _⟩ := h
  rfl
 obtain ⟨p, l, ms, n, m, mo, rfl, T0, hn, m3, mo9, k⟩ := h
 refine' ⟨_, ?hb, ?rd⟩
 case hb =>
  refine' zn ?s1
  case' s1 => refine' zE ?p2
  case' p2 => refine' zx ?q2
  case' q2 => refine' pa_2 ?x2 ?y2
  case' y2 => refine' ziq ?y4 ?y3
  case y3 => exact pe_f D hr (by decide) (pa_2 (pvd YW 0) zh)
  case y4 =>
   refine wJ (vs := ([0, 0, 1, 2, 3] : List Int).map V.int) ?_
   decide +kernel
  case' x2 => refine' zU zL B.tuple PyProof.Rows.boot_tuple ?x3
  case' x3 => refine' pa_1 ?x4
  case x4 =>
   refine' zY (ix := [0, 2]) bsLine.toCScope rfl rfl (yD B.range (pa_1 (pvd YW 1))) ?h4 ?h5 ?h6
   case h4 => exact fun _ _ _ _ _ _ => pgb bsLine 0
   case h5 => exact fun _ _ _ _ _ _ => ye
   case h6 => exact fun _ _ _ _ _ _ => pe_f D hr (by decide) (pa_2 (pvb bsLine 1) (zw yc (pvb bsLine 2) zh)) (bsLine.g 0)
 walk_at "v"
 refine ⟨m, rfl, by omega, by omega, fun db hdb => ?_⟩
 rw [Int.toNat_natCast]
 have npd := T0.np hdb
 have nld := T0.nl hdb
 refine ym (ρ := [some (.ref p), some (.int (mo : Int))]) (fun i ys H' => ∃ bs : List Int, ys = bs.map V.int ∧ bs.length = i ∧ (∀ x ∈ bs, 0 ≤ x ∧ x ≤ 4) ∧ SQ p l ms H H' (n + i)) ⟨[], rfl, rfl, (fun x h => by cases h), ⟨T0.new hdb, Bp.refl.new hdb⟩⟩ ?_ ?_
 ·rintro i ys H' hi ⟨bs, rfl, hbl, hbs, S⟩ hD R S' kR _
  walk_at "v"
  refine ⟨p, l, ms, _, _, rfl, S.tp, by omega, by omega, by omega, fun r c e f r0 r1 f0 f1 => ?_⟩
  have hD' : upd H' p (.lst [.ref l, .int c, .int e, .int f]) db = some (.lst (bs.map V.int)) := by rw [zl (Ne.symm npd)]; exact hD
  refine kR _ _ hD' (lm1 (by omega)) ⟨bs ++ [r], by rw [List.map_append]; rfl, by simp [hbl], fun b hb => ?_, (S.draw (n' := n + (i + 1)) f0 (by omega)).put hdb npd nld⟩
  rcases List.mem_append.mp hb with old | new
  ·exact hbs b old
  ·rw [List.mem_singleton.mp new]
   omega
 ·rintro ys H1 ⟨bs, rfl, hbl, hbs, S1⟩ hD
  walk_at "v"
  refine ⟨db, _, rfl, .inl ⟨SqL.of hD, fun b hb => ?_⟩⟩
  have S2 := S1.new (o := .tup (bs.map V.int)) hb
  have eb : upd H1 b (.tup (bs.map V.int)) b = some (.tup (bs.map V.int)) := zi
  generalize upd H1 b (.tup (bs.map V.int)) = H2 at S2 eb ⊢
  walk_at "v"
  refine ⟨sz5, fun z hz => ?_⟩
  have S3 := S2.new (o := .lst (([0, 0, 1, 2, 3] : List Int).map V.int)) hz
  have npz := S2.tp.np hz
  have TK3 : TK H2 (upd H2 z (.lst (([0, 0, 1, 2, 3] : List Int).map V.int))) := TK.new hz
  have ez : upd H2 z (.lst (([0, 0, 1, 2, 3] : List Int).map V.int)) z = some (.lst (([0, 0, 1, 2, 3] : List Int).map V.int)) := zi
  generalize upd H2 z (.lst (([0, 0, 1, 2, 3] : List Int).map V.int)) = H3 at S3 TK3 ez ⊢
  walk_at "v"
  refine ⟨p, l, ms, _, 5, rfl, S3.tp, by omega, by decide, by decide, fun r c e f r0 r1 f0 f1 => ?_⟩
  obtain ⟨x, hx, hat⟩ := YL (xs := [0, 0, 1, 2, 3]) r0 r1
  refine yd (by rw [zl (Ne.symm npz)]; exact ez) hat ?_
  have S4 := S3.draw (n' := n + 4) (c := c) (e := e) (f := f) f0 (by omega)
  have TK4 := TK3.trans (S3.tk (c := c) (e := e) (f := f))
  generalize upd H3 p (.lst [.ref l, .int c, .int e, .int f]) = H4 at S4 TK4 ⊢
  have hx3 : 0 ≤ x ∧ x ≤ 3 := by
   simp only [List.mem_cons, List.not_mem_nil, or_false] at hx
   omega
  walk_at "v"
  refine ⟨sz2, fun q hq => ?_⟩
  have TK5 : TK H4 (upd H4 q (.tup [.ref b, .int x])) := TK.new hq
  have S5 := S4.new (o := .tup [.ref b, .int x]) hq
  exact k q ⟨bs, x⟩ _ ⟨hbl, fun y hy => ⟨by have := (hbs y hy).1; omega, by have := (hbs y hy).2; omega⟩, by show -99 ≤ x; omega, by show x ≤ 99; omega⟩ ⟨hbs, hx3⟩ ⟨b, zi, (TK4.trans TK5).t _ _ eb⟩ S5.tp S5.bt
theorem ok_Ask {f : Addr} {fd : FuncData} (D : Has P w K mg base 1 "_law_draw" ["_law_feed_here", "_law_many"] yG) (fL : Has P w K mg base 2 "_law_line" ["_law_feed_here", "_law_many", "_law_most"] ZI) (F : Fun K "_law_ask" "_law_ask" sAsk f fd) : FnOk P w K mg base CX0 3 f fd ["_law_feed_here", "_law_many", "_law_most"] YE := by
 refine F.ok scAsk (fun vs H Q E h => ?_) (fun cdv A outer s H vs Q E hr h => ?_)
 ·obtain ⟨p, l, ms, n, m, mo, rfl, _⟩ := h
  rfl
 obtain ⟨p, l, ms, n, m, mo, rfl, T0, hn, m3, mo9, k⟩ := h
 refine' ⟨_, ?hb, ?rd⟩
 case hb =>
  refine' zj ?s1 ?r1
  case' r1 => refine' zj ?s2 ?r2
  case' r2 => refine' zj ?s3 ?r3
  case' r3 => refine' zj ?s4 ?r4
  case' r4 => refine' zn ?s5
  case s1 =>
   refine' zq yq 3 ?p1
   case' p1 => refine' ziq ?l1 ?d1
   case d1 => exact pe_f D hr (by decide) (pa_2 (pvd yq 0) zh)
   case l1 =>
    refine wJ (vs := words6.map V.str) ?_
    decide +kernel
  case s2 => exact zq yq 4 (pe_f fL hr (by decide) (pa_c (pvd yq 0) (pa_2 (pvd yq 1) (pvd yq 2))))
  case s3 => exact zT (zy yE (pvd yq 3) zQ (zD _)) (zn (zE (zx (pa_2 (pvd yq 3) (pvd yq 4))))) zB
  case s4 =>
   refine' zT (zy yE (pvd yq 3) zQ (zD _)) ?b4 zB
   case' b4 => refine' zn ?c4
   case' c4 => refine' zE ?d4
   case' d4 => refine' zx ?e4
   case' e4 => refine' pa_c (pvd yq 3) ?f4
   case' f4 => refine' pa_2 (pvd yq 4) ?g4
   case' g4 => refine' zw yc zh ?h4
   case h4 => exact pe_f D hr (by decide) (pa_2 (pvd yq 0) zh)
  case s5 =>
   refine' zE ?d5
   case' d5 => refine' zx ?e5
   case' e5 => refine' pa_c (pvd yq 3) ?f5
   case f5 => exact pa_2 (pvd yq 4) (pe_f fL hr (by decide) (pa_c (pvd yq 0) (pa_2 (pvd yq 1) (pvd yq 2))))
 walk_at "v"
 refine ⟨sz6, fun a1 ha1 => ?_⟩
 have S1 : SQ p l ms H (upd H a1 (.lst (words6.map V.str))) n := ⟨T0.new ha1, Bp.refl.new ha1⟩
 have np1 := T0.np ha1
 have e1 : upd H a1 (.lst (words6.map V.str)) a1 = some (.lst (words6.map V.str)) := zi
 generalize upd H a1 (.lst (words6.map V.str)) = H1 at S1 e1 ⊢
 walk_at "v"
 refine ⟨p, l, ms, _, 6, rfl, S1.tp, by omega, by decide, by decide, fun r c e f r0 r1 f0 f1 => ?_⟩
 obtain ⟨wd, hw, hat⟩ := pickS (xs := words6) r0 r1
 refine yd (by rw [zl (Ne.symm np1)]; exact e1) hat ?_
 have S2 := S1.draw (n' := n + 1) (c := c) (e := e) (f := f) f0 f1
 generalize upd H1 p (.lst [.ref l, .int c, .int e, .int f]) = H2 at S2 ⊢
 walk_at "v"
 refine ⟨p, l, ms, _, m, mo, rfl, S2.tp, by omega, m3, mo9, fun q a H3 hok hsm hq t3 b3 => ?_⟩
 have S3 := S2.call t3 b3
 walk_at "v"
 refine ⟨rfl, ?_⟩
 walk_at "v"
 refine iteD (fun e => ?_) (fun e1 => ?_)
 ·injection e with e
  subst e
  walk_at "v"
  refine ⟨sz2, fun z hz => ?_⟩
  have TK4 : TK H3 (upd H3 z (.tup [.str "sum", .ref q])) := TK.new hz
  have S4 := (S3.new (o := .tup [.str "sum", .ref q]) hz).up (n' := n + 10) (by omega)
  exact k z (.sum a) _ hok hsm ⟨q, zi, hq.tk TK4⟩ S4.tp S4.bt
 walk_at "v"
 refine ⟨rfl, ?_⟩
 walk_at "v"
 refine iteD (fun e => ?_) (fun e2 => ?_)
 ·injection e with e
  subst e
  walk_at "v"
  refine ⟨p, l, ms, _, 2, rfl, S3.tp, by omega, by decide, by decide, fun r c e f r0 r1 f0 f1 => ?_⟩
  have S4 := S3.draw (n' := n + 10) (c := c) (e := e) (f := f) f0 (by omega)
  have hq4 := hq.tk (S3.tk (c := c) (e := e) (f := f))
  generalize upd H3 p (.lst [.ref l, .int c, .int e, .int f]) = H4 at S4 hq4 ⊢
  walk_at "v"
  refine ⟨sz3, fun z hz => ?_⟩
  have TK5 : TK H4 (upd H4 z (.tup [.str "part", .ref q, .int (2 + r)])) := TK.new hz
  have S5 := S4.new (o := .tup [.str "part", .ref q, .int (2 + r)]) hz
  exact k z (.part a (2 + r)) _ ⟨hok, by omega, by omega⟩ hsm ⟨q, zi, hq4.tk TK5⟩ S5.tp S5.bt
 walk_at "v"
 refine ⟨p, l, ms, _, m, mo, rfl, S3.tp, by omega, m3, mo9, fun q' a' H4 hok' hsm' hq' t4 b4 => ?_⟩
 have S4 := S3.call t4 b4
 have TK4 := S3.tp.tkb b4
 walk_at "v"
 refine ⟨sz3, fun z hz => ?_⟩
 have TK5 : TK H4 (upd H4 z (.tup [.str wd, .ref q, .ref q'])) := TK.new hz
 have S5 := (S4.new (o := .tup [.str wd, .ref q, .ref q']) hz).up (n' := n + 10) (by omega)
 refine k z (.two wd a a') _ ⟨?_, hok, hok'⟩ ⟨hsm, hsm'⟩ ⟨q, q', zi, hq.tk (TK4.trans TK5), hq'.tk TK5⟩ S5.tp S5.bt
 simp only [words6, List.mem_cons, List.not_mem_nil, or_false] at hw
 rcases hw with h | h | h | h | h | h
 ·exact absurd (congrArg V.str h) e1
 ·exact absurd (congrArg V.str h) e2
 ·exact .inl h
 ·exact .inr (.inl h)
 ·exact .inr (.inr (.inl h))
 ·exact .inr (.inr (.inr h))
end
end K52
namespace L2
open PySem PySem.Spec PyProof.Rows
section
variable {κ : Type} [DecidableEq κ]
def valV (kvs : List (κ × V)) (k : κ) : Option V := (kvs.find? fun kv => decide (kv.1 = k)).map (·.2)
def putK (kvs : List (κ × V)) (k : κ) (v : V) : List (κ × V) :=
 if (kvs.any fun kv => decide (kv.1 = k)) = true then kvs.map (fun kv => if kv.1 = k then (kv.1, v) else kv) else kvs ++ [(k, v)]
theorem valV_nil {k : κ} : valV ([] : List (κ × V)) k = none := rfl
theorem yg {p : κ × V} {r : List (κ × V)} {k : κ} (e : p.1 = k) : valV (p :: r) k = some p.2 := by simp [valV, List.find?_cons, e]
theorem yh {p : κ × V} {r : List (κ × V)} {k : κ} (e : ¬ p.1 = k) : valV (p :: r) k = valV r k := by simp [valV, List.find?_cons, e]
theorem xY (k : κ) : ∀ kvs : List (κ × V), (kvs.any fun kv => decide (kv.1 = k)) = (valV kvs k).isSome
 | [] => rfl
 | p :: r => by
  rw [List.any_cons]
  by_cases e : p.1 = k
  ·simp only [yg e, decide_eq_true e, Bool.true_or, Option.isSome_some]
  ·rw [yh e, decide_eq_false e, Bool.false_or]; exact xY k r
theorem Zn (k j : κ) (y : V) : ∀ kvs : List (κ × V), valV (kvs.map fun kv => if kv.1 = k then (kv.1, y) else kv) j = (valV kvs j).map fun x => if j = k then y else x
 | [] => rfl
 | p :: r => by
  have ih := Zn k j y r
  rw [List.map_cons]
  by_cases h : p.1 = k
  ·rw [if_pos h]
   by_cases e : p.1 = j
   ·rw [yg (p := (p.1, y)) e, yg e, Option.map_some, if_pos (e.symm.trans h)]
   ·rw [yh (p := (p.1, y)) e, yh e, ih]
  ·rw [if_neg h]
   by_cases e : p.1 = j
   ·rw [yg (p := p) e, yg e, Option.map_some, if_neg (fun z => h (e.trans z))]
   ·rw [yh (p := p) e, yh e, ih]
theorem vw (k j : κ) (y : V) : ∀ kvs : List (κ × V), valV kvs k = none → valV (kvs ++ [(k, y)]) j = if j = k then some y else valV kvs j
 | [], _ => by
  by_cases e : k = j
  ·rw [if_pos e.symm]; exact yg (p := (k, y)) e
  ·rw [if_neg (fun z => e z.symm)]; exact yh (p := (k, y)) e
 | p :: r, hn => by
  rw [List.cons_append]
  have hk : ¬ p.1 = k := fun z => by rw [yg z] at hn; cases hn
  rw [yh hk] at hn
  have ih := vw k j y r hn
  by_cases e : p.1 = j
  ·rw [yg e, yg e, if_neg (fun z => hk (e.trans z))]
  ·rw [yh e, yh e, ih]
theorem Zm (kvs : List (κ × V)) (k j : κ) (y : V) : valV (putK kvs k y) j = if j = k then some y else valV kvs j := by
 unfold putK
 by_cases a : (kvs.any fun kv => decide (kv.1 = k)) = true
 ·rw [if_pos a, Zn]
  rw [xY] at a
  by_cases e : j = k
  ·obtain ⟨x, hx⟩ := Option.isSome_iff_exists.mp a
   rw [if_pos e, e, hx, Option.map_some, if_pos rfl]
  ·rw [if_neg e]
   cases valV kvs j with
   | none => rfl
   | some x => rw [Option.map_some, if_neg e]
 ·rw [if_neg a]
  refine vw k j y kvs ?_
  rw [xY] at a
  cases q : valV kvs k with
  | none => rfl
  | some x => rw [q] at a; exact (a rfl).elim
theorem yU (kvs : List (κ × V)) (k : κ) (v : V) : (putK kvs k v).length ≤ kvs.length + 1 := by
 unfold putK
 split
 ·rw [List.length_map]; omega
 ·rw [List.length_append, List.length_cons, List.length_nil]; omega
theorem RelO.isSome_eq {o : Option V} {u : Option Value} (r : RelO o u) : o.isSome = u.isSome := by
 cases o with
 | none => cases u with
  | none => rfl
  | some _ => exact (show False from r).elim
 | some _ => cases u with
  | none => exact (show False from r).elim
  | some _ => rfl
theorem RelO.getD {o : Option V} {u : Option Value} {d : V} {d' : Value} (r : RelO o u) (rd : RelV d d') : RelV (o.getD d) (u.getD d') := by
 cases o with
 | none => cases u with
  | none => exact rd
  | some _ => exact (show False from r).elim
 | some _ => cases u with
  | none => exact (show False from r).elim
  | some _ => exact r
theorem KV.val {kvs : List (κ × V)} {vs : List (κ × Value)} (r : KV kvs vs) (k : κ) : RelO (valV kvs k) (valueAt vs k) := by
 unfold KV at r
 induction r with
 | nil => exact True.intro
 | @cons p q ps qs h t ih =>
  obtain ⟨h1, h2⟩ := h
  by_cases e : p.1 = k
  ·have e' : q.1 = k := h1.symm.trans e
   have b : valueAt (q :: qs) k = some q.2 := by simp [valueAt, List.find?_cons, e']
   rw [yg e, b]; exact h2
  ·have e' : ¬ q.1 = k := fun z => e (h1.trans z)
   have b : valueAt (q :: qs) k = valueAt qs k := by simp [valueAt, List.find?_cons, e']
   rw [yh e, b]; exact ih
theorem KV.any {kvs : List (κ × V)} {vs : List (κ × Value)} (r : KV kvs vs) (k : κ) : (kvs.any fun kv => decide (kv.1 = k)) = vs.any fun kv => decide (kv.1 = k) := by
 unfold KV at r
 induction r with
 | nil => rfl
 | cons h t ih => rw [List.any_cons, List.any_cons, ih, h.1]
theorem KV.repl {kvs : List (κ × V)} {vs : List (κ × Value)} (r : KV kvs vs) (k : κ) {y : V} {u : Value} (ry : RelV y u) :
  KV (kvs.map fun kv => if kv.1 = k then (kv.1, y) else kv) (vs.map fun kv => if kv.1 = k then (kv.1, u) else kv) := by
 unfold KV at r ⊢
 induction r with
 | nil => exact .nil
 | @cons p q ps qs h t ih =>
  rw [List.map_cons, List.map_cons]
  refine .cons ?_ ih
  obtain ⟨h1, h2⟩ := h
  by_cases e : p.1 = k
  ·rw [if_pos e, if_pos (h1.symm.trans e)]; exact ⟨h1, ry⟩
  ·rw [if_neg e, if_neg (fun z => e (h1.trans z))]; exact ⟨h1, h2⟩
theorem KV.put {kvs : List (κ × V)} {vs : List (κ × Value)} (r : KV kvs vs) (k : κ) {y : V} {u : Value} (ry : RelV y u) : KV (putK kvs k y) (stored vs k u) := by
 unfold putK stored
 rw [r.any k]
 by_cases e : (vs.any fun kv => decide (kv.1 = k)) = true
 ·rw [if_pos e, if_pos e]; exact r.repl k ry
 ·rw [if_neg e, if_neg e]; exact Paired.snoc r ⟨rfl, ry⟩
theorem KV.length {kvs : List (κ × V)} {vs : List (κ × Value)} (r : KV kvs vs) : kvs.length = vs.length := Paired.length r
end
theorem Zx {P : Program} {w : World} {k : Key} {u : Value} (r : RelV (kV k) u) : (ya P w).is k u = true := by
 cases k with
 | inl i => obtain ⟨t, e⟩ := (show ∃ t, u = Value.int i t from r); subst e; exact mixKind_int P w i t
 | inr x => obtain ⟨t, e⟩ := (show ∃ t, u = Value.str x t from r); subst e; exact mixKind_str P w x t
theorem vC {P : Program} {w : World} : ∀ {ks : List Key} {us : List Value}, Vals (ks.map kV) us → ItemsAre (ya P w) ks us
 | [], _, r => by rw [List.map_nil] at r; cases r; exact .nil
 | k :: ks, _, r => by
  rw [List.map_cons] at r
  cases r with
  | cons h t => exact .cons (Zx h) (vC t)
abbrev KT (H : Hp) : List (List Key × V) → List (List Key × Addr × Value) → Prop := Paired fun p q => p.1 = q.1 ∧ H q.2.1 = some (.tup (p.1.map kV)) ∧ RelV p.2 q.2.2
theorem KT.val {H : Hp} {kvs : List (List Key × V)} {xs : List (List Key × Addr × Value)} (r : KT H kvs xs) (k : List Key) : RelO (valV kvs k) ((atKey xs k).map (·.2)) := by
 induction r with
 | nil => exact True.intro
 | @cons p q ps qs h t ih =>
  obtain ⟨h1, _, h2⟩ := h
  by_cases e : p.1 = k
  ·have e' : q.1 = k := h1.symm.trans e
   have b : atKey (q :: qs) k = some q.2 := by simp [atKey, List.find?_cons, e']
   rw [yg e, b]; exact h2
  ·have e' : ¬ q.1 = k := fun z => e (h1.trans z)
   have b : atKey (q :: qs) k = atKey qs k := by simp [atKey, List.find?_cons, e']
   rw [yh e, b]; exact ih
theorem KT.repl {H : Hp} {kvs : List (List Key × V)} {xs : List (List Key × Addr × Value)} (r : KT H kvs xs) (k : List Key) {y : V} {u : Value} (ry : RelV y u) :
  KT H (kvs.map fun kv => if kv.1 = k then (kv.1, y) else kv) (xs.map (putAt k u)) := by
 induction r with
 | nil => exact .nil
 | @cons p q ps qs h t ih =>
  rw [List.map_cons, List.map_cons]
  refine .cons ?_ ih
  obtain ⟨h1, h2, h3⟩ := h
  unfold putAt
  by_cases e : p.1 = k
  ·rw [if_pos e, if_pos (h1.symm.trans e)]; exact ⟨h1, h2, ry⟩
  ·rw [if_neg e, if_neg (fun z => e (h1.trans z))]; exact ⟨h1, h2, h3⟩
theorem KT.put {H : Hp} {kvs : List (List Key × V)} {xs : List (List Key × Addr × Value)} (r : KT H kvs xs) (k : List Key) {b : Addr} {y : V} {u : Value} (hb : H b = some (.tup (k.map kV))) (ry : RelV y u) :
  KT H (putK kvs k y) (storedH xs k b u) := by
 have e : (kvs.any fun kv => decide (kv.1 = k)) = (atKey xs k).isSome := by
  rw [xY, (r.val k).isSome_eq, Option.isSome_map]
 unfold putK storedH
 rw [e]
 by_cases q : (atKey xs k).isSome = true
 ·rw [if_pos q, if_pos q]; exact r.repl k ry
 ·rw [if_neg q, if_neg q]; exact Paired.snoc r ⟨rfl, hb, ry⟩
theorem KT.keeps {H H' : Hp} {kvs : List (List Key × V)} {xs : List (List Key × Addr × Value)} (r : KT H kvs xs) (ht : ∀ b ys, H b = some (.tup ys) → H' b = some (.tup ys)) : KT H' kvs xs :=
 Paired.mapP r fun _ _ z => ⟨z.1, ht _ _ z.2.1, z.2.2⟩
section
variable {P : Program} {w : World} {H : Hp} {h : Heap} {a : Addr}
theorem Xq {u : HO} (ok : HOk P w H h) (e : Rd H a u) : ObjOk P w H h a u := e.ok ok
theorem vE {kvs : List (Key × V)} (ok : HOk P w H h) (e : Rd H a (.dK kvs)) : kvs.length ≤ sizeLine ∧ (a == sysModules) = false ∧ ∃ vs, KV kvs vs ∧ h.DictOf (ya P w) a vs :=
 show ObjOk P w H h a (.dK kvs) from Xq ok e
theorem XI {kvs : List (Key × V)} (ok : HOk P w H h) (e : H a = some (.dK kvs)) : kvs.length ≤ sizeLine ∧ (a == sysModules) = false ∧ ∃ vs, KV kvs vs ∧ h.DictOf (ya P w) a vs := vE ok (.inl e)
theorem v4 {ks : List Key} (ok : HOk P w H h) (e : H a = some (.tup (ks.map kV))) : (tupleKind (ya P w)).is h ks a := by
 obtain ⟨_, its, r, o, h1, h2, n, h3⟩ := (show ObjOk P w H h a (.tup (ks.map kV)) from ok a _ e)
 exact ⟨o, its.toArray, n, h1, h2, h3, by simpa using vC r⟩
theorem ZC {kvs : List (List Key × V)} (ok : HOk P w H h) (e : Rd H a (.dT kvs)) : kvs.length ≤ sizeLine ∧ (a == sysModules) = false ∧
  ∃ xs, KT H kvs xs ∧ h.DictOfH (tupleKind (ya P w)) a xs := by
 obtain ⟨z, y, xs, r, o, es, ep, h1, h2, h3, h4, h5⟩ := (show ObjOk P w H h a (.dT kvs) from Xq ok e)
 refine ⟨z, y, xs, r, o, es, ep, h1, h2, h3, h4, fun x hx => ?_, h5⟩
 have all : ∀ {l : List (List Key × V)} {m : List (List Key × Addr × Value)}, KT H l m → ∀ x ∈ m, (tupleKind (ya P w)).is h x.1 x.2.1 := by
  intro l m q
  induction q with
  | nil => intro x hx; exact nomatch hx
  | @cons p q ps qs hq t ih =>
   intro x hx
   rcases List.mem_cons.mp hx with e | hx
   ·subst e
    exact v4 ok (by rw [← hq.1]; exact hq.2.1)
   ·exact ih x hx
 exact all r x hx
theorem dt_of {kvs : List (List Key × V)} (ok : HOk P w H h) (e : H a = some (.dT kvs)) : kvs.length ≤ sizeLine ∧ (a == sysModules) = false ∧
  ∃ xs, KT H kvs xs ∧ h.DictOfH (tupleKind (ya P w)) a xs := ZC ok (.inl e)
end
def DGet (H : Hp) (a : Addr) (y : V) (r : Option V) : Prop :=
 (∃ kvs k, Rd H a (.dK kvs) ∧ y = kV k ∧ r = valV kvs k) ∨ ∃ kvs k b, Rd H a (.dT kvs) ∧ y = .ref b ∧ H b = some (.tup (k.map kV)) ∧ r = valV kvs k
def DPut (H : Hp) (a : Addr) (y v : V) (H' : Hp) : Prop :=
 (∃ kvs k, H a = some (.dK kvs) ∧ y = kV k ∧ kvs.length < sizeLine ∧ H' = upd H a (.dK (putK kvs k v))) ∨
 ∃ kvs k b, H a = some (.dT kvs) ∧ y = .ref b ∧ H b = some (.tup (k.map kV)) ∧ kvs.length < sizeLine ∧ H' = upd H a (.dT (putK kvs k v))
theorem DGet.k {H : Hp} {a : Addr} {kvs : List (Key × V)} {k : Key} (e : H a = some (.dK kvs)) : DGet H a (kV k) (valV kvs k) := .inl ⟨kvs, k, .inl e, rfl, rfl⟩
theorem DPut.k {H : Hp} {a : Addr} {kvs : List (Key × V)} {k : Key} {v : V} (e : H a = some (.dK kvs)) (hl : kvs.length < sizeLine) : DPut H a (kV k) v (upd H a (.dK (putK kvs k v))) := .inl ⟨kvs, k, e, rfl, hl, rfl⟩
section
variable {X : Cx} {pins : List (Addr × Obj)} {σ : St} {H : Hp} {s : Shared} {a : Addr} {y v : V} {u r : Value} {o : Option V} {A : Around} {E : Value → Shared → Prop}
theorem Inv.big (I : Inv X pins σ H s) : sysModules < s.heap.objs.size := by
 have h : mainGlobals < s.heap.objs.size := (I.mod.glob.keeps I.bk).lt
 exact Nat.lt_trans (by decide) h
theorem d_getItem {Q : Value → Shared → Prop} (hu : A.units + 1 < cLine) (I : Inv X pins σ H s) (g : DGet H a y (some v)) (ry : RelV y u) (h : ∀ w' s', Inv X pins σ H s' → RelV v w' → Q w' s') :
  wpAny (model X.prog X.w) A (getItem (.ref a) u) Q E s := by
 rcases g with ⟨kvs, k, e, ey, l⟩ | ⟨kvs, k, b, e, ey, eb, l⟩
 ·subst ey
  obtain ⟨z, hd, vs, rel, dd⟩ := vE I.hok e
  obtain ⟨w', hw, rw'⟩ := RelO.some_of (v := v) (o := valueAt vs k) (by rw [l]; exact rel.val k)
  exact wpAny_getItem_of (Zx ry) dd.mapOf hw (h w' _ (I.tok _) rw')
 ·subst ey
  cases (show u = Value.ref b from ry)
  obtain ⟨z, hd, xs, rel, dd⟩ := ZC I.hok e
  obtain ⟨w', hw, rw'⟩ := RelO.some_of (v := v) (o := (atKey xs k).map (·.2)) (by rw [l]; exact rel.val k)
  obtain ⟨p, hp, hp2⟩ := Option.map_eq_some_iff.mp hw
  refine wpAny_getItem_heap (tupleKind_room_in1 hu) (v4 I.hok eb) dd hp ?_
  rw [hp2]
  exact h w' _ (I.tok _) rw'
theorem v7 {h' : Heap} {t' : Nat} {ob : HO} (I : Inv X pins σ H s) (mu : Mut (H a)) (hs : Heap.SameBut a s.heap h') (he : ∃ q, h'.get? a = some q) (new : ObjOk X.prog X.w (upd H a ob) h' a ob) :
  Inv X pins σ (upd H a ob) { s with heap := h', toks := t' } :=
 I.write (x := a) (e := a) mu (.inl rfl) (fun b q hb z => (hs.2 b hb).trans z) he new
theorem ZT {P : Program} {w : World} {H' : Hp} {h' : Heap} {kvs : List (Key × V)} {vs : List (Key × Value)} (z : kvs.length ≤ sizeLine) (hd : (a == sysModules) = false) (rel : KV kvs vs) (dd : h'.DictOf (ya P w) a vs) :
  ObjOk P w H' h' a (.dK kvs) := ⟨z, hd, vs, rel, dd⟩
theorem d_setItem {H' : Hp} {Q : Unit → Shared → Prop} (hu : A.units + 1 < cLine) (I : Inv X pins σ H s) (g : DPut H a y v H') (ry : RelV y u) (rv : RelV v r) (h : ∀ s', Inv X pins σ H' s' → Q () s') :
  wpAny (model X.prog X.w) A (setItem (.ref a) u r) Q E s := by
 rcases g with ⟨kvs, k, e, ey, l, eH⟩ | ⟨kvs, k, b, e, ey, eb, l, eH⟩
 ·subst ey eH
  obtain ⟨z, hd, vs, rel, dd⟩ := XI I.hok e
  have hz : vs.length ≤ sizeLine := by rw [← rel.length]; exact z
  have hl : (putK kvs k v).length ≤ sizeLine := by have := yU kvs k v; omega
  refine wpAny_setItem_pairs (hsz := hz) (Zx ry) dd fun h' dd' hs => h _ ?_
  have he : ∃ q, h'.get? a = some q := let ⟨q, _, _, hq, _⟩ := dd'; ⟨q, hq⟩
  exact v7 I (by rw [e]; exact True.intro) hs he (ZT hl hd (rel.put k rv) dd')
 ·subst ey eH
  cases (show u = Value.ref b from ry)
  obtain ⟨z, hd, xs, rel, dd⟩ := dt_of I.hok e
  have hz : xs.length ≤ sizeLine := by rw [← Paired.length rel]; exact z
  have hl : (putK kvs k v).length ≤ sizeLine := by have := yU kvs k v; omega
  refine wpAny_setItem_heap (hsz := hz) (tupleKind_room_in1 hu) (v4 I.hok eb) dd fun h' dd' hs => h _ ?_
  obtain ⟨q, es, ep, hq, h2, h3, h4, _, h5⟩ := dd'
  refine v7 I (by rw [e]; exact True.intro) hs ⟨q, hq⟩ ⟨hl, hd, _, (rel.put k eb rv).keeps fun c ys ec => ?_, q, es, ep, hq, h2, h3, h4, h5⟩
  rw [zl (yr ec e (fun z => nomatch z))]
  exact ec
end
def NoSl (i : Expr) : Prop := ∀ ov iv, subscripted i false ov iv = operate [ov, iv] (getItem ov iv)
theorem subD_of {prog : Program} {w : World} {A : Around} {E : Value → Shared → Prop} {s : Shared} {env : Env} {value slice : Expr} {pos : Pos} {T id : String} {Q : Value → Shared → Prop}
  (hl : typeLookup (.type T) "__getitem__" = pure (some (.builtin id))) (hs : NoSl slice)
  (h : wpAny (model prog w) A (eval value env) (fun o s₁ => wpAny (model prog w) A (eval slice env) (fun i s₂ => s₂.TypeIs o T ∧ wpAny (model prog w) A (getItem o i) Q E s₂) E s₁) E s) :
  wpAny (model prog w) A (eval (.Subscript value slice pos) env) Q E s := by
 refine Subscript_ (wpAny_mono h (fun o s₁ h₁ => wpAny_mono h₁ (fun i s₂ h₂ => ?_) fun _ _ x => x) fun _ _ x => x)
 obtain ⟨hT, h₂⟩ := h₂
 unfold subscriptTail
 refine wpAny_bind ?_
 rw [getitemInPython_of_ne hT.not_modules]
 refine wpAny_bind (wpAny_specialOf hT hl ?_)
 have fin : wpAny (model prog w) A (subscripted slice false o i) (fun r s₃ => wpAny (model prog w) A (letTemporaryGo value o r >>= fun _ => pure r) Q E s₃) E s₂ := by
  rw [hs o i]
  exact wpAny_operating (wpAny_mono h₂ (fun r s₃ h₃ => wpAny_bind (wpAny_letTemporaryGo (wpAny_pure h₃))) fun _ _ x => x)
 first
  | exact wpAny_pure (wpAny_bind fin)
  | exact wpAny_bind (wpAny_pure (wpAny_bind fin))
  | exact wpAny_bind fin
theorem dict_typeIs {X : Cx} {pins : List (Addr × Obj)} {σ : St} {H : Hp} {s : Shared} {a : Addr} {y : V} {o : Option V} (I : Inv X pins σ H s) (g : DGet H a y o) : s.TypeIs (.ref a) "dict" := by
 rcases g with ⟨kvs, k, e, _, _⟩ | ⟨kvs, k, b, e, _, _, _⟩
 ·obtain ⟨_, _, vs, _, dd⟩ := vE I.hok e
  exact dd.typeIs
 ·obtain ⟨_, _, xs, _, dd⟩ := ZC I.hok e
  exact dd.typeIs
def Xl (td ty : TE) : TE := fun σ H Q => td σ H fun x H1 => ty σ H1 fun y H2 => ∃ a v, x = .ref a ∧ DGet H2 a y (some v) ∧ Q v H2
def Xp (td ty tv : TE) : TS := fun D σ H => tv σ H fun v H1 => td σ H1 fun x H2 => ty σ H2 fun y H3 => ∃ a H4, x = .ref a ∧ DPut H3 a y v H4 ∧ D.nx σ H4
section
variable {X : Cx} {o i e value : Expr} {pos pos' tpos : Pos} {td ty tv : TE}
theorem wg (hu : X.A.units + 1 < cLine) (ho : PE X o td) (hi : PE X i ty) (hs : NoSl i) : PE X (.Subscript o i pos) (Xl td ty) := by
 intro pins s σ H Q I h
 refine subD_of PySem.F.slot_dict_getitem.lookup hs (thn (ho pins s σ H _ I h) fun u s1 ⟨x, H1, I1, rx, q1⟩ => thn (hi pins s1 σ H1 _ I1 q1) fun iv s2 ⟨y, H2, I2, ry, a, v, ex, g, q2⟩ => ?_)
 subst ex
 obtain rfl : u = Value.ref a := rx
 exact ⟨dict_typeIs I2 g, d_getItem hu I2 g ry fun w' s3 I3 rw' => ⟨v, H2, I3, rw', q2⟩⟩
theorem ps_dput (hu : X.A.units + 1 < cLine) (ho : PE X o td) (hi : PE X i ty) (hv : PE X value tv) (hs : swapsWith value (some (.Subscript o i pos')) pos.line X.env = pure false) :
  PS X (.Assign [.Subscript o i pos'] value pos) (Xp td ty tv) := by
 intro pins s σ H D I h
 refine wpAny_Assign_Subscript (thn (hv pins s σ H _ I h) fun r s1 ⟨v, H1, I1, rv, q1⟩ => thn (ho pins s1 σ H1 _ I1 q1) fun u s2 ⟨x, H2, I2, rx, q2⟩ => thn (hi pins s2 σ H2 _ I2 q2) fun iv s3 ⟨y, H3, I3, ry, a, H4, ex, g, q3⟩ => ?_) hs
 subst ex
 obtain rfl : u = Value.ref a := rx
 exact d_setItem hu I3 g ry rv fun s4 I4 => ⟨σ, H4, I4, q3⟩
end
theorem ZD {P : Program} {w : World} {H : Hp} (h : Heap) (hb : sysModules < h.objs.size) : ObjOk P w H (h.push { cls := .type "dict", data := .dict #[] }) h.objs.size (.dK []) :=
 ⟨Nat.zero_le _, beq_eq_false_iff_ne.mpr (Ne.symm (Nat.ne_of_lt hb)), [], .nil, Heap.DictOf.new h⟩
def Yy : TE := fun _ H Q => ∀ p, H p = none → Q (.ref p) (upd H p (.dK []))
section
variable {X : Cx} {pos : Pos}
theorem pe_dnewK : PE X (.Dict [] [] pos) Yy := fun pins s σ H Q I h =>
 wpAny_Dict_empty ⟨.ref s.heap.objs.size, _, I.laid (a := s.heap.objs.size) (o := .dK []) (t' := s.toks) (fun _ _ q => Heap.get?_push_of_some _ q) (Nat.le_refl _) (ZD s.heap I.big), rfl, h _ (I.hok.fresh (Nat.le_refl _))⟩
end
def xN : List (TE × TE) → St → Hp → (List (V × V) → Hp → Prop) → Prop
 | [], _, H, Q => Q [] H
 | (tk, tv) :: r, σ, H, Q => tk σ H fun x H1 => tv σ H1 fun y H2 => xN r σ H2 fun ps H3 => Q ((x, y) :: ps) H3
abbrev VV : List (V × V) → List (Value × Value) → Prop := Paired fun p q => RelV p.1 q.1 ∧ RelV p.2 q.2
def PPs (X : Cx) (pos : Pos) (keys : List (Option Expr)) (values : List Expr) (trs : List (TE × TE)) : Prop :=
 ∀ (pins : List (Addr × Obj)) (s : Shared) (σ : St) (H : Hp) (Q : List (V × V) → Hp → Prop), Inv X pins σ H s → xN trs σ H Q →
  wpAny (model X.prog X.w) X.A (evalPairs (pairTrees keys values X.env pos)) (fun vs s' => ∃ ps H', Inv X pins σ H' s' ∧ VV ps vs ∧ Q ps H') X.xe s
theorem zM {X : Cx} {pos : Pos} : PPs X pos [] [] [] := fun pins s σ H Q I h => pairTrees_nil_walk ⟨[], H, I, .nil, h⟩
theorem zA {X : Cx} {pos : Pos} {k v : Expr} {ks : List (Option Expr)} {vs : List Expr} {tk tv : TE} {trs : List (TE × TE)} (hk : PE X k tk) (hv : PE X v tv) (hr : PPs X pos ks vs trs) :
  PPs X pos (some k :: ks) (v :: vs) ((tk, tv) :: trs) := fun pins s σ H Q I h =>
 pairTrees_cons_walk (thn (hk pins s σ H _ I h) fun u s1 ⟨x, H1, I1, rx, q1⟩ => thn (hv pins s1 σ H1 _ I1 q1) fun w2 s2 ⟨y, H2, I2, ry, q2⟩ =>
  thn (hr pins s2 σ H2 _ I2 q2) fun ws s3 ⟨ps, H3, I3, rel, q3⟩ => ⟨(x, y) :: ps, H3, I3, .cons ⟨rx, ry⟩ rel, q3⟩)
def zH (kvs more : List (Key × V)) : List (Key × V) := more.foldl (fun acc kv => putK acc kv.1 kv.2) kvs
theorem KV.merge : ∀ {more : List (Key × V)} {rs : List (Key × Value)} {kvs : List (Key × V)} {vs : List (Key × Value)}, KV more rs → KV kvs vs → KV (zH kvs more) (merged vs rs) := by
 intro more rs kvs vs r
 unfold KV at r
 induction r generalizing kvs vs with
 | nil => intro q; exact q
 | @cons p q ps qs h t ih =>
  intro r0
  have e : KV (putK kvs p.1 p.2) (stored vs q.1 q.2) := by
   have := r0.put p.1 h.2
   rw [← h.1]; exact this
  exact ih e
theorem xM : ∀ (more kvs : List (Key × V)), (zH kvs more).length ≤ kvs.length + more.length
 | [], kvs => by show kvs.length ≤ kvs.length + 0; omega
 | p :: r, kvs => by
  have h1 := xM r (putK kvs p.1 p.2)
  have h2 := yU kvs p.1 p.2
  show (zH (putK kvs p.1 p.2) r).length ≤ _
  rw [List.length_cons]; omega
theorem vq {P : Program} {w : World} : ∀ {kvs : List (Key × V)} {ws : List (Value × Value)}, VV (kvs.map fun kv => (kV kv.1, kv.2)) ws → ∃ rs, Carries (ya P w) ws rs ∧ KV kvs rs
 | [], _, r => by rw [List.map_nil] at r; cases r; exact ⟨[], True.intro, .nil⟩
 | p :: kvs, _, r => by
  rw [List.map_cons] at r
  cases r with
  | @cons a b as bs h t =>
   obtain ⟨rs, c, q⟩ := vq (P := P) (w := w) t
   obtain ⟨b1, b2⟩ := b
   exact ⟨(p.1, b2) :: rs, ⟨Zx h.1, rfl, c⟩, .cons ⟨rfl, h.2⟩ q⟩
def Xk (trs : List (TE × TE)) : TE := fun σ H Q => ∀ p, H p = none → xN trs σ (upd H p (.dK [])) fun ps H2 => H2 p = some (.dK []) ∧ ∃ kvs : List (Key × V), ps = kvs.map (fun kv => (kV kv.1, kv.2)) ∧ kvs.length ≤ 15 ∧ Q (.ref p) (upd H2 p (.dK (zH [] kvs)))
theorem zN {X : Cx} {pos : Pos} {keys : List (Option Expr)} {values : List Expr} {trs : List (TE × TE)} (h : PPs X pos keys values trs) (hall : keys.all (·.isSome) = true) (hl : keys.length = values.length) (h0 : keys ≠ [])
  (h15 : keys.length ≤ 15) : PE X (.Dict keys values pos) (Xk trs) := by
 intro pins s σ H Q I q
 have hn := I.hok.fresh (Nat.le_refl s.heap.objs.size)
 have I1 := I.laid (a := s.heap.objs.size) (o := .dK []) (h' := s.heap.push { cls := .type "dict", data := .dict #[] }) (t' := s.toks) (fun _ _ q => Heap.get?_push_of_some _ q) (Nat.le_refl _) (ZD s.heap I.big)
 refine wpAny_Dict_walk (knd := ya X.prog X.w) hall hl h0 h15 (thn (h pins _ σ _ _ I1 (q _ hn)) fun ws s2 ⟨ps, H2, I2, rel, e, kvs, ep, lk, q2⟩ => ?_)
 subst ep
 obtain ⟨rs, c, rk⟩ := vq (P := X.prog) (w := X.w) rel
 obtain ⟨z, hd, vs0, r0, dd⟩ := XI I2.hok e
 cases r0
 refine ⟨rs, c, dd, fun h' dd' hs => ⟨.ref s.heap.objs.size, _, ?_, rfl, q2⟩⟩
 have hz : (zH [] kvs).length ≤ sizeLine := by
  have h1 := xM kvs []
  rw [List.length_nil] at h1
  rw [sizeLine_eq]; omega
 have he : ∃ q, h'.get? s.heap.objs.size = some q := let ⟨q, _, _, hq, _⟩ := dd'; ⟨q, hq⟩
 exact v7 I2 (by rw [e]; exact True.intro) hs he (ZT hz hd (rk.merge .nil) dd')
structure M1 (X : Cx) (o : Expr) (m : Str) (apos : Pos) (e : Expr) (cpos : Pos) : Prop where
 base : attributeBase o m X.env (eval o X.env) = eval o X.env
 few : ((backTo cpos (starEach [e] X.env)).all (fun x => !x.1) && (backToKw cpos (keywordEach [] X.env)).all (fun x => x.1.isSome)
  && decide (([e] : List Expr).length + ([] : List Keyword).length + (if ([] : List Keyword).isEmpty then 0 else 1) < 30)) = true
 line : (apos.endLine == cpos.line) = true
 trees : backTo cpos (starEach [e] X.env) = [(false, eval e X.env)]
structure M2 (X : Cx) (o : Expr) (m : Str) (apos : Pos) (e f : Expr) (cpos : Pos) : Prop where
 base : attributeBase o m X.env (eval o X.env) = eval o X.env
 few : ((backTo cpos (starEach [e, f] X.env)).all (fun x => !x.1) && (backToKw cpos (keywordEach [] X.env)).all (fun x => x.1.isSome)
  && decide (([e, f] : List Expr).length + ([] : List Keyword).length + (if ([] : List Keyword).isEmpty then 0 else 1) < 30)) = true
 line : (apos.endLine == cpos.line) = true
 trees : backTo cpos (starEach [e, f] X.env) = [(false, eval e X.env), (false, eval f X.env)]
def IsD (H : Hp) (a : Addr) : Prop := (∃ kvs, Rd H a (.dK kvs)) ∨ ∃ kvs, Rd H a (.dT kvs)
theorem isD_at {X : Cx} {pins : List (Addr × Obj)} {σ : St} {H : Hp} {s : Shared} {a : Addr} (I : Inv X pins σ H s) (d : IsD H a) :
  s.TypeIs (.ref a) "dict" ∧ (∀ b, Value.ref a = .ref b → ∃ ob, s.heap.get? b = some ob ∧ ob.dict = none) ∧ (a == sysModules) = false := by
 rcases d with ⟨kvs, e⟩ | ⟨kvs, e⟩
 ·obtain ⟨_, hd, vs, _, dd⟩ := vE I.hok e
  refine ⟨dd.typeIs, fun b q => ?_, hd⟩
  cases q
  obtain ⟨ob, _, _, h1, h2, _⟩ := dd
  exact ⟨ob, h1, h2.2.1⟩
 ·obtain ⟨_, hd, xs, _, dd⟩ := ZC I.hok e
  refine ⟨dd.typeIs, fun b q => ?_, hd⟩
  cases q
  obtain ⟨ob, _, _, h1, h2, _⟩ := dd
  exact ⟨ob, h1, h2.2.1⟩
section
variable {X : Cx} {pins : List (Addr × Obj)} {σ : St} {H : Hp} {s : Shared} {a : Addr} {y d : V} {u r : Value} {o : Option V} {A : Around} {E : Value → Shared → Prop}
theorem d_get2 {Q : Value → Shared → Prop} (hu : A.units + 1 < cLine) (I : Inv X pins σ H s) (g : DGet H a y o) (ry : RelV y u) (rd : RelV d r) (h : ∀ w' s', Inv X pins σ H s' → RelV (o.getD d) w' → Q w' s') :
  wpAny (model X.prog X.w) A (call (.builtin "dict.get") [.ref a, u, r]) Q E s := by
 rcases g with ⟨kvs, k, e, ey, l⟩ | ⟨kvs, k, b, e, ey, eb, l⟩
 ·subst ey
  obtain ⟨z, hd, vs, rel, dd⟩ := vE I.hok e
  refine call_meetsIn PySem.F.slot_dict_get dd.typeIs PySem.F.entry_dict_get (PySem.F.args_dict_get_3 _ _ _) (meets_dict_get_default (ya X.prog X.w) a (Zx ry) hd r) ⟨_, dd.mapOf, h _ _ (I.tok _) ?_⟩
  rw [l]
  exact (rel.val k).getD rd
 ·subst ey
  cases (show u = Value.ref b from ry)
  obtain ⟨z, hd, xs, rel, dd⟩ := ZC I.hok e
  refine call_meetsIn PySem.F.slot_dict_get dd.typeIs PySem.F.entry_dict_get (PySem.F.args_dict_get_3 _ _ _) (meetsH_dict_get_default (tupleKind (ya X.prog X.w)) a b hd r) ⟨tupleKind_room_in1 hu, k, xs, v4 I.hok eb, dd, h _ _ (I.tok _) ?_⟩
  rw [l]
  exact (rel.val k).getD rd
end
def Yz (td ty tx : TE) : TE := fun σ H Q => td σ H fun x H1 => ∃ a, x = .ref a ∧ IsD H1 a ∧ ty σ H1 fun y H2 => tx σ H2 fun z H3 => ∃ o, DGet H3 a y o ∧ Q (o.getD z) H3
section
variable {X : Cx} {o e f : Expr} {apos cpos : Pos} {td ty tx : TE}
theorem pe_dget2 (hu : X.A.units + 1 < cLine) (ho : PE X o td) (he : PE X e ty) (hf : PE X f tx) (m : M2 X o "get" apos e f cpos) : PE X (.Call (.Attribute o "get" apos) [e, f] [] cpos) (Yz td ty tx) := by
 intro pins s σ H Q I h
 refine wpAny_Call_method m.base m.few m.line PySem.F.plainAttrs_dict PySem.F.slot_dict_get PySem.F.type_dict_get (thn (ho pins s σ H _ I h) fun u s1 ⟨x, H1, I1, rx, a, ex, d, q1⟩ => ?_)
 subst ex
 obtain rfl : u = Value.ref a := rx
 obtain ⟨t1, t2, _⟩ := isD_at I1 d
 refine ⟨t1, t2, ?_⟩
 rw [m.trees]
 refine Calls.callWith_builtin rfl (Calls.evalArgs_plain (Calls.spliced_cons (thn (he pins s1 σ H1 _ I1 q1) fun iv s2 ⟨y, H2, I2, ry, q2⟩ =>
  Calls.spliced_cons (thn (hf pins s2 σ H2 _ I2 q2) fun fv s3 ⟨z, H3, I3, rz, ov, g, q3⟩ => Calls.spliced_nil ?_))))
 exact d_get2 hu I3 g ry rz fun w' s4 I4 rw' => ⟨_, H3, I4, rw', q3⟩
end
section
variable {X : Cx} {pins : List (Addr × Obj)} {σ : St} {H : Hp} {s : Shared} {a : Addr} {kvs : List (Key × V)} {A : Around} {E : Value → Shared → Prop}
theorem d_copyOf {Q : Value → Shared → Prop} (I : Inv X pins σ H s) (e : Rd H a (.dK kvs)) (h : ∀ p s', H p = none → Inv X pins σ (upd H p (.dK kvs)) s' → Q (.ref p) s') : wpAny (model X.prog X.w) A (call (.type "dict") [.ref a]) Q E s := by
 obtain ⟨z, hd, vs, rel, dd⟩ := vE I.hok e
 refine kt_call_dict hd dd (by rw [← rel.length]; exact z) fun h' dd' hs => ?_
 refine h _ _ (I.hok.fresh (Nat.le_refl _)) (I.laid (a := s.heap.objs.size) (o := .dK kvs) (t' := s.toks) (fun b q hq => ?_) (Nat.le_refl _) (ZT z (beq_eq_false_iff_ne.mpr (Ne.symm (Nat.ne_of_lt I.big))) rel dd'))
 exact (hs.2 b (Nat.ne_of_lt (Heap.lt_size hq))).trans (Heap.get?_push_of_some _ hq)
end
section
variable {X : Cx} {k : Nat}
def rEqE : R2 := fun x y H Q => ∃ (a z : Addr) (xs : List V), x = .ref a ∧ y = .ref z ∧ H a = some (.lst xs) ∧ H z = some (.lst []) ∧ Q (.bl xs.isEmpty) H
theorem op_eqE (hr : Room k X.A) : OpR X (compareOp .Eq) rEqE := by
 intro pins s σ H x y v u Q I rx ry h
 obtain ⟨a, z, xs, rfl, rfl, ha, hz, q⟩ := h
 cases rx
 cases ry
 have hu := hr.units
 obtain ⟨its, r, pl, _⟩ := I.list (SqL.of ha)
 obtain ⟨its2, r2, pl2, _⟩ := I.list (SqL.of hz)
 have e2 : its2 = [] := r2.nil_iff.mpr rfl
 subst e2
 cases xs with
 | nil =>
  have e1 : its = [] := r.nil_iff.mpr rfl
  subst e1
  have R := SeqAt.RcAt.lists (A := X.A) (e := fun _ => true) pl.isList pl2.isList rfl (by omega) (fun j h1 h2 => absurd h1 (by simp))
  exact R X.prog X.w X.xe _ ⟨.bl _, H, I, rfl, q⟩
 | cons y ys =>
  have hne : its ≠ [] := fun e => by have := r.nil_iff.mp e; cases this
  have R := SeqAt.RcAt.lists_lengths (A := X.A) pl.isList pl2.isList (by simp [hne]) (by omega)
  exact R X.prog X.w X.xe _ ⟨.bl _, H, I, rfl, q⟩
def rNeE : R2 := fun x y H Q => ∃ (a z : Addr) (xs : List V), x = .ref a ∧ y = .ref z ∧ H a = some (.lst xs) ∧ H z = some (.lst []) ∧ Q (.bl (!xs.isEmpty)) H
theorem YT (hr : Room k X.A) : OpR X (compareOp .NotEq) rNeE := by
 intro pins s σ H x y v u Q I rx ry h
 obtain ⟨a, z, xs, rfl, rfl, ha, hz, q⟩ := h
 cases rx
 cases ry
 have hu := hr.units
 obtain ⟨its, r, pl, _⟩ := I.list (SqL.of ha)
 obtain ⟨its2, r2, pl2, _⟩ := I.list (SqL.of hz)
 have e2 : its2 = [] := r2.nil_iff.mpr rfl
 subst e2
 cases xs with
 | nil =>
  have e1 : its = [] := r.nil_iff.mpr rfl
  subst e1
  have R := SeqAt.RcNeAt.lists (A := X.A) (e := fun _ => true) pl.isList pl2.isList rfl (by omega) (fun j h1 h2 => absurd h1 (by simp))
  exact R X.prog X.w X.xe _ ⟨.bl _, H, I, rfl, q⟩
 | cons y ys =>
  have hne : its ≠ [] := fun e => by have := r.nil_iff.mp e; cases this
  have R := SeqAt.RcNeAt.lists_lengths (A := X.A) pl.isList pl2.isList (by simp [hne]) (by omega)
  exact R X.prog X.w X.xe _ ⟨.bl _, H, I, rfl, q⟩
def rDictC : List V → Hp → VK → Prop := fun xs H Q => ∃ (a : Addr) (kvs : List (Key × V)), xs = [.ref a] ∧ H a = some (.dK kvs) ∧ ∀ p, H p = none → Q (.ref p) (upd H p (.dK kvs))
theorem call_dictC : yk X (.type "dict") rDictC := by
 intro pins s σ H xs us Q I r h
 obtain ⟨a, kvs, rfl, ha, q⟩ := h
 obtain ⟨u, rfl, ru⟩ := r.one
 cases ru
 exact d_copyOf I (.inl ha) fun p s' hp I' => ⟨.ref p, _, I', rfl, q p hp⟩
end
end L2
namespace K52
open PySem L2 G2
theorem nob {H : Hp} {a : Addr} (o : HO) (h : H a = none) : ∃ H2, upd H a o = H2 ∧ Same H H2 ∧ H2 a = some o := ⟨_, rfl, Same.new (Same.refl _) h, zi⟩
theorem nop {H G : Hp} {a : Addr} (o : HO) (M : Same H G) (h : H a = none) : ∃ H2, upd G a o = H2 ∧ Same H H2 ∧ H2 a = some o := ⟨_, rfl, M.put h, zi⟩
theorem lf2 {H H' : Hp} (k : Same H H') {a0 a1 : Addr} {o0 o1 : HO} (h0 : H a0 = some o0) (h1 : H a1 = some o1) : H' a0 = some o0 ∧ H' a1 = some o1 := ⟨k _ _ h0, k _ _ h1⟩
theorem lf3 {H H' : Hp} (k : Same H H') {a0 a1 a2 : Addr} {o0 o1 o2 : HO} (h0 : H a0 = some o0) (h1 : H a1 = some o1) (h2 : H a2 = some o2) : H' a0 = some o0 ∧ H' a1 = some o1 ∧ H' a2 = some o2 := ⟨k _ _ h0, k _ _ h1, k _ _ h2⟩
theorem lf4 {H H' : Hp} (k : Same H H') {a0 a1 a2 a3 : Addr} {o0 o1 o2 o3 : HO} (h0 : H a0 = some o0) (h1 : H a1 = some o1) (h2 : H a2 = some o2) (h3 : H a3 = some o3) : H' a0 = some o0 ∧ H' a1 = some o1 ∧ H' a2 = some o2 ∧ H' a3 = some o3 := ⟨k _ _ h0, k _ _ h1, k _ _ h2, k _ _ h3⟩
theorem lf5 {H H' : Hp} (k : Same H H') {a0 a1 a2 a3 a4 : Addr} {o0 o1 o2 o3 o4 : HO} (h0 : H a0 = some o0) (h1 : H a1 = some o1) (h2 : H a2 = some o2) (h3 : H a3 = some o3) (h4 : H a4 = some o4) : H' a0 = some o0 ∧ H' a1 = some o1 ∧ H' a2 = some o2 ∧ H' a3 = some o3 ∧ H' a4 = some o4 := ⟨k _ _ h0, k _ _ h1, k _ _ h2, k _ _ h3, k _ _ h4⟩
theorem lf6 {H H' : Hp} (k : Same H H') {a0 a1 a2 a3 a4 a5 : Addr} {o0 o1 o2 o3 o4 o5 : HO} (h0 : H a0 = some o0) (h1 : H a1 = some o1) (h2 : H a2 = some o2) (h3 : H a3 = some o3) (h4 : H a4 = some o4) (h5 : H a5 = some o5) : H' a0 = some o0 ∧ H' a1 = some o1 ∧ H' a2 = some o2 ∧ H' a3 = some o3 ∧ H' a4 = some o4 ∧ H' a5 = some o5 := ⟨k _ _ h0, k _ _ h1, k _ _ h2, k _ _ h3, k _ _ h4, k _ _ h5⟩
theorem lf7 {H H' : Hp} (k : Same H H') {a0 a1 a2 a3 a4 a5 a6 : Addr} {o0 o1 o2 o3 o4 o5 o6 : HO} (h0 : H a0 = some o0) (h1 : H a1 = some o1) (h2 : H a2 = some o2) (h3 : H a3 = some o3) (h4 : H a4 = some o4) (h5 : H a5 = some o5) (h6 : H a6 = some o6) : H' a0 = some o0 ∧ H' a1 = some o1 ∧ H' a2 = some o2 ∧ H' a3 = some o3 ∧ H' a4 = some o4 ∧ H' a5 = some o5 ∧ H' a6 = some o6 := ⟨k _ _ h0, k _ _ h1, k _ _ h2, k _ _ h3, k _ _ h4, k _ _ h5, k _ _ h6⟩
theorem lf8 {H H' : Hp} (k : Same H H') {a0 a1 a2 a3 a4 a5 a6 a7 : Addr} {o0 o1 o2 o3 o4 o5 o6 o7 : HO} (h0 : H a0 = some o0) (h1 : H a1 = some o1) (h2 : H a2 = some o2) (h3 : H a3 = some o3) (h4 : H a4 = some o4) (h5 : H a5 = some o5) (h6 : H a6 = some o6) (h7 : H a7 = some o7) : H' a0 = some o0 ∧ H' a1 = some o1 ∧ H' a2 = some o2 ∧ H' a3 = some o3 ∧ H' a4 = some o4 ∧ H' a5 = some o5 ∧ H' a6 = some o6 ∧ H' a7 = some o7 := ⟨k _ _ h0, k _ _ h1, k _ _ h2, k _ _ h3, k _ _ h4, k _ _ h5, k _ _ h6, k _ _ h7⟩
abbrev sShp : Stmt := top 45
abbrev nShp : List Str := ["_law_ask_here", "_law_line_here", "_law_other", "_law_rules", "_law_begin"]
theorem zS : Nm nShp (zk sShp) := ⟨by decide +kernel, by decide +kernel⟩
theorem scShp : FnScope nShp ["_law_ask_here"] (zk sShp) := ⟨rfl, rfl, rfl, by decide +kernel, rfl, by decide +kernel, by decide +kernel⟩
theorem Zy {p X Y : Prop} [Decidable p] (h : p) (k : X) : if decide p = true then X else Y := iteD (fun _ => k) fun z => absurd h z
theorem yO {p X Y : Prop} [Decidable p] (h : ¬ p) (k : Y) : if decide p = true then X else Y := iteD (fun z => absurd z h) fun _ => k
theorem zP {trs : List (TE × TE)} {σ : St} {H : Hp} {Q : VK} (h : ∀ p, H p = none → xN trs σ (upd H p (.dK [])) fun ps H2 => H2 p = some (.dK []) ∧ ∃ kvs : List (Key × V), ps = kvs.map (fun kv => (kV kv.1, kv.2)) ∧ kvs.length ≤ 15 ∧ Q (.ref p) (upd H2 p (.dK (zH [] kvs)))) : Xk trs σ H Q := h
theorem w_dnew {σ : St} {H : Hp} {Q : VK} (h : ∀ p, H p = none → Q (.ref p) (upd H p (.dK []))) : Yy σ H Q := h
theorem zz {tk tv : TE} {r : List (TE × TE)} {σ : St} {H : Hp} {Q : List (V × V) → Hp → Prop} (h : tk σ H fun x H1 => tv σ H1 fun y H2 => xN r σ H2 fun ps H3 => Q ((x, y) :: ps) H3) : xN ((tk, tv) :: r) σ H Q := h
theorem zC {σ : St} {H : Hp} {Q : List (V × V) → Hp → Prop} (h : Q [] H) : xN [] σ H Q := h
abbrev Dc := List (Int × Int)
abbrev dcK (d : Dc) : List (Key × V) := d.map fun x => ((Sum.inl x.1 : Key), V.int x.2)
def SdAt (H : Hp) (r : Addr) (s : Dc × Dc) : Prop := ∃ d1 d2 : Addr, H r = some (.tup [.ref d1, .ref d2]) ∧ H d1 = some (.dK (dcK s.1)) ∧ H d2 = some (.dK (dcK s.2))
def Sds (H : Hp) : List Addr → List (Dc × Dc) → Prop
 | [], [] => True
 | r :: rs, s :: ss => SdAt H r s ∧ Sds H rs ss
 | _, _ => False
def SdsAt (H : Hp) (l : Addr) (ss : List (Dc × Dc)) : Prop := ∃ rs : List Addr, H l = some (.lst (rs.map V.ref)) ∧ Sds H rs ss
def DcOk (d : Dc) : Prop := ∀ x ∈ d, 0 ≤ x.2 ∧ x.2 ≤ 9
structure Good (ss : List (Dc × Dc)) (bs : List Int) (ans : Int) : Prop where
 s3 : ss.length ≤ 3
 s0 : 0 < ss.length
 so : ∀ s ∈ ss, DcOk s.1 ∧ DcOk s.2
 b5 : bs.length ≤ 5
 b0 : 0 < bs.length
 bb : ∀ b ∈ bs, 0 ≤ b ∧ b ≤ 9
 a0 : 0 ≤ ans
 a1 : ans < (bs.length : Int)
theorem wB : DcOk [] := fun x hx => by cases hx
theorem xH {k v : Int} {d : Dc} (h : 0 ≤ v ∧ v ≤ 9) (hd : DcOk d) : DcOk ((k, v) :: d) := fun x hx => by
 rcases List.mem_cons.mp hx with rfl | hx
 ·exact h
 ·exact hd x hx
theorem wv : ∀ s ∈ ([] : List (Dc × Dc)), DcOk s.1 ∧ DcOk s.2 := fun s hs => by cases hs
theorem xC {d e : Dc} {ss : List (Dc × Dc)} (h1 : DcOk d) (h2 : DcOk e) (h : ∀ s ∈ ss, DcOk s.1 ∧ DcOk s.2) : ∀ s ∈ (d, e) :: ss, DcOk s.1 ∧ DcOk s.2 := fun s hs => by
 rcases List.mem_cons.mp hs with rfl | hs
 ·exact ⟨h1, h2⟩
 ·exact h s hs
def YA : Sp := fun vs H Q _ => ∃ (q : Addr) (A : Ak), vs = [.ref q] ∧ AkAt H q A ∧ A.ok 1 ∧ akSm A ∧ ∀ (r rl bl : Addr) (ss : List (Dc × Dc)) (bs : List Int) (ans : Int) (H' : Hp), Same H H' → H' r = some (.tup [.ref rl, .ref bl, .int ans]) → SdsAt H' rl ss → H' bl = some (.lst (bs.map V.int)) → Good ss bs ans → H rl = none → H bl = none → rl ≠ bl → Q (.ref r) H'
theorem vW {a : Ln} (h : a.ok 1) (s : Ln.sm a) : ∃ x0, a.bys = [x0] ∧ 0 ≤ x0 ∧ x0 ≤ 4 := by
 obtain ⟨x0, hx⟩ := List.length_eq_one_iff.mp h.1
 have := s.1 x0 (by rw [hx]; exact List.mem_singleton.mpr rfl)
 exact ⟨x0, hx, this.1, this.2⟩
section
variable {P : Program} {w : World} {K : W.Frag} {mg : Str → Option Value} {base : Heap}
theorem ok_Shp {f : Addr} {fd : FuncData} (F : Fun K "_law_shaped" "_law_shaped" sShp f fd) : FnOk P w K mg base CX0 1 f fd ["_law_ask_here"] YA := by
 refine F.ok scShp (fun vs H Q E h => ?_) (fun cdv A outer s H vs Q E hr h => ?_)
 ·obtain ⟨q, A, rfl, _⟩ := h
  rfl
 obtain ⟨q, A, rfl, hq, hok, hsm, k⟩ := h
 refine' ⟨_, ?hb, ?rd⟩
 case hb =>
  refine' zj ?s1 ?r1
  case' r1 => refine' zj ?s2 ?r2
  case' r2 => refine' zj ?s3 ?r3
  case' r3 => refine' zj ?s4 ?r4
  case' r4 => refine' zj ?s5 ?r5
  case' r5 => refine' zj ?s6 ?r6
  case' r6 => refine' zj ?s7 ?r7
  case' r7 => refine' zj ?s8 ?r8
  case' r8 => refine' zj ?s9 ?r9
  case' r9 => refine' zj ?s10 ?r10
  case' r10 => refine' zn ?s11
  case s1 =>
   refine' zq zS 1 ?q1
   case q1 => exact ziq (pvd zS 0) zh
  case s2 =>
   refine' zT (zy yE (ziq (pvd zS 0) zh) zQ (zD _)) ?a1 zB
   case' a1 => refine' zn ?a2
   case' a2 => refine' zE ?a3
   case' a3 => refine' zx ?n1
   case' n1 => refine' pa_c ?n2 ?n3
   case' n2 => refine' zK ?n4
   case' n4 => refine' pa_1 ?n5
   case' n5 => refine' zx ?n6
   case' n6 => refine' pa_2 ?n7 ?n8
   case' n7 => refine' zN ?n9 rfl rfl (by simp) (by decide)
   case n9 => exact zA zh zh zM
   case' n8 => refine' zN ?n10 rfl rfl (by simp) (by decide)
   case' n10 => refine' zA zh ?n11 zM
   case' n11 => refine' ziq ?n12 zh
   case n12 => exact ziq (pvd zS 1) zh
   case' n3 => refine' pa_2 ?n13 zh
   case' n13 => refine' zK ?n14
   case' n14 => refine' pa_2 zh ?n15
   case n15 => exact ziq (pvd zS 1) zh
  case s3 =>
   refine' zT (zy yE (ziq (pvd zS 0) zh) zQ (zD _)) ?b1 zB
   case' b1 => refine' zn ?b2
   case' b2 => refine' zE ?b3
   case' b3 => refine' zx ?n16
   case' n16 => refine' pa_c ?n17 ?n18
   case' n17 => refine' zK ?n19
   case' n19 => refine' pa_2 ?n20 ?n21
   case' n20 => refine' zx ?n22
   case' n22 => refine' pa_2 ?n23 ?n24
   case' n23 => refine' zN ?n25 rfl rfl (by simp) (by decide)
   case n25 => exact zA zh zh zM
   case' n24 => refine' zN ?n26 rfl rfl (by simp) (by decide)
   case' n26 => refine' zA zh ?n27 zM
   case' n27 => refine' ziq ?n28 zh
   case n28 => exact ziq (pvd zS 1) zh
   case' n21 => refine' zx ?n29
   case' n29 => refine' pa_2 ?n30 ?n31
   case' n30 => refine' zN ?n32 rfl rfl (by simp) (by decide)
   case' n32 => refine' zA zh ?n33 zM
   case n33 => exact ziq (pvd zS 0) zh
   case' n31 => refine' zN ?n34 rfl rfl (by simp) (by decide)
   case n34 => exact zA zh zh zM
   case' n18 => refine' pa_2 ?n35 zh
   case' n35 => refine' zK ?n36
   case' n36 => refine' pa_c zh ?n37
   case' n37 => refine' pa_2 ?n38 zh
   case n38 => exact ziq (pvd zS 1) zh
  case s4 =>
   refine' zq zS 2 ?q4
   case q4 => exact ziq (pvd zS 0) zh
  case s5 =>
   refine' zq zS 3 ?q5
   case' q5 => refine' zK ?n39
   case' n39 => refine' pa_1 ?n40
   case' n40 => refine' zx ?n41
   case' n41 => refine' pa_2 ?n42 ?n43
   case' n42 => refine' zN ?n44 rfl rfl (by simp) (by decide)
   case n44 => exact zA zh zh zM
   case' n43 => refine' zN ?n45 rfl rfl (by simp) (by decide)
   case' n45 => refine' zA zh ?n46 ?n47
   case' n46 => refine' ziq ?n48 zh
   case n48 => exact ziq (pvd zS 1) zh
   case' n47 => refine' zA zh ?n49 zM
   case' n49 => refine' ziq ?n50 zh
   case n50 => exact ziq (pvd zS 2) zh
  case s6 =>
   refine' zq zS 4 ?q6
   case' q6 => refine' zK ?n51
   case' n51 => refine' pa_c zh ?n52
   case' n52 => refine' pa_2 ?n53 ?n54
   case n53 => exact ziq (pvd zS 1) zh
   case n54 => exact ziq (pvd zS 2) zh
  case s7 =>
   refine' zT (zy yE (ziq (pvd zS 0) zh) zQ (zD _)) ?c1 zB
   case' c1 => refine' zn ?c2
   case' c2 => refine' zE ?c3
   case' c3 => refine' zx ?n55
   case' n55 => refine' pa_c ?n56 ?n57
   case' n56 => refine' zw yM (pvd zS 3) ?n58
   case' n58 => refine' zK ?n59
   case' n59 => refine' pa_1 ?n60
   case' n60 => refine' zx ?n61
   case' n61 => refine' pa_2 ?n62 ?n63
   case' n62 => refine' zN ?n64 rfl rfl (by simp) (by decide)
   case' n64 => refine' zA zh zh ?n65
   case n65 => exact zA zh zh zM
   case' n63 => refine' zN ?n66 rfl rfl (by simp) (by decide)
   case n66 => exact zA zh zh zM
   case' n57 => refine' pa_2 ?n67 zh
   case' n67 => refine' zw yM (pvd zS 4) ?n68
   case' n68 => refine' zK ?n69
   case n69 => exact pa_1 zh
  case s8 =>
   refine' zT (zy yE (ziq (pvd zS 0) zh) zQ (zD _)) ?d1 zB
   case' d1 => refine' zj ?d2 ?d3
   case' d2 => refine' zq zS 3 ?q2
   case' q2 => refine' zK ?n70
   case' n70 => refine' pa_1 ?n71
   case' n71 => refine' zx ?n72
   case' n72 => refine' pa_2 ?n73 ?n74
   case' n73 => refine' zN ?n75 rfl rfl (by simp) (by decide)
   case n75 => exact zA zh zh zM
   case' n74 => refine' zN ?n76 rfl rfl (by simp) (by decide)
   case' n76 => refine' zA zh ?n77 ?n78
   case' n77 => refine' ziq ?n79 zh
   case n79 => exact ziq (pvd zS 1) zh
   case' n78 => refine' zA zh ?n80 ?n81
   case' n80 => refine' ziq ?n82 zh
   case n82 => exact ziq (pvd zS 2) zh
   case' n81 => refine' zA zh ?n83 zM
   case' n83 => refine' zw yc ?n84 ?n85
   case' n84 => refine' ziq ?n86 zh
   case n86 => exact ziq (pvd zS 1) zh
   case' n85 => refine' ziq ?n87 zh
   case n87 => exact ziq (pvd zS 2) zh
   case' d3 => refine' zj ?d4 ?d5
   case' d4 => refine' zq zS 3 ?q3
   case' q3 => refine' zw yM (pvd zS 3) ?n88
   case' n88 => refine' zK ?n89
   case' n89 => refine' pa_2 ?n90 ?n91
   case' n90 => refine' zx ?n92
   case' n92 => refine' pa_2 ?n93 ?n94
   case' n93 => refine' zN ?n95 rfl rfl (by simp) (by decide)
   case' n95 => refine' zA zh zh ?n96
   case n96 => exact zA zh zh zM
   case' n94 => refine' zN ?n97 rfl rfl (by simp) (by decide)
   case n97 => exact zA zh zh zM
   case' n91 => refine' zx ?n98
   case' n98 => refine' pa_2 ?n99 pe_dnewK
   case' n99 => refine' zN ?n100 rfl rfl (by simp) (by decide)
   case' n100 => refine' zA zh zh ?n101
   case n101 => exact zA zh zh zM
   case' d5 => refine' zn ?d6
   case' d6 => refine' zE ?q7
   case' q7 => refine' zx ?n102
   case' n102 => refine' pa_c (pvd zS 3) ?n103
   case' n103 => refine' pa_2 ?n104 zh
   case' n104 => refine' zw yM (pvd zS 4) ?n105
   case' n105 => refine' zK ?n106
   case' n106 => refine' pa_2 ?n107 zh
   case' n107 => refine' zw yc ?n108 ?n109
   case n108 => exact ziq (pvd zS 1) zh
   case n109 => exact ziq (pvd zS 2) zh
  case s9 =>
   refine' zT (zy yE (ziq (pvd zS 0) zh) zQ (zD _)) ?e1 zB
   case' e1 => refine' zn ?e2
   case' e2 => refine' zE ?e3
   case' e3 => refine' zx ?n110
   case' n110 => refine' pa_c ?n111 ?n112
   case' n111 => refine' zw yM (pvd zS 3) ?n113
   case' n113 => refine' zK ?n114
   case' n114 => refine' pa_2 ?n115 ?n116
   case' n115 => refine' zx ?n117
   case' n117 => refine' pa_2 ?n118 ?n119
   case' n118 => refine' zN ?n120 rfl rfl (by simp) (by decide)
   case' n120 => refine' zA zh zh ?n121
   case n121 => exact zA zh zh zM
   case' n119 => refine' zN ?n122 rfl rfl (by simp) (by decide)
   case n122 => exact zA zh zh zM
   case' n116 => refine' zx ?n123
   case' n123 => refine' pa_2 ?n124 ?n125
   case' n124 => refine' zN ?n126 rfl rfl (by simp) (by decide)
   case' n126 => refine' zA zh zh ?n127
   case n127 => exact zA zh zh zM
   case' n125 => refine' zN ?n128 rfl rfl (by simp) (by decide)
   case n128 => exact zA zh zh zM
   case' n112 => refine' pa_2 ?n129 zh
   case' n129 => refine' zw yM (pvd zS 4) ?n130
   case' n130 => refine' zK ?n131
   case n131 => exact pa_2 zh zh
  case s10 =>
   refine' zq zS 3 ?q10
   case' q10 => refine' zK ?n132
   case' n132 => refine' pa_2 ?n133 ?n134
   case' n133 => refine' zx ?n135
   case' n135 => refine' pa_2 ?n136 ?n137
   case' n136 => refine' zN ?n138 rfl rfl (by simp) (by decide)
   case n138 => exact zA zh zh zM
   case' n137 => refine' zN ?n139 rfl rfl (by simp) (by decide)
   case' n139 => refine' zA zh ?n140 zM
   case' n140 => refine' ziq ?n141 zh
   case n141 => exact ziq (pvd zS 1) zh
   case' n134 => refine' zx ?n142
   case' n142 => refine' pa_2 ?n143 ?n144
   case' n143 => refine' zN ?n145 rfl rfl (by simp) (by decide)
   case n145 => exact zA zh zh zM
   case' n144 => refine' zN ?n146 rfl rfl (by simp) (by decide)
   case n146 => exact zA zh zh zM
  case s11 =>
   refine' zE ?q11
   case' q11 => refine' zx ?n147
   case' n147 => refine' pa_c (pvd zS 3) ?n148
   case' n148 => refine' pa_2 ?n149 zh
   case' n149 => refine' zK ?n150
   case' n150 => refine' pa_2 zh ?n151
   case n151 => exact ziq (pvd zS 1) zh
 cases A with
 | sum a =>
  obtain ⟨l, h1, b, g1, g2⟩ := hq
  obtain ⟨x0, hx, x1, x2⟩ := vW hok hsm
  obtain ⟨p1, p2⟩ := hsm.2
  rw [hx] at g2
  walk_at "v"
  refine zm h1 rfl ?_
  walk_at "v"
  refine zm h1 rfl ?_
  refine ⟨rfl, ?_⟩
  walk_at "v"
  refine Zy rfl ?_
  walk_at "v"
  refine zP fun d1 hd1 => ?_
  obtain ⟨G1, q, M1, m1⟩ := nob (.dK []) hd1; rw [q]; clear q
  refine zz ?_
  walk_at "v"
  refine zC ?_
  refine ⟨m1, dcK [(0, 1)], rfl, by show 1 ≤ 15; decide, ?_⟩
  rw [show zH [] (dcK [(0, 1)]) = dcK [(0, 1)] from rfl]
  obtain ⟨H1, q, K1, ed1⟩ := nop (.dK (dcK [(0, 1)])) M1 hd1; rw [q]; clear q
  clear M1 m1
  obtain ⟨h1, g1, g2⟩ := lf3 K1 h1 g1 g2
  have KT := K1
  walk_at "v"
  refine zP fun d2 hd2 => ?_
  obtain ⟨G2, q, M2, m2⟩ := nob (.dK []) hd2; rw [q]; clear q
  refine zz ?_
  walk_at "v"
  refine zm (M2 _ _ g1) rfl ?_
  walk_at "v"
  refine zm (M2 _ _ g2) rfl ?_
  walk_at "v"
  refine zC ?_
  refine ⟨m2, dcK [(1, x0)], rfl, by show 1 ≤ 15; decide, ?_⟩
  rw [show zH [] (dcK [(1, x0)]) = dcK [(1, x0)] from rfl]
  obtain ⟨H2, q, K2, ed2⟩ := nop (.dK (dcK [(1, x0)])) M2 hd2; rw [q]; clear q
  clear M2 m2
  obtain ⟨h1, g1, g2, ed1⟩ := lf4 K2 h1 g1 g2 ed1
  replace KT := KT.trans K2
  walk_at "v"
  refine ⟨sz2, fun t1 ht1 => ?_⟩
  obtain ⟨H3, q, K3, et1⟩ := nob (.tup [.ref d1, .ref d2]) ht1; rw [q]; clear q
  obtain ⟨h1, g1, g2, ed1, ed2⟩ := lf5 K3 h1 g1 g2 ed1 ed2
  replace KT := KT.trans K3
  walk_at "v"
  refine ⟨sz1, fun rl hrl => ?_⟩
  have zrl : H rl = none := Same.none KT hrl
  obtain ⟨H4, q, K4, erl⟩ := nob (.lst [.ref t1]) hrl; rw [q]; clear q
  obtain ⟨h1, g1, g2, ed1, ed2, et1⟩ := lf6 K4 h1 g1 g2 ed1 ed2 et1
  replace KT := KT.trans K4
  walk_at "v"
  refine zm g1 rfl ?_
  walk_at "v"
  refine ⟨sz2, fun bl hbl => ?_⟩
  have zbl : H bl = none := Same.none KT hbl
  obtain ⟨H5, q, K5, ebl⟩ := nob (.lst [.int 0, .int a.plus]) hbl; rw [q]; clear q
  obtain ⟨h1, g1, g2, ed1, ed2, et1, erl⟩ := lf7 K5 h1 g1 g2 ed1 ed2 et1 erl
  replace KT := KT.trans K5
  walk_at "v"
  have nrb : rl ≠ bl := fun z => by subst z; rw [ebl] at erl; cases erl
  refine ⟨sz3, fun rr hrr => ?_⟩
  obtain ⟨H6, q, K6, err⟩ := nob (.tup [.ref rl, .ref bl, .int 1]) hrr; rw [q]; clear q
  obtain ⟨h1, g1, g2, ed1, ed2, et1, erl, ebl⟩ := lf8 K6 h1 g1 g2 ed1 ed2 et1 erl ebl
  replace KT := KT.trans K6
  exact k rr rl bl [([(0, 1)], [(1, x0)])] [0, a.plus] 1 _ KT err ⟨[t1], erl, ⟨⟨d1, d2, et1, ed1, ed2⟩, trivial⟩⟩ ebl (by refine ⟨by simp, by simp, by (repeat (first | exact wv | exact wB | refine xC ?_ ?_ ?_ | refine xH ⟨by omega, by omega⟩ ?_)), by simp, by simp, fun x hx => by simp only [List.mem_cons, List.not_mem_nil, or_false] at hx; omega, by decide, by simp⟩) zrl zbl nrb
 | part a c =>
  obtain ⟨l, h1, b, g1, g2⟩ := hq
  obtain ⟨hok, c2, c9⟩ := hok
  obtain ⟨x0, hx, x1, x2⟩ := vW hok hsm
  obtain ⟨p1, p2⟩ := hsm.2
  rw [hx] at g2
  walk_at "v"
  refine zm h1 rfl ?_
  walk_at "v"
  refine zm h1 rfl ?_
  refine ⟨rfl, ?_⟩
  walk_at "v"
  refine yO (by decide) ?_
  walk_at "v"
  refine zm h1 rfl ?_
  refine ⟨rfl, ?_⟩
  walk_at "v"
  refine Zy rfl ?_
  walk_at "v"
  refine zP fun d1 hd1 => ?_
  obtain ⟨G1, q, M1, m1⟩ := nob (.dK []) hd1; rw [q]; clear q
  refine zz ?_
  walk_at "v"
  refine zC ?_
  refine ⟨m1, dcK [(0, 1)], rfl, by show 1 ≤ 15; decide, ?_⟩
  rw [show zH [] (dcK [(0, 1)]) = dcK [(0, 1)] from rfl]
  obtain ⟨H1, q, K1, ed1⟩ := nop (.dK (dcK [(0, 1)])) M1 hd1; rw [q]; clear q
  clear M1 m1
  obtain ⟨h1, g1, g2⟩ := lf3 K1 h1 g1 g2
  have KT := K1
  walk_at "v"
  refine zP fun d2 hd2 => ?_
  obtain ⟨G2, q, M2, m2⟩ := nob (.dK []) hd2; rw [q]; clear q
  refine zz ?_
  walk_at "v"
  refine zm (M2 _ _ g1) rfl ?_
  walk_at "v"
  refine zm (M2 _ _ g2) rfl ?_
  walk_at "v"
  refine zC ?_
  refine ⟨m2, dcK [(1, x0)], rfl, by show 1 ≤ 15; decide, ?_⟩
  rw [show zH [] (dcK [(1, x0)]) = dcK [(1, x0)] from rfl]
  obtain ⟨H2, q, K2, ed2⟩ := nop (.dK (dcK [(1, x0)])) M2 hd2; rw [q]; clear q
  clear M2 m2
  obtain ⟨h1, g1, g2, ed1⟩ := lf4 K2 h1 g1 g2 ed1
  replace KT := KT.trans K2
  walk_at "v"
  refine ⟨sz2, fun t1 ht1 => ?_⟩
  obtain ⟨H3, q, K3, et1⟩ := nob (.tup [.ref d1, .ref d2]) ht1; rw [q]; clear q
  obtain ⟨h1, g1, g2, ed1, ed2⟩ := lf5 K3 h1 g1 g2 ed1 ed2
  replace KT := KT.trans K3
  walk_at "v"
  refine zP fun d3 hd3 => ?_
  obtain ⟨G4, q, M4, m4⟩ := nob (.dK []) hd3; rw [q]; clear q
  refine zz ?_
  walk_at "v"
  refine zm (M4 _ _ h1) rfl ?_
  walk_at "v"
  refine zC ?_
  refine ⟨m4, dcK [(1, c)], rfl, by show 1 ≤ 15; decide, ?_⟩
  rw [show zH [] (dcK [(1, c)]) = dcK [(1, c)] from rfl]
  obtain ⟨H4, q, K4, ed3⟩ := nop (.dK (dcK [(1, c)])) M4 hd3; rw [q]; clear q
  clear M4 m4
  obtain ⟨h1, g1, g2, ed1, ed2, et1⟩ := lf6 K4 h1 g1 g2 ed1 ed2 et1
  replace KT := KT.trans K4
  walk_at "v"
  refine zP fun d4 hd4 => ?_
  obtain ⟨G5, q, M5, m5⟩ := nob (.dK []) hd4; rw [q]; clear q
  refine zz ?_
  walk_at "v"
  refine zC ?_
  refine ⟨m5, dcK [(2, 1)], rfl, by show 1 ≤ 15; decide, ?_⟩
  rw [show zH [] (dcK [(2, 1)]) = dcK [(2, 1)] from rfl]
  obtain ⟨H5, q, K5, ed4⟩ := nop (.dK (dcK [(2, 1)])) M5 hd4; rw [q]; clear q
  clear M5 m5
  obtain ⟨h1, g1, g2, ed1, ed2, et1, ed3⟩ := lf7 K5 h1 g1 g2 ed1 ed2 et1 ed3
  replace KT := KT.trans K5
  walk_at "v"
  refine ⟨sz2, fun t2 ht2 => ?_⟩
  obtain ⟨H6, q, K6, et2⟩ := nob (.tup [.ref d3, .ref d4]) ht2; rw [q]; clear q
  obtain ⟨h1, g1, g2, ed1, ed2, et1, ed3, ed4⟩ := lf8 K6 h1 g1 g2 ed1 ed2 et1 ed3 ed4
  replace KT := KT.trans K6
  walk_at "v"
  refine ⟨sz2, fun rl hrl => ?_⟩
  have zrl : H rl = none := Same.none KT hrl
  obtain ⟨H7, q, K7, erl⟩ := nob (.lst [.ref t1, .ref t2]) hrl; rw [q]; clear q
  obtain ⟨h1, g1, g2, ed1, ed2, et1, ed3⟩ := lf7 K7 h1 g1 g2 ed1 ed2 et1 ed3
  obtain ⟨ed4, et2⟩ := lf2 K7 ed4 et2
  replace KT := KT.trans K7
  walk_at "v"
  refine zm g1 rfl ?_
  walk_at "v"
  refine ⟨sz3, fun bl hbl => ?_⟩
  have zbl : H bl = none := Same.none KT hbl
  obtain ⟨H8, q, K8, ebl⟩ := nob (.lst [.int 0, .int a.plus, .int 0]) hbl; rw [q]; clear q
  obtain ⟨h1, g1, g2, ed1, ed2, et1, ed3, ed4⟩ := lf8 K8 h1 g1 g2 ed1 ed2 et1 ed3 ed4
  obtain ⟨et2, erl⟩ := lf2 K8 et2 erl
  replace KT := KT.trans K8
  walk_at "v"
  have nrb : rl ≠ bl := fun z => by subst z; rw [ebl] at erl; cases erl
  refine ⟨sz3, fun rr hrr => ?_⟩
  obtain ⟨H9, q, K9, err⟩ := nob (.tup [.ref rl, .ref bl, .int 2]) hrr; rw [q]; clear q
  obtain ⟨h1, g1, g2, ed1, ed2, et1, ed3, ed4⟩ := lf8 K9 h1 g1 g2 ed1 ed2 et1 ed3 ed4
  obtain ⟨et2, erl, ebl⟩ := lf3 K9 et2 erl ebl
  replace KT := KT.trans K9
  exact k rr rl bl [([(0, 1)], [(1, x0)]), ([(1, c)], [(2, 1)])] [0, a.plus, 0] 2 _ KT err ⟨[t1, t2], erl, ⟨⟨d1, d2, et1, ed1, ed2⟩, ⟨⟨d3, d4, et2, ed3, ed4⟩, trivial⟩⟩⟩ ebl (by refine ⟨by simp, by simp, by (repeat (first | exact wv | exact wB | refine xC ?_ ?_ ?_ | refine xH ⟨by omega, by omega⟩ ?_)), by simp, by simp, fun x hx => by simp only [List.mem_cons, List.not_mem_nil, or_false] at hx; omega, by decide, by simp⟩) zrl zbl nrb
 | two w2 a b =>
  obtain ⟨l, lr, h1, ⟨ba, g1, g2⟩, bb, f1, f2⟩ := hq
  obtain ⟨h4, hoka, hokb⟩ := hok
  obtain ⟨x0, hx, x1, x2⟩ := vW hoka hsm.1
  obtain ⟨y0, hy, y1, y2⟩ := vW hokb hsm.2
  obtain ⟨p1, p2⟩ := hsm.1.2
  obtain ⟨q1, q2⟩ := hsm.2.2
  rw [hx] at g2
  rw [hy] at f2
  rcases h4 with h | h | h | h <;> subst h
  ·walk_at "v"
   refine zm h1 rfl ?_
   walk_at "v"
   refine zm h1 rfl ?_
   refine ⟨rfl, ?_⟩
   walk_at "v"
   refine yO (by decide) ?_
   walk_at "v"
   refine zm h1 rfl ?_
   refine ⟨rfl, ?_⟩
   walk_at "v"
   refine yO (by decide) ?_
   walk_at "v"
   refine zm h1 rfl ?_
   walk_at "v"
   refine zP fun d1 hd1 => ?_
   obtain ⟨G1, q, M1, m1⟩ := nob (.dK []) hd1; rw [q]; clear q
   refine zz ?_
   walk_at "v"
   refine zC ?_
   refine ⟨m1, dcK [(0, 1)], rfl, by show 1 ≤ 15; decide, ?_⟩
   rw [show zH [] (dcK [(0, 1)]) = dcK [(0, 1)] from rfl]
   obtain ⟨H1, q, K1, ed1⟩ := nop (.dK (dcK [(0, 1)])) M1 hd1; rw [q]; clear q
   clear M1 m1
   obtain ⟨h1, g1, g2, f1, f2⟩ := lf5 K1 h1 g1 g2 f1 f2
   have KT := K1
   walk_at "v"
   refine zP fun d2 hd2 => ?_
   obtain ⟨G2, q, M2, m2⟩ := nob (.dK []) hd2; rw [q]; clear q
   refine zz ?_
   walk_at "v"
   refine zm (M2 _ _ g1) rfl ?_
   walk_at "v"
   refine zm (M2 _ _ g2) rfl ?_
   walk_at "v"
   refine zz ?_
   walk_at "v"
   refine zm (M2 _ _ f1) rfl ?_
   walk_at "v"
   refine zm (M2 _ _ f2) rfl ?_
   walk_at "v"
   refine zC ?_
   refine ⟨m2, dcK [(1, x0), (2, y0)], rfl, by show 2 ≤ 15; decide, ?_⟩
   rw [show zH [] (dcK [(1, x0), (2, y0)]) = dcK [(1, x0), (2, y0)] from rfl]
   obtain ⟨H2, q, K2, ed2⟩ := nop (.dK (dcK [(1, x0), (2, y0)])) M2 hd2; rw [q]; clear q
   clear M2 m2
   obtain ⟨h1, g1, g2, f1, f2, ed1⟩ := lf6 K2 h1 g1 g2 f1 f2 ed1
   replace KT := KT.trans K2
   walk_at "v"
   refine ⟨sz2, fun t1 ht1 => ?_⟩
   obtain ⟨H3, q, K3, et1⟩ := nob (.tup [.ref d1, .ref d2]) ht1; rw [q]; clear q
   obtain ⟨h1, g1, g2, f1, f2, ed1, ed2⟩ := lf7 K3 h1 g1 g2 f1 f2 ed1 ed2
   replace KT := KT.trans K3
   walk_at "v"
   refine ⟨sz1, fun rA hrA => ?_⟩
   have zrA : H rA = none := Same.none KT hrA
   obtain ⟨H4, q, K4, erA⟩ := nob (.lst [.ref t1]) hrA; rw [q]; clear q
   obtain ⟨h1, g1, g2, f1, f2, ed1, ed2, et1⟩ := lf8 K4 h1 g1 g2 f1 f2 ed1 ed2 et1
   replace KT := KT.trans K4
   walk_at "v"
   refine zm g1 rfl ?_
   walk_at "v"
   refine zm f1 rfl ?_
   walk_at "v"
   refine ⟨sz3, fun bA hbA => ?_⟩
   have zbA : H bA = none := Same.none KT hbA
   obtain ⟨H5, q, K5, ebA⟩ := nob (.lst [.int 0, .int a.plus, .int b.plus]) hbA; rw [q]; clear q
   obtain ⟨h1, g1, g2, f1, f2, ed1, ed2⟩ := lf7 K5 h1 g1 g2 f1 f2 ed1 ed2
   obtain ⟨et1, erA⟩ := lf2 K5 et1 erA
   replace KT := KT.trans K5
   walk_at "v"
   refine zm h1 rfl ?_
   refine ⟨rfl, ?_⟩
   walk_at "v"
   refine Zy rfl ?_
   walk_at "v"
   refine zP fun d3 hd3 => ?_
   obtain ⟨G6, q, M6, m6⟩ := nob (.dK []) hd3; rw [q]; clear q
   refine zz ?_
   walk_at "v"
   refine zz ?_
   walk_at "v"
   refine zC ?_
   refine ⟨m6, dcK [(1, 1), (2, 1)], rfl, by show 2 ≤ 15; decide, ?_⟩
   rw [show zH [] (dcK [(1, 1), (2, 1)]) = dcK [(1, 1), (2, 1)] from rfl]
   obtain ⟨H6, q, K6, ed3⟩ := nop (.dK (dcK [(1, 1), (2, 1)])) M6 hd3; rw [q]; clear q
   clear M6 m6
   obtain ⟨h1, g1, g2, f1, f2, ed1, ed2, et1⟩ := lf8 K6 h1 g1 g2 f1 f2 ed1 ed2 et1
   obtain ⟨erA, ebA⟩ := lf2 K6 erA ebA
   replace KT := KT.trans K6
   walk_at "v"
   refine zP fun d4 hd4 => ?_
   obtain ⟨G7, q, M7, m7⟩ := nob (.dK []) hd4; rw [q]; clear q
   refine zz ?_
   walk_at "v"
   refine zC ?_
   refine ⟨m7, dcK [(3, 1)], rfl, by show 1 ≤ 15; decide, ?_⟩
   rw [show zH [] (dcK [(3, 1)]) = dcK [(3, 1)] from rfl]
   obtain ⟨H7, q, K7, ed4⟩ := nop (.dK (dcK [(3, 1)])) M7 hd4; rw [q]; clear q
   clear M7 m7
   obtain ⟨h1, g1, g2, f1, f2, ed1, ed2, et1⟩ := lf8 K7 h1 g1 g2 f1 f2 ed1 ed2 et1
   obtain ⟨erA, ebA, ed3⟩ := lf3 K7 erA ebA ed3
   replace KT := KT.trans K7
   walk_at "v"
   refine ⟨sz2, fun t2 ht2 => ?_⟩
   obtain ⟨H8, q, K8, et2⟩ := nob (.tup [.ref d3, .ref d4]) ht2; rw [q]; clear q
   obtain ⟨h1, g1, g2, f1, f2, ed1, ed2, et1⟩ := lf8 K8 h1 g1 g2 f1 f2 ed1 ed2 et1
   obtain ⟨erA, ebA, ed3, ed4⟩ := lf4 K8 erA ebA ed3 ed4
   replace KT := KT.trans K8
   walk_at "v"
   refine ⟨sz1, fun rB hrB => ?_⟩
   have zrB : H rB = none := Same.none KT hrB
   obtain ⟨H9, q, K9, erB⟩ := nob (.lst [.ref t2]) hrB; rw [q]; clear q
   obtain ⟨h1, g1, g2, f1, f2, ed1, ed2, et1⟩ := lf8 K9 h1 g1 g2 f1 f2 ed1 ed2 et1
   obtain ⟨erA, ebA, ed3, ed4, et2⟩ := lf5 K9 erA ebA ed3 ed4 et2
   replace KT := KT.trans K9
   walk_at "v"
   refine ⟨rA, rB, _, _, rfl, rfl, erA, erB, sz2, fun rl hrl => ?_⟩
   have zrl : H rl = none := Same.none KT hrl
   have K10 : Same H9 (upd H9 rl (.lst [.ref t1, .ref t2])) := Same.new (Same.refl _) hrl
   have erl : upd H9 rl (.lst [.ref t1, .ref t2]) rl = some (.lst [.ref t1, .ref t2]) := zi
   simp only [List.cons_append, List.nil_append]
   generalize upd H9 rl (.lst [.ref t1, .ref t2]) = H10 at K10 erl ⊢
   obtain ⟨h1, g1, g2, f1, f2, ed1, ed2, et1⟩ := lf8 K10 h1 g1 g2 f1 f2 ed1 ed2 et1
   obtain ⟨erA, ebA, ed3, ed4, et2, erB⟩ := lf6 K10 erA ebA ed3 ed4 et2 erB
   replace KT := KT.trans K10
   walk_at "v"
   refine ⟨sz1, fun bB hbB => ?_⟩
   have zbB : H bB = none := Same.none KT hbB
   obtain ⟨H11, q, K11, ebB⟩ := nob (.lst [.int 0]) hbB; rw [q]; clear q
   obtain ⟨h1, g1, g2, f1, f2, ed1, ed2, et1⟩ := lf8 K11 h1 g1 g2 f1 f2 ed1 ed2 et1
   obtain ⟨erA, ebA, ed3, ed4, et2, erB, erl⟩ := lf7 K11 erA ebA ed3 ed4 et2 erB erl
   replace KT := KT.trans K11
   walk_at "v"
   refine ⟨bA, bB, _, _, rfl, rfl, ebA, ebB, sz4, fun bl hbl => ?_⟩
   have zbl : H bl = none := Same.none KT hbl
   have K12 : Same H11 (upd H11 bl (.lst [.int 0, .int a.plus, .int b.plus, .int 0])) := Same.new (Same.refl _) hbl
   have ebl : upd H11 bl (.lst [.int 0, .int a.plus, .int b.plus, .int 0]) bl = some (.lst [.int 0, .int a.plus, .int b.plus, .int 0]) := zi
   simp only [List.cons_append, List.nil_append]
   generalize upd H11 bl (.lst [.int 0, .int a.plus, .int b.plus, .int 0]) = H12 at K12 ebl ⊢
   obtain ⟨h1, g1, g2, f1, f2, ed1, ed2, et1⟩ := lf8 K12 h1 g1 g2 f1 f2 ed1 ed2 et1
   obtain ⟨erA, ebA, ed3, ed4, et2, erB, erl, ebB⟩ := lf8 K12 erA ebA ed3 ed4 et2 erB erl ebB
   replace KT := KT.trans K12
   walk_at "v"
   have nrb : rl ≠ bl := fun z => by subst z; rw [ebl] at erl; cases erl
   refine ⟨sz3, fun rr hrr => ?_⟩
   obtain ⟨H13, q, K13, err⟩ := nob (.tup [.ref rl, .ref bl, .int 3]) hrr; rw [q]; clear q
   obtain ⟨h1, g1, g2, f1, f2, ed1, ed2, et1⟩ := lf8 K13 h1 g1 g2 f1 f2 ed1 ed2 et1
   obtain ⟨erA, ebA, ed3, ed4, et2, erB, erl⟩ := lf7 K13 erA ebA ed3 ed4 et2 erB erl
   obtain ⟨ebB, ebl⟩ := lf2 K13 ebB ebl
   replace KT := KT.trans K13
   exact k rr rl bl [([(0, 1)], [(1, x0), (2, y0)]), ([(1, 1), (2, 1)], [(3, 1)])] [0, a.plus, b.plus, 0] 3 _ KT err ⟨[t1, t2], erl, ⟨⟨d1, d2, et1, ed1, ed2⟩, ⟨⟨d3, d4, et2, ed3, ed4⟩, trivial⟩⟩⟩ ebl (by refine ⟨by simp, by simp, by (repeat (first | exact wv | exact wB | refine xC ?_ ?_ ?_ | refine xH ⟨by omega, by omega⟩ ?_)), by simp, by simp, fun x hx => by simp only [List.mem_cons, List.not_mem_nil, or_false] at hx; omega, by decide, by simp⟩) zrl zbl nrb
  ·walk_at "v"
   refine zm h1 rfl ?_
   walk_at "v"
   refine zm h1 rfl ?_
   refine ⟨rfl, ?_⟩
   walk_at "v"
   refine yO (by decide) ?_
   walk_at "v"
   refine zm h1 rfl ?_
   refine ⟨rfl, ?_⟩
   walk_at "v"
   refine yO (by decide) ?_
   walk_at "v"
   refine zm h1 rfl ?_
   walk_at "v"
   refine zP fun d1 hd1 => ?_
   obtain ⟨G1, q, M1, m1⟩ := nob (.dK []) hd1; rw [q]; clear q
   refine zz ?_
   walk_at "v"
   refine zC ?_
   refine ⟨m1, dcK [(0, 1)], rfl, by show 1 ≤ 15; decide, ?_⟩
   rw [show zH [] (dcK [(0, 1)]) = dcK [(0, 1)] from rfl]
   obtain ⟨H1, q, K1, ed1⟩ := nop (.dK (dcK [(0, 1)])) M1 hd1; rw [q]; clear q
   clear M1 m1
   obtain ⟨h1, g1, g2, f1, f2⟩ := lf5 K1 h1 g1 g2 f1 f2
   have KT := K1
   walk_at "v"
   refine zP fun d2 hd2 => ?_
   obtain ⟨G2, q, M2, m2⟩ := nob (.dK []) hd2; rw [q]; clear q
   refine zz ?_
   walk_at "v"
   refine zm (M2 _ _ g1) rfl ?_
   walk_at "v"
   refine zm (M2 _ _ g2) rfl ?_
   walk_at "v"
   refine zz ?_
   walk_at "v"
   refine zm (M2 _ _ f1) rfl ?_
   walk_at "v"
   refine zm (M2 _ _ f2) rfl ?_
   walk_at "v"
   refine zC ?_
   refine ⟨m2, dcK [(1, x0), (2, y0)], rfl, by show 2 ≤ 15; decide, ?_⟩
   rw [show zH [] (dcK [(1, x0), (2, y0)]) = dcK [(1, x0), (2, y0)] from rfl]
   obtain ⟨H2, q, K2, ed2⟩ := nop (.dK (dcK [(1, x0), (2, y0)])) M2 hd2; rw [q]; clear q
   clear M2 m2
   obtain ⟨h1, g1, g2, f1, f2, ed1⟩ := lf6 K2 h1 g1 g2 f1 f2 ed1
   replace KT := KT.trans K2
   walk_at "v"
   refine ⟨sz2, fun t1 ht1 => ?_⟩
   obtain ⟨H3, q, K3, et1⟩ := nob (.tup [.ref d1, .ref d2]) ht1; rw [q]; clear q
   obtain ⟨h1, g1, g2, f1, f2, ed1, ed2⟩ := lf7 K3 h1 g1 g2 f1 f2 ed1 ed2
   replace KT := KT.trans K3
   walk_at "v"
   refine ⟨sz1, fun rA hrA => ?_⟩
   have zrA : H rA = none := Same.none KT hrA
   obtain ⟨H4, q, K4, erA⟩ := nob (.lst [.ref t1]) hrA; rw [q]; clear q
   obtain ⟨h1, g1, g2, f1, f2, ed1, ed2, et1⟩ := lf8 K4 h1 g1 g2 f1 f2 ed1 ed2 et1
   replace KT := KT.trans K4
   walk_at "v"
   refine zm g1 rfl ?_
   walk_at "v"
   refine zm f1 rfl ?_
   walk_at "v"
   refine ⟨sz3, fun bA hbA => ?_⟩
   have zbA : H bA = none := Same.none KT hbA
   obtain ⟨H5, q, K5, ebA⟩ := nob (.lst [.int 0, .int a.plus, .int b.plus]) hbA; rw [q]; clear q
   obtain ⟨h1, g1, g2, f1, f2, ed1, ed2⟩ := lf7 K5 h1 g1 g2 f1 f2 ed1 ed2
   obtain ⟨et1, erA⟩ := lf2 K5 et1 erA
   replace KT := KT.trans K5
   walk_at "v"
   refine zm h1 rfl ?_
   refine ⟨rfl, ?_⟩
   walk_at "v"
   refine yO (by decide) ?_
   walk_at "v"
   refine zm h1 rfl ?_
   refine ⟨rfl, ?_⟩
   walk_at "v"
   refine Zy rfl ?_
   walk_at "v"
   refine zP fun d5 hd5 => ?_
   obtain ⟨G6, q, M6, m6⟩ := nob (.dK []) hd5; rw [q]; clear q
   refine zz ?_
   walk_at "v"
   refine zC ?_
   refine ⟨m6, dcK [(0, 1)], rfl, by show 1 ≤ 15; decide, ?_⟩
   rw [show zH [] (dcK [(0, 1)]) = dcK [(0, 1)] from rfl]
   obtain ⟨H6, q, K6, ed5⟩ := nop (.dK (dcK [(0, 1)])) M6 hd5; rw [q]; clear q
   clear M6 m6
   obtain ⟨h1, g1, g2, f1, f2, ed1, ed2, et1⟩ := lf8 K6 h1 g1 g2 f1 f2 ed1 ed2 et1
   obtain ⟨erA, ebA⟩ := lf2 K6 erA ebA
   replace KT := KT.trans K6
   walk_at "v"
   refine zP fun d6 hd6 => ?_
   obtain ⟨G7, q, M7, m7⟩ := nob (.dK []) hd6; rw [q]; clear q
   refine zz ?_
   walk_at "v"
   refine zm (M7 _ _ g1) rfl ?_
   walk_at "v"
   refine zm (M7 _ _ g2) rfl ?_
   walk_at "v"
   refine zz ?_
   walk_at "v"
   refine zm (M7 _ _ f1) rfl ?_
   walk_at "v"
   refine zm (M7 _ _ f2) rfl ?_
   walk_at "v"
   refine zz ?_
   walk_at "v"
   refine zm (M7 _ _ g1) rfl ?_
   walk_at "v"
   refine zm (M7 _ _ g2) rfl ?_
   walk_at "v"
   refine zm (M7 _ _ f1) rfl ?_
   walk_at "v"
   refine zm (M7 _ _ f2) rfl ?_
   walk_at "v"
   refine zC ?_
   refine ⟨m7, dcK [(1, x0), (2, y0), (3, x0 + y0)], rfl, by show 3 ≤ 15; decide, ?_⟩
   rw [show zH [] (dcK [(1, x0), (2, y0), (3, x0 + y0)]) = dcK [(1, x0), (2, y0), (3, x0 + y0)] from rfl]
   obtain ⟨H7, q, K7, ed6⟩ := nop (.dK (dcK [(1, x0), (2, y0), (3, x0 + y0)])) M7 hd6; rw [q]; clear q
   clear M7 m7
   obtain ⟨h1, g1, g2, f1, f2, ed1, ed2, et1⟩ := lf8 K7 h1 g1 g2 f1 f2 ed1 ed2 et1
   obtain ⟨erA, ebA, ed5⟩ := lf3 K7 erA ebA ed5
   replace KT := KT.trans K7
   walk_at "v"
   refine ⟨sz2, fun t3 ht3 => ?_⟩
   obtain ⟨H8, q, K8, et3⟩ := nob (.tup [.ref d5, .ref d6]) ht3; rw [q]; clear q
   obtain ⟨h1, g1, g2, f1, f2, ed1, ed2, et1⟩ := lf8 K8 h1 g1 g2 f1 f2 ed1 ed2 et1
   obtain ⟨erA, ebA, ed5, ed6⟩ := lf4 K8 erA ebA ed5 ed6
   replace KT := KT.trans K8
   walk_at "v"
   refine ⟨sz1, fun rC hrC => ?_⟩
   have zrC : H rC = none := Same.none KT hrC
   obtain ⟨H9, q, K9, erC⟩ := nob (.lst [.ref t3]) hrC; rw [q]; clear q
   obtain ⟨h1, g1, g2, f1, f2, ed1, ed2, et1⟩ := lf8 K9 h1 g1 g2 f1 f2 ed1 ed2 et1
   obtain ⟨erA, ebA, ed5, ed6, et3⟩ := lf5 K9 erA ebA ed5 ed6 et3
   replace KT := KT.trans K9
   walk_at "v"
   refine zP fun d3 hd3 => ?_
   obtain ⟨G10, q, M10, m10⟩ := nob (.dK []) hd3; rw [q]; clear q
   refine zz ?_
   walk_at "v"
   refine zz ?_
   walk_at "v"
   refine zC ?_
   refine ⟨m10, dcK [(1, 1), (2, 1)], rfl, by show 2 ≤ 15; decide, ?_⟩
   rw [show zH [] (dcK [(1, 1), (2, 1)]) = dcK [(1, 1), (2, 1)] from rfl]
   obtain ⟨H10, q, K10, ed3⟩ := nop (.dK (dcK [(1, 1), (2, 1)])) M10 hd3; rw [q]; clear q
   clear M10 m10
   obtain ⟨h1, g1, g2, f1, f2, ed1, ed2, et1⟩ := lf8 K10 h1 g1 g2 f1 f2 ed1 ed2 et1
   obtain ⟨erA, ebA, ed5, ed6, et3, erC⟩ := lf6 K10 erA ebA ed5 ed6 et3 erC
   replace KT := KT.trans K10
   walk_at "v"
   refine zP fun d4 hd4 => ?_
   obtain ⟨G11, q, M11, m11⟩ := nob (.dK []) hd4; rw [q]; clear q
   refine zz ?_
   walk_at "v"
   refine zC ?_
   refine ⟨m11, dcK [(4, 1)], rfl, by show 1 ≤ 15; decide, ?_⟩
   rw [show zH [] (dcK [(4, 1)]) = dcK [(4, 1)] from rfl]
   obtain ⟨H11, q, K11, ed4⟩ := nop (.dK (dcK [(4, 1)])) M11 hd4; rw [q]; clear q
   clear M11 m11
   obtain ⟨h1, g1, g2, f1, f2, ed1, ed2, et1⟩ := lf8 K11 h1 g1 g2 f1 f2 ed1 ed2 et1
   obtain ⟨erA, ebA, ed5, ed6, et3, erC, ed3⟩ := lf7 K11 erA ebA ed5 ed6 et3 erC ed3
   replace KT := KT.trans K11
   walk_at "v"
   refine ⟨sz2, fun t2 ht2 => ?_⟩
   obtain ⟨H12, q, K12, et2⟩ := nob (.tup [.ref d3, .ref d4]) ht2; rw [q]; clear q
   obtain ⟨h1, g1, g2, f1, f2, ed1, ed2, et1⟩ := lf8 K12 h1 g1 g2 f1 f2 ed1 ed2 et1
   obtain ⟨erA, ebA, ed5, ed6, et3, erC, ed3, ed4⟩ := lf8 K12 erA ebA ed5 ed6 et3 erC ed3 ed4
   replace KT := KT.trans K12
   walk_at "v"
   refine zP fun d7 hd7 => ?_
   obtain ⟨G13, q, M13, m13⟩ := nob (.dK []) hd7; rw [q]; clear q
   refine zz ?_
   walk_at "v"
   refine zz ?_
   walk_at "v"
   refine zC ?_
   refine ⟨m13, dcK [(3, 1), (4, 1)], rfl, by show 2 ≤ 15; decide, ?_⟩
   rw [show zH [] (dcK [(3, 1), (4, 1)]) = dcK [(3, 1), (4, 1)] from rfl]
   obtain ⟨H13, q, K13, ed7⟩ := nop (.dK (dcK [(3, 1), (4, 1)])) M13 hd7; rw [q]; clear q
   clear M13 m13
   obtain ⟨h1, g1, g2, f1, f2, ed1, ed2, et1⟩ := lf8 K13 h1 g1 g2 f1 f2 ed1 ed2 et1
   obtain ⟨erA, ebA, ed5, ed6, et3, erC, ed3⟩ := lf7 K13 erA ebA ed5 ed6 et3 erC ed3
   obtain ⟨ed4, et2⟩ := lf2 K13 ed4 et2
   replace KT := KT.trans K13
   walk_at "v"
   refine w_dnew fun d8 hd8 => ?_
   have K14 : Same H13 (upd H13 d8 (.dK [])) := Same.new (Same.refl _) hd8
   have ed8 : upd H13 d8 (.dK []) d8 = some (.dK (dcK [])) := zi
   generalize upd H13 d8 (.dK []) = H14 at K14 ed8 ⊢
   obtain ⟨h1, g1, g2, f1, f2, ed1, ed2, et1⟩ := lf8 K14 h1 g1 g2 f1 f2 ed1 ed2 et1
   obtain ⟨erA, ebA, ed5, ed6, et3, erC, ed3, ed4⟩ := lf8 K14 erA ebA ed5 ed6 et3 erC ed3 ed4
   obtain ⟨et2, ed7⟩ := lf2 K14 et2 ed7
   replace KT := KT.trans K14
   walk_at "v"
   refine ⟨sz2, fun t4 ht4 => ?_⟩
   obtain ⟨H15, q, K15, et4⟩ := nob (.tup [.ref d7, .ref d8]) ht4; rw [q]; clear q
   obtain ⟨h1, g1, g2, f1, f2, ed1, ed2, et1⟩ := lf8 K15 h1 g1 g2 f1 f2 ed1 ed2 et1
   obtain ⟨erA, ebA, ed5, ed6, et3, erC, ed3, ed4⟩ := lf8 K15 erA ebA ed5 ed6 et3 erC ed3 ed4
   obtain ⟨et2, ed7, ed8⟩ := lf3 K15 et2 ed7 ed8
   replace KT := KT.trans K15
   walk_at "v"
   refine ⟨sz2, fun rB hrB => ?_⟩
   have zrB : H rB = none := Same.none KT hrB
   obtain ⟨H16, q, K16, erB⟩ := nob (.lst [.ref t2, .ref t4]) hrB; rw [q]; clear q
   obtain ⟨h1, g1, g2, f1, f2, ed1, ed2, et1⟩ := lf8 K16 h1 g1 g2 f1 f2 ed1 ed2 et1
   obtain ⟨erA, ebA, ed5, ed6, et3, erC, ed3, ed4⟩ := lf8 K16 erA ebA ed5 ed6 et3 erC ed3 ed4
   obtain ⟨et2, ed7, ed8, et4⟩ := lf4 K16 et2 ed7 ed8 et4
   replace KT := KT.trans K16
   walk_at "v"
   refine ⟨rC, rB, _, _, rfl, rfl, erC, erB, sz3, fun rl hrl => ?_⟩
   have zrl : H rl = none := Same.none KT hrl
   have K17 : Same H16 (upd H16 rl (.lst [.ref t3, .ref t2, .ref t4])) := Same.new (Same.refl _) hrl
   have erl : upd H16 rl (.lst [.ref t3, .ref t2, .ref t4]) rl = some (.lst [.ref t3, .ref t2, .ref t4]) := zi
   simp only [List.cons_append, List.nil_append]
   generalize upd H16 rl (.lst [.ref t3, .ref t2, .ref t4]) = H17 at K17 erl ⊢
   obtain ⟨h1, g1, g2, f1, f2, ed1, ed2, et1⟩ := lf8 K17 h1 g1 g2 f1 f2 ed1 ed2 et1
   obtain ⟨erA, ebA, ed5, ed6, et3, erC, ed3, ed4⟩ := lf8 K17 erA ebA ed5 ed6 et3 erC ed3 ed4
   obtain ⟨et2, ed7, ed8, et4, erB⟩ := lf5 K17 et2 ed7 ed8 et4 erB
   replace KT := KT.trans K17
   walk_at "v"
   refine zm g1 rfl ?_
   walk_at "v"
   refine zm f1 rfl ?_
   walk_at "v"
   refine ⟨sz2, fun bB hbB => ?_⟩
   have zbB : H bB = none := Same.none KT hbB
   obtain ⟨H18, q, K18, ebB⟩ := nob (.lst [.int (a.plus + b.plus), .int 0]) hbB; rw [q]; clear q
   obtain ⟨h1, g1, g2, f1, f2, ed1, ed2, et1⟩ := lf8 K18 h1 g1 g2 f1 f2 ed1 ed2 et1
   obtain ⟨erA, ebA, ed5, ed6, et3, erC, ed3, ed4⟩ := lf8 K18 erA ebA ed5 ed6 et3 erC ed3 ed4
   obtain ⟨et2, ed7, ed8, et4, erB, erl⟩ := lf6 K18 et2 ed7 ed8 et4 erB erl
   replace KT := KT.trans K18
   walk_at "v"
   refine ⟨bA, bB, _, _, rfl, rfl, ebA, ebB, sz5, fun bl hbl => ?_⟩
   have zbl : H bl = none := Same.none KT hbl
   have K19 : Same H18 (upd H18 bl (.lst [.int 0, .int a.plus, .int b.plus, .int (a.plus + b.plus), .int 0])) := Same.new (Same.refl _) hbl
   have ebl : upd H18 bl (.lst [.int 0, .int a.plus, .int b.plus, .int (a.plus + b.plus), .int 0]) bl = some (.lst [.int 0, .int a.plus, .int b.plus, .int (a.plus + b.plus), .int 0]) := zi
   simp only [List.cons_append, List.nil_append]
   generalize upd H18 bl (.lst [.int 0, .int a.plus, .int b.plus, .int (a.plus + b.plus), .int 0]) = H19 at K19 ebl ⊢
   obtain ⟨h1, g1, g2, f1, f2, ed1, ed2, et1⟩ := lf8 K19 h1 g1 g2 f1 f2 ed1 ed2 et1
   obtain ⟨erA, ebA, ed5, ed6, et3, erC, ed3, ed4⟩ := lf8 K19 erA ebA ed5 ed6 et3 erC ed3 ed4
   obtain ⟨et2, ed7, ed8, et4, erB, erl, ebB⟩ := lf7 K19 et2 ed7 ed8 et4 erB erl ebB
   replace KT := KT.trans K19
   walk_at "v"
   have nrb : rl ≠ bl := fun z => by subst z; rw [ebl] at erl; cases erl
   refine ⟨sz3, fun rr hrr => ?_⟩
   obtain ⟨H20, q, K20, err⟩ := nob (.tup [.ref rl, .ref bl, .int 3]) hrr; rw [q]; clear q
   obtain ⟨h1, g1, g2, f1, f2, ed1, ed2, et1⟩ := lf8 K20 h1 g1 g2 f1 f2 ed1 ed2 et1
   obtain ⟨erA, ebA, ed5, ed6, et3, erC, ed3, ed4⟩ := lf8 K20 erA ebA ed5 ed6 et3 erC ed3 ed4
   obtain ⟨et2, ed7, ed8, et4, erB, erl, ebB, ebl⟩ := lf8 K20 et2 ed7 ed8 et4 erB erl ebB ebl
   replace KT := KT.trans K20
   exact k rr rl bl [([(0, 1)], [(1, x0), (2, y0), (3, x0 + y0)]), ([(1, 1), (2, 1)], [(4, 1)]), ([(3, 1), (4, 1)], [])] [0, a.plus, b.plus, a.plus + b.plus, 0] 3 _ KT err ⟨[t3, t2, t4], erl, ⟨⟨d5, d6, et3, ed5, ed6⟩, ⟨⟨d3, d4, et2, ed3, ed4⟩, ⟨⟨d7, d8, et4, ed7, ed8⟩, trivial⟩⟩⟩⟩ ebl (by refine ⟨by simp, by simp, by (repeat (first | exact wv | exact wB | refine xC ?_ ?_ ?_ | refine xH ⟨by omega, by omega⟩ ?_)), by simp, by simp, fun x hx => by simp only [List.mem_cons, List.not_mem_nil, or_false] at hx; omega, by decide, by simp⟩) zrl zbl nrb
  ·walk_at "v"
   refine zm h1 rfl ?_
   walk_at "v"
   refine zm h1 rfl ?_
   refine ⟨rfl, ?_⟩
   walk_at "v"
   refine yO (by decide) ?_
   walk_at "v"
   refine zm h1 rfl ?_
   refine ⟨rfl, ?_⟩
   walk_at "v"
   refine yO (by decide) ?_
   walk_at "v"
   refine zm h1 rfl ?_
   walk_at "v"
   refine zP fun d1 hd1 => ?_
   obtain ⟨G1, q, M1, m1⟩ := nob (.dK []) hd1; rw [q]; clear q
   refine zz ?_
   walk_at "v"
   refine zC ?_
   refine ⟨m1, dcK [(0, 1)], rfl, by show 1 ≤ 15; decide, ?_⟩
   rw [show zH [] (dcK [(0, 1)]) = dcK [(0, 1)] from rfl]
   obtain ⟨H1, q, K1, ed1⟩ := nop (.dK (dcK [(0, 1)])) M1 hd1; rw [q]; clear q
   clear M1 m1
   obtain ⟨h1, g1, g2, f1, f2⟩ := lf5 K1 h1 g1 g2 f1 f2
   have KT := K1
   walk_at "v"
   refine zP fun d2 hd2 => ?_
   obtain ⟨G2, q, M2, m2⟩ := nob (.dK []) hd2; rw [q]; clear q
   refine zz ?_
   walk_at "v"
   refine zm (M2 _ _ g1) rfl ?_
   walk_at "v"
   refine zm (M2 _ _ g2) rfl ?_
   walk_at "v"
   refine zz ?_
   walk_at "v"
   refine zm (M2 _ _ f1) rfl ?_
   walk_at "v"
   refine zm (M2 _ _ f2) rfl ?_
   walk_at "v"
   refine zC ?_
   refine ⟨m2, dcK [(1, x0), (2, y0)], rfl, by show 2 ≤ 15; decide, ?_⟩
   rw [show zH [] (dcK [(1, x0), (2, y0)]) = dcK [(1, x0), (2, y0)] from rfl]
   obtain ⟨H2, q, K2, ed2⟩ := nop (.dK (dcK [(1, x0), (2, y0)])) M2 hd2; rw [q]; clear q
   clear M2 m2
   obtain ⟨h1, g1, g2, f1, f2, ed1⟩ := lf6 K2 h1 g1 g2 f1 f2 ed1
   replace KT := KT.trans K2
   walk_at "v"
   refine ⟨sz2, fun t1 ht1 => ?_⟩
   obtain ⟨H3, q, K3, et1⟩ := nob (.tup [.ref d1, .ref d2]) ht1; rw [q]; clear q
   obtain ⟨h1, g1, g2, f1, f2, ed1, ed2⟩ := lf7 K3 h1 g1 g2 f1 f2 ed1 ed2
   replace KT := KT.trans K3
   walk_at "v"
   refine ⟨sz1, fun rA hrA => ?_⟩
   have zrA : H rA = none := Same.none KT hrA
   obtain ⟨H4, q, K4, erA⟩ := nob (.lst [.ref t1]) hrA; rw [q]; clear q
   obtain ⟨h1, g1, g2, f1, f2, ed1, ed2, et1⟩ := lf8 K4 h1 g1 g2 f1 f2 ed1 ed2 et1
   replace KT := KT.trans K4
   walk_at "v"
   refine zm g1 rfl ?_
   walk_at "v"
   refine zm f1 rfl ?_
   walk_at "v"
   refine ⟨sz3, fun bA hbA => ?_⟩
   have zbA : H bA = none := Same.none KT hbA
   obtain ⟨H5, q, K5, ebA⟩ := nob (.lst [.int 0, .int a.plus, .int b.plus]) hbA; rw [q]; clear q
   obtain ⟨h1, g1, g2, f1, f2, ed1, ed2⟩ := lf7 K5 h1 g1 g2 f1 f2 ed1 ed2
   obtain ⟨et1, erA⟩ := lf2 K5 et1 erA
   replace KT := KT.trans K5
   walk_at "v"
   refine zm h1 rfl ?_
   refine ⟨rfl, ?_⟩
   walk_at "v"
   refine yO (by decide) ?_
   walk_at "v"
   refine zm h1 rfl ?_
   refine ⟨rfl, ?_⟩
   walk_at "v"
   refine yO (by decide) ?_
   walk_at "v"
   refine zm h1 rfl ?_
   refine ⟨rfl, ?_⟩
   walk_at "v"
   refine Zy rfl ?_
   walk_at "v"
   refine zP fun d3 hd3 => ?_
   obtain ⟨G6, q, M6, m6⟩ := nob (.dK []) hd3; rw [q]; clear q
   refine zz ?_
   walk_at "v"
   refine zz ?_
   walk_at "v"
   refine zC ?_
   refine ⟨m6, dcK [(1, 1), (4, 1)], rfl, by show 2 ≤ 15; decide, ?_⟩
   rw [show zH [] (dcK [(1, 1), (4, 1)]) = dcK [(1, 1), (4, 1)] from rfl]
   obtain ⟨H6, q, K6, ed3⟩ := nop (.dK (dcK [(1, 1), (4, 1)])) M6 hd3; rw [q]; clear q
   clear M6 m6
   obtain ⟨h1, g1, g2, f1, f2, ed1, ed2, et1⟩ := lf8 K6 h1 g1 g2 f1 f2 ed1 ed2 et1
   obtain ⟨erA, ebA⟩ := lf2 K6 erA ebA
   replace KT := KT.trans K6
   walk_at "v"
   refine zP fun d4 hd4 => ?_
   obtain ⟨G7, q, M7, m7⟩ := nob (.dK []) hd4; rw [q]; clear q
   refine zz ?_
   walk_at "v"
   refine zC ?_
   refine ⟨m7, dcK [(3, 1)], rfl, by show 1 ≤ 15; decide, ?_⟩
   rw [show zH [] (dcK [(3, 1)]) = dcK [(3, 1)] from rfl]
   obtain ⟨H7, q, K7, ed4⟩ := nop (.dK (dcK [(3, 1)])) M7 hd4; rw [q]; clear q
   clear M7 m7
   obtain ⟨h1, g1, g2, f1, f2, ed1, ed2, et1⟩ := lf8 K7 h1 g1 g2 f1 f2 ed1 ed2 et1
   obtain ⟨erA, ebA, ed3⟩ := lf3 K7 erA ebA ed3
   replace KT := KT.trans K7
   walk_at "v"
   refine ⟨sz2, fun t2 ht2 => ?_⟩
   obtain ⟨H8, q, K8, et2⟩ := nob (.tup [.ref d3, .ref d4]) ht2; rw [q]; clear q
   obtain ⟨h1, g1, g2, f1, f2, ed1, ed2, et1⟩ := lf8 K8 h1 g1 g2 f1 f2 ed1 ed2 et1
   obtain ⟨erA, ebA, ed3, ed4⟩ := lf4 K8 erA ebA ed3 ed4
   replace KT := KT.trans K8
   walk_at "v"
   refine zP fun d5 hd5 => ?_
   obtain ⟨G9, q, M9, m9⟩ := nob (.dK []) hd5; rw [q]; clear q
   refine zz ?_
   walk_at "v"
   refine zz ?_
   walk_at "v"
   refine zC ?_
   refine ⟨m9, dcK [(2, 1), (3, 1)], rfl, by show 2 ≤ 15; decide, ?_⟩
   rw [show zH [] (dcK [(2, 1), (3, 1)]) = dcK [(2, 1), (3, 1)] from rfl]
   obtain ⟨H9, q, K9, ed5⟩ := nop (.dK (dcK [(2, 1), (3, 1)])) M9 hd5; rw [q]; clear q
   clear M9 m9
   obtain ⟨h1, g1, g2, f1, f2, ed1, ed2, et1⟩ := lf8 K9 h1 g1 g2 f1 f2 ed1 ed2 et1
   obtain ⟨erA, ebA, ed3, ed4, et2⟩ := lf5 K9 erA ebA ed3 ed4 et2
   replace KT := KT.trans K9
   walk_at "v"
   refine zP fun d6 hd6 => ?_
   obtain ⟨G10, q, M10, m10⟩ := nob (.dK []) hd6; rw [q]; clear q
   refine zz ?_
   walk_at "v"
   refine zC ?_
   refine ⟨m10, dcK [(4, 1)], rfl, by show 1 ≤ 15; decide, ?_⟩
   rw [show zH [] (dcK [(4, 1)]) = dcK [(4, 1)] from rfl]
   obtain ⟨H10, q, K10, ed6⟩ := nop (.dK (dcK [(4, 1)])) M10 hd6; rw [q]; clear q
   clear M10 m10
   obtain ⟨h1, g1, g2, f1, f2, ed1, ed2, et1⟩ := lf8 K10 h1 g1 g2 f1 f2 ed1 ed2 et1
   obtain ⟨erA, ebA, ed3, ed4, et2, ed5⟩ := lf6 K10 erA ebA ed3 ed4 et2 ed5
   replace KT := KT.trans K10
   walk_at "v"
   refine ⟨sz2, fun t3 ht3 => ?_⟩
   obtain ⟨H11, q, K11, et3⟩ := nob (.tup [.ref d5, .ref d6]) ht3; rw [q]; clear q
   obtain ⟨h1, g1, g2, f1, f2, ed1, ed2, et1⟩ := lf8 K11 h1 g1 g2 f1 f2 ed1 ed2 et1
   obtain ⟨erA, ebA, ed3, ed4, et2, ed5, ed6⟩ := lf7 K11 erA ebA ed3 ed4 et2 ed5 ed6
   replace KT := KT.trans K11
   walk_at "v"
   refine ⟨sz2, fun rB hrB => ?_⟩
   have zrB : H rB = none := Same.none KT hrB
   obtain ⟨H12, q, K12, erB⟩ := nob (.lst [.ref t2, .ref t3]) hrB; rw [q]; clear q
   obtain ⟨h1, g1, g2, f1, f2, ed1, ed2, et1⟩ := lf8 K12 h1 g1 g2 f1 f2 ed1 ed2 et1
   obtain ⟨erA, ebA, ed3, ed4, et2, ed5, ed6, et3⟩ := lf8 K12 erA ebA ed3 ed4 et2 ed5 ed6 et3
   replace KT := KT.trans K12
   walk_at "v"
   refine ⟨rA, rB, _, _, rfl, rfl, erA, erB, sz3, fun rl hrl => ?_⟩
   have zrl : H rl = none := Same.none KT hrl
   have K13 : Same H12 (upd H12 rl (.lst [.ref t1, .ref t2, .ref t3])) := Same.new (Same.refl _) hrl
   have erl : upd H12 rl (.lst [.ref t1, .ref t2, .ref t3]) rl = some (.lst [.ref t1, .ref t2, .ref t3]) := zi
   simp only [List.cons_append, List.nil_append]
   generalize upd H12 rl (.lst [.ref t1, .ref t2, .ref t3]) = H13 at K13 erl ⊢
   obtain ⟨h1, g1, g2, f1, f2, ed1, ed2, et1⟩ := lf8 K13 h1 g1 g2 f1 f2 ed1 ed2 et1
   obtain ⟨erA, ebA, ed3, ed4, et2, ed5, ed6⟩ := lf7 K13 erA ebA ed3 ed4 et2 ed5 ed6
   obtain ⟨et3, erB⟩ := lf2 K13 et3 erB
   replace KT := KT.trans K13
   walk_at "v"
   refine ⟨sz2, fun bB hbB => ?_⟩
   have zbB : H bB = none := Same.none KT hbB
   obtain ⟨H14, q, K14, ebB⟩ := nob (.lst [.int 0, .int 1]) hbB; rw [q]; clear q
   obtain ⟨h1, g1, g2, f1, f2, ed1, ed2, et1⟩ := lf8 K14 h1 g1 g2 f1 f2 ed1 ed2 et1
   obtain ⟨erA, ebA, ed3, ed4, et2, ed5, ed6, et3⟩ := lf8 K14 erA ebA ed3 ed4 et2 ed5 ed6 et3
   obtain ⟨erB, erl⟩ := lf2 K14 erB erl
   replace KT := KT.trans K14
   walk_at "v"
   refine ⟨bA, bB, _, _, rfl, rfl, ebA, ebB, sz5, fun bl hbl => ?_⟩
   have zbl : H bl = none := Same.none KT hbl
   have K15 : Same H14 (upd H14 bl (.lst [.int 0, .int a.plus, .int b.plus, .int 0, .int 1])) := Same.new (Same.refl _) hbl
   have ebl : upd H14 bl (.lst [.int 0, .int a.plus, .int b.plus, .int 0, .int 1]) bl = some (.lst [.int 0, .int a.plus, .int b.plus, .int 0, .int 1]) := zi
   simp only [List.cons_append, List.nil_append]
   generalize upd H14 bl (.lst [.int 0, .int a.plus, .int b.plus, .int 0, .int 1]) = H15 at K15 ebl ⊢
   obtain ⟨h1, g1, g2, f1, f2, ed1, ed2, et1⟩ := lf8 K15 h1 g1 g2 f1 f2 ed1 ed2 et1
   obtain ⟨erA, ebA, ed3, ed4, et2, ed5, ed6, et3⟩ := lf8 K15 erA ebA ed3 ed4 et2 ed5 ed6 et3
   obtain ⟨erB, erl, ebB⟩ := lf3 K15 erB erl ebB
   replace KT := KT.trans K15
   walk_at "v"
   have nrb : rl ≠ bl := fun z => by subst z; rw [ebl] at erl; cases erl
   refine ⟨sz3, fun rr hrr => ?_⟩
   obtain ⟨H16, q, K16, err⟩ := nob (.tup [.ref rl, .ref bl, .int 3]) hrr; rw [q]; clear q
   obtain ⟨h1, g1, g2, f1, f2, ed1, ed2, et1⟩ := lf8 K16 h1 g1 g2 f1 f2 ed1 ed2 et1
   obtain ⟨erA, ebA, ed3, ed4, et2, ed5, ed6, et3⟩ := lf8 K16 erA ebA ed3 ed4 et2 ed5 ed6 et3
   obtain ⟨erB, erl, ebB, ebl⟩ := lf4 K16 erB erl ebB ebl
   replace KT := KT.trans K16
   exact k rr rl bl [([(0, 1)], [(1, x0), (2, y0)]), ([(1, 1), (4, 1)], [(3, 1)]), ([(2, 1), (3, 1)], [(4, 1)])] [0, a.plus, b.plus, 0, 1] 3 _ KT err ⟨[t1, t2, t3], erl, ⟨⟨d1, d2, et1, ed1, ed2⟩, ⟨⟨d3, d4, et2, ed3, ed4⟩, ⟨⟨d5, d6, et3, ed5, ed6⟩, trivial⟩⟩⟩⟩ ebl (by refine ⟨by simp, by simp, by (repeat (first | exact wv | exact wB | refine xC ?_ ?_ ?_ | refine xH ⟨by omega, by omega⟩ ?_)), by simp, by simp, fun x hx => by simp only [List.mem_cons, List.not_mem_nil, or_false] at hx; omega, by decide, by simp⟩) zrl zbl nrb
  ·walk_at "v"
   refine zm h1 rfl ?_
   walk_at "v"
   refine zm h1 rfl ?_
   refine ⟨rfl, ?_⟩
   walk_at "v"
   refine yO (by decide) ?_
   walk_at "v"
   refine zm h1 rfl ?_
   refine ⟨rfl, ?_⟩
   walk_at "v"
   refine yO (by decide) ?_
   walk_at "v"
   refine zm h1 rfl ?_
   walk_at "v"
   refine zP fun d1 hd1 => ?_
   obtain ⟨G1, q, M1, m1⟩ := nob (.dK []) hd1; rw [q]; clear q
   refine zz ?_
   walk_at "v"
   refine zC ?_
   refine ⟨m1, dcK [(0, 1)], rfl, by show 1 ≤ 15; decide, ?_⟩
   rw [show zH [] (dcK [(0, 1)]) = dcK [(0, 1)] from rfl]
   obtain ⟨H1, q, K1, ed1⟩ := nop (.dK (dcK [(0, 1)])) M1 hd1; rw [q]; clear q
   clear M1 m1
   obtain ⟨h1, g1, g2, f1, f2⟩ := lf5 K1 h1 g1 g2 f1 f2
   have KT := K1
   walk_at "v"
   refine zP fun d2 hd2 => ?_
   obtain ⟨G2, q, M2, m2⟩ := nob (.dK []) hd2; rw [q]; clear q
   refine zz ?_
   walk_at "v"
   refine zm (M2 _ _ g1) rfl ?_
   walk_at "v"
   refine zm (M2 _ _ g2) rfl ?_
   walk_at "v"
   refine zz ?_
   walk_at "v"
   refine zm (M2 _ _ f1) rfl ?_
   walk_at "v"
   refine zm (M2 _ _ f2) rfl ?_
   walk_at "v"
   refine zC ?_
   refine ⟨m2, dcK [(1, x0), (2, y0)], rfl, by show 2 ≤ 15; decide, ?_⟩
   rw [show zH [] (dcK [(1, x0), (2, y0)]) = dcK [(1, x0), (2, y0)] from rfl]
   obtain ⟨H2, q, K2, ed2⟩ := nop (.dK (dcK [(1, x0), (2, y0)])) M2 hd2; rw [q]; clear q
   clear M2 m2
   obtain ⟨h1, g1, g2, f1, f2, ed1⟩ := lf6 K2 h1 g1 g2 f1 f2 ed1
   replace KT := KT.trans K2
   walk_at "v"
   refine ⟨sz2, fun t1 ht1 => ?_⟩
   obtain ⟨H3, q, K3, et1⟩ := nob (.tup [.ref d1, .ref d2]) ht1; rw [q]; clear q
   obtain ⟨h1, g1, g2, f1, f2, ed1, ed2⟩ := lf7 K3 h1 g1 g2 f1 f2 ed1 ed2
   replace KT := KT.trans K3
   walk_at "v"
   refine ⟨sz1, fun rA hrA => ?_⟩
   have zrA : H rA = none := Same.none KT hrA
   obtain ⟨H4, q, K4, erA⟩ := nob (.lst [.ref t1]) hrA; rw [q]; clear q
   obtain ⟨h1, g1, g2, f1, f2, ed1, ed2, et1⟩ := lf8 K4 h1 g1 g2 f1 f2 ed1 ed2 et1
   replace KT := KT.trans K4
   walk_at "v"
   refine zm g1 rfl ?_
   walk_at "v"
   refine zm f1 rfl ?_
   walk_at "v"
   refine ⟨sz3, fun bA hbA => ?_⟩
   have zbA : H bA = none := Same.none KT hbA
   obtain ⟨H5, q, K5, ebA⟩ := nob (.lst [.int 0, .int a.plus, .int b.plus]) hbA; rw [q]; clear q
   obtain ⟨h1, g1, g2, f1, f2, ed1, ed2⟩ := lf7 K5 h1 g1 g2 f1 f2 ed1 ed2
   obtain ⟨et1, erA⟩ := lf2 K5 et1 erA
   replace KT := KT.trans K5
   walk_at "v"
   refine zm h1 rfl ?_
   refine ⟨rfl, ?_⟩
   walk_at "v"
   refine yO (by decide) ?_
   walk_at "v"
   refine zm h1 rfl ?_
   refine ⟨rfl, ?_⟩
   walk_at "v"
   refine yO (by decide) ?_
   walk_at "v"
   refine zm h1 rfl ?_
   refine ⟨rfl, ?_⟩
   walk_at "v"
   refine yO (by decide) ?_
   walk_at "v"
   refine zP fun d5 hd5 => ?_
   obtain ⟨G6, q, M6, m6⟩ := nob (.dK []) hd5; rw [q]; clear q
   refine zz ?_
   walk_at "v"
   refine zC ?_
   refine ⟨m6, dcK [(0, 1)], rfl, by show 1 ≤ 15; decide, ?_⟩
   rw [show zH [] (dcK [(0, 1)]) = dcK [(0, 1)] from rfl]
   obtain ⟨H6, q, K6, ed5⟩ := nop (.dK (dcK [(0, 1)])) M6 hd5; rw [q]; clear q
   clear M6 m6
   obtain ⟨h1, g1, g2, f1, f2, ed1, ed2, et1⟩ := lf8 K6 h1 g1 g2 f1 f2 ed1 ed2 et1
   obtain ⟨erA, ebA⟩ := lf2 K6 erA ebA
   replace KT := KT.trans K6
   walk_at "v"
   refine zP fun d6 hd6 => ?_
   obtain ⟨G7, q, M7, m7⟩ := nob (.dK []) hd6; rw [q]; clear q
   refine zz ?_
   walk_at "v"
   refine zm (M7 _ _ g1) rfl ?_
   walk_at "v"
   refine zm (M7 _ _ g2) rfl ?_
   walk_at "v"
   refine zC ?_
   refine ⟨m7, dcK [(1, x0)], rfl, by show 1 ≤ 15; decide, ?_⟩
   rw [show zH [] (dcK [(1, x0)]) = dcK [(1, x0)] from rfl]
   obtain ⟨H7, q, K7, ed6⟩ := nop (.dK (dcK [(1, x0)])) M7 hd6; rw [q]; clear q
   clear M7 m7
   obtain ⟨h1, g1, g2, f1, f2, ed1, ed2, et1⟩ := lf8 K7 h1 g1 g2 f1 f2 ed1 ed2 et1
   obtain ⟨erA, ebA, ed5⟩ := lf3 K7 erA ebA ed5
   replace KT := KT.trans K7
   walk_at "v"
   refine ⟨sz2, fun t2 ht2 => ?_⟩
   obtain ⟨H8, q, K8, et2⟩ := nob (.tup [.ref d5, .ref d6]) ht2; rw [q]; clear q
   obtain ⟨h1, g1, g2, f1, f2, ed1, ed2, et1⟩ := lf8 K8 h1 g1 g2 f1 f2 ed1 ed2 et1
   obtain ⟨erA, ebA, ed5, ed6⟩ := lf4 K8 erA ebA ed5 ed6
   replace KT := KT.trans K8
   walk_at "v"
   refine zP fun d7 hd7 => ?_
   obtain ⟨G9, q, M9, m9⟩ := nob (.dK []) hd7; rw [q]; clear q
   refine zz ?_
   walk_at "v"
   refine zC ?_
   refine ⟨m9, dcK [(1, 2)], rfl, by show 1 ≤ 15; decide, ?_⟩
   rw [show zH [] (dcK [(1, 2)]) = dcK [(1, 2)] from rfl]
   obtain ⟨H9, q, K9, ed7⟩ := nop (.dK (dcK [(1, 2)])) M9 hd7; rw [q]; clear q
   clear M9 m9
   obtain ⟨h1, g1, g2, f1, f2, ed1, ed2, et1⟩ := lf8 K9 h1 g1 g2 f1 f2 ed1 ed2 et1
   obtain ⟨erA, ebA, ed5, ed6, et2⟩ := lf5 K9 erA ebA ed5 ed6 et2
   replace KT := KT.trans K9
   walk_at "v"
   refine zP fun d8 hd8 => ?_
   obtain ⟨G10, q, M10, m10⟩ := nob (.dK []) hd8; rw [q]; clear q
   refine zz ?_
   walk_at "v"
   refine zC ?_
   refine ⟨m10, dcK [(1, 1)], rfl, by show 1 ≤ 15; decide, ?_⟩
   rw [show zH [] (dcK [(1, 1)]) = dcK [(1, 1)] from rfl]
   obtain ⟨H10, q, K10, ed8⟩ := nop (.dK (dcK [(1, 1)])) M10 hd8; rw [q]; clear q
   clear M10 m10
   obtain ⟨h1, g1, g2, f1, f2, ed1, ed2, et1⟩ := lf8 K10 h1 g1 g2 f1 f2 ed1 ed2 et1
   obtain ⟨erA, ebA, ed5, ed6, et2, ed7⟩ := lf6 K10 erA ebA ed5 ed6 et2 ed7
   replace KT := KT.trans K10
   walk_at "v"
   refine ⟨sz2, fun t3 ht3 => ?_⟩
   obtain ⟨H11, q, K11, et3⟩ := nob (.tup [.ref d7, .ref d8]) ht3; rw [q]; clear q
   obtain ⟨h1, g1, g2, f1, f2, ed1, ed2, et1⟩ := lf8 K11 h1 g1 g2 f1 f2 ed1 ed2 et1
   obtain ⟨erA, ebA, ed5, ed6, et2, ed7, ed8⟩ := lf7 K11 erA ebA ed5 ed6 et2 ed7 ed8
   replace KT := KT.trans K11
   walk_at "v"
   refine ⟨sz2, fun rl hrl => ?_⟩
   have zrl : H rl = none := Same.none KT hrl
   obtain ⟨H12, q, K12, erl⟩ := nob (.lst [.ref t2, .ref t3]) hrl; rw [q]; clear q
   obtain ⟨h1, g1, g2, f1, f2, ed1, ed2, et1⟩ := lf8 K12 h1 g1 g2 f1 f2 ed1 ed2 et1
   obtain ⟨erA, ebA, ed5, ed6, et2, ed7, ed8, et3⟩ := lf8 K12 erA ebA ed5 ed6 et2 ed7 ed8 et3
   replace KT := KT.trans K12
   walk_at "v"
   refine zm g1 rfl ?_
   walk_at "v"
   refine ⟨sz2, fun bl hbl => ?_⟩
   have zbl : H bl = none := Same.none KT hbl
   obtain ⟨H13, q, K13, ebl⟩ := nob (.lst [.int 0, .int a.plus]) hbl; rw [q]; clear q
   obtain ⟨h1, g1, g2, f1, f2, ed1, ed2, et1⟩ := lf8 K13 h1 g1 g2 f1 f2 ed1 ed2 et1
   obtain ⟨erA, ebA, ed5, ed6, et2, ed7, ed8⟩ := lf7 K13 erA ebA ed5 ed6 et2 ed7 ed8
   obtain ⟨et3, erl⟩ := lf2 K13 et3 erl
   replace KT := KT.trans K13
   walk_at "v"
   have nrb : rl ≠ bl := fun z => by subst z; rw [ebl] at erl; cases erl
   refine ⟨sz3, fun rr hrr => ?_⟩
   obtain ⟨H14, q, K14, err⟩ := nob (.tup [.ref rl, .ref bl, .int 1]) hrr; rw [q]; clear q
   obtain ⟨h1, g1, g2, f1, f2, ed1, ed2, et1⟩ := lf8 K14 h1 g1 g2 f1 f2 ed1 ed2 et1
   obtain ⟨erA, ebA, ed5, ed6, et2, ed7, ed8, et3⟩ := lf8 K14 erA ebA ed5 ed6 et2 ed7 ed8 et3
   obtain ⟨erl, ebl⟩ := lf2 K14 erl ebl
   replace KT := KT.trans K14
   exact k rr rl bl [([(0, 1)], [(1, x0)]), ([(1, 2)], [(1, 1)])] [0, a.plus] 1 _ KT err ⟨[t2, t3], erl, ⟨⟨d5, d6, et2, ed5, ed6⟩, ⟨⟨d7, d8, et3, ed7, ed8⟩, trivial⟩⟩⟩ ebl (by refine ⟨by simp, by simp, by (repeat (first | exact wv | exact wB | refine xC ?_ ?_ ?_ | refine xH ⟨by omega, by omega⟩ ?_)), by simp, by simp, fun x hx => by simp only [List.mem_cons, List.not_mem_nil, or_false] at hx; omega, by decide, by simp⟩) zrl zbl nrb
end
end K52
namespace L2
open PySem PySem.Spec PyProof.Rows
section
variable {X : Cx} {pos : Pos}
def gLs2 (t : TGs) : TG := fun v σ H Q => ∃ a x y, v = .ref a ∧ H a = some (.lst [x, y]) ∧ t [x, y] σ H Q
theorem Yc {es : List Expr} {k : Nat} {t : TGs} (hc : X.calm = true) (h : PGs X es t)
  (hn : (assignEach es X.env).length = 2 := by rfl) (hst : (assignEach es X.env).findIdx? (·.1) = none := by rfl) : PG X (.Tuple es k pos) (gLs2 t) := by
 intro pins s σ H v u Q I r hw
 obtain ⟨a, x, y, e1, hq, hw⟩ := hw
 subst e1
 cases r
 obtain ⟨its, rv, p, hz⟩ := I.list (SqL.of hq)
 obtain ⟨f0, f1, f2, f3, f4, f5⟩ := I.fpOk (Nat.le_refl _) (I.hok.fresh (Nat.le_refl _))
 rw [PyProof.Rows.assign_Tuple]
 refine wpAny_bind (wpAny_standAt ?_)
 unfold unpack
 rw [hst, hn]
 refine wpAny_bind (wpAny_holding ?_)
 unfold unpackItems notIterableAtAll
 refine wpAny_bind ?_
 refine wpAny_bind (wpAny_specialOf p.isList.typeIs PySem.F.slot_list_iter.lookup ?_)
 rw [if_pos (show (some (Value.builtin "list.__iter__")).isSome = true from rfl)]
 refine wpAny_pure ?_
 dsimp only
 rw [if_neg (show ¬ (false = true) by decide)]
 refine wpAny_bind (wpAny_holding (wpAny_pyIter_list p.isList ?_))
 have I1 : Inv X pins σ H { s with heap := s.heap.push { cls := Value.type "list_iterator", data := Data.fields #[Value.ref a, Value.int 0 0] } } := I.kept (t' := s.toks) fun b o e => Heap.get?_push_of_some _ e
 have st : (s.heap.push { cls := Value.type "list_iterator", data := Data.fields #[Value.ref a, Value.int 0 0] }).IsListIter s.heap.objs.size a 0 := ⟨_, Heap.get?_push_size _ rfl, rfl, rfl⟩
 obtain ⟨its1, rv1, p1, _⟩ := I1.list (SqL.of hq)
 obtain ⟨u1, u1', rfl, r1, _⟩ := rv1.two
 refine wpAny_bind (wpAny_holding ?_)
 rw [show (2 : Nat) = Nat.succ 1 from rfl, draw.eq_2]
 refine wpAny_bind (wpAny_pyNext_list_item st p1.isList (x := u1) rfl fun h1 st1 sb1 => ?_)
 have I2 : Inv X pins σ H { s with heap := h1 } := I1.turned (t' := s.toks) (fun b o hb e => (sb1.2 b hb).trans e) f0 f1 f3 f4 f5
 obtain ⟨its2, rv2, p2, _⟩ := I2.list (SqL.of hq)
 obtain ⟨u2', u2, rfl, _, r2⟩ := rv2.two
 dsimp only
 refine wpAny_bind (wpAny_holding ?_)
 rw [show (1 : Nat) = Nat.succ 0 from rfl, draw.eq_2]
 refine wpAny_bind (wpAny_pyNext_list_item st1 p2.isList (x := u2) rfl fun h2 st2 sb2 => ?_)
 have I3 : Inv X pins σ H { s with heap := h2 } := I2.turned (t' := s.toks) (fun b o hb e => (sb2.2 b hb).trans e) f0 f1 f3 f4 f5
 obtain ⟨its3, rv3, p3, _⟩ := I3.list (SqL.of hq)
 have l3 := rv3.length
 dsimp only
 refine wpAny_bind (wpAny_holding ?_)
 rw [draw.eq_1]
 refine wpAny_pure ?_
 refine wpAny_pure ?_
 refine wpAny_pure ?_
 rw [if_neg (by simp)]
 refine wpAny_bind (wpAny_holding (wpAny_pyNext_list_end (I.ok.hd hc) st2 p3.isList (by simp at l3 ⊢; omega) fun h' eb => ?_))
 have I4 : Inv X pins σ H { s with heap := h' } := I3.turned (t' := s.toks) (fun b o hb e => eb b o hb e) f0 f1 f3 f4 f5
 dsimp only
 rw [if_neg (by simp)]
 refine wpAny_pure ?_
 exact h pins _ σ H [x, y] _ Q I4 (.cons r1 (.cons r2 .nil)) hw
end
end L2
namespace K52
open PySem L2 G2
abbrev sBe : Stmt := top 46
abbrev nBe : List Str := ["_law_feed_here", "_law_rules", "_law_begin", "_law_way", "_law_side"]
theorem nmBe : Nm nBe (zk sBe) := ⟨by decide +kernel, by decide +kernel⟩
theorem scBe : FnScope nBe ["_law_feed_here", "_law_rules", "_law_begin"] (zk sBe) := ⟨rfl, rfl, rfl, by decide +kernel, rfl, by decide +kernel, by decide +kernel⟩
structure KD (H H' : Hp) : Prop where
 t : ∀ q xs, H q = some (.tup xs) → H' q = some (.tup xs)
 d : ∀ q kvs, H q = some (.dK kvs) → H' q = some (.dK kvs)
section
variable {H H' H'' : Hp} {a : Addr} {o : HO}
theorem KD.trans (x : KD H H') (y : KD H' H'') : KD H H'' := ⟨fun q xs e => y.t _ _ (x.t _ _ e), fun q xs e => y.d _ _ (x.d _ _ e)⟩
theorem KD.same (k : Same H H') : KD H H' := ⟨fun _ _ e => k _ _ e, fun _ _ e => k _ _ e⟩
theorem KD.lst {ys : List V} (h : H a = some (.lst ys)) : KD H (upd H a o) := ⟨fun q xs e => by rw [zl (yr e h (by intro z; cases z))]; exact e, fun q xs e => by rw [zl (yr e h (by intro z; cases z))]; exact e⟩
theorem SdAt.kd {r : Addr} {s : Dc × Dc} (k : KD H H') : SdAt H r s → SdAt H' r s
 | ⟨d1, d2, h1, h2, h3⟩ => ⟨d1, d2, k.t _ _ h1, k.d _ _ h2, k.d _ _ h3⟩
theorem Sds.kd (k : KD H H') : ∀ {rs : List Addr} {ss : List (Dc × Dc)}, Sds H rs ss → Sds H' rs ss
 | [], [], _ => trivial
 | q :: qs, f :: fs, h => ⟨h.1.kd k, Sds.kd k h.2⟩
 | [], _ :: _, h => h.elim
 | _ :: _, [], h => h.elim
theorem Sds.len : ∀ {rs : List Addr} {ss : List (Dc × Dc)}, Sds H rs ss → rs.length = ss.length
 | [], [], _ => rfl
 | q :: qs, f :: fs, h => by rw [List.length_cons, List.length_cons, Sds.len h.2]
 | [], _ :: _, h => h.elim
 | _ :: _, [], h => h.elim
theorem Sds.at : ∀ {rs : List Addr} {ss : List (Dc × Dc)}, Sds H rs ss → ∀ (i : Nat) (q : Addr), rs[i]? = some q → ∃ s, ss[i]? = some s ∧ SdAt H q s
 | [], [], _, i, q, e => by simp at e
 | q :: qs, f :: fs, h, 0, q', e => by
  simp at e
  subst e
  exact ⟨f, rfl, h.1⟩
 | q :: qs, f :: fs, h, i + 1, q', e => by
  obtain ⟨c, h1, h2⟩ := Sds.at h.2 i q' (by simpa using e)
  exact ⟨c, by simpa using h1, h2⟩
 | [], _ :: _, h, _, _, _ => h.elim
 | _ :: _, [], h, _, _, _ => h.elim
theorem Sds.erase : ∀ {rs : List Addr} {ss : List (Dc × Dc)} (j : Nat), Sds H rs ss → Sds H (rs.eraseIdx j) (ss.eraseIdx j)
 | [], [], _, _ => trivial
 | q :: qs, f :: fs, 0, h => h.2
 | q :: qs, f :: fs, j + 1, h => ⟨h.1, Sds.erase j h.2⟩
 | [], _ :: _, _, h => h.elim
 | _ :: _, [], _, h => h.elim
theorem Sds.set {q0 : Addr} {s0 : Dc × Dc} (h0 : SdAt H q0 s0) : ∀ {rs : List Addr} {ss : List (Dc × Dc)} (j : Nat), Sds H rs ss → Sds H (rs.set j q0) (ss.set j s0)
 | [], [], _, _ => trivial
 | q :: qs, f :: fs, 0, h => ⟨h0, h.2⟩
 | q :: qs, f :: fs, j + 1, h => ⟨h.1, Sds.set h0 j h.2⟩
 | [], _ :: _, _, h => h.elim
 | _ :: _, [], _, h => h.elim
end
theorem vi : ∀ (k : Nat) (xs : List Addr), (xs.map V.ref).eraseIdx k = (xs.eraseIdx k).map V.ref
 | _, [] => by simp
 | 0, x :: xs => rfl
 | k + 1, x :: xs => by
  show V.ref x :: (xs.map V.ref).eraseIdx k = V.ref x :: (xs.eraseIdx k).map V.ref
  rw [vi k xs]
structure BI (p l rl bl : Addr) (ms : List Int) (H0 H : Hp) (n b : Nat) (e : Prop) : Prop where
 tp : Tq H p l ms n
 sx : ∃ (rs : List Addr) (ss : List (Dc × Dc)), H rl = some (.lst (rs.map V.ref)) ∧ Sds H rs ss ∧ ss.length ≤ 3 ∧ (∀ s ∈ ss, DcOk s.1 ∧ DcOk s.2) ∧ (e → 0 < ss.length)
 bx : ∃ bs : List Int, H bl = some (.lst (bs.map V.int)) ∧ bs.length = b ∧ ∀ x ∈ bs, 0 ≤ x ∧ x ≤ 9
 b3 : ∀ q o, q ≠ p → q ≠ rl → q ≠ bl → H0 q = some o → H q = some o
structure Apart (p l rl bl : Addr) : Prop where
 a : p ≠ rl
 b : p ≠ bl
 c : l ≠ rl
 d : l ≠ bl
 e : rl ≠ bl
section
variable {p l rl bl : Addr} {ms : List Int} {H0 H H' : Hp} {n n' b : Nat} {e : Prop}
theorem BI.draw (B : BI p l rl bl ms H0 H n b e) (A : Apart p l rl bl) {c d f : Int} (h0 : 0 ≤ f) (h1 : f ≤ (n' : Int)) : BI p l rl bl ms H0 (upd H p (.lst [.ref l, .int c, .int d, .int f])) n' b e := by
 obtain ⟨rs, ss, s1, s2, s3⟩ := B.sx
 obtain ⟨bs, t1, t2⟩ := B.bx
 obtain ⟨_, _, _, hp, _⟩ := B.tp.ex
 exact ⟨B.tp.draw h0 h1, ⟨rs, ss, by rw [zl (Ne.symm A.a)]; exact s1, s2.kd (KD.lst hp), s3⟩, ⟨bs, by rw [zl (Ne.symm A.b)]; exact t1, t2⟩, fun q o q1 q2 q3 h => by rw [zl q1]; exact B.b3 q o q1 q2 q3 h⟩
theorem BI.same (B : BI p l rl bl ms H0 H n b e) (k : Same H H') : BI p l rl bl ms H0 H' n b e := by
 obtain ⟨rs, ss, s1, s2, s3⟩ := B.sx
 obtain ⟨bs, t1, t2⟩ := B.bx
 exact ⟨B.tp.same k, ⟨rs, ss, k _ _ s1, s2.kd (KD.same k), s3⟩, ⟨bs, k _ _ t1, t2⟩, fun q o q1 q2 q3 h => k _ _ (B.b3 q o q1 q2 q3 h)⟩
theorem BI.up (B : BI p l rl bl ms H0 H n b e) (h : n ≤ n') : BI p l rl bl ms H0 H n' b e := ⟨B.tp.up h, B.sx, B.bx, B.b3⟩
theorem BI.setB (B : BI p l rl bl ms H0 H n b e) (A : Apart p l rl bl) {bs : List Int} (hb : H bl = some (.lst (bs.map V.int))) (bs' : List Int) (hl : bs'.length = b) (hx : ∀ x ∈ bs', 0 ≤ x ∧ x ≤ 9) : BI p l rl bl ms H0 (upd H bl (.lst (bs'.map V.int))) n b e := by
 obtain ⟨rs, ss, s1, s2, s3⟩ := B.sx
 exact ⟨B.tp.put A.b A.d, ⟨rs, ss, by rw [zl A.e]; exact s1, s2.kd (KD.lst hb), s3⟩, ⟨bs', zi, hl, hx⟩, fun q o q1 q2 q3 h => by rw [zl q3]; exact B.b3 q o q1 q2 q3 h⟩
theorem BI.setR (B : BI p l rl bl ms H0 H n b e) (A : Apart p l rl bl) {ys : List V} (hr : H rl = some (.lst ys)) {e' : Prop} (rs : List Addr) (ss : List (Dc × Dc)) (h1 : Sds H rs ss) (h2 : ss.length ≤ 3) (h3 : ∀ s ∈ ss, DcOk s.1 ∧ DcOk s.2) (h4 : e' → 0 < ss.length) : BI p l rl bl ms H0 (upd H rl (.lst (rs.map V.ref))) n b e' := by
 obtain ⟨bs, t1, t2⟩ := B.bx
 exact ⟨B.tp.put A.a A.c, ⟨rs, ss, zi, h1.kd (KD.lst hr), h2, h3, h4⟩, ⟨bs, by rw [zl (Ne.symm A.e)]; exact t1, t2⟩, fun q o q1 q2 q3 h => by rw [zl q2]; exact B.b3 q o q1 q2 q3 h⟩
end
theorem ixM {k : Nat} (h : 0 < k) : ixN k (-1) = some (k - 1) := by
 unfold ixN
 rw [if_neg (by decide), if_pos (by omega)]
 congr 1
 omega
def spBe : Sp := fun vs H Q _ => ∃ (p l rl bl : Addr) (ms : List Int) (n b : Nat), vs = [.ref p, .ref rl, .ref bl] ∧ BI p l rl bl ms H H n b True ∧ Apart p l rl bl ∧ n ≤ 90000 ∧ 0 < b ∧ b ≤ 5 ∧ ∀ H', BI p l rl bl ms H H' (n + 4) b False → Q (.ref rl) H'
section
variable {P : Program} {w : World} {K : W.Frag} {mg : Str → Option Value} {base : Heap}
theorem ok_Be {f : Addr} {fd : FuncData} (B : Blt mg) (dct : mg "dict" = none) (D : Has P w K mg base 1 "_law_draw" ["_law_feed_here", "_law_many"] yG) (F : Fun K "_law_bent" "_law_bent" sBe f fd) : FnOk P w K mg base CX0 2 f fd ["_law_feed_here", "_law_rules", "_law_begin"] spBe := by
 refine F.ok scBe (fun vs H Q E h => ?_) (fun cdv A outer s H vs Q E hr h => ?_)
 ·obtain ⟨p, l, rl, bl, ms, n, b, rfl, _⟩ := h
  rfl
 obtain ⟨p, l, rl, bl, ms, n, b, rfl, B0, A0, hn, b0, b5, k⟩ := h
 refine' ⟨_, ?hb, ?rd⟩
 case hb =>
  refine' zj ?s1 ?r1
  case' r1 => refine' zj ?s2 ?r2
  case' r2 => refine' zj ?s3 ?r3
  case' r3 => refine' zj ?s4 ?r4
  case' r4 => refine' zn ?s5
  case s1 => exact zq nmBe 3 (pe_f D hr (by decide) (pa_2 (pvd nmBe 0) zh))
  case s2 =>
   refine' zT (zy yE (pvd nmBe 3) zh (zD _)) ?a1 zB
   case' a1 => refine' zn ?a2
   case a2 => exact yu (pe_f D hr (by decide) (pa_2 (pvd nmBe 0) zh)) (xj (pvd nmBe 2) (pe_f D hr (by decide) (pa_2 (pvd nmBe 0) (zJ yR B.len PySem.boot_len (pa_1 (pvd nmBe 2))))) xK)
  case s3 =>
   refine' zT (zy yE (pvd nmBe 3) zh (zD _)) ?c1 zB
   case' c1 => refine' zn ?c2
   case' c2 => refine' xi ?c3
   case' c3 => refine' vd PySem.F.plainAttrs_list PySem.F.slot_list_pop PySem.F.type_list_pop Zr (pvd nmBe 1) ?c4
   case c4 => exact pa_1 (pe_f D hr (by decide) (pa_2 (pvd nmBe 0) (zJ yR B.len PySem.boot_len (pa_1 (pvd nmBe 1)))))
  case s4 =>
   refine' zT ?d1 ?d2 zB
   case' d1 => refine' PW.pt ?d3
   case' d3 => refine' ZM (zy yY (pvd nmBe 3) zh (zD _)) ?d4
   case' d4 => refine' vR ?d5
   case d5 => exact zy (YT hr) (pvd nmBe 1) (zK yL) (zD _)
   case' d2 => refine' zj ?d6 ?d7
   case' d6 => refine' zq nmBe 4 ?d8
   case' d8 => refine' zU call_dictC dct PyProof.Rows.boot_dict ?d9
   case' d9 => refine' pa_1 ?da
   case da => exact ziq (ziq (pvd nmBe 1) (pe_f D hr (by decide) (pa_2 (pvd nmBe 0) (zJ yR B.len PySem.boot_len (pa_1 (pvd nmBe 1)))))) (pe_f D hr (by decide) (pa_2 (pvd nmBe 0) zh))
   case' d7 => refine' zn ?db
   case' db => refine' yu ?dc (xj (pvd nmBe 1) (YO ZF zh) xK)
   case' dc => refine' zx ?dd
   case dd => exact pa_2 (ziq (ziq (pvd nmBe 1) (YO ZF zh)) zh) (pvd nmBe 4)
  case s5 => exact zE (pvd nmBe 1)
 walk_at "v"
 refine ⟨p, l, ms, _, 4, rfl, B0.tp, by omega, by decide, by decide, fun w c e f w0 w1 f0 f1 => ?_⟩
 have B1 := B0.draw (n' := n + 1) A0 (c := c) (d := e) (f := f) f0 f1
 generalize upd H p (.lst [.ref l, .int c, .int e, .int f]) = H1 at B1 ⊢
 refine yy ?_
 with_reducible refine yX (fun σ' H' => ∃ (u4 : Option V), σ' = [some (.ref p), some (.ref rl), some (.ref bl), some (.int w), u4] ∧ BI p l rl bl ms H H' (n + 3) b True ∧ (w = 0 ∨ BI p l rl bl ms H H' (n + 1) b True)) ?_ fun rest => ?_
 ·rintro σ' H2 ⟨u4, rfl, B2, hw⟩
  with_reducible refine yX (fun σ' H' => ∃ (u4 : Option V), σ' = [some (.ref p), some (.ref rl), some (.ref bl), some (.int w), u4] ∧ BI p l rl bl ms H H' (n + 4) b False ∧ (w ≤ 1 ∨ BI p l rl bl ms H H' (n + 1) b True)) ?_ fun rest2 => ?_
  ·rintro σ' H3 ⟨u4, rfl, B3, hw3⟩
   with_reducible refine yX (fun σ' H' => ∃ (u4 : Option V), σ' = [some (.ref p), some (.ref rl), some (.ref bl), some (.int w), u4] ∧ BI p l rl bl ms H H' (n + 4) b False) ?_ fun rest3 => ?_
   ·rintro σ' H4 ⟨u4, rfl, B4⟩
    walk_at "v"
    exact k _ B4
   ·walk_at "v"
    refine iteD (fun h2 => ?_) (fun _ => ?_)
    ·have B3' : BI p l rl bl ms H H3 (n + 1) b True := by
      rcases hw3 with h | h
      ·omega
      ·exact h
     obtain ⟨rs, ss, s1, s2, s3, s4, s5⟩ := id B3'.sx
     have s6 := s5 trivial
     have hrl := s2.len
     walk_at "v"
     refine ⟨Nat.zero_le _, fun z hz => ?_⟩
     obtain ⟨HZ, q, KZ, ez⟩ := nob (.lst []) hz; rw [q]; clear q
     have BZ := B3'.same KZ
     have s1Z := KZ _ _ s1
     have s2Z := s2.kd (KD.same KZ)
     refine ⟨rl, z, _, rfl, rfl, s1Z, ez, ?_⟩
     walk_at "v"
     rw [show (!(rs.map V.ref).isEmpty) = true by cases rs with | nil => simp at hrl; omega | cons => rfl]
     walk_at "v"
     refine ⟨rl, _, rfl, s1Z, ?_⟩
     rw [List.length_map]
     refine ⟨p, l, ms, _, rs.length, rfl, BZ.tp, by omega, by omega, by omega, fun r c e f r0 r1 f0 f1 => ?_⟩
     obtain ⟨_, _, _, hpz, _⟩ := BZ.tp.ex
     have BY := BZ.draw (n' := n + 2) A0 (c := c) (d := e) (f := f) f0 (by omega)
     have s1Y : upd HZ p (.lst [.ref l, .int c, .int e, .int f]) rl = some (.lst (rs.map V.ref)) := by rw [zl (Ne.symm A0.a)]; exact s1Z
     have s2Y := s2Z.kd (KD.lst (o := .lst [.ref l, .int c, .int e, .int f]) hpz)
     generalize upd HZ p (.lst [.ref l, .int c, .int e, .int f]) = HY at BY s1Y s2Y ⊢
     obtain ⟨j, rfl⟩ := ofI r0
     have hj : j < rs.length := by omega
     obtain ⟨s, hs, d1, d2, g1, g2, g3⟩ := s2Y.at j rs[j] (by simp [hj])
     refine yd (v := .ref rs[j]) s1Y (yA (by simp [hj])) ?_
     walk_at "v"
     refine ⟨p, l, ms, _, 2, rfl, BY.tp, by omega, by decide, by decide, fun r c e f r0 r1 f0 f1 => ?_⟩
     obtain ⟨_, _, _, hpy, _⟩ := BY.tp.ex
     have BX := BY.draw (n' := n + 3) A0 (c := c) (d := e) (f := f) f0 (by omega)
     have kx : KD HY (upd HY p (.lst [.ref l, .int c, .int e, .int f])) := KD.lst hpy
     have s1X : upd HY p (.lst [.ref l, .int c, .int e, .int f]) rl = some (.lst (rs.map V.ref)) := by rw [zl (Ne.symm A0.a)]; exact s1Y
     have s2X := s2Y.kd kx
     have g1X := kx.t _ _ g1
     have g2X := kx.d _ _ g2
     have g3X := kx.d _ _ g3
     generalize upd HY p (.lst [.ref l, .int c, .int e, .int f]) = HX at BX s1X s2X g1X g2X g3X ⊢
     have sok := s4 s (List.mem_of_getElem? hs)
     obtain ⟨dd, dk, hat, hdd, hdk⟩ : ∃ (dd : Addr) (dk : Dc), atI [V.ref d1, V.ref d2] r = some (.ref dd) ∧ HX dd = some (.dK (dcK dk)) ∧ DcOk dk := by
      have hr2 : r = 0 ∨ r = 1 := by omega
      rcases hr2 with rfl | rfl
      ·exact ⟨d1, s.1, rfl, g2X, sok.1⟩
      ·exact ⟨d2, s.2, rfl, g3X, sok.2⟩
     refine zm g1X hat ?_
     refine ⟨dd, _, rfl, hdd, fun nd hnd => ?_⟩
     obtain ⟨HN, q, KN, en⟩ := nob (.dK (dcK dk)) hnd; rw [q]; clear q
     have hlast : rs.length - 1 < rs.length := by omega
     obtain ⟨s', hs', e1, e2, k1, k2, k3⟩ := s2X.at (rs.length - 1) rs[rs.length - 1] (by simp)
     walk_at "v"
     refine ⟨_, rfl, ?_⟩
     refine yd (v := .ref rs[rs.length - 1]) (KN _ _ s1X) (by unfold atI; rw [List.length_map, ixM (by omega)]; simp [hlast]) ?_
     walk_at "v"
     refine zm (KN _ _ k1) rfl ?_
     walk_at "v"
     refine ⟨sz2, fun tq htq => ?_⟩
     have KT2 := KN.new (o := .tup [.ref e1, .ref nd]) htq
     have KTn : Same HN (upd HN tq (.tup [.ref e1, .ref nd])) := Same.new (Same.refl _) htq
     have et : upd HN tq (.tup [.ref e1, .ref nd]) tq = some (.tup [.ref e1, .ref nd]) := zi
     have en2 := KTn _ _ en
     generalize upd HN tq (.tup [.ref e1, .ref nd]) = HT at KT2 et en2 ⊢
     walk_at "v"
     refine ⟨_, rfl, ?_⟩
     have BT := BX.same KT2
     have s1T := KT2 _ _ s1X
     refine xo s1T (ixM (by rw [List.length_map]; omega)) ?_
     have hset : (rs.map V.ref).set ((rs.map V.ref).length - 1) (.ref tq) = (rs.set (rs.length - 1) tq).map V.ref := by rw [List.map_set, List.length_map]
     rw [hset]
     have sok' := s4 s' (List.mem_of_getElem? hs')
     refine rest3 _ _ ⟨_, rfl, (BT.setR A0 s1T (e' := False) (rs.set (rs.length - 1) tq) (ss.set (rs.length - 1) (s'.1, dk)) (Sds.set (q0 := tq) (s0 := (s'.1, dk)) ⟨e1, nd, et, KT2 _ _ k2, en2⟩ _ (s2X.kd (KD.same KT2))) (by rw [List.length_set]; exact s3) (fun x hx => ?_) (fun z => z.elim)).up (by omega)⟩
     rcases List.mem_or_eq_of_mem_set hx with h | h
     ·exact s4 x h
     ·rw [h]
      exact ⟨sok'.1, hdk⟩
    ·refine iteF ?_
     exact rest3 _ _ ⟨_, rfl, B3⟩
  ·walk_at "v"
   refine ⟨rfl, ?_⟩
   walk_at "v"
   refine iteD (fun h1 => ?_) (fun h1 => ?_)
   ·have hw1 := V.int.inj h1
    obtain ⟨rs, ss, s1, s2, s3, s4, s5⟩ := id B2.sx
    have s6 := s5 trivial
    have hrl := s2.len
    walk_at "v"
    refine ⟨.inl ⟨rfl, _, SqL.of s1⟩, ?_⟩
    walk_at "v"
    refine ⟨rl, _, rfl, s1, ?_⟩
    rw [List.length_map]
    refine ⟨p, l, ms, _, rs.length, rfl, B2.tp, by omega, by omega, by omega, fun r c e f r0 r1 f0 f1 => ?_⟩
    obtain ⟨_, _, _, hp2, _⟩ := B2.tp.ex
    have BY := B2.draw (n' := n + 4) A0 (c := c) (d := e) (f := f) f0 (by omega)
    have s1Y : upd H2 p (.lst [.ref l, .int c, .int e, .int f]) rl = some (.lst (rs.map V.ref)) := by rw [zl (Ne.symm A0.a)]; exact s1
    have s2Y := s2.kd (KD.lst (o := .lst [.ref l, .int c, .int e, .int f]) hp2)
    generalize upd H2 p (.lst [.ref l, .int c, .int e, .int f]) = HY at BY s1Y s2Y ⊢
    obtain ⟨j, rfl⟩ := ofI r0
    have hj : j < rs.length := by omega
    have hix : ixN (rs.map V.ref).length (j : Int) = some j := by
     rw [List.length_map]
     unfold ixN
     rw [if_pos r0, if_pos r1]
     rfl
    refine ⟨rl, _, _, j, .ref rs[j], rfl, rfl, s1Y, by omega, by omega, (wL hix).1, by simp [hj], ?_⟩
    rw [vi]
    refine rest2 _ _ ⟨_, rfl, BY.setR A0 s1Y (e' := False) (rs.eraseIdx j) (ss.eraseIdx j) (s2Y.erase j) ?_ (fun x hx => s4 x (List.mem_of_mem_eraseIdx hx)) (fun z => z.elim), .inl (by omega)⟩
    have := List.length_eraseIdx_le ss j
    omega
   ·have hw1 : w ≠ 1 := fun z => h1 (congrArg V.int z)
    refine rest2 _ _ ⟨_, rfl, ?_, ?_⟩
    ·obtain ⟨rs, ss, s1, s2, s3, s4, s5⟩ := id B2.sx
     exact ⟨B2.tp.up (by omega), ⟨rs, ss, s1, s2, s3, s4, fun z => z.elim⟩, B2.bx, B2.b3⟩
    ·rcases hw with h | h
     ·exact .inl (by omega)
     ·exact .inr h
 ·walk_at "v"
  refine ⟨rfl, ?_⟩
  walk_at "v"
  refine iteD (fun h1 => ?_) (fun h1 => ?_)
  ·have hw0 := V.int.inj h1
   walk_at "v"
   refine ⟨p, l, ms, _, 3, rfl, B1.tp, by omega, by decide, by decide, fun r c e f r0 r1 f0 f1 => ?_⟩
   have B2 := B1.draw (n' := n + 2) A0 (c := c) (d := e) (f := f) f0 (by omega)
   generalize upd H1 p (.lst [.ref l, .int c, .int e, .int f]) = H2 at B2 ⊢
   obtain ⟨bs, t1, t2, t3⟩ := id B2.bx
   walk_at "v"
   refine ⟨bl, _, rfl, t1, ?_⟩
   rw [List.length_map]
   refine ⟨p, l, ms, _, bs.length, rfl, B2.tp, by omega, by omega, by omega, fun r' c e f r0' r1' f0 f1 => ?_⟩
   have B3 := B2.draw (n' := n + 3) A0 (c := c) (d := e) (f := f) f0 (by omega)
   have t1' : upd H2 p (.lst [.ref l, .int c, .int e, .int f]) bl = some (.lst (bs.map V.int)) := by rw [zl (Ne.symm A0.b)]; exact t1
   generalize upd H2 p (.lst [.ref l, .int c, .int e, .int f]) = H3 at B3 t1' ⊢
   refine xo t1' (ixK r0' (by rw [List.length_map]; exact r1')) ?_
   rw [← List.map_set]
   refine rest _ _ ⟨_, rfl, B3.setB A0 t1' (bs.set r'.toNat r) (by rw [List.length_set]; exact t2) (fun x hx => ?_), .inl hw0⟩
   rcases List.mem_or_eq_of_mem_set hx with h | h
   ·exact t3 x h
   ·rw [h]
    omega
  ·exact rest _ _ ⟨_, rfl, B1.up (by omega), .inr B1⟩
abbrev sPo : Stmt := top 47
abbrev nPo : List Str := ["_law_feed_here", "_law_pot_here", "_law_ask_here", "_law_rules", "_law_begin", "_law_answer", "_law_many", "_law_told", "_law_sides", "_law_takes", "_law_gives"]
theorem nmPo : Nm nPo (zk sPo) := ⟨by decide +kernel, by decide +kernel⟩
theorem scPo : FnScope nPo ["_law_feed_here"] (zk sPo) := ⟨rfl, rfl, rfl, by decide +kernel, rfl, by decide +kernel, by decide +kernel⟩
def forBody (s : Stmt) : List Stmt := match s with
 | .For _ _ b _ _ => b
 | _ => []
def asgO (s : Stmt) : Scope := match s with
 | .Assign _ (.ListComp _ _ sc _) _ => sc
 | _ => nsc
def asgI (s : Stmt) : Scope := match s with
 | .Assign _ (.ListComp (.Call _ [.ListComp _ _ sc _] _ _) _ _ _) _ => sc
 | _ => nsc
abbrev bPo : List Stmt := forBody ((zu sPo).getD 6 (.Pass ⟨0, 0, 0, 0⟩))
abbrev cPoO : Scope := asgO (bPo.getD 0 (.Pass ⟨0, 0, 0, 0⟩))
abbrev cPoI : Scope := asgI (bPo.getD 0 (.Pass ⟨0, 0, 0, 0⟩))
theorem nbPo : NBScope (zk sPo) cPoO ["_law_side"] ["_law_many"] ["tuple", "range"] := { okind := by decide +kernel, kind := by decide +kernel, names := by decide +kernel, clN := by decide +kernel, fr := by decide +kernel, ff := by decide +kernel, nd := by decide +kernel, vis := by decide +kernel, loc := by decide +kernel, gl := by decide +kernel }
theorem bsPoI : BScope (yC cPoO (zk sPo)) cPoI ["_law_sort"] ["_law_side"] [] := { okind := by decide +kernel, kind := by decide +kernel, nocell := by decide +kernel, names := by decide +kernel, fr := by decide +kernel, ff := by decide +kernel, nd := by decide +kernel, vis := by decide +kernel, loc := by decide +kernel, gl := by decide +kernel }
def gv : Dc → Int → Int
 | [], _ => 0
 | x :: d, j => if x.1 = j then x.2 else gv d j
theorem Yv : ∀ (d : Dc) (j : Int), (valV (dcK d) (Sum.inl j : Key)).getD (V.int 0) = V.int (gv d j)
 | [], j => rfl
 | (k, v) :: d, j => by
  have ih := Yv d j
  unfold gv
  by_cases h : k = j
  ·subst h
   simp [valV, dcK]
  ·rw [if_neg h, ← ih]
   simp [valV, dcK, h]
theorem gv_ok {d : Dc} (h : DcOk d) (j : Int) : 0 ≤ gv d j ∧ gv d j ≤ 9 := by
 induction d with
 | nil => exact ⟨by show (0 : Int) ≤ 0; decide, by show (0 : Int) ≤ 9; decide⟩
 | cons x d ih =>
  unfold gv
  split
  ·exact h x List.mem_cons_self
  ·exact ih fun y hy => h y (List.mem_cons_of_mem _ hy)
theorem Xb {H : Hp} {Q : VK} {p q : Addr} {ns ms : List Int} (hp : H p = some (.tup (ns.map V.int))) (hq : H q = some (.tup (ms.map V.int))) (h : Q (.bl (!decide (ns = ms))) H) : rNeD (.ref p) (.ref q) H Q := by
 refine ⟨_, _, .tup hp (yV ns), .tup hq (yV ms), xb ns, xb ms, ?_, ?_⟩
 ·show PyData.depthAll _ + 1 ≤ 60
  rw [yP]
  decide
 ·show Q (.bl (!PyData.eqvAll _ _)) H
  rw [wm]
  exact h
theorem rep_map (n : Nat) : List.replicate n (V.int 0) = (List.replicate n (0 : Int)).map V.int := by rw [List.map_replicate]
theorem w_dget2 {td ty tx : TE} {σ : St} {H : Hp} {Q : VK} (h : td σ H fun x H1 => ∃ a, x = .ref a ∧ IsD H1 a ∧ ty σ H1 fun y H2 => tx σ H2 fun z H3 => ∃ o, DGet H3 a y o ∧ Q (o.getD z) H3) : Yz td ty tx σ H Q := h
def spPo : Sp := fun vs H Q _ => ∃ (p l : Addr) (ms : List Int) (n : Nat), vs = [.ref p] ∧ Tq H p l ms n ∧ n ≤ 60000 ∧ ∀ (r q ak : Addr) (rs : List Addr) (ins beg : List Int) (ans : Int) (m : Nat) (A : Ak) (H' : Hp), H' r = some (.tup [.ref q, .ref ak]) → PotD H' q rs ins beg ans m → AkAt H' ak A → A.ok ins.length → akSm A → Tq H' p l ms (n + 150) → (TK H H' ∧ Bp p H H') → Q (.ref r) H'
theorem ok_Po {f : Addr} {fd : FuncData} (B : Blt mg) (D : Has P w K mg base 1 "_law_draw" ["_law_feed_here", "_law_many"] yG) (fD : Has P w K mg base 4 "_law_drawn" ["_law_feed_here", "_law_most"] vP) (fA : Has P w K mg base 3 "_law_ask" ["_law_feed_here", "_law_many", "_law_most"] YE) (fS : Has P w K mg base 1 "_law_shaped" ["_law_ask_here"] YA) (fB : Has P w K mg base 2 "_law_bent" ["_law_feed_here", "_law_rules", "_law_begin"] spBe) (fN : Has P w K mg base 2 "_law_names" ["_law_feed_here", "_law_many"] wF) (F : Fun K "_law_pot" "_law_pot" sPo f fd) : FnOk P w K mg base CX0 5 f fd ["_law_feed_here"] spPo := by
 refine F.ok scPo (fun vs H Q E h => ?_) (fun cdv A outer s H vs Q E hr h => ?_)
 ·obtain ⟨p, l, ms, n, rfl, _⟩ := h
  rfl
 obtain ⟨p, l, ms, n, rfl, T0, hn, k⟩ := h
 refine' ⟨_, ?hb, ?rd⟩
 case hb =>
  have hu := XG hr
  refine' zj ?s1 ?r1
  case' r1 => refine' zj ?s2 ?r2
  case' r2 => refine' zj ?s3 ?r3
  case' r3 => refine' zj ?s4 ?r4
  case' r4 => refine' zj ?s5 ?r5
  case' r5 => refine' zj ?s6 ?r6
  case' r6 => refine' zj ?s7 ?r7
  case' r7 => refine' zj ?s8 ?r8
  case' r8 => refine' zn ?s9
  case s1 =>
   refine' zT (zy yE (pe_f D hr (by decide) (pa_2 (pvd nmPo 0) zh)) zh (zD _)) ?a1 zB
   case' a1 => refine' zj ?a2 ?a3
   case a2 => exact zq nmPo 1 (pe_f fD hr (by decide) (pa_2 (pvd nmPo 0) zh))
   case' a3 => refine' zn ?a4
   case' a4 => refine' zE ?a5
   case' a5 => refine' zx ?a6
   case' a6 => refine' pa_2 (pvd nmPo 1) ?a7
   case' a7 => refine' pe_f fA hr (by decide) ?a8
   case a8 => exact pa_c (pvd nmPo 0) (pa_2 (zJ call_lnT B.len PySem.boot_len (pa_1 (ziq (pvd nmPo 1) zh))) zh)
  case s2 => exact zq nmPo 2 (pe_f fA hr (by decide) (pa_c (pvd nmPo 0) (pa_2 zh zh)))
  case s3 =>
   refine' yu (pe_f fS hr (by decide) (pa_1 (pvd nmPo 2))) ?b1
   case b1 => exact wx (n := 3) rfl (zF (pgd nmPo 3) (zF (pgd nmPo 4) (zF (pgd nmPo 5) yo)))
  case s4 =>
   refine' zT (zy yE (pe_f D hr (by decide) (pa_2 (pvd nmPo 0) zh)) zh (zD _)) ?c1 zB
   case' c1 => refine' zn ?c2
   case c2 => exact zq nmPo 3 (pe_f fB hr (by decide) (pa_c (pvd nmPo 0) (pa_2 (pvd nmPo 3) (pvd nmPo 4))))
  case s5 => exact zq nmPo 6 (zJ yR B.len PySem.boot_len (pa_1 (pvd nmPo 4)))
  case s6 => exact zq nmPo 7 (zK yL)
  case s7 =>
   refine' yt PassesOwn.never rfl (vS (pvd nmPo 3)) (pgd nmPo 8) ?d1
   case d1 =>
    refine' zj ?d2 ?d3
    case d2 =>
     refine' yu ?d4 ?d5
     case d5 => exact Yc rfl (zF (pgd nmPo 9) (zF (pgd nmPo 10) yo))
     case d4 =>
      refine' pe_compN (ix := [6]) nbPo.toNScope rfl rfl (xx (pvd nmPo 8)) ?h4 ?h5 ?h6
      case h4 => exact fun _ _ _ _ _ _ => pgbN nbPo 0
      case h5 => exact fun _ _ _ _ _ _ => ye
      case h6 =>
       intro _ _ _ _ _ _
       refine' zU zV B.tuple PyProof.Rows.boot_tuple ?x1 (nbPo.g 0)
       case' x1 => refine' pa_1 ?x2
       case x2 =>
        refine' zY (ix := [0]) bsPoI.toCScope rfl rfl ?i3 ?i4 ?i5 ?i6
        case i3 => exact yD B.range (pa_1 (pvbN nbPo 1)) (nbPo.g 1)
        case i4 => exact fun _ _ _ _ _ _ => pgb bsPoI 0
        case i5 => exact fun _ _ _ _ _ _ => ye
        case i6 => exact fun _ _ _ _ _ _ => pe_dget2 hu (pvb bsPoI 1) (pvb bsPoI 0) zh ⟨rfl, rfl, rfl, rfl⟩
    case' d3 => refine' zn ?e1
    case' e1 => refine' zT ?e2 ?e3 zB
    case' e2 => refine' PW.pt ?e4
    case' e4 => refine' ZM (zy (YU hr) (pvd nmPo 9) (pvd nmPo 10) (zD _)) ?e5
    case' e5 => refine' vR ?e6
    case e6 => exact zy (YU hr) (pvd nmPo 9) (zw xE (zx (pa_1 zh)) (pvd nmPo 6)) (zD _)
    case' e3 => refine' zn ?e7
    case' e7 => refine' xi ?e8
    case' e8 => refine' vd PySem.F.plainAttrs_list PySem.F.slot_list_append PySem.F.type_list_append yZ (pvd nmPo 7) ?e9
    case e9 => exact pa_1 (zx (pa_2 (pvd nmPo 9) (pvd nmPo 10)))
  case s8 =>
   refine' zq nmPo 1 ?f1
   case' f1 => refine' zx ?f2
   case' f2 => refine' pa_c (pe_f fN hr (by decide) (pa_2 (pvd nmPo 0) (pvd nmPo 6))) ?f3
   case' f3 => refine' pa_c (zU zL B.tuple PyProof.Rows.boot_tuple (pa_1 (pvd nmPo 7))) ?f4
   case' f4 => refine' pa_c (zx (pa_1 zh)) ?f5
   case f5 => exact pa_2 (zU zL B.tuple PyProof.Rows.boot_tuple (pa_1 (pvd nmPo 4))) (pvd nmPo 5)
  case s9 => exact zE (zx (pa_2 (pvd nmPo 1) (pvd nmPo 2)))
 walk_at "v"
 refine ⟨p, l, ms, _, 2, rfl, T0, by omega, by decide, by decide, fun r c e f r0 r1 f0 f1 => ?_⟩
 have T1 := T0.draw (n' := n + 1) (c := c) (e := e) (f := f) f0 f1
 have TK1 : TK H (upd H p (.lst [.ref l, .int c, .int e, .int f])) := T0.tk
 have BP1 : Bp p H (upd H p (.lst [.ref l, .int c, .int e, .int f])) := Bp.refl.at
 generalize upd H p (.lst [.ref l, .int c, .int e, .int f]) = H1 at T1 TK1 BP1 ⊢
 refine ⟨rfl, ?_⟩
 walk_at "v"
 refine iteD (fun _ => ?_) (fun _ => ?_)
 ·walk_at "v"
  refine ⟨p, l, ms, _, 2, rfl, T1, by omega, by decide, fun q rs ins beg ans m H2 P2 T2 b2 => ?_⟩
  have TK2 := TK1.trans (T1.tkb b2)
  obtain ⟨ps, pr, pin, pb, xs, h1, h2, h3, h4, h5, h6⟩ := id P2.ex
  walk_at "v"
  refine zm h1 rfl ?_
  refine ⟨pin, _, rfl, h5, ?_⟩
  rw [List.length_map]
  walk_at "v"
  refine ⟨p, l, ms, _, ins.length, 2, rfl, T2, by omega, P2.i3, by decide, fun ak A H3 hok hsm hak T3 b3 => ?_⟩
  have TK3 := T2.tkb b3
  walk_at "v"
  refine ⟨sz2, fun z hz => ?_⟩
  have TK4 : TK H3 (upd H3 z (.tup [.ref q, .ref ak])) := TK.new hz
  exact k z q ak rs ins beg ans m A _ zi (P2.tk (TK3.trans TK4)) (hak.tk TK4) hok hsm ((T3.new hz).up (by omega)) ⟨(TK2.trans TK3).trans TK4, ((BP1.trans b2).trans b3).new hz⟩
 walk_at "v"
 refine ⟨p, l, ms, _, 1, 2, rfl, T1, by omega, by decide, by decide, fun ak A H2 hok hsm hak T2 b2 => ?_⟩
 have TK2 := TK1.trans (T1.tkb b2)
 walk_at "v"
 refine ⟨ak, A, rfl, hak, hok, hsm, fun rr rl bl ss bs ans H3 K3 er hss hbl G hrl0 hbl0 nrb => ?_⟩
 have T3 := T2.same K3
 have hak3 := hak.tk (TK.same K3)
 have A0 : Apart p l rl bl := ⟨T2.np hrl0, T2.np hbl0, T2.nl hrl0, T2.nl hbl0, nrb⟩
 obtain ⟨rs0, hrs0, hsd0⟩ := hss
 have B3 : BI p l rl bl ms H3 H3 (n + 11) bs.length True := ⟨T3, ⟨rs0, ss, hrs0, hsd0, G.s3, G.so, fun _ => G.s0⟩, ⟨bs, hbl, rfl, G.bb⟩, fun q o _ _ _ h => h⟩
 have TK3 := TK2.trans (TK.same K3)
 have BP2 := BP1.trans b2
 have BP3 := BP2.trans (Bp.same K3)
 have hrlH : H rl = none := BP2.free (T2.np hrl0) hrl0
 have hblH : H bl = none := BP2.free (T2.np hbl0) hbl0
 refine wU er rfl ?_
 refine ⟨_, _, rfl, ?_⟩
 walk_at "v"
 refine ⟨_, _, rfl, ?_⟩
 walk_at "v"
 refine ⟨_, _, rfl, ?_⟩
 walk_at "v"
 refine ⟨rfl, ?_⟩
 with_reducible refine yX (fun σ' H' => σ' = [some (.ref p), none, some (.ref ak), some (.ref rl), some (.ref bl), some (.int ans), none, none, none, none, none] ∧ BI p l rl bl ms H3 H' (n + 16) bs.length False) ?_ fun rest => ?_
 ·rintro σ' H4 ⟨rfl, B4⟩
  obtain ⟨rs, ss', s1, s2, s3, s4, _⟩ := id B4.sx
  obtain ⟨bs', t1, t2, t3⟩ := id B4.bx
  obtain ⟨_, _, _, hp3, _⟩ := T3.ex
  have TK34 : TK H3 H4 := ⟨fun q xs e => B4.b3 q _ (yr e hp3 (by intro z; cases z)) (yr e hrs0 (by intro z; cases z)) (yr e hbl (by intro z; cases z)) e, fun q o u e => B4.b3 q _ (yr e hp3 (by intro z; cases z)) (yr e hrs0 (by intro z; cases z)) (yr e hbl (by intro z; cases z)) e⟩
  have BP4 : Bp p H H4 := fun q o hq e => B4.b3 q o hq (zp e hrlH) (zp e hblH) (BP3 q o hq e)
  have hrl := s2.len
  have g5 := G.b5
  have g0 := G.b0
  have g1 := G.a1
  obtain ⟨m, hm⟩ : ∃ m : Nat, bs'.length = m := ⟨_, rfl⟩
  walk_at "v"
  refine ⟨bl, _, rfl, t1, ?_⟩
  rw [List.length_map, hm]
  walk_at "v"
  refine ⟨Nat.zero_le _, fun tl htl => ?_⟩
  have K5 : Same H4 (upd H4 tl (.lst [])) := Same.new (Same.refl _) htl
  have e5 : upd H4 tl (.lst []) tl = some (.lst (([] : List Addr).map V.ref)) := zi
  have ntr : rl ≠ tl := zp s1 htl
  have ntb : bl ≠ tl := zp t1 htl
  have ntp := B4.tp.np htl
  have ntl := B4.tp.nl htl
  generalize upd H4 tl (.lst []) = H5 at K5 e5 ⊢
  have htlH : H tl = none := BP4.free ntp htl
  have BP5 := BP4.trans (Bp.same K5)
  have s1' := K5 _ _ s1
  have s2' := s2.kd (KD.same K5)
  have t1' := K5 _ _ t1
  have T5 := B4.tp.same K5
  walk_at "v"
  refine ⟨rl, rfl, ⟨_, SqL.of s1'⟩, ?_⟩
  refine ZB (xs := rs.map V.ref) (fun i σ H' => ∃ (u8 u9 u10 : Option V) (ts : List Addr), σ = [some (.ref p), none, some (.ref ak), some (.ref rl), some (.ref bl), some (.int ans), some (.int (m : Int)), some (.ref tl), u8, u9, u10] ∧ H' tl = some (.lst (ts.map V.ref)) ∧ ts.length ≤ i ∧ (∀ t ∈ ts, RuleT m H' t) ∧ (∀ q o, q ≠ tl → H5 q = some o → H' q = some o)) ⟨_, _, _, [], rfl, e5, Nat.zero_le _, (fun t ht => by cases ht), fun q o _ h => h⟩ (fun i σ H' _ ⟨_, _, _, _, _, _, _, _, k'⟩ => SqL.of (k' _ _ ntr s1')) ?_ ?_
  ·rintro i x σ H6 hx ⟨u8, u9, u10, ts, rfl, e6, hts, hR, k6⟩
   have hi : i < rs.length := itl hx
   have ex : x = .ref rs[i] := itx hx hi
   subst ex
   obtain ⟨s, hs, d1, d2, v1, v2, v3⟩ := s2'.at i rs[i] (by simp [hi])
   have sok := s4 s (List.mem_of_getElem? hs)
   have v1' := k6 _ _ (yr v1 e5 (by intro z; cases z)) v1
   have v2' := k6 _ _ (yr v2 e5 (by intro z; cases z)) v2
   have v3' := k6 _ _ (yr v3 e5 (by intro z; cases z)) v3
   walk_at "v"
   refine ⟨rs[i], rfl, ⟨_, SqT.of v1'⟩, fun D' hD' => ?_⟩
   refine wn (xs := [V.ref d1, V.ref d2]) (ρ := [some (.int (m : Int))]) (fun j zs H' => ∃ qs : List (Addr × List Int), zs = qs.map (fun x => V.ref x.1) ∧ qs.length = j ∧ (∀ x ∈ qs, Rw m H' x.1 x.2) ∧ Same H6 H') ⟨[], rfl, rfl, (fun x h => by cases h), Same.new (Same.refl _) hD'⟩ (fun j zs H' _ ⟨_, _, _, _, k'⟩ => SqT.of (k' _ _ v1')) ?_ ?_
   ·rintro j y zs H' hy ⟨qs, rfl, hql, hqs, K'⟩ hDz R S kR _
    obtain ⟨dd, dk, rfl, hdd, hdk⟩ : ∃ (dd : Addr) (dk : Dc), y = .ref dd ∧ H6 dd = some (.dK (dcK dk)) ∧ DcOk dk := by
     have hm2 := List.mem_of_getElem? hy
     simp only [List.mem_cons, List.not_mem_nil, or_false] at hm2
     rcases hm2 with rfl | rfl
     ·exact ⟨d1, s.1, rfl, v2', sok.1⟩
     ·exact ⟨d2, s.2, rfl, v3', sok.2⟩
    have hj2 : j < 2 := (List.getElem?_eq_some_iff.mp hy).1
    walk_at "v"
    refine ⟨_, rfl, by omega, by omega, fun d2' hd2' => ?_⟩
    rw [Int.toNat_natCast]
    refine rng_map (ρ := [some (.ref dd)]) (fun j => gv dk (j : Int)) (by omega) (fun j' H'' hj' K'' R' kR' => ?_) (fun H7 K7 e7 => ?_) hd2'
    ·have hd'' := K'' _ _ (K' _ _ hdd)
     walk_at "v"
     refine w_dget2 ?_
     walk_at "v"
     refine ⟨dd, rfl, .inl ⟨_, .inl hd''⟩, ?_⟩
     walk_at "v"
     refine ⟨_, .inl ⟨_, (Sum.inl (j' : Int) : Key), .inl hd'', rfl, rfl⟩, ?_⟩
     rw [Yv]
     exact kR' _ (Same.refl _)
    walk_at "v"
    refine ⟨d2', _, rfl, e7, fun q8 H8 K8 e8 => ?_⟩
    have K78 := K7.trans K8
    have tk : TK H8 (upd H8 D' (.lst (qs.map (fun x => V.ref x.1) ++ [.ref q8]))) := TK.lst (K78 _ _ hDz)
    refine kR _ _ (K78 _ _ hDz) (lm1 (by omega)) ⟨qs ++ [(q8, (List.range m).map fun (j : Nat) => gv dk (j : Int))], by rw [List.map_append]; rfl, by simp [hql], fun x hx => ?_, (K'.trans K78).put hD'⟩
    rcases List.mem_append.mp hx with old | new
    ·have := hqs x old
     exact ⟨tk.t _ _ (K78 _ _ this.1), this.2⟩
    ·rw [List.mem_singleton.mp new]
     refine ⟨tk.t _ _ e8, by simp, fun y hy => ?_⟩
     obtain ⟨j, _, rfl⟩ := List.mem_map.mp hy
     exact gv_ok hdk _
   rintro zs H7 ⟨qs, rfl, hql, hqs, K7⟩ hDz
   obtain ⟨⟨q1, x1⟩, ⟨q2, x2⟩, rfl⟩ : ∃ a b, qs = [a, b] := by
    match qs, hql with
    | [a, b], _ => exact ⟨a, b, rfl⟩
   have w1 := hqs (q1, x1) List.mem_cons_self
   have w2 := hqs (q2, x2) (List.mem_cons_of_mem _ List.mem_cons_self)
   have e7 := K7 _ _ e6
   refine ⟨D', _, _, rfl, hDz, ?_⟩
   refine ⟨_, _, rfl, ?_⟩
   walk_at "v"
   refine ⟨_, _, rfl, ?_⟩
   walk_at "v"
   refine ⟨rfl, ?_⟩
   have skip : ∀ H', Same H7 H' → ∃ (u8 u9 u10 : Option V) (ts : List Addr), [some (.ref p), none, some (.ref ak), some (.ref rl), some (.ref bl), some (.int ans), some (.int (m : Int)), some (.ref tl), some (.ref rs[i]), some (.ref q1), some (.ref q2)] = [some (.ref p), none, some (.ref ak), some (.ref rl), some (.ref bl), some (.int ans), some (.int (m : Int)), some (.ref tl), u8, u9, u10] ∧ H' tl = some (.lst (ts.map V.ref)) ∧ ts.length ≤ i + 1 ∧ (∀ t ∈ ts, RuleT m H' t) ∧ (∀ q o, q ≠ tl → H5 q = some o → H' q = some o) := fun H' K' => ⟨_, _, _, ts, rfl, K' _ _ e7, by omega, fun t ht => (hR t ht).tk (TK.same (K7.trans K')), fun q o hq h => K' _ _ (K7 _ _ (k6 q o hq h))⟩
   walk_at "v"
   refine Xb w1.1 w2.1 ?_
   walk_at "v"
   refine Zz (fun _ => ?_) (fun _ => ?_)
   ·walk_at "v"
    refine ⟨sz1, fun z hz => ?_⟩
    obtain ⟨HZ, q, KZ, ez⟩ := nob (.tup [.int 0]) hz; rw [q]; clear q
    walk_at "v"
    refine ⟨z, _, _, rfl, rfl, ez, by omega, fun q0 HY KY eY => ?_⟩
    rw [rep_map] at eY
    have KZY := KZ.trans KY
    refine Xb (KZY _ _ w1.1) eY ?_
    walk_at "v"
    refine Zz (fun _ => ?_) (fun _ => ?_)
    ·walk_at "v"
     refine ⟨.inl ⟨rfl, _, SqL.of (KZY _ _ e7)⟩, ?_⟩
     walk_at "v"
     refine ⟨sz2, fun nt hnt => ?_⟩
     have KX := KZY.new (o := .tup [.ref q1, .ref q2]) hnt
     have eX : upd HY nt (.tup [.ref q1, .ref q2]) nt = some (.tup [.ref q1, .ref q2]) := zi
     generalize upd HY nt (.tup [.ref q1, .ref q2]) = HX at KX eX ⊢
     have eT := KX _ _ e7
     walk_at "v"
     refine ⟨tl, _, _, rfl, rfl, eT, lm1 (by omega), ?_⟩
     have tk : TK HX (upd HX tl (.lst (ts.map V.ref ++ [.ref nt]))) := TK.lst eT
     refine ⟨_, _, _, ts ++ [nt], rfl, by rw [zi, List.map_append]; rfl, by simp; omega, fun t ht => ?_, fun q o hq h => by rw [zl hq]; exact KX _ _ (K7 _ _ (k6 q o hq h))⟩
     rcases List.mem_append.mp ht with old | new
     ·exact (hR t old).tk ((TK.same (K7.trans KX)).trans tk)
     ·rw [List.mem_singleton.mp new]
      exact ⟨q1, q2, x1, x2, tk.t _ _ eX, tk.t _ _ (KX _ _ w1.1), tk.t _ _ (KX _ _ w2.1), w1.2.1, w2.2.1, w1.2.2, w2.2.2⟩
    ·exact skip _ KZY
   ·refine iteF ?_
    exact skip _ (Same.refl _)
  ·rintro σ H6 ⟨u8, u9, u10, ts, rfl, e6, hts, hR, k6⟩
   rw [List.length_map] at hts
   have T6 : Tq H6 p l ms (n + 16) := by
    obtain ⟨c, e, f, hp, r⟩ := T5.ex
    exact ⟨⟨c, e, f, k6 _ _ ntp hp, r⟩, k6 _ _ ntl T5.hl, T5.ne, T5.pos, T5.l64⟩
   have TK56 : TK H5 H6 := ⟨fun q xs e => k6 _ _ (yr e e5 (by intro z; cases z)) e, fun q o u e => k6 _ _ (yr e e5 (by intro z; cases z)) e⟩
   have b6 := k6 _ _ ntb t1'
   walk_at "v"
   refine ⟨p, l, ms, _, m, rfl, T6, by omega, by omega, fun ps xs H7 hxl exs T7 b7 => ?_⟩
   have TK67 := T6.tkb b7
   have BP6 : Bp p H H6 := fun q o hq e => k6 q o (zp e htlH) (BP5 q o hq e)
   have BP7 := BP6.trans b7
   have e7 := b7 _ _ (Ne.symm ntp) e6
   have bl7 := b7 _ _ (Ne.symm A0.b) b6
   walk_at "v"
   refine ⟨tl, _, rfl, .inl ⟨SqL.of e7, fun tt htt => ?_⟩⟩
   obtain ⟨H8, q, K8, e8⟩ := nob (.tup (ts.map V.ref)) htt; rw [q]; clear q
   walk_at "v"
   refine ⟨sz1, fun ti hti => ?_⟩
   have K9 : Same H8 (upd H8 ti (.tup [.int 0])) := Same.new (Same.refl _) hti
   have e9 : upd H8 ti (.tup [.int 0]) ti = some (.tup (([0] : List Int).map V.int)) := zi
   generalize upd H8 ti (.tup [.int 0]) = H9 at K9 e9 ⊢
   walk_at "v"
   refine ⟨bl, _, rfl, .inl ⟨SqL.of (K9 _ _ (K8 _ _ bl7)), fun tb htb => ?_⟩⟩
   obtain ⟨HA, q, KA, eA⟩ := nob (.tup (bs'.map V.int)) htb; rw [q]; clear q
   walk_at "v"
   refine ⟨sz5, fun q hq => ?_⟩
   obtain ⟨HB, q, KB, eB⟩ := nob (.tup [.ref ps, .ref tt, .ref ti, .ref tb, .int ans]) hq; rw [q]; clear q
   walk_at "v"
   refine ⟨sz2, fun z hz => ?_⟩
   obtain ⟨HC, q, KC, eC⟩ := nob (.tup [.ref q, .ref ak]) hz; rw [q]; clear q
   have K8C := ((K9.trans KA).trans KB).trans KC
   have K7C := K8.trans K8C
   have TK6C := TK67.trans (TK.same K7C)
   have TKall := (((TK3.trans TK34).trans (TK.same K5)).trans TK56).trans TK6C
   refine k z q ak ts [0] bs' ans m A HC eC ⟨⟨ps, tt, ti, tb, xs, KC _ _ eB, K7C _ _ exs, hxl, K8C _ _ e8, ((KA.trans KB).trans KC) _ _ e9, (KB.trans KC) _ _ eA⟩, fun r hr' => (hR r hr').tk TK6C, by omega, by omega, by omega, fun i hi => ?_, by show 1 ≤ 3; decide, hm, fun b hb => ?_, G.a0, by omega⟩ (hak3.tk (((TK34.trans (TK.same K5)).trans TK56).trans TK6C)) hok hsm ((T7.same K7C).up (by omega)) ⟨TKall, BP7.trans (Bp.same K7C)⟩
   ·rw [List.mem_singleton.mp hi]
    exact ⟨by decide, by omega⟩
   ·have := t3 b hb
    omega
 ·walk_at "v"
  refine ⟨p, l, ms, _, 2, rfl, T3, by omega, by decide, by decide, fun r c e f r0 r1 f0 f1 => ?_⟩
  have B4 := B3.draw (n' := n + 12) A0 (c := c) (d := e) (f := f) f0 (by omega)
  generalize upd H3 p (.lst [.ref l, .int c, .int e, .int f]) = H4 at B4 ⊢
  refine ⟨rfl, ?_⟩
  walk_at "v"
  refine iteD (fun _ => ?_) (fun _ => ?_)
  ·walk_at "v"
   refine ⟨p, l, rl, bl, ms, n + 12, bs.length, rfl, ⟨B4.tp, B4.sx, B4.bx, fun q o _ _ _ h => h⟩, A0, by omega, G.b0, G.b5, fun H5 B5 => ?_⟩
   refine yy ?_
   exact rest _ _ ⟨rfl, B5.tp.up (by omega), B5.sx, B5.bx, fun q o q1 q2 q3 h => B5.b3 q o q1 q2 q3 (B4.b3 q o q1 q2 q3 h)⟩
  ·obtain ⟨rs, ss', s1, s2, s3, s4, s5⟩ := id B4.sx
   exact rest _ _ ⟨rfl, B4.tp.up (by omega), ⟨rs, ss', s1, s2, s3, s4, fun z => z.elim⟩, B4.bx, B4.b3⟩
end
end K52
namespace PySem.SeqAt
open PySem.MeetsSeq PySem PySem.Spec
end PySem.SeqAt
namespace HT
open PySem PySem.Spec PyProof.Rows
end HT
namespace L2
open PySem PySem.Spec PyProof.Rows
inductive Th where
 | non
 | bl (b : Bool)
 | int (i : Int)
 | str (s : Str)
 | tup (ts : List Th)
 | lst
 | dct
mutual
inductive ThAt (H : Hp) : V → Th → Prop
 | non : ThAt H .non .non
 | bl (b : Bool) : ThAt H (.bl b) (.bl b)
 | int (i : Int) : ThAt H (.int i) (.int i)
 | str (s : Str) : ThAt H (.str s) (.str s)
 | tup {p : Addr} {vs : List V} {ts : List Th} : H p = some (.tup vs) → ThsAt H vs ts → ThAt H (.ref p) (.tup ts)
 | lst {p : Addr} {vs : List V} : H p = some (.lst vs) → ThAt H (.ref p) .lst
 | dct {p : Addr} {kvs : List (Key × V)} : H p = some (.dK kvs) → ThAt H (.ref p) .dct
inductive ThsAt (H : Hp) : List V → List Th → Prop
 | nil : ThsAt H [] []
 | cons {v : V} {t : Th} {vs : List V} {ts : List Th} : ThAt H v t → ThsAt H vs ts → ThsAt H (v :: vs) (t :: ts)
end
structure KS (H H' : Hp) : Prop where
 t : ∀ q xs, H q = some (.tup xs) → H' q = some (.tup xs)
 l : ∀ q xs, H q = some (.lst xs) → ∃ ys, H' q = some (.lst ys)
 d : ∀ q xs, H q = some (.dK xs) → ∃ ys, H' q = some (.dK ys)
section
variable {H H' H'' : Hp} {a : Addr}
mutual
theorem ThAt.ks (k : KS H H') {v : V} {t : Th} : ThAt H v t → ThAt H' v t
 | .non => .non
 | .bl b => .bl b
 | .int i => .int i
 | .str s => .str s
 | .tup h hs => .tup (k.t _ _ h) (ThsAt.ks k hs)
 | .lst h => let ⟨_, h'⟩ := k.l _ _ h; .lst h'
 | .dct h => let ⟨_, h'⟩ := k.d _ _ h; .dct h'
theorem ThsAt.ks (k : KS H H') {vs : List V} {ts : List Th} : ThsAt H vs ts → ThsAt H' vs ts
 | .nil => .nil
 | .cons h hs => .cons (ThAt.ks k h) (ThsAt.ks k hs)
end
end
def Th.tn : Th → String
 | .non => "NoneType"
 | .bl _ => "bool"
 | .int _ => "int"
 | .str _ => "str"
 | .tup _ => "tuple"
 | .lst => "list"
 | .dct => "dict"
def Th.isI : Th → Bool
 | .bl _ => true
 | .int _ => true
 | _ => false
def Th.isT : Th → Bool
 | .tup _ => true
 | _ => false
def GTup (K : W.Frag) (mg : Str → Option Value) (x : Str) (vs : List V) : Prop := ∃ (a : Addr) (o : Obj) (its : Array Value) (n : Nat), mg x = some (.ref a) ∧ K.lookup a = some o ∧ o.cls = .type "tuple" ∧ o.data = .seq its n ∧ its.size ≤ sizeLine ∧ Vals vs its.toList
end L2
namespace L2
open PySem PySem.Spec PyProof.Rows Builtin Builtin.Str
end L2
namespace L2
open PySem
end L2
namespace L2
open PySem PyProof.Rows
def sg (x : Str) : List Str := x.cps.toList.map fun c => ⟨#[c]⟩
theorem sg_len (x : Str) : (sg x).length = x.cps.size := by unfold sg; rw [List.length_map, Array.length_toList]
theorem Xo {x : Str} {i : Nat} {c : Nat} (h : x.cps[i]? = some c) : (sg x)[i]? = some ⟨#[c]⟩ := by
 unfold sg
 rw [List.getElem?_map, Array.getElem?_toList, h]
 rfl
def Its (x : Str) : It := ⟨fun i _ => i < x.cps.size, fun i H v H' => H' = H ∧ ∃ y, (sg x)[i]? = some y ∧ v = .str y, fun i _ => x.cps.size ≤ i⟩
section
variable {P : Program} {w : World} {K : W.Frag} {tg : Expr}
theorem turn_sa (x : Str) (t : Tok) (it : Addr) : Turn P w K tg (Its x) [it] it (fun i h => h.IsStrIter it "str_ascii_iterator" x t i) where
 mem := by simp
 obj := fun i h st b hb => by
  obtain rfl : b = it := by simpa using hb
  obtain ⟨o, e, c, d⟩ := st
  exact ⟨o, e, fun v z => by rw [d] at z; cases z⟩
 keep := fun i h h' st k => let ⟨o, e, c, d⟩ := st; ⟨o, k it (by simp) o e, c, d⟩
 item := by
  intro X hP hw hK hc i pins s σ H E I hf st hg
  subst hP hw hK
  obtain ⟨cp, hx⟩ : ∃ cp, x.cps[i]? = some cp := ⟨x.cps[i]'hg, Array.getElem?_eq_getElem hg⟩
  obtain ⟨f0, f1, f2, f3, f4, f5⟩ := hf it (by simp)
  refine wpAny_pyNext_ascii_item st hx fun h1 st1 sb => ?_
  have I1 : Inv X pins σ H { s with heap := h1, toks := s.toks + 1 } := I.turned (t' := s.toks + 1) (fun b o hb e => (sb.2 b hb).trans e) f0 f1 f3 f4 f5
  obtain ⟨o, e, c, d⟩ := id st1
  exact ⟨_, rfl, ZA (s := { s with heap := h1, toks := s.toks + 1 }) e c d (by decide) ⟨.str ⟨#[cp]⟩, H, I1, ⟨_, rfl⟩, ⟨rfl, _, Xo hx, rfl⟩, st1, fun b hb => (hf b hb).1⟩⟩
 done := by
  intro X hP hw hK hc i pins s σ H E I hf st hg
  subst hP hw hK
  obtain ⟨f0, f1, f2, f3, f4, f5⟩ := hf it (by simp)
  exact wpAny_pyNext_ascii_end (I.ok.hd hc) st (by simp; exact hg) fun h1 eb => ⟨rfl, I.turned (t' := s.toks) (fun b o hb e => eb b o hb e) f0 f1 f3 f4 f5⟩
 self := fun _ _ _ _ _ st h => wpAny_pyIter_striter_ascii st h
theorem turn_sw (x : Str) (t : Tok) (it : Addr) : Turn P w K tg (Its x) [it] it (fun i h => h.IsStrIter it "str_iterator" x t i) where
 mem := by simp
 obj := fun i h st b hb => by
  obtain rfl : b = it := by simpa using hb
  obtain ⟨o, e, c, d⟩ := st
  exact ⟨o, e, fun v z => by rw [d] at z; cases z⟩
 keep := fun i h h' st k => let ⟨o, e, c, d⟩ := st; ⟨o, k it (by simp) o e, c, d⟩
 item := by
  intro X hP hw hK hc i pins s σ H E I hf st hg
  subst hP hw hK
  obtain ⟨cp, hx⟩ : ∃ cp, x.cps[i]? = some cp := ⟨x.cps[i]'hg, Array.getElem?_eq_getElem hg⟩
  obtain ⟨f0, f1, f2, f3, f4, f5⟩ := hf it (by simp)
  refine wpAny_pyNext_wide_item st hx fun h1 st1 sb => ?_
  have I1 : Inv X pins σ H { s with heap := h1, toks := s.toks + 1 } := I.turned (t' := s.toks + 1) (fun b o hb e => (sb.2 b hb).trans e) f0 f1 f3 f4 f5
  obtain ⟨o, e, c, d⟩ := id st1
  exact ⟨_, rfl, ZA (s := { s with heap := h1, toks := s.toks + 1 }) e c d (by decide) ⟨.str ⟨#[cp]⟩, H, I1, ⟨_, rfl⟩, ⟨rfl, _, Xo hx, rfl⟩, st1, fun b hb => (hf b hb).1⟩⟩
 done := by
  intro X hP hw hK hc i pins s σ H E I hf st hg
  subst hP hw hK
  obtain ⟨f0, f1, f2, f3, f4, f5⟩ := hf it (by simp)
  exact wpAny_pyNext_wide_end (I.ok.hd hc) st (by simp; exact hg) fun h1 eb => ⟨rfl, I.turned (t' := s.toks) (fun b o hb e => eb b o hb e) f0 f1 f3 f4 f5⟩
 self := fun _ _ _ _ _ st h => wpAny_pyIter_striter_wide st h
end
section
variable {X : Cx} {tg : Expr}
def iTx (te : TE) : TI := fun σ H R => te σ H fun v H1 => ∃ x, v = .str x ∧ R (Its x) H1
theorem Xv {l : Expr} {tl : TE} (hl : PE X l tl) : PI X tg l (iTx tl) := by
 intro pins s σ H R I h
 refine thn (hl pins s σ H _ I h) fun v s1 ⟨x, H1, I1, r1, q1⟩ => ?_
 obtain ⟨y, rfl, q⟩ := q1
 obtain ⟨t, rfl⟩ := r1
 have new : ∀ b, b ∈ [s1.heap.objs.size] → FpOk X pins H1 b := fun b hb => by
  obtain rfl : b = s1.heap.objs.size := by simpa using hb
  exact I1.fpOk (Nat.le_refl _) (I1.hok.fresh (Nat.le_refl _))
 cases ha : y.cps.all (· < 128) with
 | true =>
  refine wpAny_pyIter_ascii ha ?_
  exact ⟨s1.heap.objs.size, [s1.heap.objs.size], _, _, H1, rfl, I1.kept (t' := s1.toks) fun b o e => Heap.get?_push_of_some _ e, turn_sa y t _, ⟨_, Heap.get?_push_size _ rfl, rfl, rfl⟩, new, q⟩
 | false =>
  refine wpAny_pyIter_wide ha ?_
  exact ⟨s1.heap.objs.size, [s1.heap.objs.size], _, _, H1, rfl, I1.kept (t' := s1.toks) fun b o e => Heap.get?_push_of_some _ e, turn_sw y t _, ⟨_, Heap.get?_push_size _ rfl, rfl, rfl⟩, new, q⟩
end
theorem ZX {te : TE} {n : Nat} {ix : List Nat} {g : TG} {tc : TT} {te' : TE} {σ : St} {H : Hp} {Q : VK} (h : te σ H fun v H1 => ∃ x, v = .str x ∧ ∀ D, H1 D = none → CGo (Its x) D g tc te' Q (List.replicate n none ++ sub ix σ) H1) : wa (iTx te) n ix g tc te' σ H Q := h
theorem Y9 {D : Addr} {tc : TT} {te : TE} {Q : VK} {ρ : St} {H : Hp} {x : Str} (Pv : Nat → List V → Hp → Prop) (h0 : Pv 0 [] (upd H D (.lst [])))
  (hs : ∀ i y ys H', (sg x)[i]? = some y → Pv i ys H' → H' D = some (.lst ys) → ∀ (R : V → Hp → Prop) (S : Hp → Prop), (∀ z H4, H4 D = some (.lst ys) → ys.length < sizeLine → Pv (i + 1) (ys ++ [z]) (upd H4 D (.lst (ys ++ [z]))) → R z H4) → (∀ H3, H3 D = some (.lst ys) → Pv (i + 1) ys H3 → S H3) →
   tc (some (.str y) :: ρ) H' fun b H3 => if b = true then te (some (.str y) :: ρ) H3 R else S H3)
  (hd : ∀ ys H', Pv (sg x).length ys H' → H' D = some (.lst ys) → Q (.ref D) H') : CGo (Its x) D (yi 0) tc te Q (none :: ρ) H := by
 have hl := sg_len x
 refine ⟨fun i m τ ys H' => m = x.cps.size - i ∧ i ≤ x.cps.size ∧ (∃ tv, τ = tv :: ρ) ∧ Pv i ys H' ∧ H' D = some (.lst ys), ⟨x.cps.size, by omega, Nat.zero_le _, ⟨_, rfl⟩, h0, zi⟩, ?_⟩
 rintro i m τ ys H' ⟨rfl, hi, ⟨tv, rfl⟩, hp, hD⟩
 refine ⟨hD, ?_⟩
 by_cases hlt : i < x.cps.size
 ·refine .inr ⟨hlt, ?_⟩
  rintro v H2 ⟨rfl, y, hy, rfl⟩
  refine hs i y ys _ hy hp hD _ _ (fun z H4 e4 hz p4 => ?_) (fun H3 e3 p3 => ?_)
  ·exact ⟨e4, hz, x.cps.size - (i + 1), by omega, rfl, by omega, ⟨_, rfl⟩, p4, zi⟩
  ·exact ⟨x.cps.size - (i + 1), by omega, rfl, by omega, ⟨_, rfl⟩, p3, e3⟩
 ·have e : i = (sg x).length := by omega
  subst e
  exact .inl ⟨by show x.cps.size ≤ _; omega, hd ys H' hp hD⟩
end L2
namespace PySem.W
open PySem PySem.Calls PyProof.Rows
def KasT.eval {α : Type} (lt : Nat → Nat → Bool) : KasT α → α
 | .ret a => a
 | .ask i j k => (k (lt i j)).eval lt
inductive Nums : List Value → List Int → Prop
 | nil : Nums [] []
 | cons {i : Int} {t : Tok} {us : List Value} {ns : List Int} : Nums us ns → Nums (.int i t :: us) (i :: ns)
end PySem.W
namespace PySem
open Sem (wp)
open AutoSeq1 (wpAny_loadPart')
section
variable {prog : Program} {w : World} {A : Around} {E : Value → Shared → Prop} {s : Shared}
theorem collect_rng {Q : List Value → Shared → Prop} {r : Addr} {a b c : Int} {t u v : Tok} {n : Nat} (hh : A.handled = none) (hr : IsRange s.heap r a b c t u v) (hsmall : Builtin.Range.small a b c = true) (hn : Builtin.Range.rangeSize a b c = n) (hlen : n ≤ 2 ^ 24)
  (hQ : ∀ (s' : Shared) (acc : Array Value), (∀ b o, s.heap.get? b = some o → s'.heap.get? b = some o) → s'.gens = s.gens → s'.drawn = s.drawn → s'.os = s.os → ItemsOf (fun i v => ∃ t, v = .int (a + i * c) t) acc n → Q acc.toList s') : wpAny (model prog w) A (collect (.ref r)) Q E s := by
 unfold collect
 refine wpAny_bind (wpAny_runValue (codeAny_builtin F.entry_proto_collect ?_))
 rw [Around.under_plainId F.plain_proto_collect _]
 show wpAny _ A.in1 (newList [] >>= fun l => again (.builtin "list.__iadd__" ⟨[l, .ref r], []⟩)) _ _ s
 refine wpAny_bind (wpAny_newObj_type ?_)
 refine wpAny_pure ⟨plainId_quiet F.plain_list_iadd _, codeAny_builtin F.entry_list_iadd ?_⟩
 rw [Around.under_plainId F.plain_list_iadd _]
 have hS : (s.heap.push { cls := .type "list", data := .seq ([] : List Value).toArray }).get? s.heap.objs.size = some { cls := .type "list", data := .seq #[] 0 } := Heap.get?_push_size _ rfl
 show wpAny _ A.in1 (Builtin.List.listExtendWith (.ref s.heap.objs.size) (.ref r) (.ref s.heap.objs.size)) _ _ _
 refine wpAny_extend_range (A := A) (R := fun (z : Result) (s' : Shared) => match z with
  | .ok (.ret v) => wpAny (model prog w) A (match v with
   | .ref a => do match (← load a).data with
    | .seq xs _ => pure xs.toList
    | _ => unsupported "internal:collect"
   | _ => unsupported "internal:collect") Q E s'
  | .ok _ => False
  | .error e => E e s') (s := { s with heap := s.heap.push { cls := .type "list", data := .seq ([] : List Value).toArray } }) hh (Heap.get?_push_of_some _ hr) hsmall hn hlen s.heap.objs.size (.ref s.heap.objs.size) 0 hS fun h' tk acc' c' hk hS' hacc => ?_
 show wpAny _ A (load s.heap.objs.size >>= _) _ _ _
 refine wpAny_bind (wpAny_load hS' (wpAny_pure ?_))
 exact hQ { s with heap := h', toks := tk } acc' (fun b o e => hk b o (Nat.ne_of_lt (Heap.lt_size e)) (Heap.get?_push_of_some _ e)) rfl rfl rfl hacc
theorem new_tuple_rng (r : Addr) (o : Obj) (a b c : Int) (t u v : Tok) (n : Nat) (hsmall : Builtin.Range.small a b c = true) (hn : Builtin.Range.rangeSize a b c = n) (hlen : n ≤ 2 ^ 24) :
  Meets (Builtin.«tuple.__new__» ⟨[.type "tuple", .ref r], []⟩)
   (fun A R s => A.handled = none ∧ IsRange s.heap r a b c t u v ∧ ∀ (s' : Shared) (acc : Array Value), (∀ b o, s.heap.get? b = some o → s'.heap.get? b = some o) → s'.gens = s.gens → s'.drawn = s.drawn → s'.os = s.os → ItemsOf (fun i v => ∃ t, v = .int (a + i * c) t) acc n →
    R (.ok (.ret (.ref s'.heap.objs.size))) { s' with heap := s'.heap.push { cls := .type "tuple", data := .seq acc } }) :=
 .of_wp fun prog w A R s h => by
  obtain ⟨hh, hr, h⟩ := h
  have hsub := sub_tuple_self
  have hinit := init_tuple_lookup
  have hmh := madeHere_tuple
  have hT : s.TypeIs (.ref r) "range" := ⟨_, hr, rfl⟩
  have hh1 : A.in1.handled = none := hh
  wp_walk using wpAny_typeOf hT, collect_rng hh1 hr hsmall hn hlen
  intro s' acc hk hg hd hos hacc
  show wpAny _ _ (Builtin.Tuple.tupleExact acc.toList.toArray >>= fun v => ret v) _ _ _
  unfold Builtin.Tuple.tupleExact
  refine wpAny_bind (wpAny_newObj_type ?_ (show acc.toList.toArray.size ≤ sizeLine by simp only [Array.toArray_toList]; rw [hacc.1, sizeLine_eq]; omega))
  refine wpAny_pure ⟨_, rfl, ?_⟩
  have e : acc.toList.toArray = acc := by simp
  rw [e]
  exact h s' acc hk hg hd hos hacc
theorem call_tuple_rng {Q : Value → Shared → Prop} {r : Addr} {a b c : Int} {t u v : Tok} {n : Nat} (hh : A.handled = none) (hr : IsRange s.heap r a b c t u v) (hsmall : Builtin.Range.small a b c = true) (hn : Builtin.Range.rangeSize a b c = n) (hlen : n ≤ 2 ^ 24)
  (h : ∀ (h' : Heap) (tk : Nat) (acc : Array Value), (∀ b o, s.heap.get? b = some o → h'.get? b = some o) → ItemsOf (fun i v => ∃ t, v = .int (a + i * c) t) acc n → Q (.ref h'.objs.size) { s with heap := h'.push { cls := .type "tuple", data := .seq acc }, toks := tk }) :
  wpAny (model prog w) A (call (.type "tuple") [.ref r]) Q E s := by
 refine callType_new F.called_tuple (by decide) (F.typeCall_tuple_1 _) (F.newCall_tuple_1 _) (fun obj => F.args_object_init_2 obj _) F.entry_tuple_new
  (new_tuple_rng r default a b c t u v n hsmall hn hlen) ⟨hh, hr, fun s' acc hk hg hd hos hacc => ⟨⟨_, Heap.get?_push_size _ rfl, rfl⟩, ?_⟩⟩
 obtain ⟨h', g', d', tk', os'⟩ := s'
 have e1 : g' = s.gens := hg
 have e2 : d' = s.drawn := hd
 have e3 : os' = s.os := hos
 subst e1 e2 e3
 exact h h' tk' acc hk hacc
end
end PySem
namespace L2
open PySem PySem.Spec PyProof.Rows
section
variable {X : Cx} {k : Nat}
def rTupR : List V → Hp → VK → Prop := fun xs H Q => ∃ (p : Addr) (n : Nat), xs = [.ref p] ∧ H p = some (.rng 0 (n : Int)) ∧ n ≤ 1000 ∧ ∀ l, H l = none → Q (.ref l) (upd H l (.tup ((List.range n).map fun (i : Nat) => V.int (i : Int))))
theorem call_tupRng (hr : Room k X.A) : yk X (.type "tuple") rTupR := by
 intro pins s σ H xs us Q I r h
 obtain ⟨p, n, rfl, hp, hn, q⟩ := h
 obtain ⟨u, rfl, ru⟩ := r.one
 cases ru
 obtain ⟨t, u, v, e⟩ := I.hok p _ hp
 refine call_tuple_rng (n := n) hr.hd e (small_one (by omega) (by omega) (by omega) (by omega)) (by rw [rangeSize_one]; split <;> omega) (by omega) fun h' tk acc hk hacc => ?_
 have I1 : Inv X pins σ H { s with heap := h', toks := tk } := I.kept (t' := tk) hk
 refine ⟨.ref h'.objs.size, _, I1.laid (t' := tk) (fun b o e => Heap.get?_push_of_some _ e) (Nat.le_refl _) ?_, rfl, q _ (I1.hok.fresh (Nat.le_refl _))⟩
 obtain ⟨hsz, hit⟩ := hacc
 refine ⟨by rw [List.length_map, List.length_range]; exact Nat.le_of_lt (zt hn), acc.toList, vN (by simp [hsz]) fun j x u ex eu => ?_, _, Heap.get?_push_size _ rfl, rfl, 0, by simp⟩
 have hj : j < n := by
  have := (List.getElem?_eq_some_iff.mp ex).1
  simpa using this
 rw [List.getElem?_map, List.getElem?_range hj] at ex
 have ex' : V.int (j : Int) = x := Option.some.inj ex
 subst ex'
 obtain ⟨t, ht⟩ := hit j u (by simpa using eu)
 subst ht
 exact ⟨t, by simp⟩
end
section
variable {X : Cx}
def rSlS : V → Option Int → Option Int → Hp → VK → Prop := fun x lo hi H Q => ∃ z, x = .str z ∧ z.length ≤ 1000 ∧ Q (.str (Txt.slice z lo hi)) H
theorem Yg {v : Value} {o : Option Int} (h : IsPart v o) : ∃ p : Option (Int × Tok), v = partValue p ∧ p.map (·.1) = o := by
 cases h with
 | none => exact ⟨none, rfl, rfl⟩
 | int i t => exact ⟨some (i, t), rfl, rfl⟩
theorem YF : SlR X rSlS := by
 intro pins s σ H x v vl vu lo hi sl Q I rx hs pl pu h
 obtain ⟨z, rfl, hz, q⟩ := h
 obtain ⟨t, rfl⟩ := rx
 obtain ⟨l, rfl, rfl⟩ := Yg pl
 obtain ⟨u, rfl, rfl⟩ := Yg pu
 refine ⟨"str", _, PySem.F.slot_str_getitem.lookup, typeIs_str s z t, ?_⟩
 refine getItem_meets (typeIs_str s z t) (by decide) PySem.F.slot_str_getitem PySem.F.entry_str_getitem (PySem.F.args_str_getitem_2 _ _) (meets_str_getitem_slice z t sl l u none rfl) ⟨hs, ?_⟩
 have e : sliceMade z t l u none = if ((1 : Int) == 1 && (Builtin.Str.strSliceIndices (l.map (·.1)) (u.map (·.1)) 1 z.length).length == z.length) = true then .val (.str z t) else .str ⟨((Builtin.Str.strSliceIndices (l.map (·.1)) (u.map (·.1)) 1 z.length).filterMap (z.cps[·]?)).toArray⟩ := rfl
 rw [e]
 have hlen := sliceIndices_le (l.map (·.1)) (u.map (·.1)) z.length
 unfold Txt.slice at q
 by_cases hc : ((1 : Int) == 1 && (Builtin.Str.strSliceIndices (l.map (·.1)) (u.map (·.1)) 1 z.length).length == z.length) = true
 ·rw [if_pos hc] at q ⊢
  exact ⟨.str z, H, I, ⟨t, rfl⟩, q⟩
 ·rw [if_neg hc] at q ⊢
  refine ⟨?_, .str _, H, I.tok _, ⟨_, rfl⟩, q⟩
  refine Nat.le_of_lt (zt ?_)
  show ((Builtin.Str.strSliceIndices (l.map (·.1)) (u.map (·.1)) 1 z.length).filterMap (z.cps[·]?)).toArray.size ≤ 1000
  rw [List.size_toArray]
  exact Nat.le_trans (List.length_filterMap_le _ _) (by omega)
end
structure Fly (lo : Nat) (h : Heap) (H : Hp) (a : Addr) (T : Option Addr) (C : Value) (d : Option Addr) (fl : Value) : Prop where
 at_ : ∃ (vs : Array Value) (sl : Array (Option Value)), h.get? a = some ⟨C, d, .fields vs, sl⟩ ∧
  (match T with
   | none => vs[1]? = some .none
   | some t => vs[1]? = some (.ref t) ∧ t ≠ a ∧ ∃ oT ts, h.get? t = some oT ∧ oT.data = .fields ts ∧ ts[3]? = some fl)
 lo : ∀ b ∈ a :: T.toList, lo ≤ b ∧ H b = none
theorem Fly.mono {lo lo' : Nat} {h : Heap} {H : Hp} {a : Addr} {T : Option Addr} {C : Value} {d : Option Addr} {fl : Value} (f : Fly lo h H a T C d fl) (hl : lo' ≤ lo) : Fly lo' h H a T C d fl :=
 ⟨f.at_, fun b hb => ⟨Nat.le_trans hl (f.lo b hb).1, (f.lo b hb).2⟩⟩
theorem Fly.rcd {lo : Nat} {h : Heap} {H : Hp} {a : Addr} {T : Option Addr} {C : Value} {d : Option Addr} {fl : Value} (f : Fly lo h H a T C d fl) : ∀ b ∈ a :: T.toList, ∃ o vs, h.get? b = some o ∧ o.data = .fields vs := by
 obtain ⟨vs, sl, ha, hT⟩ := f.at_
 intro b hb
 rcases List.mem_cons.mp hb with e | hb
 ·rw [e]; exact ⟨_, vs, ha, rfl⟩
 ·cases T with
  | none => cases hb
  | some t =>
   obtain ⟨_, _, oT, ts, h1, h2, _⟩ := hT
   rcases List.mem_singleton.mp hb with rfl
   exact ⟨oT, ts, h1, h2⟩
theorem v5 {P : Program} {w : World} {fs ch : List Addr} {H : Hp} {h h' : Heap} (ok : HOk P w H h) (k : ∀ b o, h.get? b = some o → b ∉ fs → b ∉ ch → h'.get? b = some o) (hf : ∀ b ∈ fs, H b = none) (hc : ∀ b ∈ ch, H b = none) : HOk P w H h' := fun a o e => by
 have st : ∀ b u, H b = some u → ∀ ob, h.get? b = some ob → h'.get? b = some ob := fun b u hb ob q => k b ob q (fun z => by rw [hf b z] at hb; cases hb) fun z => by rw [hc b z] at hb; cases hb
 refine (ok a o e).stay (fun b u hb q => ?_) (fun _ q => q) fun _ _ q => q
 rcases hb with rfl | hb
 ·exact st _ _ e _ q
 ·exact st _ _ hb _ q
theorem Yw {fs ch : List Addr} {H : Hp} {h h' : Heap} (k : ∀ b o, h.get? b = some o → b ∉ fs → b ∉ ch → h'.get? b = some o) (sl : ∀ b o, h.get? b = some o → b ∉ ch → ∃ z, h'.get? b = some { o with slots := z }) : Un fs ch H H h h' where
 keep := fun b o q _ hb hx => k b o q hb hx
 slot := fun b o q _ _ hx => sl b o q hx
 free := fun b o _ n _ => n
 there := fun b o q hx => let ⟨_, e⟩ := sl b o q hx; ⟨_, e⟩
 tups := fun _ _ q => q
 frzs := fun _ _ _ q => q
 tbls := fun b ps e => ⟨#[], by rw [e]; simp⟩
section
variable {M : Model} {A : Around} {E : Value → Shared → Prop} {s : Shared} {base : Heap} {env : Env} {outer : List Env} {L a : Addr} {T : Option Addr} {C : Value} {d : Option Addr} {H : Hp} {lo : Nat} {fl : Value} {Q : Unit → Shared → Prop}
theorem Yn {oe : Obj} {vs : Array Value} {head : Value} {hadNext : Bool} (hfr : A.frames = some (env :: outer)) (hl : s.heap.FunFrames base (env :: outer)) (hf : env.frame = some L)
  (he : s.heap.get? a = some oe) (hd : oe.data = .fields vs) (hsz : 1 < vs.size)
  (h : ∀ h' T', s.heap.objs.size ≤ T' → T' ≠ a → h'.get? a = some { oe with data := .fields (vs.setIfInBounds 1 (.ref T')) } → (∃ oT ts, h'.get? T' = some oT ∧ oT.data = .fields ts ∧ ts[3]? = some (rawInt L)) →
   (∀ b o, s.heap.get? b = some o → b ∉ frs (env :: outer) → b ≠ a → h'.get? b = some o) → (∀ b o, s.heap.get? b = some o → b ≠ a → ∃ z, h'.get? b = some { o with slots := z }) → Q () { s with heap := h' }) :
  wpAny M A (do let x ← frameOf env; let pl ← entryPlaceOf L hadNext; let b ← EntryCells.newEntry head x .none (rawInt L) .none pl; setField (.ref a) 1 b) Q E s := by
 have hene : a ∉ (env :: outer).filterMap (·.frame) := fun hm => by
  obtain ⟨_, o, ho, hnf⟩ := hl.mem hm
  rw [he] at ho; injection ho with ho; subst ho; exact hnf vs hd
 refine wpAny_bind (wpAny_frameOf_fun hfr hl hf fun h₁ hs₁ => ?_)
 refine wpAny_bind (wpAny_entryPlaceOf fun pl hpl => ?_)
 unfold EntryCells.newEntry newFields
 refine wpAny_bind (wpAny_newObj_type ?_ (hpl.sizeOk5 _ _ _ _ _))
 have he₁ : h₁.get? a = some oe := (hs₁.2.1 a hene).trans he
 have he₂ := Heap.get?_push_of_some (h := h₁) { cls := .type "traceback", dict := none, data := .fields ([head, .ref L, .none, rawInt L, .none] ++ (if pl.isEmpty then List.replicate 6 Value.none else pl)).toArray } he₁
 refine wpAny_setField he₂ hd hsz ?_
 have hTe : h₁.objs.size ≠ a := Nat.ne_of_gt (Heap.lt_size he₁)
 have hd₃ := Obj.data_mapFields hd (·.setIfInBounds 1 (Value.ref h₁.objs.size))
 have he₃ := Heap.get?_update_self (Obj.mapFields (·.setIfInBounds 1 (Value.ref h₁.objs.size))) he₂ (Obj.isFreed_of_fields hd₃)
 have hT₃ := (Heap.get?_update_other (h₁.push { cls := .type "traceback", dict := none, data := .fields ([head, .ref L, .none, rawInt L, .none] ++ (if pl.isEmpty then List.replicate 6 Value.none else pl)).toArray })
  (Obj.mapFields (·.setIfInBounds 1 (Value.ref h₁.objs.size))) (Ne.symm hTe)).trans (Heap.get?_push_size h₁ rfl)
 have keep : ∀ b o, b ≠ a → h₁.get? b = some o →
   ((h₁.push { cls := .type "traceback", dict := none, data := .fields ([head, .ref L, .none, rawInt L, .none] ++ (if pl.isEmpty then List.replicate 6 Value.none else pl)).toArray }).update a (Obj.mapFields (·.setIfInBounds 1 (Value.ref h₁.objs.size)))).get? b = some o :=
  fun b o hbe hb => by
   rw [Heap.get?_update_other _ _ (Ne.symm hbe)]
   exact Heap.get?_push_of_some _ hb
 have hmf : Obj.mapFields (·.setIfInBounds 1 (Value.ref h₁.objs.size)) oe = { oe with data := .fields (vs.setIfInBounds 1 (.ref h₁.objs.size)) } := by
  obtain ⟨oc, od, odt, osl⟩ := oe
  have : odt = .fields vs := hd
  subst this
  rfl
 refine h _ h₁.objs.size (Nat.le_of_eq hs₁.1.symm) hTe (by rw [← hmf]; exact he₃) ⟨_, _, hT₃, rfl, ?_⟩ (fun b o hb hnf hne => keep b o hne ((hs₁.2.1 b hnf).trans hb)) fun b o hb hne => ?_
 ·first | (simp; done) | (rcases hpl with rfl | ⟨_, _, _, _, _, _, _, rfl⟩ <;> simp)
 ·obtain ⟨z, hz⟩ := hs₁.2.2 b o hb
  exact ⟨z, keep b _ hne hz⟩
theorem YV (hfr : A.frames = some (env :: outer)) (hl : s.heap.FunFrames base (env :: outer)) (hf : env.frame = some L) (F : Fly lo s.heap H a T C d .none) (hlo : lo ≤ s.heap.objs.size) (hH : ∀ b, s.heap.objs.size ≤ b → H b = none)
  (h : ∀ h' T', Fly lo h' H a (some T') C d (rawInt L) → s.heap.objs.size ≤ T' → (∀ b o, s.heap.get? b = some o → b ∉ frs (env :: outer) → b ∉ a :: T.toList → h'.get? b = some o) →
   (∀ b o, s.heap.get? b = some o → b ∉ a :: T.toList → ∃ z, h'.get? b = some { o with slots := z }) → Q () { s with heap := h' }) :
  wpAny M A (noteFrame (.ref a) env) Q E s := by
 obtain ⟨⟨vs, sl, ha, hT⟩, hlow⟩ := F
 unfold noteFrame
 simp only [hf]
 cases T with
 | none =>
  refine wpAny_bind (wpAny_field ha rfl hT ?_)
  rw [if_neg (by decide)]
  refine Yn hfr hl hf ha rfl (Array.getElem?_eq_some_iff.mp hT).1 fun h' T' hs hne he htb k1 k2 => ?_
  obtain ⟨oT, ts, t1, t2, t3⟩ := htb
  refine h h' T' ⟨⟨_, sl, he, by simp [(Array.getElem?_eq_some_iff.mp hT).1], hne, oT, ts, t1, t2, t3⟩, fun b hb => ?_⟩ hs (fun b o hb hn hc => k1 b o hb hn fun z => hc (by simp [z])) fun b o hb hc => k2 b o hb fun z => hc (by simp [z])
  rcases List.mem_cons.mp hb with e | hb
  ·rw [e]; exact hlow a List.mem_cons_self
  ·rcases List.mem_singleton.mp hb with rfl
   exact ⟨Nat.le_trans hlo hs, hH _ hs⟩
 | some t =>
  obtain ⟨h1, hta, oT, ts, g1, g2, g3⟩ := hT
  refine wpAny_bind (wpAny_field ha rfl h1 ?_)
  rw [if_pos (show (Value.ref t != Value.none) = true from by simp)]
  refine wpAny_bind (wpAny_field g1 g2 g3 ?_)
  rw [if_neg (show ¬ ((Value.none == rawInt L) = true) from by simp [rawInt])]
  refine wpAny_bind (wpAny_setField g1 g2 (Array.getElem?_eq_some_iff.mp g3).1 ?_)
  have other : ∀ b, b ≠ t → (s.heap.update t (Obj.mapFields (·.setIfInBounds 3 Value.none))).get? b = s.heap.get? b := fun b hb => Heap.get?_update_other _ _ (Ne.symm hb)
  have noRecord : ∀ b o, s.heap.get? b = some o → (∀ vs, o.data ≠ .fields vs) → b ≠ t := fun b o hb hnf q => by
   rw [q, g1] at hb; injection hb with hb; subst hb; exact hnf ts g2
  have szu : (s.heap.update t (Obj.mapFields (·.setIfInBounds 3 Value.none))).objs.size = s.heap.objs.size := Heap.size_after_update ..
  refine Yn (s := { s with heap := s.heap.update t (Obj.mapFields (·.setIfInBounds 3 Value.none)) }) hfr (hl.of_keeps fun b o hb hnf => ⟨o, (other b (noRecord b o hb hnf)).trans hb, rfl⟩) hf ((other a (Ne.symm hta)).trans ha) rfl (Array.getElem?_eq_some_iff.mp h1).1 fun h' T' hs hne he htb k1 k2 => ?_
  have hs' : s.heap.objs.size ≤ T' := by
   have hs : (s.heap.update t (Obj.mapFields (·.setIfInBounds 3 Value.none))).objs.size ≤ T' := hs
   rw [szu] at hs; exact hs
  obtain ⟨oT', ts', t1, t2, t3⟩ := htb
  refine h h' T' ⟨⟨_, sl, he, by simp [(Array.getElem?_eq_some_iff.mp h1).1], hne, oT', ts', t1, t2, t3⟩, fun b hb => ?_⟩ hs' (fun b o hb hn hc => k1 b o ((other b fun z => hc (by simp [z])).trans hb) hn fun z => hc (by simp [z])) fun b o hb hc => k2 b o ((other b fun z => hc (by simp [z])).trans hb) fun z => hc (by simp [z])
  rcases List.mem_cons.mp hb with e | hb
  ·rw [e]; exact hlow a List.mem_cons_self
  ·rcases List.mem_singleton.mp hb with rfl
   exact ⟨Nat.le_trans hlo hs', hH _ hs'⟩
theorem ZS {t : Addr} (F : Fly lo s.heap H a (some t) C d fl)
  (h : ∀ h', Fly lo h' H a (some t) C d .none → (∀ b o, s.heap.get? b = some o → b ≠ t → h'.get? b = some o) → Q () { s with heap := h' }) : wpAny M A (setFlight (.ref a) none) Q E s := by
 obtain ⟨⟨vs, sl, ha, h1, hta, oT, ts, g1, g2, g3⟩, hlow⟩ := F
 have hsz3 : 3 < ts.size := (Array.getElem?_eq_some_iff.mp g3).1
 have other : ∀ b, b ≠ t → (s.heap.update t (Obj.mapFields (·.setIfInBounds 3 ((none : Option Addr).elim Value.none fun f => rawInt f)))).get? b = s.heap.get? b :=
  fun b hb => Heap.get?_update_other _ _ (Ne.symm hb)
 unfold setFlight
 refine wpAny_bind (wpAny_field ha rfl h1 ?_)
 rw [if_pos (show (Value.ref t != Value.none) = true from by simp)]
 refine wpAny_setField g1 g2 hsz3 (h _ ⟨⟨vs, sl, (other a (Ne.symm hta)).trans ha, h1, hta, _, _, Heap.get?_update_self _ g1 (Obj.isFreed_of_fields (Obj.data_mapFields g2 _)), Obj.data_mapFields g2 _, by simp [hsz3]⟩, hlow⟩ fun b o hb hn => (other b hn).trans hb)
end
def CXE (P : Program) (w : World) : CXT := fun outer H s E e s' => ∃ (a : Addr) (T : Option Addr) (C : Value) (d : Option Addr) (H' : Hp), e = .ref a ∧ s'.os = s.os ∧ AllBare s'.gens ∧ Un (frs outer) [] H H' s.heap s'.heap ∧
 HOk P w H' s'.heap ∧ Fly s.heap.objs.size s'.heap H' a T C d .none ∧ E C d H'
def Lands (X : Cx) (EX : St → XK) : Prop := ∀ (pins : List (Addr × Obj)) (σ : St) (H : Hp) (s : Shared) (a : Addr) (T : Option Addr) (C : Value) (d : Option Addr), Inv X pins σ H s → Fly X.s₀.heap.objs.size s.heap H a T C d .none →
 (∀ p ∈ X.pn, p.1 ∉ a :: T.toList) → EX σ C d H → X.xe (.ref a) s
theorem Un.more {fs : List Addr} {H H' : Hp} {h h' h'' : Heap} (u : Un fs [] H H' h h') (k : ∀ b o, b < h.objs.size → h'.get? b = some o → b ∉ fs → h''.get? b = some o) (sl : ∀ b o, b < h.objs.size → h'.get? b = some o → ∃ z, h''.get? b = some { o with slots := z }) : Un fs [] H H' h h'' where
 keep := fun b o q n hb hx => k b o (Heap.lt_size q) (u.keep b o q n hb hx) hb
 slot := fun b o q n hb hx => by
  obtain ⟨z, e⟩ := u.slot b o q n hb hx
  obtain ⟨z', e'⟩ := sl b _ (Heap.lt_size q) e
  exact ⟨z', e'⟩
 free := u.free
 there := fun b o q hx => by
  obtain ⟨o', e⟩ := u.there b o q hx
  obtain ⟨z, e'⟩ := sl b _ (Heap.lt_size q) e
  exact ⟨_, e'⟩
 tups := u.tups
 frzs := u.frzs
 tbls := u.tbls
theorem lands_cx {P : Program} {w : World} {K : W.Frag} {mg : Str → Option Value} {base : Heap} {N : List Str} {qual : Str} {scope : Scope} {f : Addr} {cd : Value} {A : Around} {outer : List Env} {s : Shared} {H : Hp} {E : XK} :
  Lands (cxOf (CXE P w) P w K mg base N qual scope f cd A outer s H E) (fun _ => E) := by
 intro pins σ H' s' a T C d I F hp hE
 show wpAny (model P w) (A.deeper (envOfC qual scope s.heap.objs.size f cd)) (leaving (envOfC qual scope s.heap.objs.size f cd) (.ref a)) (fun _ s'' => CXE P w outer H s E (.ref a) s'') (fun e' s'' => CXE P w outer H s E e' s'') s'
 unfold leaving
 have hstk := I.stack
 have hfr := I.stkFree
 refine wpAny_bind (YV I.ok.frames hstk rfl F I.sz (fun b hb => I.hok.fresh hb) fun h1 T1 F1 hT1 k1 k2 => ?_)
 refine ZS (s := { s' with heap := h1 }) F1 fun h2 F2 k3 => ?_
 have low : ∀ b, b < s.heap.objs.size → b ∉ a :: T.toList := fun b hb z => absurd (Nat.lt_of_lt_of_le hb (F.lo b z).1) (Nat.lt_irrefl _)
 have hsz : s.heap.objs.size ≤ s'.heap.objs.size := I.sz
 have nT1 : ∀ b, b < s'.heap.objs.size → b ≠ T1 := fun b hb z => absurd (Nat.lt_of_lt_of_le (z ▸ hb) hT1) (Nat.lt_irrefl _)
 refine ⟨a, some T1, C, d, H', rfl, I.os, I.bare, Un.more I.base (fun b o hb q hn => ?_) (fun b o hb q => ?_), ?_, F2, hE⟩
 ·refine k3 b o (k1 b o q (fun z => ?_) (low b hb)) (nT1 b (Nat.lt_of_lt_of_le hb hsz))
  rcases List.mem_cons.mp z with z | z
  ·exact absurd (Nat.lt_of_lt_of_le hb (Nat.le_trans I.ok.above (Nat.le_of_eq z.symm))) (Nat.lt_irrefl _)
  ·exact hn z
 ·obtain ⟨z, e⟩ := k2 b o q (low b hb)
  exact ⟨z, k3 b _ e (nT1 b (Nat.lt_of_lt_of_le hb hsz))⟩
 ·refine v5 (fs := frs (envOfC qual scope s.heap.objs.size f cd :: outer)) (ch := T1 :: (a :: T.toList)) I.hok (fun b o q hn hc => ?_) hfr fun b hb => ?_
  ·exact k3 b o (k1 b o q hn fun z => hc (List.mem_cons_of_mem _ z)) fun z => hc (by simp [z])
  ·rcases List.mem_cons.mp hb with e | hb
   ·rw [e]; exact I.hok.fresh hT1
   ·exact (F.lo b hb).2
theorem Lands.passes {X : Cx} {EX : St → XK} (L : Lands X EX) {pins : List (Addr × Obj)} {σ : St} {H : Hp} {s s' : Shared} {e : Value} (I : Inv X pins σ H s) (h : CXE X.prog X.w X.stack H s (EX σ) e s') : X.xe e s' := by
 obtain ⟨a, T, C, d, H', rfl, os, bare, un, hok, F, hE⟩ := h
 have I' : Inv X pins σ H' s' := I.call' (ch := []) os un hok bare fun b hb => nomatch hb
 refine L pins σ H' s' a T C d I' (F.mono I.sz) (fun p hp hc => ?_) hE
 have q := (I.pin p (List.mem_append_left _ hp)).1
 exact absurd (Nat.lt_of_lt_of_le (Heap.lt_size q) (F.lo _ hc).1) (Nat.lt_irrefl _)
def ZG (sp : Sp) (EX : St → XK) (t : TA) : TE := fun σ H Q => t σ H fun vs H1 => sp vs H1 Q (EX σ)
section
variable {X : Cx} {EX : St → XK} {k j : Nat} {f : Addr} {fd : FuncData} {ps : List Str} {sp : Sp} {x : Str} {p pos : Pos} {e : Expr} {es : List Expr} {t : TA}
theorem run_fnX {pins : List (Addr × Obj)} {σ : St} {H : Hp} {s : Shared} {Q : VK} {us : List Value} {vs : List V} (F : FnOk X.prog X.w X.K X.mg X.base (CXE X.prog X.w) k f fd ps sp) (hr : Room k X.A) (hb : Binds X.K fd ps []) (hx : Lands X EX)
  (I : Inv X pins σ H s) (r : Vals vs us) (h : sp vs H Q (EX σ)) : wpAny (model X.prog X.w) X.A (call (.ref f) us) (EP X pins σ Q) X.xe s := by
 have hl : us.length = ps.length := by rw [← r.length]; exact F.len _ _ _ _ h
 have hb' := hb s us I.kIn (by rw [List.append_nil]; exact hl)
 rw [List.append_nil] at hb'
 refine wpAny_call (codeAny_mono (F.run X.A X.stack s H ⟨us, []⟩ us vs Q (EX σ) hr I.env0 hb' r h) fun r s' hq => ?_)
 cases r with
 | error e => exact hx.passes I hq
 | ok fl =>
  cases fl with
  | ret u => exact I.after hq
  | next => exact False.elim hq
  | brk => exact False.elim hq
  | cont => exact False.elim hq
def HasX (P : Program) (w : World) (K : W.Frag) (mg : Str → Option Value) (base : Heap) (k : Nat) (x : Str) (ps : List Str) (sp : Sp) : Prop :=
 ∃ (f : Addr) (fd : FuncData), FnOk P w K mg base (CXE P w) k f fd ps sp ∧ mg x = some (.ref f) ∧ PySem.W.keepIn K (.ref f) = true ∧ Binds K fd ps []
theorem Xw (h : HasX X.prog X.w X.K X.mg X.base k x ps sp) (L : Lands X EX) (hr : Room j X.A) (hkj : k ≤ j) (ha : PA X (e :: es) t) (hg : Gl X x := by rfl) (h1 : zX e = false := by rfl) (h2 : es.all (fun e => !zX e) = true := by rfl)
  (hdb : (x == ("__debug__" : Str)) = false := by decide) : PE X (.Call (.Name x p) (e :: es) [] pos) (ZG sp EX t) := by
 obtain ⟨f, fd, F, hm, hk, hb⟩ := h
 intro pins s σ H Q I h
 refine wpAny_Call_Name_kw (xG I hg hm ?_ hdb)
 refine PySem.W.callWith_K (h₀ := X.base) I.ok.mod.kin hk (thn (ha pos pins s σ H _ I h) fun us s1 ⟨vs, H1, I1, r, q⟩ => ⟨I1.kIn, ?_⟩) (xm h1) (yB h2)
 exact run_fnX F (hr.mono hkj) hb L I1 r q
end
theorem Fun.okX {P : Program} {w : World} {K : W.Frag} {mg : Str → Option Value} {base : Heap} {x qual : Str} {st : Stmt} {f : Addr} {fd : FuncData} {N ps : List Str} {k : Nat} {sp : Sp} (F : Fun K x qual st f fd) (S : FnScope N ps (zk st)) (len : ∀ vs H Q E, sp vs H Q E → vs.length = ps.length)
  (hbody : ∀ (cdv : Value) (A : Around) (outer : List Env) (s : Shared) (H : Hp) (vs : List V) (Q : VK) (E : XK), Room k (A.deeper (envOfC qual (zk st) s.heap.objs.size f cdv)) → sp vs H Q E →
   Lands (cxOf (CXE P w) P w K mg base N qual (zk st) f cdv A outer s H E) (fun _ => E) →
   ∃ t, PSs (cxOf (CXE P w) P w K mg base N qual (zk st) f cdv A outer s H E) (zu st) t ∧ t { nx := fun _ H' => Q .non H', rt := Q } (wb N vs) H) : FnOk P w K mg base (CXE P w) (k + 1) f fd ps sp := by
 obtain ⟨oc, od, kV, doc, pm, an, cdv, ct, osl, rfl, lk, hcd⟩ := F.ex
 refine XH lk hcd S len fun A outer s H vs Q E hr hsp => ?_
 exact hbody cdv A outer s H vs Q E hr hsp lands_cx
open Builtin Builtin.ObjectAttr
abbrev bmV : List Value := [.type "ValueError", .type "Exception", .type "BaseException", .type "object"]
inductive OverV : List Value → Prop
 | base : OverV bmV
 | own (a : Addr) {l : List Value} : OverV l → OverV (.ref a :: l)
theorem OverV.has {l : List Value} (h : OverV l) {X : String} {b : Bool} (hb : bmV.contains (.type X) = b) : l.contains (.type X) = b := by
 induction h with
 | base => exact hb
 | own a _ ih => rw [List.contains_cons, ih]; rfl
theorem OverV.passes {l : List Value} (h : OverV l) (self : Value) : refuseLoop self "__setattr__" l = pure () := by
 induction h with
 | base => exact PySem.F.store_ValueError.passes self
 | own a _ ih => rw [refuseLoop_ref]; exact ih
structure XC (K : W.Frag) (C : Addr) (bm : List Value) : Prop where
 at_ : ∃ (nm q : Str) (N : Addr) (bs : List Value) (sn : List Str) (sub : List Value) (ab : Bool) (col : Option Bool) (dd : Option Addr) (k0 k1 k2 k3 k5 : Option Value),
  K.lookup C = some (excClassObj nm q C N bs bm true sn sub ab col dd k0 k1 k2 k3 k5 "ValueError.__new__")
 ov : OverV bm
structure XA (K : W.Frag) (C : Addr) : Prop where
 bm : ∃ bm, XC K C bm
 ga : PySem.W.findIn K (.ref C) "__getattribute__" = some (some (.builtin "BaseException.__getattribute__"))
 gt : PySem.W.findIn K (.ref C) "__getattr__" = some none
 sa : PySem.W.findIn K (.ref C) "__setattr__" = some (some (.builtin "object.__setattr__"))
 cl : PySem.W.findIn K (.ref C) "__class__" = some (some (.builtin "object.__class__"))
 sg : PySem.W.specialIn K (.builtin "object.__class__") "__get__" = some (some (.builtin "getset_descriptor.__get__"))
 tk : PySem.W.takesIn K (.builtin "object.__class__") = some true
end L2
namespace PySem
open Sem (wp)
open Builtin Builtin.ObjectAttr
open L2 (OverV)
section
variable {prog : Program} {w : World} {A : Around} {E : Value → Shared → Prop} {h : Heap} {g : Array GenState} {d : Drawn} {t : Nat} {os : OsState}
variable {nm q : Str} {C N : Addr} {bs bm : List Value} {sn : List Str} {sub : List Value} {ab : Bool} {col : Option Bool} {dd : Option Addr} {k0 k1 k2 k3 k5 : Option Value}
theorem check_new_x {M : Model} (T : OverV bm) {rest : List Value} {Q : Unit → Shared → Prop} (hC : h.get? C = some (excClassObj nm q C N bs bm true sn sub ab col dd k0 k1 k2 k3 k5 "ValueError.__new__"))
  (hq : Q () ⟨h, g, d, t, os⟩) : wpAny M A (checkBuiltinCall "ValueError.__new__" ⟨.ref C :: rest, []⟩) Q E ⟨h, g, d, t, os⟩ := by
 have F := PySem.F.excBase_ValueError
 have hcont : (Value.ref C :: bm).contains (.type "ValueError") = true := by rw [List.contains_cons, T.has F.hasB, Bool.or_true]
 have hstar := F.noStar
 simp only [checkBuiltinCall, F.newKind, F.newSplit, F.newRow]
 repeat (first | refine wpAny_loadPart_at hC ?_ | (refine wpAny_isSubtype_exc hC ?_; rw [hcont]) | refine wpAny_staticBase_exc hC ?_ | refine wpAny_madeBy_exc hC ?_ | simp only [bne_self_eq_false, Bool.false_eq_true, if_false] | wp_step)
 exact hq
theorem exc_new_x (T : OverV bm) {rest : List Value} {R : Result → Shared → Prop} (hC : h.get? C = some (excClassObj nm q C N bs bm true sn sub ab col dd k0 k1 k2 k3 k5 "ValueError.__new__"))
  (hq : R (.ok (.ret (.ref (h.objs.size + 1)))) ⟨(h.push { cls := .type "tuple", data := .seq rest.toArray }).push
   { cls := .ref C, data := .fields #[.ref h.objs.size, .none, .none, .none, .bool false, .none] }, g, d, t, os⟩) (hrest : rest.length ≤ sizeLine) :
  codeAny (model prog w) A (.builtin "ValueError.__new__" ⟨.ref C :: rest, []⟩) R ⟨h, g, d, t, os⟩ := by
 have F := PySem.F.excBase_ValueError
 have hends := F.ends
 have hcB : (Value.ref C :: bm).contains (.type "ValueError") = true := by rw [List.contains_cons, T.has F.hasB, Bool.or_true]
 have hcA : (Value.ref C :: bm).contains (.type "AttributeError") = false := by rw [List.contains_cons, T.has F.noAttr]; rfl
 have hcN : (Value.ref C :: bm).contains (.type "NameError") = false := by rw [List.contains_cons, T.has F.noName]; rfl
 refine codeAny_builtinAt F.entry ?_
 unfold Builtin.«BaseException.__new__»
 refine wpAt_bind ?_
 show wpAt _ _ _ (stack >>= _) _ _ _
 refine wpAt_bind (wpAt_stack fun p below => wpAt_of_wpAny ?_)
 wp_walk
 refine wpAt_of_wpAny ?_
 rw [F.owner]
 repeat (first | with_reducible refine wpAny_madeHere_exc F.canon hC ?_ | with_reducible refine wpAny_loadPart_at hC ?_ | (with_reducible refine wpAny_isSubtype_exc hC ?_; first | rw [hcB] | rw [hcA] | rw [hcN]) | wp_step)
 show R _ _
 rw [Heap.size_push]
 exact hq
theorem type_call_x (T : OverV bm) {rest : List Value} {fI : Addr} {Q : Fin → Shared → Prop} (hC : h.get? C = some (excClassObj nm q C N bs bm true sn sub ab col dd k0 k1 k2 k3 k5 "ValueError.__new__"))
  (hi : PySem.W.Looks (model prog w) h (typeLookup (.ref C) "__init__") (some (.ref fI))) (hf : ∀ self, PySem.W.Looks (model prog w) h (bindSpecial (.ref fI) self) (.ref fI, [self])) (hrest : rest.length ≤ sizeLine)
  (hq : wpAny (model prog w) A (call (.ref fI) (.ref (h.objs.size + 1) :: rest)) (fun r s' => r = .none ∧ Q (.done (.ret (.ref (h.objs.size + 1)))) s') E
   ⟨(h.push { cls := .type "tuple", data := .seq rest.toArray }).push { cls := .ref C, data := .fields #[.ref h.objs.size, .none, .none, .none, .bool false, .none] }, g, d, t, os⟩) :
  wpAny (model prog w) A (Builtin.«type.__call__» ⟨.ref C :: rest, []⟩) Q E ⟨h, g, d, t, os⟩ := by
 have F := PySem.F.excBase_ValueError
 repeat (first | with_reducible refine wpAny_loadPart_at hC ?_ | with_reducible refine wpAny_madeBy_exc hC ?_ | wp_step)
 refine codeAny_call_builtin_code (Code.quiet_builtin _ F.quiet) (check_new_x T hC ?_)
 refine exc_new_x T hC ?_ hrest
 show wpAny _ _ _ _ _ _
 have hC₁ := Heap.get?_push_of_some { cls := .ref C, data := .fields #[.ref h.objs.size, .none, .none, .none, .bool false, .none] }
  (Heap.get?_push_of_some { cls := .type "tuple", data := .seq rest.toArray } hC)
 have k : ∀ b o, h.get? b = some o → ((h.push { cls := .type "tuple", data := .seq rest.toArray }).push { cls := .ref C, data := .fields #[.ref h.objs.size, .none, .none, .none, .bool false, .none] }).get? b = some o := fun b o e => Heap.get?_push_of_some _ (Heap.get?_push_of_some _ e)
 have hget : ((h.push { cls := .type "tuple", data := .seq rest.toArray }).push
   { cls := .ref C, data := .fields #[.ref h.objs.size, .none, .none, .none, .bool false, .none] }).get? (h.objs.size + 1) = some
   { cls := .ref C, data := .fields #[.ref h.objs.size, .none, .none, .none, .bool false, .none] } := by heap_get
 have hcC : (Value.ref C :: bm).contains (.ref C) = true := by simp
 have i1 := hi.keeps k
 have b1 := (hf (.ref (h.objs.size + 1))).keeps k
 unfold isInstance
 repeat (first | with_reducible refine wpAny_loadPart_at hget ?_ | (with_reducible refine wpAny_isSubtype_exc hC₁ ?_; rw [hcC]) | wp_step)
 show wpAny _ _ (typeLookup (.ref C) _) _ _ _
 refine i1.at ?_
 refine wpAny_holding (wpAny_bind (b1.at ?_))
 refine wpAny_bind (wpAny_mono hq (fun r s' z => ?_) fun _ _ x => x)
 obtain ⟨rfl, z⟩ := z
 wp_walk
 exact z
theorem make_x (T : OverV bm) {rest : List Value} {fI : Addr} {Q : Value → Shared → Prop} (hC : h.get? C = some (excClassObj nm q C N bs bm true sn sub ab col dd k0 k1 k2 k3 k5 "ValueError.__new__"))
  (hi : PySem.W.Looks (model prog w) h (typeLookup (.ref C) "__init__") (some (.ref fI))) (hf : ∀ self, PySem.W.Looks (model prog w) h (bindSpecial (.ref fI) self) (.ref fI, [self])) (hrest : rest.length ≤ sizeLine)
  (hq : wpAny (model prog w) (A.under (.builtin "type.__call__" ⟨.ref C :: rest, []⟩)) (call (.ref fI) (.ref (h.objs.size + 1) :: rest)) (fun r s' => r = .none ∧ Q (.ref (h.objs.size + 1)) s') E
   ⟨(h.push { cls := .type "tuple", data := .seq rest.toArray }).push { cls := .ref C, data := .fields #[.ref h.objs.size, .none, .none, .none, .bool false, .none] }, g, d, t, os⟩) :
  wpAny (model prog w) A (call (.ref C) rest) Q E ⟨h, g, d, t, os⟩ := by
 have f1 := tc_lookup
 have f2 := tc_bind (.ref C)
 have hT : (⟨h, g, d, t, os⟩ : Shared).TypeIs (.ref C) "type" := ⟨_, hC, rfl⟩
 refine wpAny_call (codeAny_of_tree ?_)
 show wpAny _ _ (callAny (.ref C) _) _ _ _
 repeat (any_goals (first | assumption | with_reducible refine wpAny_loadPart_at hC ?_ | wp_step))
 refine ⟨rfl, ?_⟩
 refine codeAny_call_builtin_at (Code.quiet_builtin _ (by decide +kernel)) entry_typeCall (wpAny_check_type_call_sub hC (type_call_x T hC hi hf hrest ?_))
 exact hq
end
end PySem
namespace PySem
open Sem (wp)
open Builtin Builtin.ObjectAttr
open L2 (OverV XC XA bmV)
section
variable {prog : Program} {w : World} {A : Around} {E : Value → Shared → Prop} {h : Heap} {g : Array GenState} {d : Drawn} {t : Nat} {os : OsState}
variable {nm q : Str} {C N x : Addr} {bs bm : List Value} {sn : List Str} {sub : List Value} {ab : Bool} {col : Option Bool} {dd : Option Addr} {k0 k1 k2 k3 k5 : Option Value}
 {mA : Str → Option Value} {name : Str} {v : Value}
theorem store_entry_x {tk : Tok} {Q : Fin → Shared → Prop} {ns : List Str} (T : OverV bm)
  (hC : h.get? C = some (excClassObj nm q C N bs bm true sn sub ab col dd k0 k1 k2 k3 k5 "ValueError.__new__")) (hna : PySem.W.Looks (model prog w) h (typeLookup (.ref C) name) none) (hxC : x ≠ C) (I : h.Inst x C mA)
  (hq : ∀ h' tk', h'.Inst x C (fun y => if y = name then some v else mA y) →
   (∀ b o, b ≠ x → (∀ o₀ dx, h.get? x = some o₀ → o₀.dict = some dx → b ≠ dx) → h.get? b = some o → h'.get? b = some o) →
   (∀ o₀, h.get? x = some o₀ → ∃ o₁, h'.get? x = some o₁ ∧ o₁.cls = o₀.cls ∧ o₁.data = o₀.data ∧ o₁.slots = o₀.slots ∧ (∀ dx, o₀.dict = some dx → o₁.dict = some dx) ∧ (o₀.dict = none → o₁.dict = some h.objs.size)) → Q (.done (.ret .none)) ⟨h', g, d, tk', os⟩) (hw : Within mA ns) (hsz : ns.length ≤ sizeLine) :
  wpAny (model prog w) A (Builtin.«object.__setattr__» ⟨[.ref x, .str name tk, v], []⟩) Q E ⟨h, g, d, t, os⟩ := by
 obtain ⟨o, hx, hc, hnc, hd⟩ := I
 have hpass := T.passes (.ref x)
 unfold Builtin.«object.__setattr__»
 repeat (first | rw [refuse_eq] | (rw [refuseLoop_ref, hpass]) | (with_reducible refine wpAny_loadPart_at hx ?_; rw [hc]) | with_reducible refine wpAny_mroOf_exc hC ?_ | with_reducible refine hna.at ?_ | wp_step)
 rcases hd with ⟨hdn, hmA⟩ | ⟨dx, hdx, hne, hns⟩
 ·rw [hdn, if_neg (by simp [typeHasDict])]
  split
  ·rename_i hcd
   cases hcd
  split
  ·rename_i c hcd
   exact absurd hcd (hnc c)
  ·have hx₁ : (h.push { cls := .type "dict", data := .dict #[] }).get? x = some o := Heap.get?_push_of_some _ hx
   have hxs : x ≠ h.objs.size := Nat.ne_of_lt (Heap.lt_size hx)
   refine wpAny_bind (wpAny_alloc' ?_)
   refine wpAny_bind (wpAny_update' hx₁ ?_)
   refine wpAny_pure ?_
   have hgd : ((h.push { cls := .type "dict", data := .dict #[] }).update x fun o => { cls := o.cls, dict := some h.objs.size, data := o.data, slots := o.slots }).get? h.objs.size
     = some { cls := .type "dict", data := .dict #[] } :=
    (Heap.get?_update_ne _ _ _ _ hxs.symm).trans (Heap.get?_push_at rfl rfl)
   have hnd : ((h.push { cls := .type "dict", data := .dict #[] }).update x fun o => { cls := o.cls, dict := some h.objs.size, data := o.data, slots := o.slots }).Ns h.objs.size (fun _ => none) :=
    ⟨_, #[], _, hgd, rfl, fun e he => absurd he (by simp), fun _ => rfl⟩
   show wpAny _ _ (storeInDict h.objs.size (.str name tk) name v) _ _ _
   unfold storeInDict newKeyGuard
   refine wpAny_bind (wpAny_pure (wpAny_bind (wpAny_nsSet1 (Heap.Ns1.of_empty hnd) fun h' hn' hs => ?_)))
   obtain ⟨oD, esD, epD, hoD, hdD, hcD⟩ := hn'.count (Within.cons name v Within.nil)
   refine wpAny_bind (wpAny_lookBehind hoD (by rw [hdD]; exact pastItsLine_dict (Nat.le_trans hcD (by rw [List.length_cons, List.length_nil, sizeLine_eq]; omega))) ?_)
   wp_walk
   have hx' : h'.get? x = some { cls := o.cls, dict := some h.objs.size, data := o.data, slots := o.slots } := ?_
   refine hq h' _ ⟨{ cls := o.cls, dict := some h.objs.size, data := o.data, slots := o.slots }, hx', hc, hnc, .inr ⟨h.objs.size, rfl, hxs.symm, ?_⟩⟩ (fun b ob hbx _ hb => ?_)
    (fun o₀ h₀ => by obtain rfl : o = o₀ := Option.some.inj (hx.symm.trans h₀); exact ⟨_, hx', rfl, rfl, rfl, fun dx e => (by rw [hdn] at e; cases e), fun _ => rfl⟩)
   ·obtain ⟨o', es, ep, e1, e2, e3, eu, e4⟩ := hn'
    exact ⟨o', es, ep, e1, e2, e3, eu, fun y => by rw [e4 y]; by_cases hy : y = name <;> simp [hy, hmA]⟩
   ·exact (hs.2 b (Nat.ne_of_lt (Heap.lt_size hb))).trans ((Heap.get?_update_ne _ _ _ _ hbx).trans (Heap.get?_push_of_some _ hb))
   ·refine (hs.2 x hxs).trans (Heap.get?_update_self _ hx₁ ?_)
    have hfr := (Heap.get?_some_iff.mp hx).2
    obtain ⟨oc, od, odt, osl⟩ := o
    cases odt <;> first | rfl | exact hfr
 ·rw [hdx]
  refine wpAny_pure ?_
  show wpAny _ _ (storeInDict dx (.str name tk) name v) _ _ _
  unfold storeInDict newKeyGuard
  refine wpAny_bind (wpAny_pure (wpAny_bind (wpAny_nsSet1 hns fun h' hn' hs => ?_)))
  obtain ⟨oD, esD, epD, hoD, hdD, hcD⟩ := hn'.count (Within.cons name v hw)
  refine wpAny_bind (wpAny_lookBehind hoD (by rw [hdD]; exact pastItsLine_dict (Nat.le_trans hcD (by rw [List.length_cons]; omega))) ?_)
  wp_walk
  refine hq h' _ ⟨o, (hs.2 x hne.symm).trans hx, hc, hnc, .inr ⟨dx, hdx, hne, hn'⟩⟩ (fun b ob _ hbd hb => ?_)
   (fun o₀ h₀ => ⟨o₀, (hs.2 x hne.symm).trans h₀, rfl, rfl, rfl, fun _ e => e, fun e => by obtain rfl : o = o₀ := Option.some.inj (hx.symm.trans h₀); rw [hdx] at e; cases e⟩)
  exact (hs.2 b (hbd o dx hx hdx)).trans hb
theorem check_sa_x {M : Model} {o : Obj} {nameV : Value} {Q : Unit → Shared → Prop} (T : OverV bm)
  (hC : h.get? C = some (excClassObj nm q C N bs bm true sn sub ab col dd k0 k1 k2 k3 k5 "ValueError.__new__")) (hx : h.get? x = some o) (hc : o.cls = .ref C) (hq : Q () ⟨h, g, d, t, os⟩) :
  wpAny M A (checkBuiltinCall "object.__setattr__" ⟨[.ref x, nameV, v], []⟩) Q E ⟨h, g, d, t, os⟩ := by
 have SF := PySem.F.store_ValueError
 have hcB : (Value.ref C :: bm).contains (.type "object") = true := by rw [List.contains_cons, T.has SF.hasOwner, Bool.or_true]
 have ha := SF.args (.ref x) nameV v
 simp only [checkBuiltinCall, SF.kind, SF.split]
 refine wpAny_bind ?_
 ·unfold isInstance
  repeat (first | (with_reducible refine wpAny_loadPart_at hx ?_; rw [hc]) | (with_reducible refine wpAny_isSubtype_exc hC ?_; rw [hcB]) | wp_step)
  exact hq
theorem Z2 {Q : Unit → Shared → Prop} {ns : List Str} (T : OverV bm)
  (hC : h.get? C = some (excClassObj nm q C N bs bm true sn sub ab col dd k0 k1 k2 k3 k5 "ValueError.__new__")) (hsa : PySem.W.Looks (model prog w) h (typeLookup (.ref C) "__setattr__") (some (.builtin "object.__setattr__")))
  (hna : PySem.W.Looks (model prog w) h (typeLookup (.ref C) name) none) (hxC : x ≠ C) (I : h.Inst x C mA)
  (hq : ∀ h' tk', h'.Inst x C (fun y => if y = name then some v else mA y) →
   (∀ b o, b ≠ x → (∀ o₀ dx, h.get? x = some o₀ → o₀.dict = some dx → b ≠ dx) → h.get? b = some o → h'.get? b = some o) →
   (∀ o₀, h.get? x = some o₀ → ∃ o₁, h'.get? x = some o₁ ∧ o₁.cls = o₀.cls ∧ o₁.data = o₀.data ∧ o₁.slots = o₀.slots ∧ (∀ dx, o₀.dict = some dx → o₁.dict = some dx) ∧ (o₀.dict = none → o₁.dict = some h.objs.size)) → Q () ⟨h', g, d, tk', os⟩) (hw : Within mA ns) (hsz : ns.length ≤ sizeLine) :
  wpAny (model prog w) A (setAttr (.ref x) name v) Q E ⟨h, g, d, t, os⟩ := by
 obtain ⟨o, hx, hc, _⟩ := id I
 have SF := PySem.F.store_ValueError
 have f3 := SF.slot.bind (.ref x)
 unfold setAttr callSpecial? specialOf
 repeat (any_goals (first | assumption | (with_reducible refine wpAny_loadPart_at hx ?_; rw [hc]) | with_reducible refine hsa.at ?_ | wp_step))
 refine codeAny_call_builtin SF.slot.plain SF.entry (check_sa_x T hC hx hc (store_entry_x T hC hna hxC I (fun h' tk' I' hk hsame => ?_) hw hsz))
 repeat (any_goals (first | assumption | wp_step))
 exact hq h' tk' I' hk hsame
end
section
variable {prog : Program} {w : World} {A : Around} {E : Value → Shared → Prop} {h : Heap} {g : Array GenState} {d : Drawn} {t : Nat} {os : OsState} {K : W.Frag}
variable {nm q : Str} {C N x : Addr} {bs bm : List Value} {sn : List Str} {sub : List Value} {ab : Bool} {col : Option Bool} {dd : Option Addr} {k0 k1 k2 k3 k5 : Option Value}
 {name : Str} {v : Value} {ox : Obj} {od : Option Obj}
theorem vp {M : Model} {nameV : Value} {Q : Unit → Shared → Prop} (T : OverV bm) (hC : h.get? C = some (excClassObj nm q C N bs bm true sn sub ab col dd k0 k1 k2 k3 k5 "ValueError.__new__"))
  (hx : h.get? x = some ox) (hc : ox.cls = .ref C) (hq : Q () ⟨h, g, d, t, os⟩) : wpAny M A (checkBuiltinCall "BaseException.__getattribute__" ⟨[.ref x, nameV], []⟩) Q E ⟨h, g, d, t, os⟩ := by
 have hk : builtinKind "BaseException.__getattribute__" = some .slot := by decide +kernel
 have hsplit : splitId "BaseException.__getattribute__" = some ("BaseException", "__getattribute__") := by decide +kernel
 have hcB : (Value.ref C :: bm).contains (.type "BaseException") = true := by rw [List.contains_cons, T.has (b := true) (by decide +kernel)]; rfl
 have ha := F.args_bexc_ga (.ref x) nameV
 simp only [checkBuiltinCall, hk, hsplit]
 refine wpAny_bind ?_
 ·unfold isInstance
  repeat (first | (with_reducible refine wpAny_loadPart_at hx ?_; rw [hc]) | (with_reducible refine wpAny_isSubtype_exc hC ?_; rw [hcB]) | wp_step)
  exact hq
theorem load_x {expr : Bool} {Q : Value → Shared → Prop} (T : OverV bm) (hC : h.get? C = some (excClassObj nm q C N bs bm true sn sub ab col dd k0 k1 k2 k3 k5 "ValueError.__new__")) (X : K.In h)
  (hga : PySem.W.findIn K (.ref C) "__getattribute__" = some (some (.builtin "BaseException.__getattribute__"))) (hgt : PySem.W.findIn K (.ref C) "__getattr__" = some none)
  (I : PySem.W.InstAt h x ox C od) (hf : PySem.W.findObj K C od name = some (.value v)) (hh : PySem.W.handedIn v = true) (hq : Q v ⟨h, g, d, t + 1, os⟩) :
  wpAny (model prog w) A (getAttr (.ref x) name expr) Q E ⟨h, g, d, t, os⟩ := by
 have FB := PySem.F.attrBase_ValueError
 have f3 := FB.ga.bind (.ref x)
 have hx0 : (expr && onTheHeap (Value.builtin "BaseException.__getattribute__")) = false := by cases expr <;> rfl
 have hx2 : (Value.builtin "BaseException.__getattribute__" == Value.builtin "object.__getattribute__") = false := by decide +kernel
 have hx1 : (onTheHeap (Value.ref C) && Value.builtin "BaseException.__getattribute__" == Value.builtin "object.__getattribute__") = false := by rw [hx2]; rfl
 have L0 := I.type (M := model prog w)
 have L1 := PySem.W.looks_findIn (M := model prog w) X hga
 have L2 := PySem.W.looks_findIn (M := model prog w) X hgt
 have L3 := PySem.W.looks_find (M := model prog w) X I hf
 unfold getAttr getAttrBy
 refine wpAny_bind (wpAny_mkText (wpAny_holding (wpAny_bind (L0.at (wpAny_bind (L1.at ?_))))))
 dsimp only
 rw [hx1, if_neg (by decide)]
 unfold getAttrByItsOwn
 have ho : hookBefore (.ref C) = typeLookup (.ref C) "__getattr__" := rfl
 rw [ho]
 refine wpAny_bind (L2.at (wpAny_bind (wpAny_attempt (wpAny_holding ?_))))
 unfold callGetattribute
 rw [hx0, if_neg (by decide)]
 unfold boundAndCalled
 rw [f3]
 refine wpAny_bind (wpAny_pure ?_)
 refine wpAny_call (codeAny_call_builtin FB.ga.plain F.entry_bexc_ga (vp T hC I.at_ I.cls ?_))
 unfold Builtin.«object.__getattribute__»
 repeat (first | with_reducible refine L0.at ?_ | with_reducible refine L3.at ?_ | wp_step)
 show wpAny _ _ (handedOut v) _ _ _
 rw [PySem.W.handedOut_of hh]
 exact wpAny_pure hq
end
end PySem
namespace L2
open PySem PySem.Spec PyProof.Rows
def XObj (a C : Addr) (d : Option Addr) (vs : Array Value) : HO := .ext fun h => ∃ sl, h.get? a = some ⟨.ref C, d, .fields vs, sl⟩
def XDct (dx : Addr) (fs : List (Str × V)) : HO := .ext fun h => ∃ mA, h.Ns1 dx mA ∧ (∀ f, RelO (fs.lookup f) (mA f)) ∧ PySem.Within mA (fs.map (·.1))
section
variable {P : Program} {w : World} {H : Hp} {h : Heap} {a C dx : Addr} {d : Option Addr} {vs : Array Value} {fs : List (Str × V)}
theorem xn (ok : HOk P w H h) (e : H a = some (XObj a C d vs)) : ∃ sl, h.get? a = some ⟨.ref C, d, .fields vs, sl⟩ := (ok a _ e).1
theorem wO (ok : HOk P w H h) (e : H dx = some (XDct dx fs)) : ∃ mA, h.Ns1 dx mA ∧ (∀ f, RelO (fs.lookup f) (mA f)) ∧ PySem.Within mA (fs.map (·.1)) := (ok dx _ e).1
theorem vM {sl : Array (Option Value)} (e : h.get? a = some ⟨.ref C, d, .fields vs, sl⟩) : ObjOk P w H h a (XObj a C d vs) := ⟨⟨sl, e⟩, ⟨_, e⟩, fun h1 h2 ⟨z, q⟩ k => ⟨z, k _ q⟩⟩
theorem ZV {mA : Str → Option Value} (n : h.Ns1 dx mA) (r : ∀ f, RelO (fs.lookup f) (mA f)) (wi : PySem.Within mA (fs.map (·.1))) : ObjOk P w H h dx (XDct dx fs) := by
 refine ⟨⟨mA, n, r, wi⟩, ?_, fun h1 h2 ⟨m, ⟨o, es, ep, e, c⟩, r, wi⟩ k => ⟨m, ⟨o, es, ep, k _ e, c⟩, r, wi⟩⟩
 obtain ⟨o, _, _, e, _⟩ := n
 exact ⟨o, e⟩
end
section
variable {X : Cx} {pins : List (Addr × Obj)} {σ : St} {H : Hp} {s : Shared} {h' : Heap}
theorem Inv.two {a dx : Addr} {o o' : HO} {φ : Heap → Prop} {t' : Nat} (I : Inv X pins σ H s) (mu : H a = some (.ext φ)) (hdx : s.heap.objs.size ≤ dx) (k : ∀ b u, b ≠ a → s.heap.get? b = some u → h'.get? b = some u) (ha : ∃ u, h'.get? a = some u)
  (n1 : ObjOk X.prog X.w (upd (upd H dx o) a o') h' dx o) (n2 : ObjOk X.prog X.w (upd (upd H dx o) a o') h' a o') : Inv X pins σ (upd (upd H dx o) a o') { s with heap := h', toks := t' } := by
 have hn : H dx = none := I.hok.fresh hdx
 have up : ∀ b, b ≠ a → b ≠ dx → upd (upd H dx o) a o' b = H b := fun b h1 h2 => by rw [zl h1, zl h2]
 have nea : ∀ b u, H b = some u → (∀ φ, u ≠ .ext φ) → b ≠ a ∧ b ≠ dx := fun b u e hu => ⟨fun z => by rw [z, mu] at e; exact hu φ (Option.some.inj e).symm, zp e hn⟩
 refine I.un ⟨fun b ob e n _ _ => k b ob (fun z => by rw [z, mu] at n; cases n) e, fun b ob e n _ _ => ⟨ob.slots, k b ob (fun z => by rw [z, mu] at n; cases n) e⟩, fun b ob e n _ => ?_, fun b ob e _ => ?_, fun b xs e => ?_, fun b ob u e => ?_, fun b ps e => ⟨#[], ?_⟩⟩ fun b u e => ?_
 ·rw [up b (fun z => by rw [z, mu] at n; cases n) fun z => absurd (Nat.lt_of_lt_of_le (Heap.lt_size e) (z ▸ hdx)) (Nat.lt_irrefl _)]; exact n
 ·by_cases q : b = a
  ·rw [q]; exact ha
  ·exact ⟨ob, k b ob q e⟩
 ·have q := nea b _ e (fun _ z => by cases z); rw [up b q.1 q.2]; exact e
 ·have q := nea b _ e (fun _ z => by cases z); rw [up b q.1 q.2]; exact e
 ·have q := nea b _ e (fun _ z => by cases z); rw [up b q.1 q.2, e]; simp
 ·by_cases q : b = a
  ·rw [q, zi] at e; cases e; rw [q]; exact n2
  ·by_cases q2 : b = dx
   ·rw [q2] at q; rw [q2, zl q, zi] at e; cases e; rw [q2]; exact n1
   ·rw [up b q q2] at e
    refine (I.hok b u e).stay (fun c v hc z => k c v (fun y => ?_) z) (fun c z => ?_) fun c xs z => ?_
    ·rcases hc with hc | hc
     ·exact q (hc ▸ y)
     ·rw [y, mu] at hc; cases hc
    ·have q := nea c _ z (fun _ z => by cases z); rw [up c q.1 q.2]; exact z
    ·have q := nea c _ z (fun _ z => by cases z); rw [up c q.1 q.2]; exact z
theorem Inv.inst {a C : Addr} {d : Option Addr} {vs : Array Value} {bm : List Value} (I : Inv X pins σ H s) (e : H a = some (XObj a C d vs)) (xc : XC X.K C bm) : a ≠ C := by
 obtain ⟨nm, q, N, bs, sn, sub, ab, col, dd, k0, k1, k2, k3, k5, hl⟩ := xc.at_
 have hC := I.kIn _ _ hl
 obtain ⟨sl, ha⟩ := xn I.hok e
 rintro rfl
 rw [hC] at ha
 cases ha
def XSt (H : Hp) (a C : Addr) (d : Option Addr) (vs : Array Value) (f : Str) (y : V) (G : Hp → Prop) : Prop := match d with
 | none => ∀ dx, H dx = none → dx ≠ a → G (upd (upd H dx (XDct dx [(f, y)])) a (XObj a C (some dx) vs))
 | some dx => ∃ fs, H dx = some (XDct dx fs) ∧ fs.length < 100 ∧ G (upd H dx (XDct dx (putF f y fs)))
theorem setattr_x {A : Around} {E : Value → Shared → Prop} {a C : Addr} {d : Option Addr} {vs : Array Value} {f : Str} {y : V} {u : Value} {Q : Unit → Shared → Prop} (I : Inv X pins σ H s) (e : H a = some (XObj a C d vs)) (xa : XA X.K C) (n : yp X.K C f) (ry : RelV y u)
  (h : XSt H a C d vs f y fun H' => ∀ s', Inv X pins σ H' s' → Q () s') : wpAny (model X.prog X.w) A (setAttr (.ref a) f u) Q E s := by
 obtain ⟨bm, xc⟩ := xa.bm
 have hne := I.inst e xc
 obtain ⟨nm, q, N, bs, sn, sub, ab, col, dd, k0, k1, k2, k3, k5, hl⟩ := xc.at_
 obtain ⟨sl, ha⟩ := xn I.hok e
 have K := I.kIn
 have L1 := PySem.W.looks_findIn (M := model X.prog X.w) K xa.sa
 have L2 := PySem.W.looks_findIn (M := model X.prog X.w) K (show PySem.W.findIn X.K (.ref C) f = some none from n)
 have hC := K _ _ hl
 obtain ⟨hh, g, dr, t, os⟩ := s
 cases d with
 | none =>
  refine Z2 (mA := fun _ => none) (ns := []) xc.ov hC L1 L2 hne ⟨_, ha, rfl, fun c z => (by cases z), .inl ⟨rfl, fun _ => rfl⟩⟩ (fun h' tk' inst k same => ?_) PySem.Within.nil (by decide)
  obtain ⟨o1, e1, c1, d1, s1, _, d2⟩ := same _ ha
  have d2 := d2 rfl
  obtain ⟨o2, e2, _, _, z⟩ := inst
  rw [e1] at e2; cases e2
  have hd : hh.objs.size ≠ a := Nat.ne_of_gt (Heap.lt_size ha)
  refine h hh.objs.size (I.hok.fresh (Nat.le_refl _)) hd _ (I.two (t' := tk') (h' := h') e (Nat.le_refl _) (fun b u hb z => k b u hb (fun o₀ dx h0 hdx => by rw [ha] at h0; cases h0; cases hdx) z) ⟨_, e1⟩ ?_ ?_)
  ·rcases z with ⟨z, _⟩ | ⟨d3, z, _, ns⟩
   ·rw [d2] at z; cases z
   ·rw [d2] at z; cases z
    refine ZV ns (fun g => ?_) fun g hg => ?_
    ·show RelO (List.lookup g [(f, y)]) (if g = f then some u else none)
     by_cases q : g = f
     ·have hb : (g == f) = true := beq_iff_eq.mpr q
      simp only [List.lookup, hb, if_pos q]; exact ry
     ·have hb : (g == f) = false := beq_eq_false_iff_ne.mpr q
      simp only [List.lookup, hb, if_neg q]; exact True.intro
    ·by_cases q : g = f
     ·rw [q]; simp
     ·exact absurd (if_neg q) hg
  ·obtain ⟨oc, od, odt, osl⟩ := o1
   dsimp only at c1 d1 s1 d2
   rw [c1, d1, s1, d2] at e1
   exact vM e1
 | some dx =>
  obtain ⟨fs, ed, hl', h⟩ := h
  obtain ⟨mA, n1, r, wi⟩ := wO I.hok ed
  have hda : dx ≠ a := fun z => by
   obtain ⟨o, es, ep, e1, e2, _⟩ := n1
   rw [z, ha] at e1; cases e1; cases e2
  refine Z2 (mA := mA) (ns := fs.map (·.1)) xc.ov hC L1 L2 hne ⟨_, ha, rfl, fun c z => (by cases z), .inr ⟨dx, rfl, hda, n1⟩⟩ (fun h' tk' inst k same => ?_) wi (by rw [List.length_map, sizeLine_eq]; omega)
  obtain ⟨o1, e1, c1, d1, s1, d2, _⟩ := same _ ha
  have d2 := d2 dx rfl
  obtain ⟨o2, e2, _, _, z⟩ := inst
  rw [e1] at e2; cases e2
  obtain ⟨oc, od, odt, osl⟩ := o1
  dsimp only at c1 d1 s1 d2
  rw [c1, d1, s1, d2] at e1
  have ns : h'.Ns1 dx (fun y => if y = f then some u else mA y) := by
   rcases z with ⟨z, _⟩ | ⟨d3, z, _, ns⟩
   ·have z : od = none := z
    rw [d2] at z; cases z
   ·have z : od = some d3 := z
    rw [d2] at z; cases z; exact ns
  refine h _ (I.write (x := dx) (e := dx) (t' := tk') (h' := h') (by rw [ed]; exact True.intro) (.inl rfl) (fun b u hb z => ?_) (by obtain ⟨o, _, _, e, _⟩ := ns; exact ⟨o, e⟩) (ZV ns (fun g => ?_) fun g hg => ?_))
  ·by_cases q : b = a
   ·rw [q] at z ⊢
    have z : hh.get? a = some u := z
    rw [ha] at z; cases z; exact e1
   ·exact k b u q (fun o₀ dx' h0 hdx => by rw [ha] at h0; cases h0; cases hdx; exact hb) z
  ·show RelO ((putF f y fs).lookup g) (if g = f then some u else mA g)
   rw [wD]
   by_cases q : g = f
   ·rw [if_pos q, if_pos q]; exact ry
   ·rw [if_neg q, if_neg q]; exact r g
  ·by_cases q : g = f
   ·rw [q]; exact (wz f y fs).1
   ·refine (wz f y fs).2 g (wi g fun z => hg ?_)
    show (if g = f then some u else mA g) = none
    rw [if_neg q]; exact z
theorem getattr_x {A : Around} {E : Value → Shared → Prop} {a C dx : Addr} {vs : Array Value} {fs : List (Str × V)} {f : Str} {v : V} {b : Bool} {Q : Value → Shared → Prop} (I : Inv X pins σ H s) (e : H a = some (XObj a C (some dx) vs)) (ed : H dx = some (XDct dx fs)) (xa : XA X.K C) (n : yp X.K C f)
  (l : fs.lookup f = some v) (h : ∀ u s', Inv X pins σ H s' → RelV v u → Q u s') : wpAny (model X.prog X.w) A (getAttr (.ref a) f b) Q E s := by
 obtain ⟨bm, xc⟩ := xa.bm
 obtain ⟨nm, q, N, bs, sn, sub, ab, col, dd, k0, k1, k2, k3, k5, hl⟩ := xc.at_
 obtain ⟨sl, ha⟩ := xn I.hok e
 obtain ⟨mA, n1, r, wi⟩ := wO I.hok ed
 obtain ⟨u, hu, ru⟩ := RelO.some_of (v := v) (o := mA f) (by rw [← l]; exact r f)
 obtain ⟨od, J, hlk⟩ := lookIn_ns n1
 have K := I.kIn
 have hC := K _ _ hl
 have hh : PySem.W.hasDictIn X.K C = true := by
  unfold PySem.W.hasDictIn PySem.W.clsIn
  rw [hl]; rfl
 obtain ⟨hp, g, dr, t, os⟩ := s
 exact load_x (ox := ⟨.ref C, some dx, .fields vs, sl⟩) (od := some od) xc.ov hC K xa.ga xa.gt ⟨ha, rfl, rfl, J⟩ (PySem.W.findObj_own hh n rfl (by rw [hlk, hu])) (handed_of ru) (h u _ (I.tok _) ru)
end
def sXf (K : W.Frag) (ta tv : TE) (f : Str) : TS := fun D σ H => tv σ H fun y H1 => ta σ H1 fun x H2 => ∃ (a C : Addr) (d : Option Addr) (vs : Array Value), x = .ref a ∧ H2 a = some (XObj a C d vs) ∧ XA K C ∧ yp K C f ∧ XSt H2 a C d vs f y (D.nx σ)
def tXf (K : W.Frag) (ta : TE) (f : Str) : TE := fun σ H Q => ta σ H fun x H1 => ∃ (a C dx : Addr) (vs : Array Value) (fs : List (Str × V)) (v : V), x = .ref a ∧ H1 a = some (XObj a C (some dx) vs) ∧ H1 dx = some (XDct dx fs) ∧ XA K C ∧ yp K C f ∧ fs.lookup f = some v ∧ Q v H1
section
variable {X : Cx} {e o value : Expr} {ta tv : TE} {f : Str} {pos pos' : Pos}
theorem pe_xf (he : PE X e ta) (hb : attributeBase e f X.env (eval e X.env) = eval e X.env := by rfl) : PE X (.Attribute e f pos) (tXf X.K ta f) := by
 intro pins s σ H Q I h
 refine attr_of hb (thn (he pins s σ H _ I h) fun u s1 ⟨x, H1, I1, rx, a, C, dx, vs, fs, v, ex, ea, ed, c, n, l, q⟩ => ?_)
 subst ex
 obtain rfl : u = Value.ref a := rx
 exact getattr_x I1 ea ed c n l fun u' s2 I2 ru => ⟨v, H1, I2, ru, q⟩
theorem Xu (ha : PE X o ta) (hv : PE X value tv) (hs : swapsWith value (some (.Attribute o f pos')) pos.line X.env = pure false := by rfl) : PS X (.Assign [.Attribute o f pos'] value pos) (sXf X.K ta tv f) := by
 intro pins s σ H D I h
 refine plainObj_wpAny_Assign_Attribute (thn (hv pins s σ H _ I h) fun u s1 ⟨y, H1, I1, ry, q⟩ => thn (ha pins s1 σ H1 _ I1 q) fun ov s2 ⟨x, H2, I2, rx, a, C, d, vs, ex, ea, c, n, q2⟩ => ?_) hs
 subst ex
 obtain rfl : ov = Value.ref a := rx
 refine setattr_x I2 ea c n ry ?_
 cases d with
 | none => exact fun dx h1 h2 s3 I3 => ⟨σ, _, I3, q2 dx h1 h2⟩
 | some dx =>
  obtain ⟨fs, h1, h2, q2⟩ := q2
  exact ⟨fs, h1, h2, fun s3 I3 => ⟨σ, _, I3, q2⟩⟩
end
end L2
namespace PySem
open Sem (wp)
open L2 (OverV)
section
variable {M : Model} {A : Around} {E : Value → Shared → Prop} {env : Env}
variable {nm q : Str} {C N : Addr} {bs bm : List Value} {sn : List Str} {sub : List Value} {ab : Bool} {col : Option Bool} {dd : Option Addr} {k0 k1 k2 k3 k5 : Option Value}
theorem raise_made_x {s : Shared} {x : Sem Value} {Q : Flow → Shared → Prop} (T : OverV bm) (hh : A.handled = none)
  (h : wpAny M A x (fun v s₁ => ∃ e vs d sl, v = .ref e ∧ s₁.heap.get? C = some (excClassObj nm q C N bs bm true sn sub ab col dd k0 k1 k2 k3 k5 "ValueError.__new__") ∧
   s₁.heap.get? e = some ⟨.ref C, d, .fields vs, sl⟩ ∧ vs[1]? = some .none ∧ E (.ref e) s₁) E s) :
  wpAny M A (raiseStmt env (some x) none) Q E s := by
 have hcB : (Value.ref C :: bm).contains (.type "BaseException") = true := by rw [List.contains_cons, T.has (b := true) (by decide +kernel), Bool.or_true]
 unfold raiseStmt
 refine wpAny_bind (wpAny_mono h (fun v s₁ h₁ => ?_) fun _ _ x => x)
 obtain ⟨e, vs, d, sl, rfl, hC, he, h1, hE⟩ := h₁
 obtain ⟨hp, g, dr, tk, os⟩ := s₁
 unfold setFlight
 repeat (first | with_reducible refine wpAny_loadPart_at he ?_ | with_reducible refine wpAny_loadPart_at hC ?_ | (with_reducible refine wpAny_isSubtype_exc hC ?_; rw [hcB]) | with_reducible refine wpAny_field he rfl h1 ?_ | wp_step)
 exact wpAny_raiseNew_none hh hE
end
end PySem
namespace L2
open PySem PySem.Spec PyProof.Rows
def unt (H : Hp) (a : Addr) : Hp := fun b => if b = a then none else H b
theorem xZ {H : Hp} {a : Addr} : unt H a a = none := if_pos rfl
theorem xq {H : Hp} {a b : Addr} (h : b ≠ a) : unt H a b = H b := if_neg h
structure XMk (K : W.Frag) (C f : Addr) : Prop where
 init : PySem.W.findIn K (.ref C) "__init__" = some (some (.ref f))
 fn : PySem.W.isFn K (.ref f) = true
 kp : PySem.W.keepIn K (.ref C) = true
 xa : XA K C
section
variable {X : Cx} {pins : List (Addr × Obj)} {σ : St} {H : Hp} {s : Shared}
theorem Inv.drop {a : Addr} {φ : Heap → Prop} (I : Inv X pins σ H s) (e : H a = some (.ext φ)) : Inv X pins σ (unt H a) s := by
 have nea : ∀ b u, H b = some u → (∀ φ, u ≠ .ext φ) → b ≠ a := fun b u h hu z => by rw [z, e] at h; exact hu φ (Option.some.inj h).symm
 have nn : ∀ b, H b = none → unt H a b = none := fun b h => by
  by_cases q : b = a
  ·rw [q]; exact xZ
  ·rw [xq q]; exact h
 refine ⟨I.ok, I.os, I.bare, ⟨I.base.keep, I.base.slot, fun b o q n hx => nn b (I.base.free b o q n hx), I.base.there, fun b xs q => ?_, fun b o u q => ?_, fun b ps q => ?_⟩, I.loc, I.cell, nn _ I.free, fun x c q => nn _ (I.freeC x c q), fun p hp => ?_, fun b u q => ?_, I.len⟩
 ·have z := I.base.tups b xs q; rw [xq (nea b _ z fun _ y => by cases y)]; exact z
 ·have z := I.base.frzs b o u q; rw [xq (nea b _ z fun _ y => by cases y)]; exact z
 ·obtain ⟨m, z⟩ := I.base.tbls b ps q; exact ⟨m, by rw [xq (nea b _ z fun _ y => by cases y)]; exact z⟩
 ·obtain ⟨p1, p2, p3⟩ := I.pin p hp; exact ⟨p1, nn _ p2, p3⟩
 ·by_cases z : b = a
  ·rw [z, xZ] at q; cases q
  ·rw [xq z] at q
   refine (I.hok b u q).stay (fun c v _ y => y) (fun c y => ?_) fun c xs y => ?_
   ·rw [xq (nea c _ y fun _ w => by cases w)]; exact y
   ·rw [xq (nea c _ y fun _ w => by cases w)]; exact y
theorem run_makeX {C f : Addr} {k : Nat} {fd : FuncData} {ps : List Str} {sp : Sp} {us : List Value} {vs : List V} {Q : Addr → Array Value → Hp → Prop} (M : XMk X.K C f) (F : FnOk X.prog X.w X.K X.mg X.base CX0 k f fd ps sp) (hr : Room (k + 1) X.A) (hb : Binds X.K fd ps [])
  (I : Inv X pins σ H s) (r : Vals vs us) (hl : vs.length ≤ 1000) (h : ∀ a v0, H a = none → sp (.ref a :: vs) (upd H a (XObj a C none v0)) (fun v H2 => v = .non ∧ Q a v0 H2) E0) :
  wpAny (model X.prog X.w) X.A (call (.ref C) us) (fun u s' => ∃ a v0 H2, u = .ref a ∧ s.heap.objs.size ≤ a ∧ v0[1]? = some Value.none ∧ Inv X pins σ H2 s' ∧ Q a v0 H2) X.xe s := by
 obtain ⟨bm, xc⟩ := M.xa.bm
 obtain ⟨nm, q, N, bs, sn, sub, ab, col, dd, k0, k1, k2, k3, k5, hlk⟩ := xc.at_
 have hC := I.kIn _ _ hlk
 have I2 : Inv X pins σ (upd H (s.heap.objs.size + 1) (XObj (s.heap.objs.size + 1) C none #[.ref s.heap.objs.size, .none, .none, .none, .bool false, .none]))
   { s with heap := (s.heap.push { cls := .type "tuple", data := .seq us.toArray }).push { cls := .ref C, data := .fields #[.ref s.heap.objs.size, .none, .none, .none, .bool false, .none] } } := by
  refine I.laid (t' := s.toks) (fun b u e => Heap.get?_push_of_some _ (Heap.get?_push_of_some _ e)) (Nat.le_succ _) (vM (sl := #[]) ?_)
  have := Heap.get?_push_size (s.heap.push { cls := .type "tuple", data := .seq us.toArray }) (o := { cls := .ref C, data := .fields #[.ref s.heap.objs.size, .none, .none, .none, .bool false, .none] }) rfl
  rwa [Heap.size_push] at this
 have hq := h (s.heap.objs.size + 1) #[.ref s.heap.objs.size, .none, .none, .none, .bool false, .none] (I.hok.fresh (Nat.le_succ _))
 have r2 : Vals (V.ref (s.heap.objs.size + 1) :: vs) (Value.ref (s.heap.objs.size + 1) :: us) := .cons rfl r
 have hlp : (Value.ref (s.heap.objs.size + 1) :: us).length = ps.length := by rw [← r2.length]; exact F.len _ _ _ _ hq
 have hb' := hb _ (Value.ref (s.heap.objs.size + 1) :: us) I2.kIn (by rw [List.append_nil]; exact hlp)
 rw [List.append_nil] at hb'
 have L1 := PySem.W.looks_findIn (M := model X.prog X.w) I.kIn M.init
 have L2 : ∀ self, PySem.W.Looks (model X.prog X.w) s.heap (bindSpecial (.ref f) self) (.ref f, [self]) := fun self => PySem.W.bind_fn I.kIn self (beq_iff_eq.mp M.fn)
 have hlu : us.length ≤ sizeLine := by rw [← r.length, sizeLine_eq]; omega
 obtain ⟨hh, g, dr, t, os⟩ := s
 refine make_x xc.ov hC L1 L2 hlu (wpAny_call (codeAny_mono (F.run _ X.stack _ _ ⟨Value.ref (hh.objs.size + 1) :: us, []⟩ (Value.ref (hh.objs.size + 1) :: us) _ _ E0 (hr.make C us []) (I2.env0.make C us []) hb' r2 hq) fun r s' hq' => ?_))
 cases r with
 | error e => exact False.elim hq'
 | ok fl =>
  cases fl with
  | ret u =>
   obtain ⟨v, H', I3, rv, ev, q3⟩ := I2.after hq'
   subst ev
   exact ⟨rv, _, _, H', rfl, Nat.le_succ _, rfl, I3, q3⟩
  | next => exact False.elim hq'
  | brk => exact False.elim hq'
  | cont => exact False.elim hq'
end
def Yx (C : Addr) (sp : Sp) (EX : St → XK) (t : TA) : TS := fun _ σ H => t σ H fun vs H1 => vs.length ≤ 1000 ∧ ∀ a v0, H1 a = none →
 sp (.ref a :: vs) (upd H1 a (XObj a C none v0)) (fun v H2 => v = .non ∧ ∃ d, H2 a = some (XObj a C d v0) ∧ EX σ (.ref C) d (unt H2 a)) E0
def HasC (P : Program) (w : World) (K : W.Frag) (mg : Str → Option Value) (base : Heap) (k : Nat) (x : Str) (C : Addr) (ps : List Str) (sp : Sp) : Prop :=
 ∃ (f : Addr) (fd : FuncData), XMk K C f ∧ FnOk P w K mg base CX0 k f fd ps sp ∧ mg x = some (.ref C) ∧ Binds K fd ps []
theorem xw {X : Cx} {EX : St → XK} {k j : Nat} {C : Addr} {ps : List Str} {sp : Sp} {x : Str} {p cpos pos : Pos} {e : Expr} {es : List Expr} {t : TA} (h : HasC X.prog X.w X.K X.mg X.base k x C ps sp) (L : Lands X EX) (hc : X.calm = true) (hr : Room j X.A) (hkj : k + 1 ≤ j)
  (ha : PA X (e :: es) t) (hg : Gl X x := by rfl) (h1 : zX e = false := by rfl) (h2 : es.all (fun e => !zX e) = true := by rfl) (hdb : (x == ("__debug__" : Str)) = false := by decide) :
  PS X (.Raise (some (.Call (.Name x p) (e :: es) [] cpos)) none pos) (Yx C sp EX t) := by
 obtain ⟨f, fd, M, F, hm, hb⟩ := h
 obtain ⟨bm, xc⟩ := M.xa.bm
 obtain ⟨nm, q, N, bs, sn, sub, ab, col, dd, k0, k1, k2, k3, k5, hlk⟩ := xc.at_
 intro pins s σ H D I h
 rw [arm_exec_Raise]
 refine wpAny_bind (wpAny_standAt (raise_made_x (C := C) (nm := nm) (q := q) (N := N) (bs := bs) (sn := sn) (sub := sub) (ab := ab) (col := col) (dd := dd) (k0 := k0) (k1 := k1) (k2 := k2) (k3 := k3) (k5 := k5) xc.ov (I.ok.hd hc) ?_))
 refine wpAny_bind (wpAny_mono (wpAny_Call_Name_kw (xG I hg hm ?_ hdb)) (fun v s₃ h₃ => wpAny_bind (wpAny_standAt (wpAny_pure h₃))) fun _ _ x => x)
 refine PySem.W.callWith_K (h₀ := X.base) I.ok.mod.kin M.kp (thn (ha cpos pins s σ H _ I h) fun us s1 ⟨vs, H1, I1, r, hl, q⟩ => ⟨I1.kIn, ?_⟩) (xm h1) (yB h2)
 refine thn (run_makeX M F (hr.mono hkj) hb I1 r hl q) fun u s2 ⟨a, v0, H2, eu, hlo, hv, I2, d, ea, hE⟩ => ?_
 subst eu
 obtain ⟨sl, hget⟩ := xn I2.hok ea
 have I3 := I2.drop ea
 refine ⟨a, v0, d, sl, rfl, I2.kIn _ _ hlk, hget, hv, ?_⟩
 refine L pins σ _ _ a none (.ref C) d I3 ⟨⟨v0, sl, hget, hv⟩, fun b hb => ?_⟩ (fun p hp hc => ?_) hE
 ·rcases List.mem_singleton.mp hb with rfl
  exact ⟨Nat.le_trans I1.sz hlo, xZ⟩
 ·rcases List.mem_singleton.mp hc with e
  have z := (I2.pin p (List.mem_append_left _ hp)).2.1
  rw [e, ea] at z; cases z
def spXi (K : W.Frag) (fs : List Str) : Sp := fun vs H Q _ => ∃ (a C : Addr) (v0 : Array Value) (us : List V), vs = .ref a :: us ∧ us.length = fs.length ∧ H a = some (XObj a C none v0) ∧ XA K C ∧ (∀ f ∈ fs, yp K C f) ∧
 ∀ dx, H dx = none → dx ≠ a → Q .non (upd (upd H dx (XDct dx (fs.zip us))) a (XObj a C (some dx) v0))
theorem upd_swap {H : Hp} {a b : Addr} {o1 o2 o3 : HO} (h : b ≠ a) : upd (upd (upd H b o1) a o2) b o3 = upd (upd H b o3) a o2 := by
 funext c
 by_cases q1 : c = a
 ·rw [q1, zl (Ne.symm h), zi, zi]
 ·by_cases q2 : c = b
  ·rw [q2, zi, zl h, zi]
  ·rw [zl q2, zl q1, zl q2, zl q1, zl q2]
theorem unt_upd {H : Hp} {a b : Addr} {o1 o2 o3 : HO} (h : b ≠ a) (hn : H a = none) : unt (upd (upd (upd H a o1) b o2) a o3) a = upd H b o2 := by
 funext c
 by_cases q1 : c = a
 ·rw [q1, xZ, zl (Ne.symm h), hn]
 ·rw [xq q1, zl q1]
  by_cases q2 : c = b
  ·rw [q2, zi, zi]
  ·rw [zl q2, zl q2, zl q1]
theorem xT {K : W.Frag} {C : Addr} {fs : List Str} {EX : St → XK} {t : TA} {D : Ends} {σ : St} {H : Hp} (xa : XA K C) (hn : ∀ f ∈ fs, yp K C f)
  (h : t σ H fun vs H1 => vs.length = fs.length ∧ fs.length ≤ 2 ∧ ∀ dx, H1 dx = none → EX σ (.ref C) (some dx) (upd H1 dx (XDct dx (fs.zip vs)))) (hm : ∀ (Q Q' : List V → Hp → Prop), (∀ vs H1, Q vs H1 → Q' vs H1) → t σ H Q → t σ H Q') : Yx C (spXi K fs) EX t D σ H := by
 refine hm _ _ (fun vs H1 hq => ?_) h
 obtain ⟨hl, h2, hq⟩ := hq
 refine ⟨by omega, fun a v0 ha => ⟨a, C, v0, vs, rfl, hl, zi, xa, hn, fun dx hd hne => ⟨rfl, some dx, zi, ?_⟩⟩⟩
 rw [unt_upd hne ha]
 refine hq dx ?_
 rw [zl hne] at hd
 exact hd
end L2
namespace PySem
open Sem (wp)
open L2 (OverV)
theorem excMatches_x {M : Model} {A : Around} {E : Value → Shared → Prop} {nm q nm' q' : Str} {C N D N' : Addr} {bs bm bs' bm' : List Value} {sn sn' : List Str} {sub sub' : List Value} {ab ab' : Bool} {col col' : Option Bool} {dd dd' : Option Addr} {k0 k1 k2 k3 k5 k0' k1' k2' k3' k5' : Option Value}
  {h : Heap} {g : Array GenState} {d : Drawn} {t : Nat} {os : OsState} {e : Addr} {oe : Obj} {Q : Bool → Shared → Prop} (TD : OverV bm')
  (hC : h.get? C = some (excClassObj nm q C N bs bm true sn sub ab col dd k0 k1 k2 k3 k5 "ValueError.__new__")) (hD : h.get? D = some (excClassObj nm' q' D N' bs' bm' true sn' sub' ab' col' dd' k0' k1' k2' k3' k5' "ValueError.__new__"))
  (he : h.get? e = some oe) (hcls : oe.cls = .ref C) (hin : (Value.ref C :: bm).contains (.ref D) = true) (hq : Q true ⟨h, g, d, t, os⟩) : wpAny M A (excMatches (.ref e) (.ref D)) Q E ⟨h, g, d, t, os⟩ := by
 have hcB : (Value.ref D :: bm').contains (.type "BaseException") = true := by rw [List.contains_cons, TD.has (b := true) (by decide +kernel), Bool.or_true]
 have f := tc_notTuple
 unfold excMatches
 repeat (first | (with_reducible refine wpAny_loadPart_at he ?_; rw [hcls]) | with_reducible refine wpAny_loadPart_at hD ?_ | (with_reducible refine wpAny_isSubtype_exc hD ?_; rw [hcB]) | (with_reducible refine wpAny_isSubtype_exc hC ?_; rw [hin]) | wp_step)
 exact hq
end PySem
namespace L2
open PySem PySem.Spec PyProof.Rows
abbrev Cx.tr (X : Cx) (pn : List (Addr × Obj)) (xe : Value → Shared → Prop) : Cx := { X with pn := pn, xe := xe }
abbrev Cx.hdl (X : Cx) (a : Addr) : Cx := { X with A := X.A.mark (some (.ref a)), calm := false, xe := fun _ _ => False }
section
variable {X : Cx} {pins q : List (Addr × Obj)} {σ : St} {H : Hp} {s : Shared} {xe : Value → Shared → Prop}
theorem Cx.Ok.tr (ok : X.Ok) (pn : List (Addr × Obj)) (xe : Value → Shared → Prop) : (X.tr pn xe).Ok :=
 ⟨ok.mod, ok.kind, ok.glob, ok.blt, ok.above, ok.inj, ok.has, ok.cab, ok.hd, ok.frames, ok.stk, ok.exf, ok.bs, ok.bsz, ok.noex, ok.exfs, ok.funs, ok.frf⟩
theorem Cx.Ok.untr {pn : List (Addr × Obj)} (ok : (X.tr pn xe).Ok) : X.Ok :=
 ⟨ok.mod, ok.kind, ok.glob, ok.blt, ok.above, ok.inj, ok.has, ok.cab, ok.hd, ok.frames, ok.stk, ok.exf, ok.bs, ok.bsz, ok.noex, ok.exfs, ok.funs, ok.frf⟩
theorem Cx.Ok.hdl (ok : X.Ok) (a : Addr) : (X.hdl a).Ok :=
 ⟨ok.mod, ok.kind, ok.glob, ok.blt, ok.above, ok.inj, ok.has, ok.cab, fun z => (nomatch z), ok.frames, ok.stk, ok.exf, ok.bs, ok.bsz, ok.noex, ok.exfs, ok.funs, ok.frf⟩
theorem Inv.tr (I : Inv X pins σ H s) (xe : Value → Shared → Prop) : Inv (X.tr (X.pn ++ pins) xe) [] σ H s := ⟨I.ok.tr _ _, I.os, I.bare, I.base, I.loc, I.cell, I.free, I.freeC, fun p hp => I.pin p (by rw [List.append_nil] at hp; exact hp), I.hok, I.len⟩
theorem Inv.untr (I : Inv (X.tr (X.pn ++ pins) xe) q σ H s) : Inv X pins σ H s := ⟨I.ok.untr, I.os, I.bare, I.base, I.loc, I.cell, I.free, I.freeC, fun p hp => I.pin p (List.mem_append_left _ hp), I.hok, I.len⟩
theorem Inv.hdl (I : Inv X pins σ H s) (a : Addr) : Inv (X.hdl a) pins σ H s := ⟨I.ok.hdl a, I.os, I.bare, I.base, I.loc, I.cell, I.free, I.freeC, I.pin, I.hok, I.len⟩
theorem Inv.unhdl {a : Addr} (ok : X.Ok) (I : Inv (X.hdl a) pins σ H s) : Inv X pins σ H s := ⟨ok, I.os, I.bare, I.base, I.loc, I.cell, I.free, I.freeC, I.pin, I.hok, I.len⟩
theorem SP.untr {D : Ends} {f : Flow} (h : SP (X.tr (X.pn ++ pins) xe) q D f s) : SP X pins D f s := by
 cases f with
 | next => obtain ⟨σ', H', I, q⟩ := h; exact ⟨σ', H', I.untr, q⟩
 | brk => obtain ⟨σ', H', I, q⟩ := h; exact ⟨σ', H', I.untr, q⟩
 | cont => obtain ⟨σ', H', I, q⟩ := h; exact ⟨σ', H', I.untr, q⟩
 | ret u => obtain ⟨v, σ', H', I, r, q⟩ := h; exact ⟨v, σ', H', I.untr, r, q⟩
theorem Inv.away {lo : Nat} {a : Addr} {T : Option Addr} {C fl : Value} {d : Option Addr} (I : Inv X pins σ H s) (F : Fly lo s.heap H a T C d fl) (hlo : X.s₀.heap.objs.size ≤ lo) (hp : ∀ p ∈ X.pn ++ pins, p.1 ∉ a :: T.toList) :
  ∀ b ∈ a :: T.toList, (b ∈ X.ex ∨ X.s₀.heap.objs.size ≤ b) ∧ b ≠ X.env.locals ∧ (∀ x c, X.env.cells.lookup x = some c → c ≠ b) ∧ ∀ p ∈ X.pn ++ pins, p.1 ≠ b := fun b hb => by
 obtain ⟨o, vs, e, hd⟩ := F.rcd b hb
 refine ⟨.inr (Nat.le_trans hlo (F.lo b hb).1), fun z => ?_, fun x c hc z => ?_, fun p hp' z => hp p hp' (z ▸ hb)⟩
 ·obtain ⟨m, ⟨o', _, _, e', d', _⟩, _⟩ := I.loc
  rw [z] at e; rw [e'] at e; cases e; rw [d'] at hd; cases hd
 ·obtain ⟨v, o', e', d'⟩ := I.cell x c hc
  rw [z, e] at e'; cases e'; rw [hd] at d'; cases d'
theorem Inv.newer {t : Addr} (I : Inv X pins σ H s) (ht : s.heap.objs.size ≤ t) : ∀ b ∈ [t], (b ∈ X.ex ∨ X.s₀.heap.objs.size ≤ b) ∧ b ≠ X.env.locals ∧ (∀ x c, X.env.cells.lookup x = some c → c ≠ b) ∧ ∀ p ∈ X.pn ++ pins, p.1 ≠ b := fun b hb => by
 rcases List.mem_singleton.mp hb with rfl
 have lt : ∀ c o, s.heap.get? c = some o → c ≠ b := fun c o e z => absurd (Nat.lt_of_lt_of_le (Heap.lt_size e) (z ▸ ht)) (Nat.lt_irrefl _)
 refine ⟨.inr (Nat.le_trans I.sz ht), fun z => ?_, fun x c hc => ?_, fun p hp => lt _ _ (I.pin p hp).1⟩
 ·exact absurd (Nat.lt_of_lt_of_le I.lt (z ▸ ht)) (Nat.lt_irrefl _)
 ·obtain ⟨v, o, e, _⟩ := I.cell x c hc
  exact lt c o e
theorem Inv.track {a : Addr} {o : HO} {ob : Obj} {vs : Array Value} (I : Inv X pins σ H s) (hn : H a = none) (e : s.heap.get? a = some ob) (hd : ob.data = .fields vs)
  (hch : (a ∈ X.ex ∨ X.s₀.heap.objs.size ≤ a) ∧ a ≠ X.env.locals ∧ (∀ x c, X.env.cells.lookup x = some c → c ≠ a) ∧ ∀ p ∈ X.pn ++ pins, p.1 ≠ a) (hx : a ∉ X.ex) (new : ObjOk X.prog X.w (upd H a o) s.heap a o) : Inv X pins σ (upd H a o) s := by
 have hlo : X.s₀.heap.objs.size ≤ a := hch.1.elim (fun z => absurd z hx) id
 have up : ∀ b, b ≠ a → upd H a o b = H b := fun b h => zl h
 refine ⟨I.ok, I.os, I.bare, ⟨I.base.keep, I.base.slot, fun b ob q n hx => ?_, I.base.there, fun b xs q => ?_, fun b o u q => ?_, fun b ps q => ?_⟩, I.loc, I.cell, ?_, fun x c q => ?_, fun p hp => ?_, fun b u q => ?_, I.len⟩
 ·rw [up b fun z => absurd (Nat.lt_of_lt_of_le (Heap.lt_size q) (z ▸ hlo)) (Nat.lt_irrefl _)]; exact I.base.free b ob q n hx
 ·have z := I.base.tups b xs q; rw [up b (zp z hn)]; exact z
 ·have z := I.base.frzs b o u q; rw [up b (zp z hn)]; exact z
 ·obtain ⟨m, z⟩ := I.base.tbls b ps q; exact ⟨m, by rw [up b (zp z hn)]; exact z⟩
 ·rw [up _ (Ne.symm hch.2.1)]; exact I.free
 ·rw [up _ (hch.2.2.1 x c q)]; exact I.freeC x c q
 ·obtain ⟨p1, p2, p3⟩ := I.pin p hp; exact ⟨p1, by rw [up _ (hch.2.2.2 p hp)]; exact p2, p3⟩
 ·by_cases z : b = a
  ·rw [z, zi] at q; cases q; rw [z]; exact new
  ·rw [up b z] at q
   refine (I.hok b u q).stay (fun c v _ y => y) (fun c y => ?_) fun c xs y => ?_
   ·rw [up c (zp y hn)]; exact y
   ·rw [up c (zp y hn)]; exact y
theorem v6 {M : Model} {A : Around} {E : Value → Shared → Prop} {i : Nat} {n : Str} {pos : Pos} {Q : Unit → Shared → Prop} (I : Inv X pins σ H s) (hN : X.N.Nodup) (hi : X.N[i]? = some n) (hk : X.env.scope.names.lookup n = some .local)
  (h : ∀ s', Inv X pins (σ.set i none) H s' → Q () s') : wpAny M A (do bindName X.env n .none; unbindBehindTheSuite X.env n pos) Q E s := by
 have hcls : (X.env.scope.kind == .class || (X.env.scope.kind == .module && X.env.locals != X.env.globals)) = false := by rw [I.ok.kind]; rfl
 have hl : X.env.kindOf n = some .local := hk
 have hiσ : i < σ.length := by rw [I.len]; exact (List.getElem?_eq_some_iff.mp hi).1
 refine wpAny_bind (wpAny_bindName (xr (v := V.non) I hN hi (.inl hk) rfl (fun s1 I1 => ?_) (.inr hk)))
 obtain ⟨m, hn, hlo⟩ := id I1.loc
 obtain ⟨u, _, lk⟩ := hlo i n V.non hi (List.getElem?_set_self hiσ) (.inl hk)
 have hmn : m n = some u := by
  rcases lk with ⟨_, e⟩ | ⟨z, _⟩
  ·exact e
  ·rcases z with z | z <;> (rw [hl] at z; cases z)
 unfold unbindBehindTheSuite
 refine wpAny_onRaise ?_
 unfold unbindName
 refine wpAny_bind (wpAny_point (wpAny_bind ?_))
 unfold deleteName
 simp only [hl, hcls]
 rw [if_neg (by decide)]
 refine wpAny_bind (wpAny_nsDel_keeps hn fun h2 v hn2 hs => ?_)
 rw [hmn]
 simp only [if_true, Option.isSome_some, Bool.not_true, Bool.false_eq_true, if_false]
 refine wpAny_pure (wpAny_point (h _ ?_))
 have cne := I1.cne
 have tracked : HOk X.prog X.w H h2 := fun b ob e => by
  refine (I1.hok b ob e).stay (fun c w' hc q => (hs.2 c ?_).trans q) (fun _ q => q) fun _ _ q => q
  rintro rfl
  rcases hc with rfl | hc
  ·rw [I1.free] at e; cases e
  ·rw [I1.free] at hc; cases hc
 refine ⟨I1.ok, I1.os, I1.bare, ⟨fun b o e n hb hx => ?_, fun b o e n hb hx => ?_, I1.base.free, fun b o e hx => ?_, I1.base.tups, I1.base.frzs, I1.base.tbls⟩, ⟨_, hn2, fun j y v' e1 e2 e3 => ?_⟩, fun y c e => ?_, I1.free, I1.freeC, fun p hp => ?_, tracked, by simpa using I.len⟩
 ·exact (hs.2 b (Nat.ne_of_lt (Nat.lt_of_lt_of_le (Heap.lt_size e) I1.ok.above))).trans (I1.base.keep b o e n hb hx)
 ·obtain ⟨sl, e1⟩ := I1.base.slot b o e n hb hx
  exact ⟨sl, (hs.2 b (Nat.ne_of_lt (Nat.lt_of_lt_of_le (Heap.lt_size e) I1.ok.above))).trans e1⟩
 ·obtain ⟨o', e1⟩ := I1.base.there b o e hx
  exact ⟨o', (hs.2 b (Nat.ne_of_lt (Nat.lt_of_lt_of_le (Heap.lt_size e) I1.ok.above))).trans e1⟩
 ·by_cases hj : j = i
  ·subst hj
   rw [List.getElem?_set_self hiσ] at e2
   cases e2
  ·rw [List.getElem?_set_ne (Ne.symm hj)] at e2
   obtain ⟨u', r', q⟩ := hlo j y v' e1 (by rw [List.getElem?_set_ne (Ne.symm hj)]; exact e2) e3
   refine ⟨u', r', ?_⟩
   rcases q with ⟨k, e⟩ | ⟨k, c, e, z⟩
   ·refine .inl ⟨k, ?_⟩
    have : y ≠ n := fun e => hj (vh hN e1 (e ▸ hi))
    simp [this, e]
   ·exact .inr ⟨k, c, e, z.sameBut hs (cne y c e)⟩
 ·obtain ⟨w', z⟩ := I1.cell y c e
  exact ⟨w', z.sameBut hs (cne y c e)⟩
 ·obtain ⟨e, n, ne, nf, d⟩ := I1.pin p hp
  exact ⟨(hs.2 p.1 ne).trans e, n, ne, nf, d⟩
end
def unE (i : Nat) (D : Ends) : Ends := { nx := fun σ H => D.nx (σ.set i none) H, rt := D.rt, bk := fun σ H => D.bk (σ.set i none) H, ct := fun σ H => D.ct (σ.set i none) H }
def tTry (K : W.Frag) (D : Addr) (i : Nat) (tb : (St → XK) → TS) (ts : TS) : TS := fun Dn σ H => tb (fun σ' C d H' => ∃ (c : Addr) (bm : List Value), C = .ref c ∧ XC K c bm ∧ (Value.ref c :: bm).contains (.ref D) = true ∧
 ∀ a vs, H' a = none → ts (unE i Dn) (σ'.set i (some (.ref a))) (upd H' a (XObj a c d vs))) Dn σ H
theorem ps_try {X : Cx} {D : Addr} {bmD : List Value} {x n : Str} {i : Nat} {body suite : List Stmt} {b₀ : Stmt} {tb : (St → XK) → TS} {ts : TS} {np hpos pos : Pos} (M : Nm X.N X.env.scope) (hst : X.stack = X.env :: X.outer) (hfr : X.env.frame = some X.env.locals) (hex : X.ex = [])
  (hm : X.mg x = some (.ref D)) (xd : XC X.K D bmD) (hi : X.N[i]? = some n) (hk : X.env.scope.names.lookup n = some .local)
  (hb : ∀ pn xe EX, PassesOwn (model X.prog X.w) X.A X.env xe → Lands (X.tr pn xe) EX → PSs (X.tr pn xe) body (tb EX)) (hs : ∀ a, PSs (X.hdl a) (b₀ :: suite) ts) (hg : Gl X x := by rfl) (hdb : (x == ("__debug__" : Str)) = false := by decide) :
  PS X (.Try body [.ExceptHandler (some (.Name x np)) (some n) (b₀ :: suite) hpos] [] [] pos) (tTry X.K D i tb ts) := by
 intro pins s σ H Dn I h
 refine wpAny_Try_except ?_
 have hL : ∀ EX : St → XK, (∀ σ' C d H', EX σ' C d H' → ∃ (c : Addr) (bm : List Value), C = .ref c ∧ XC X.K c bm ∧ (Value.ref c :: bm).contains (.ref D) = true ∧ ∀ a vs, H' a = none → ts (unE i Dn) (σ'.set i (some (.ref a))) (upd H' a (XObj a c d vs))) →
   Lands (X.tr (X.pn ++ pins) fun e s' => wpAny (model X.prog X.w) X.A (noteFrame e X.env) (fun _ s2 => wpAny (model X.prog X.w) X.A (setFlight e none) (fun _ s3 => wpAny (model X.prog X.w) X.A (handleBy e X.env [.ExceptHandler (some (.Name x np)) (some n) (b₀ :: suite) hpos]) (SP X pins Dn) X.xe s3) X.xe s2) X.xe s') EX := by
  intro EX hEX pins' σ' H' s' a T C d I1 F hp hE
  obtain ⟨c, bm, rfl, xc, hin, hts⟩ := hEX _ _ _ _ hE
  have I2 : Inv X pins σ' H' s' := I1.untr
  have hstk : s'.heap.FunFrames X.base (X.env :: X.outer) := by rw [← hst]; exact I2.stack
  have hfrs : ∀ b ∈ frs (X.env :: X.outer), H' b = none := by rw [← hst]; exact I2.stkFree
  show wpAny (model X.prog X.w) X.A (noteFrame (.ref a) X.env) _ X.xe s'
  refine YV (by rw [I2.ok.frames, hst]) hstk hfr F I2.sz (fun b hb => I2.hok.fresh hb) fun h1 T1 F1 hT1 k1 k2 => ?_
  have aw := I2.away F (Nat.le_refl _) hp
  have I3 : Inv X pins σ' H' { s' with heap := h1 } := I2.call (g' := s'.gens) (d' := s'.drawn) (t' := s'.toks) (ch := a :: T.toList) (by rw [hst]; exact Yw k1 k2) (v5 I2.hok k1 hfrs fun b hb => (F.lo b hb).2) I2.bare aw
  refine ZS (s := { s' with heap := h1 }) F1 fun h2 F2 k3 => ?_
  have nw := I2.newer hT1
  have I4 : Inv X pins σ' H' { s' with heap := h2 } := Inv.call (s := { s' with heap := h1 }) (h' := h2) (g' := s'.gens) (d' := s'.drawn) (t' := s'.toks) (ch := [T1]) I3 (Yw (h := h1) (fun b o q _ hc => k3 b o q fun z => hc (by simp [z])) fun b o q hc => ⟨o.slots, k3 b o q fun z => hc (by simp [z])⟩)
   (v5 (h := h1) (fs := []) (ch := [T1]) I3.hok (fun b o q _ hc => k3 b o q fun z => hc (by simp [z])) (fun b hb => nomatch hb) fun b hb => by rcases List.mem_singleton.mp hb with rfl; exact I2.hok.fresh hT1) I2.bare nw
  obtain ⟨vs, sl, hget, _⟩ := F2.at_
  obtain ⟨nm, q, N, bs, sn, sub, ab, col, dd, k0, k1', k2', k3', k5, hlk⟩ := xc.at_
  obtain ⟨nm', q', N', bs', sn', sub', ab', col', dd', k0', k1'', k2'', k3'', k5', hlk'⟩ := xd.at_
  refine wpAny_handleBy_cons (codeAny_handlers_test (xG (X := X.hdl a) (I4.hdl a) hg hm ?_ hdb)) (by intro z; cases z)
  refine excMatches_x xd.ov (I4.kIn _ _ hlk) (I4.kIn _ _ hlk') hget rfl hin ?_
  refine codeAny_handlers_suite_as ?_
  refine ZS (s := { s' with heap := h2 }) F2 fun h5 F5 k5' => ?_
  have I5 : Inv X pins σ' H' { s' with heap := h5 } := Inv.call (s := { s' with heap := h2 }) (h' := h5) (g' := s'.gens) (d' := s'.drawn) (t' := s'.toks) (ch := [T1]) I4 (Yw (h := h2) (fun b o q _ hc => k5' b o q fun z => hc (by simp [z])) fun b o q hc => ⟨o.slots, k5' b o q fun z => hc (by simp [z])⟩)
   (v5 (h := h2) (fs := []) (ch := [T1]) I4.hok (fun b o q _ hc => k5' b o q fun z => hc (by simp [z])) (fun b hb => nomatch hb) fun b hb => by rcases List.mem_singleton.mp hb with rfl; exact I2.hok.fresh hT1) I2.bare nw
  obtain ⟨vs5, sl5, hget5, _⟩ := F5.at_
  have I6 : Inv X pins σ' (upd H' a (XObj a c d vs5)) { s' with heap := h5 } := I5.track (F.lo a List.mem_cons_self).2 hget5 rfl (aw a List.mem_cons_self) (by rw [hex]; exact fun z => nomatch z) (vM hget5)
  refine xr (X := X.hdl a) (v := V.ref a) (I6.hdl a) M.nd hi (.inl hk) rfl (fun s7 I7 => ?_) (.inr hk)
  have ok := I.ok
  refine wpAny_mono (hs a pins s7 _ _ _ I7 (hts a vs5 (F.lo a List.mem_cons_self).2)) (fun f s8 z => ?_) fun _ _ z => False.elim z
  cases f with
  | next =>
   obtain ⟨σ8, H8, I8, z⟩ := z
   exact v6 (I8.unhdl ok) M.nd hi hk fun s9 I9 => ⟨_, H8, I9, z⟩
  | brk =>
   obtain ⟨σ8, H8, I8, z⟩ := z
   exact v6 (I8.unhdl ok) M.nd hi hk fun s9 I9 => ⟨_, H8, I9, z⟩
  | cont =>
   obtain ⟨σ8, H8, I8, z⟩ := z
   exact v6 (I8.unhdl ok) M.nd hi hk fun s9 I9 => ⟨_, H8, I9, z⟩
  | ret u =>
   obtain ⟨v, σ8, H8, I8, r, z⟩ := z
   exact v6 (I8.unhdl ok) M.nd hi hk fun s9 I9 => ⟨v, _, H8, I9, r, z⟩
 refine wpAny_mono (hb (X.pn ++ pins) _ _ PassesOwn.looking (hL _ fun _ _ _ _ z => z) [] s σ H Dn (I.tr _) h) (fun f s1 z => ?_) fun _ _ z => z
 cases f with
 | next => exact wpAny_execs_nil z.untr
 | brk => exact z.untr
 | cont => exact z.untr
 | ret u => exact z.untr
end L2
namespace PySem
open Sem (wp)
open Builtin Builtin.ObjectAttr
open L2 (OverV XC XA bmV)
section
variable {prog : Program} {w : World} {A : Around} {E : Value → Shared → Prop} {h : Heap} {g : Array GenState} {d : Drawn} {t : Nat} {os : OsState} {K : W.Frag}
variable {nm q : Str} {C N x : Addr} {bs bm : List Value} {sn : List Str} {sub : List Value} {ab : Bool} {col : Option Bool} {dd : Option Addr} {k0 k1 k2 k3 k5 : Option Value}
 {ox : Obj} {od : Option Obj}
theorem class_get_x {R : Result → Shared → Prop} (T : OverV bm) (hC : h.get? C = some (excClassObj nm q C N bs bm true sn sub ab col dd k0 k1 k2 k3 k5 "ValueError.__new__")) (hx : h.get? x = some ox) (hc : ox.cls = .ref C) (hq : R (.ok (.ret (.ref C))) ⟨h, g, d, t, os⟩) :
  codeAny (model prog w) A (.call (.builtin "getset_descriptor.__get__") ⟨[.builtin "object.__class__", .ref x, .ref C], []⟩) R ⟨h, g, d, t, os⟩ := by
 have hT5 : (⟨h, g, d, t, os⟩ : Shared).TypeIs (.builtin "object.__class__") "getset_descriptor" := F.typeOf_object_class
 have hcB : (Value.ref C :: bm).contains (.type (".".intercalate ("object.__class__".cutAt '.').dropLast)) = true := by
  rw [F.owner_object_class, List.contains_cons, T.has (b := true) (by decide +kernel)]; rfl
 refine codeAny_call_builtin F.slot_gs_get.plain F.entry_gs_get (F.slot_gs_get.check _ _ _ _ _ _ _ _ hT5 (F.args_gs_get _ _ _) ?_)
 repeat (any_goals (first | assumption | (with_reducible refine wpAny_loadPart_at hx ?_; rw [hc]) | (with_reducible refine wpAny_isSubtype_exc hC ?_; rw [hcB]) | wp_step))
 refine ⟨Code.quiet_builtin _ (by decide +kernel), codeAny_builtin F.entry_object_class ?_⟩
 repeat (any_goals (first | assumption | (with_reducible refine wpAny_loadPart_at hx ?_; rw [hc]) | wp_step))
theorem class_attr_x {Q : Option Value → Shared → Prop} (T : OverV bm) (hC : h.get? C = some (excClassObj nm q C N bs bm true sn sub ab col dd k0 k1 k2 k3 k5 "ValueError.__new__")) (X : K.In h)
  (hga : PySem.W.findIn K (.ref C) "__getattribute__" = some (some (.builtin "BaseException.__getattribute__"))) (hgt : PySem.W.findIn K (.ref C) "__getattr__" = some none)
  (I : PySem.W.InstAt h x ox C od) (hf : PySem.W.findObj K C od "__class__" = some (.bind (.builtin "getset_descriptor.__get__") (.builtin "object.__class__"))) (hq : Q (some (.ref C)) ⟨h, g, d, t + 1, os⟩) :
  wpAny (model prog w) A (getAttr? (.ref x) "__class__") Q E ⟨h, g, d, t, os⟩ := by
 have FB := PySem.F.attrBase_ValueError
 have f3 := FB.ga.bind (.ref x)
 have hx0 : (false && onTheHeap (Value.builtin "BaseException.__getattribute__")) = false := rfl
 have hx2 : (Value.builtin "BaseException.__getattribute__" == Value.builtin "object.__getattribute__") = false := by decide +kernel
 have hx1 : (onTheHeap (Value.ref C) && Value.builtin "BaseException.__getattribute__" == Value.builtin "object.__getattribute__") = false := by rw [hx2]; rfl
 have L0 := I.type (M := model prog w)
 have L1 := PySem.W.looks_findIn (M := model prog w) X hga
 have L2 := PySem.W.looks_findIn (M := model prog w) X hgt
 have L3 := PySem.W.looks_find (M := model prog w) X I hf
 unfold getAttr? getAttrBy? getAttrBy
 refine wpAny_bind (wpAny_mkText (wpAny_bind (wpAny_attempt (wpAny_holding (wpAny_bind (L0.at (wpAny_bind (L1.at ?_))))))))
 dsimp only
 rw [hx1, if_neg (by decide)]
 unfold getAttrByItsOwn
 have ho : hookBefore (.ref C) = typeLookup (.ref C) "__getattr__" := rfl
 rw [ho]
 refine wpAny_bind (L2.at (wpAny_bind (wpAny_attempt (wpAny_holding ?_))))
 unfold callGetattribute
 rw [hx0, if_neg (by decide)]
 unfold boundAndCalled
 rw [f3]
 refine wpAny_bind (wpAny_pure ?_)
 refine wpAny_call (codeAny_call_builtin FB.ga.plain F.entry_bexc_ga (vp T hC I.at_ I.cls ?_))
 unfold Builtin.«object.__getattribute__»
 repeat (first | with_reducible refine L0.at ?_ | with_reducible refine L3.at ?_ | wp_step)
 refine class_get_x T hC I.at_ I.cls ?_
 repeat (any_goals (first | assumption | wp_step))
end
end PySem
namespace L2
open PySem PySem.Spec PyProof.Rows
theorem XC.cls {K : W.Frag} {C : Addr} {bm : List Value} (x : XC K C bm) : ∃ cd, PySem.W.clsIn K C = some cd ∧ cd.mro = .ref C :: bm ∧ PySem.W.typeIn K (.ref C) = some (.type "type") := by
 obtain ⟨nm, q, N, bs, sn, sub, ab, col, dd, k0, k1, k2, k3, k5, hl⟩ := x.at_
 refine ⟨{ name := nm, bases := bs, mro := .ref C :: bm, ns := N, qualname := q, hasDict := true, slotNames := sn, subclasses := sub, abstract := ab, collection := col, hasDel := false }, ?_, rfl, ?_⟩
 ·unfold PySem.W.clsIn
  rw [hl]
 ·unfold PySem.W.typeIn
  simp only [hl]
  rfl
theorem XC.mro {K : W.Frag} {C : Addr} {bm : List Value} (x : XC K C bm) (v : Value) : PySem.W.mroIn K C v = some ((Value.ref C :: bm).contains v) := by
 obtain ⟨cd, h1, h2, _⟩ := x.cls
 unfold PySem.W.mroIn
 rw [h1, Option.bind_some, h2, if_neg (by simp)]
theorem Y2 {K : W.Frag} {C c : Addr} {bm bm' : List Value} (x : XC K C bm) (y : XC K c bm') : PySem.W.kitOne K (.ref C) (.ref c) = some ((Value.ref C :: bm).contains (.ref c)) := by
 obtain ⟨cd, h1, h2, h3⟩ := y.cls
 unfold PySem.W.kitOne
 by_cases q : (Value.ref C == Value.ref c) = true
 ·rw [if_pos q, List.contains_cons]
  have : (Value.ref c == Value.ref C) = true := by rw [beq_iff_eq] at q ⊢; exact q.symm
  rw [this]; rfl
 ·rw [if_neg q]
  unfold PySem.W.kitCls
  dsimp only
  rw [h1, h3, if_pos (by simp)]
  exact x.mro _
theorem kit_xv {K : W.Frag} {C : Addr} {bm : List Value} (x : XC K C bm) : PySem.W.kitOne K (.ref C) (.type "ValueError") = some true := by
 unfold PySem.W.kitOne
 rw [if_neg (by intro q; cases beq_iff_eq.mp q)]
 unfold PySem.W.kitCls
 dsimp only
 rw [if_pos (by decide +kernel)]
 show PySem.W.mroIn K C _ = _
 rw [x.mro, List.contains_cons, x.ov.has (b := true) (by decide +kernel), Bool.or_true]
theorem Y1 {K : W.Frag} {C a : Addr} (xa : XA K C) : PySem.W.KitX K (.ref a) (.ref C) (fun h => ∃ ox od, PySem.W.InstAt h a ox C (some od)) := by
 obtain ⟨bm, xc⟩ := xa.bm
 obtain ⟨nm, q, N, bs, sn, sub, ab, col, dd, k0, k1, k2, k3, k5, hl⟩ := xc.at_
 obtain ⟨cd, h1, h2, h3⟩ := xc.cls
 refine ⟨fun M h X ⟨ox, od, I⟩ => I.type, fun M h X _ => ?_, fun h tp dd' its n sl X htp => ?_, fun {prog w A E Q s} X ⟨ox, od, I⟩ k => ?_⟩
 ·intro A' Q' E' s' k z
  unfold isType loadHead
  exact wpAny_bind (wpAny_loadPart (k _ _ (X _ _ hl)) (wpAny_pure z))
 ·refine Bool.eq_false_iff.mpr fun z => ?_
  have e : C = tp := Value.ref.inj (beq_iff_eq.mp z)
  subst e
  have z := (X _ _ hl).symm.trans htp
  have z2 := congrArg (fun o => Option.map Obj.cls o) z
  simp [excClassObj] at z2
 ·obtain ⟨hp, g, d, t, os⟩ := s
  exact class_attr_x xc.ov (X _ _ hl) X xa.ga xa.gt I (PySem.W.findObj_data (by rw [h1]; rfl) xa.cl xa.sg xa.tk) k
section
variable {X : Cx} {pins : List (Addr × Obj)} {σ : St} {H : Hp} {s : Shared}
theorem Inv.instAt {a C dx : Addr} {vs : Array Value} {fs : List (Str × V)} (I : Inv X pins σ H s) (e : H a = some (XObj a C (some dx) vs)) (ed : H dx = some (XDct dx fs)) : ∃ ox od, PySem.W.InstAt s.heap a ox C (some od) := by
 obtain ⟨sl, ha⟩ := xn I.hok e
 obtain ⟨mA, ⟨o, _, _, ho, _⟩, _⟩ := wO I.hok ed
 exact ⟨_, o, ha, rfl, rfl, ho⟩
end
def rIsX (K : W.Frag) : List V → Hp → VK → Prop := fun xs H Q => ∃ (a C dx : Addr) (vs : Array Value) (fs : List (Str × V)) (c : V) (b : Bool), xs = [.ref a, c] ∧ H a = some (XObj a C (some dx) vs) ∧ H dx = some (XDct dx fs) ∧ XA K C ∧
 (∀ u, RelV c u → PySem.W.kitOne K (.ref C) u = some b) ∧ Q (.bl b) H
def YH (K : W.Frag) : List V → Hp → VK → Prop := fun xs H Q => ∃ (a C dx p : Addr) (vs : Array Value) (fs : List (Str × V)) (cs : List V) (b : Bool), xs = [.ref a, .ref p] ∧ H a = some (XObj a C (some dx) vs) ∧ H dx = some (XDct dx fs) ∧ XA K C ∧
 H p = some (.tup cs) ∧ (∀ us, Vals cs us → PySem.W.kitAny K (.ref C) us = some b) ∧ Q (.bl b) H
theorem call_isX {X : Cx} : yk X (.builtin "isinstance") (rIsX X.K) := by
 intro pins s σ H xs us Q I r h
 obtain ⟨a, C, dx, vs, fs, c, b, rfl, ea, ed, xa, hk, q⟩ := h
 cases r with
 | cons r1 r2 =>
  obtain ⟨u, rfl, ru⟩ := Vals.one r2
  cases r1
  have hp := I.instAt ea ed
  exact PySem.W.kia_one (Y1 xa) I.kIn hp (hk u ru) (fun z => nomatch z) fun tk => ⟨.bl b, H, I.kept (t' := tk) fun _ _ e => e, rfl, q⟩
theorem call_isXT {X : Cx} : yk X (.builtin "isinstance") (YH X.K) := by
 intro pins s σ H xs us Q I r h
 obtain ⟨a, C, dx, p, vs, fs, cs, b, rfl, ea, ed, xa, ep, hk, q⟩ := h
 cases r with
 | cons r1 r2 =>
  obtain ⟨u, rfl, ru⟩ := Vals.one r2
  cases r1
  cases ru
  have hp := I.instAt ea ed
  obtain ⟨_, its, rv, o, eo, hc, n, hd⟩ := (show ObjOk X.prog X.w H s.heap p (.tup cs) from I.hok p _ ep)
  obtain ⟨oc, od, odt, osl⟩ := o
  dsimp only at hc hd
  subst hc hd
  exact PySem.W.kia_tup (Y1 xa) I.kIn hp eo (hk its rv) (fun z => nomatch z) fun tk => ⟨.bl b, H, I.kept (t' := tk) fun _ _ e => e, rfl, q⟩
theorem Xc {K : W.Frag} {H : Hp} {Q : VK} {a C dx : Addr} {vs : Array Value} {fs : List (Str × V)} {c : V} {b : Bool} (ea : H a = some (XObj a C (some dx) vs)) (ed : H dx = some (XDct dx fs)) (xa : XA K C) (hk : ∀ u, RelV c u → PySem.W.kitOne K (.ref C) u = some b) (q : Q (.bl b) H) :
  rIsX K [.ref a, c] H Q := ⟨a, C, dx, vs, fs, c, b, rfl, ea, ed, xa, hk, q⟩
theorem w_isXT {K : W.Frag} {H : Hp} {Q : VK} {a C dx p : Addr} {vs : Array Value} {fs : List (Str × V)} {cs : List V} {b : Bool} (ea : H a = some (XObj a C (some dx) vs)) (ed : H dx = some (XDct dx fs)) (xa : XA K C) (ep : H p = some (.tup cs)) (hk : ∀ us, Vals cs us → PySem.W.kitAny K (.ref C) us = some b) (q : Q (.bl b) H) :
  YH K [.ref a, .ref p] H Q := ⟨a, C, dx, p, vs, fs, cs, b, rfl, ea, ed, xa, ep, hk, q⟩
theorem vt : ∀ {cs : List Addr} {us : List Value}, Vals (cs.map V.ref) us → us = cs.map Value.ref
 | [], _, .nil => rfl
 | c :: cs, _, .cons r1 r2 => by
  cases r1
  rw [vt r2]; rfl
theorem Zw {K : W.Frag} {C : Addr} {bm : List Value} (x : XC K C bm) : ∀ {cs : List Addr}, (∀ c ∈ cs, ∃ bm', XC K c bm' ∧ (Value.ref C :: bm).contains (.ref c) = false) → PySem.W.kitAny K (.ref C) (cs.map Value.ref) = some false
 | [], _ => rfl
 | c :: cs, h => by
  obtain ⟨bm', y, z⟩ := h c List.mem_cons_self
  show (match PySem.W.kitOne K (.ref C) (.ref c) with | some true => some true | some false => PySem.W.kitAny K (.ref C) (cs.map Value.ref) | none => none) = _
  rw [Y2 x y, z]
  exact Zw x fun c' h' => h c' (List.mem_cons_of_mem _ h')
theorem xz {X : Cx} {x : Str} {pos : Pos} {C : Addr} (hm : X.mg x = some (.ref C)) (hg : Gl X x := by rfl) (hd : (x == ("__debug__" : Str)) = false := by decide) : PE X (.Name x pos) (tC (.ref C)) :=
 fun pins s σ H Q I h => xG I hg hm ⟨.ref C, H, I, rfl, h⟩ hd
theorem ZY {sp : Sp} {EX : St → XK} {t : TA} {σ : St} {H : Hp} {Q : VK} (h : t σ H fun vs H1 => sp vs H1 Q (EX σ)) : ZG sp EX t σ H Q := h
theorem w_try {K : W.Frag} {D : Addr} {i : Nat} {tb : (St → XK) → TS} {ts : TS} {Dn : Ends} {σ : St} {H : Hp} (h : tb (fun σ' C d H' => ∃ (c : Addr) (bm : List Value), C = .ref c ∧ XC K c bm ∧ (Value.ref c :: bm).contains (.ref D) = true ∧
 ∀ a vs, H' a = none → ts (unE i Dn) (σ'.set i (some (.ref a))) (upd H' a (XObj a c d vs))) Dn σ H) : tTry K D i tb ts Dn σ H := h
theorem w_unE {i : Nat} {D : Ends} {σ : St} {H : Hp} (h : D.nx (σ.set i none) H) : (unE i D).nx σ H := h
theorem w_xf {K : W.Frag} {ta : TE} {f : Str} {σ : St} {H : Hp} {Q : VK} (h : ta σ H fun x H1 => ∃ (a C dx : Addr) (vs : Array Value) (fs : List (Str × V)) (v : V), x = .ref a ∧ H1 a = some (XObj a C (some dx) vs) ∧ H1 dx = some (XDct dx fs) ∧ XA K C ∧ yp K C f ∧ fs.lookup f = some v ∧ Q v H1) : tXf K ta f σ H Q := h
theorem Xa {K : W.Frag} {ta tv : TE} {f : Str} {D : Ends} {σ : St} {H : Hp} (h : tv σ H fun y H1 => ta σ H1 fun x H2 => ∃ (a C : Addr) (d : Option Addr) (vs : Array Value), x = .ref a ∧ H2 a = some (XObj a C d vs) ∧ XA K C ∧ yp K C f ∧ XSt H2 a C d vs f y (D.nx σ)) : sXf K ta tv f D σ H := h
theorem isXT_K {X : Cx} {K : W.Frag} (h : X.K = K) : yk X (.builtin "isinstance") (YH K) := h ▸ call_isXT
theorem XF {X : Cx} {K : W.Frag} (h : X.K = K) : yk X (.builtin "isinstance") (rIsX K) := h ▸ call_isX
theorem YN {X : Cx} {K : W.Frag} {e : Expr} {ta : TE} {f : Str} {pos : Pos} (h : X.K = K) (he : PE X e ta) (hb : attributeBase e f X.env (eval e X.env) = eval e X.env := by rfl) : PE X (.Attribute e f pos) (tXf K ta f) := h ▸ pe_xf he hb
structure XUni (K : W.Frag) (mg : Str → Option Value) (D : Addr) (cs : List (Str × Addr)) : Prop where
 base : XC K D bmV
 mD : mg "DropError" = some (.ref D)
 cls : ∀ c ∈ cs, mg c.1 = some (.ref c.2) ∧ XC K c.2 (.ref D :: bmV) ∧ XA K c.2
 nd : (D :: cs.map (·.2)).Nodup
theorem contains_D {D c : Addr} : (Value.ref c :: .ref D :: bmV).contains (.ref D) = true := by simp
theorem contains_ne {D c c' : Addr} (h1 : c ≠ c') (h2 : c' ≠ D) : (Value.ref c :: .ref D :: bmV).contains (.ref c') = false := by
 rw [List.contains_cons, List.contains_cons]
 have e1 : (Value.ref c' == Value.ref c) = false := by
  refine Bool.eq_false_iff.mpr fun z => h1 ?_
  exact (Value.ref.inj (beq_iff_eq.mp z)).symm
 have e2 : (Value.ref c' == Value.ref D) = false := by
  refine Bool.eq_false_iff.mpr fun z => h2 ?_
  exact Value.ref.inj (beq_iff_eq.mp z)
 rw [e1, e2]
 rfl
end L2
namespace PySem
open Sem (wp)
open L2 (OverV bmV)
section
variable {prog : Program} {w : World} {A : Around} {E : Value → Shared → Prop} {h : Heap} {g : Array GenState} {d : Drawn} {t : Nat} {os : OsState}
variable {nm q : Str} {C N : Addr} {bs : List Value} {sn : List Str} {sub : List Value} {ab : Bool} {col : Option Bool} {dd : Option Addr} {k0 k1 k2 k3 k5 : Option Value}
end
end PySem
namespace L2
open PySem PySem.Spec PyProof.Rows
structure FnOkH (P : Program) (w : World) (K : W.Frag) (mg : Str → Option Value) (base : Heap) (k : Nat) (f : Addr) (fd : FuncData) (ps : List Str) (sp : Sp) : Prop where
 len : ∀ vs H Q E, sp vs H Q E → vs.length = ps.length
 run : ∀ (A : Around) (a : Addr) (outer : List Env) (s : Shared) (H : Hp) (args : Args) (us : List Value) (vs : List V) (Q : VK), Room k A → Env0 P w K mg base A outer s H → BindsTo s fd args (ps.zip us) → Vals vs us → sp vs H Q E0 →
  codeAny (model P w) (A.mark (some (.ref a))) (.call (.ref f) args) (CR CX0 outer P w H s Q E0) s
structure XBase (K : W.Frag) (C : Addr) : Prop where
 at_ : ∃ (nm q : Str) (N : Addr) (bs : List Value) (sn : List Str) (sub : List Value) (ab : Bool) (col : Option Bool) (dd : Option Addr) (k0 k1 k2 k3 k5 : Option Value),
  K.lookup C = some (excClassObj nm q C N bs bmV true sn sub ab col dd k0 k1 k2 k3 k5 "ValueError.__new__")
 fi : PySem.W.findIn K (.ref C) "__init__" = some (some (.builtin "ValueError.__init__"))
 kp : PySem.W.keepIn K (.ref C) = true
section
variable {X : Cx} {k : Nat}
def rNeT : R2 := fun x y H Q => ∃ (a z : Addr) (xs : List V), x = .ref a ∧ y = .ref z ∧ H a = some (.tup xs) ∧ H z = some (.tup []) ∧ Q (.bl (!xs.isEmpty)) H
theorem YS (hr : Room k X.A) : OpR X (compareOp .NotEq) rNeT := by
 intro pins s σ H x y v u Q I rx ry h
 obtain ⟨a, z, xs, rfl, rfl, ha, hz, q⟩ := h
 cases rx
 cases ry
 have hu := hr.units
 obtain ⟨its, r, pl, _⟩ := I.tuple (SqT.of ha)
 obtain ⟨its2, r2, pl2, _⟩ := I.tuple (SqT.of hz)
 have e2 : its2 = [] := r2.nil_iff.mpr rfl
 subst e2
 have R := SeqAt.RcNeAt.tuples (A := X.A) (e := fun _ => true) pl pl2 (by omega) (fun j h1 h2 => absurd h2 (by simp))
 refine R X.prog X.w X.xe _ ⟨.bl _, H, I, rfl, ?_⟩
 have e : (!((List.range (min its.toArray.size (#[] : Array Value).size)).all (fun _ => true) && its.toArray.size == (#[] : Array Value).size)) = !xs.isEmpty := by
  cases xs with
  | nil =>
   have e1 : its = [] := r.nil_iff.mpr rfl
   subst e1
   rfl
  | cons y ys =>
   have hne : its ≠ [] := fun e => by have := r.nil_iff.mp e; cases this
   simp [hne]
 rw [← e] at q
 exact q
end
end L2
namespace L2
open PySem
structure Bl (mg : Str → Option Value) : Prop where
 len : mg "len" = none
 range : mg "range" = none
 tuple : mg "tuple" = none
 int : mg "int" = none
 bool : mg "bool" = none
 list : mg "list" = none
 str : mg "str" = none
 all : mg "all" = none
 any : mg "any" = none
 isi : mg "isinstance" = none
 repr : mg "repr" = none
 zip : mg "zip" = none
 min : mg "min" = none
 max : mg "max" = none
 sum : mg "sum" = none
 enu : mg "enumerate" = none
 sorted : mg "sorted" = none
 set : mg "set" = none
 dict : mg "dict" = none
 abs : mg "abs" = none
def Kn (mg : Str → Option Value) (x : Str) (i : Int) : Prop := ∃ t, mg x = some (Value.int i t)
def KnS (mg : Str → Option Value) (x : Str) (a : Str) : Prop := ∃ t, mg x = some (Value.str a t)
theorem pe_k {X : Cx} {x : Str} {i : Int} {pos : Pos} (h : Kn X.mg x i) (hg : Gl X x := by rfl) (hd : (x == ("__debug__" : Str)) = false := by decide) : PE X (.Name x pos) (tC (.int i)) := by
 obtain ⟨t, e⟩ := h
 exact Yd hg e ⟨t, rfl⟩ hd
theorem YQ {X : Cx} {x a : Str} {pos : Pos} (h : KnS X.mg x a) (hg : Gl X x := by rfl) (hd : (x == ("__debug__" : Str)) = false := by decide) : PE X (.Name x pos) (tC (.str a)) := by
 obtain ⟨t, e⟩ := h
 exact Yd hg e ⟨t, rfl⟩ hd
theorem at0 {v : V} {xs : List V} : atI (v :: xs) 0 = some v := yA (show (v :: xs)[0]? = some v from rfl)
theorem iteP {c A B : Prop} [Decidable c] (hc : c) (h : A) : if decide c = true then A else B := by rw [decide_eq_true hc]; exact iteT h
theorem iteQ {c A B : Prop} [Decidable c] (hc : ¬ c) (h : B) : if decide c = true then A else B := by rw [decide_eq_false hc]; exact iteF h
end L2
namespace L2
open PySem PySem.Spec PyProof.Rows Builtin Builtin.Str
section
variable {X : Cx}
def isT (b : Str) : Value → Bool
 | .str a _ => decide (a = b)
 | _ => false
end
theorem Z5 {x : Str} {n : Nat} (hl : x.length ≤ n) (hc : ∀ c ∈ x.cps.toList, c < 16 ^ 8) : G2.Shw (.str x) (10 * n + 2) 0 := ⟨rfl, rfl, Nat.zero_le _, Nat.le_trans (PySem.StrLaws.reprText_len x hc) (by omega)⟩
end L2
namespace L2
open PySem PySem.Spec PyProof.Rows
def rGetL : V → V → Hp → VK → Prop := fun o i H Q => ∃ (p : Addr) (xs : List V) (j : Nat) (v : V), o = .ref p ∧ i = .int (j : Int) ∧ H p = some (.lst xs) ∧ xs[j]? = some v ∧ Q v H
theorem get_l {X : Cx} : PGet X rGetL := by
 intro pins s σ H o i ov iv Q I ro ri h
 obtain ⟨p, xs, j, v, rfl, rfl, hp, hv, q⟩ := h
 cases ro
 obtain ⟨t, rfl⟩ := ri
 obtain ⟨its, r, pl, hz⟩ := I.list (SqL.of hp)
 obtain ⟨w, ew, rw'⟩ := r.get hv
 have hl := r.length
 have hj := (List.getElem?_eq_some_iff.mp hv).1
 have hn := wy
 exact wpAny_getItem_list pl.isList (by omega) (by omega) (by simpa using ew) ⟨v, H, I, rw', q⟩
theorem w_augS {to ti te : TE} {tget : V → V → Hp → VK → Prop} {tip : TIp} {tset : TSet} {D : Ends} {σ : St} {H : Hp} (h : to σ H fun o H1 => ti σ H1 fun i H2 => tget o i H2 fun x H3 => te σ H3 fun y H4 => tip x y H4 fun z H5 => tset o i z H5 fun H6 => D.nx σ H6) : Xm to ti te tget tip tset D σ H := h
theorem SqT.sm {K : W.Frag} {H H' : Hp} {a : Addr} {xs : List V} (e : Same H H') (h : SqT K H a xs) : SqT K H' a xs := by
 rcases h with (h | ⟨o, h⟩) | h
 ·exact .inl (.inl (e _ _ h))
 ·exact .inl (.inr ⟨o, e _ _ h⟩)
 ·exact .inr h
section
variable {D : Addr} {te : TE} {Q : VK} {ρ : St} {H : Hp}
theorem cg_tup {K : W.Frag} {a : Addr} {α : Type} {ws : List α} (c r : α → V) (hs : SqT K H a (ws.map c)) (hn : ws.length ≤ 1000) (hD : H D = none)
  (h : ∀ w ∈ ws, ∀ H', Same H H' → ∀ R : V → Hp → Prop, (∀ H'', Same H' H'' → R (r w) H'') → te (some (c w) :: ρ) H' R)
  (q : ∀ H', Same H H' → H' D = some (.lst (ws.map r)) → Q (.ref D) H') : CGo (Itt K a) D (yi 0) tAll te Q (none :: ρ) H := by
 refine wn (xs := ws.map c) (fun i ys H' => ys = (ws.take i).map r ∧ Same H H') ⟨rfl, Same.new (Same.refl H) hD⟩ (fun i ys H' _ ⟨_, k'⟩ => SqT.sm k' hs) ?_ ?_
 ·rintro i x ys H' hx ⟨rfl, K'⟩ hDy R S kR _
  have hi : i < ws.length := itl hx
  have ex : x = c ws[i] := by
   rw [List.getElem?_map, List.getElem?_eq_getElem hi] at hx
   exact (Option.some.inj hx).symm
  subst ex
  refine xJ (iteT ?_)
  refine h _ (List.getElem_mem hi) H' K' _ fun H2 K2 => ?_
  refine kR _ _ (K2 _ _ hDy) (by rw [List.length_map, List.length_take]; exact zt (by omega)) ⟨?_, (K'.trans K2).put hD⟩
  rw [List.take_add_one, List.getElem?_eq_getElem hi, List.map_append]
  rfl
 ·rintro ys H1 ⟨rfl, K1⟩ e1
  rw [List.length_map, List.take_length] at e1
  exact q H1 K1 e1
theorem cg_rng {lo : Int} {n : Nat} (r : Nat → V) (hn : n ≤ 1000) (hD : H D = none)
  (h : ∀ i, i < n → ∀ H', Same H H' → ∀ R : V → Hp → Prop, (∀ H'', Same H' H'' → R (r i) H'') → te (some (.int (lo + i)) :: ρ) H' R)
  (q : ∀ H', Same H H' → H' D = some (.lst ((List.range n).map r)) → Q (.ref D) H') : CGo (Itr lo n) D (yi 0) tAll te Q (none :: ρ) H := by
 refine ym (n := n) (fun i ys H' => ys = (List.range i).map r ∧ Same H H') ⟨rfl, Same.new (Same.refl H) hD⟩ ?_ ?_
 ·rintro i ys H' hi ⟨rfl, K'⟩ hDy R S kR _
  refine xJ (iteT ?_)
  refine h i hi H' K' _ fun H2 K2 => ?_
  refine kR _ _ (K2 _ _ hDy) (by rw [List.length_map, List.length_range]; exact zt (by omega)) ⟨?_, (K'.trans K2).put hD⟩
  rw [List.range_succ, List.map_append]
  rfl
 ·rintro ys H1 ⟨rfl, K1⟩ e1
  exact q H1 K1 e1
end
end L2
namespace PT
open PySem L2 G2
def fT (i : Int) : Str := Str.ofString (toString i)
def inF (y : Str) : Bool := !(Builtin.Str.occurrences "0123456789" y 0 (Str.length "0123456789") 1).isEmpty
def figB (x : Str) : Bool := decide (x.length ≤ 10) && (sg x).all inF && (match x.cps.toList with | [] => false | c :: _ => decide (x = "0") || !decide ((⟨#[c]⟩ : Str) = "0"))
def inL (y : Str) : Bool := !(Builtin.Str.occurrences "abcdefghijklmnopqrstuvwxyz" y 0 (Str.length "abcdefghijklmnopqrstuvwxyz") 1).isEmpty
def noNames : List Str := ["sorts", "begin", "in", "out", "rule", "to"]
def Xx (x : Str) : Bool := decide (1 ≤ x.length) && decide (x.length ≤ 8) && !decide (x ∈ noNames) && (sg x).all inL && x.cps.toList.all fun c => decide (97 ≤ c) && decide (c ≤ 122)
structure Cnt (i : Int) : Prop where
 fig : figB (fT i) = true
 l2 : (fT i).length ≤ 2
 rd : PySem.intText? (fT i) = some i
 ch : ∀ c ∈ (fT i).cps.toList, 48 ≤ c ∧ c ≤ 57
 lg : i.natAbs.log2 < 1920
structure Wd (w : Str) : Prop where
 l : w.length ≤ 8
 ch : ∀ c ∈ w.cps.toList, 33 ≤ c ∧ c ≤ 127
structure Nme (x : Str) : Prop where
 b : Xx x = true
 l1 : 1 ≤ x.length
 l8 : x.length ≤ 8
 no : x ∉ noNames
 al : (sg x).all inL = true
 ch : ∀ c ∈ x.cps.toList, 97 ≤ c ∧ c ≤ 122
structure Sd (m : Nat) (cs : List Int) : Prop where
 l : cs.length = m
 b : ∀ c ∈ cs, 0 ≤ c ∧ c ≤ 9
structure PD where
 nm : List Str
 rl : List (List Int × List Int)
 ins : List Int
 beg : List Int
 ans : Int
structure PD.ok (d : PD) (m : Nat) : Prop where
 nl : d.nm.length = m
 nd : d.nm.Nodup
 nb : ∀ x ∈ d.nm, Xx x = true
 m0 : 0 < m
 m8 : m ≤ 8
 r8 : d.rl.length ≤ 8
 rs : ∀ r ∈ d.rl, Sd m r.1 ∧ Sd m r.2 ∧ (∃ x ∈ r.1, 0 < x) ∧ r.1 ≠ r.2
 hi : ∀ i ∈ d.ins, 0 ≤ i ∧ i < m
 i3 : d.ins.length ≤ 3
 inn : d.ins.Nodup
 bl : d.beg.length = m
 hb : ∀ b ∈ d.beg, 0 ≤ b ∧ b ≤ 99
 ha : 0 ≤ d.ans ∧ d.ans < m
def ruD (r : List Int × List Int) : PyData := .tuple [.tuple (r.1.map .int), .tuple (r.2.map .int)]
def ptD (d : PD) : PyData := .tuple [.tuple (d.nm.map .str), .tuple (d.rl.map ruD), .tuple (d.ins.map .int), .tuple (d.beg.map .int), .int d.ans]
theorem ZL {H : Hp} : ∀ (ws : List Str), RdVs H (ws.map V.str) (ws.map PyData.str)
 | [] => .nil
 | w :: ws => .cons (.str w) (ZL ws)
end PT
namespace L2
open PySem PySem.Spec PyProof.Rows
def TupF (H : Hp) (l : Addr) (ys : List V) : Prop := ∃ o, H l = some (.frz o (.tup ys)) ∧ o.dict = none ∧ o.cls = .type "tuple"
end L2
namespace L2
open PySem
theorem TupF.same {H H' : Hp} {l : Addr} {ys : List V} (t : TupF H l ys) (k : Same H H') : TupF H' l ys := let ⟨o, e, a, b⟩ := t; ⟨o, k _ _ e, a, b⟩
end L2
namespace PT
open PySem L2 G2
structure KP (mg : Str → Option Value) : Prop where
 sorts : Kn mg "SORTS" 0
 rules : Kn mg "RULES" 1
 inputs : Kn mg "INPUTS" 2
 begin : Kn mg "BEGIN" 3
 answer : Kn mg "ANSWER" 4
 takes : Kn mg "TAKES" 0
 gives : Kn mg "GIVES" 1
structure KR (K : W.Frag) (mg : Str → Option Value) : Prop where
 fig : KnS mg "FIGURES" "0123456789"
 lets : KnS mg "LETTERS" "abcdefghijklmnopqrstuvwxyz"
 no : GTup K mg "NO_NAMES" (noNames.map V.str)
 mlet : Kn mg "MOST_LETTERS" 8
 msor : Kn mg "MOST_SORTS" 8
 mbeg : Kn mg "MOST_BEGIN" 99
 minp : Kn mg "MOST_INPUTS" 3
 mrul : Kn mg "MOST_RULES" 8
 mdro : Kn mg "MOST_DROPS" 9
 mfig : Kn mg "MOST_FIGURES" 2
 l0 : Kn mg "SORTS_LINE" 0
 l1 : Kn mg "BEGIN_LINE" 1
 l2 : Kn mg "IN_LINE" 2
 l3 : Kn mg "OUT_LINE" 3
 l4 : Kn mg "FIRST_RULE" 4
def RlD (H : Hp) (r : Addr) (x : List Int × List Int) : Prop := ∃ a b, H r = some (.tup [.ref a, .ref b]) ∧ H a = some (.tup (x.1.map V.int)) ∧ H b = some (.tup (x.2.map V.int))
theorem RlD.same {H H' : Hp} {r : Addr} {x : List Int × List Int} (h : RlD H r x) (k : Same H H') : RlD H' r x := let ⟨a, b, h1, h2, h3⟩ := h; ⟨a, b, k _ _ h1, k _ _ h2, k _ _ h3⟩
def RlsD (H : Hp) : List Addr → List (List Int × List Int) → Prop
 | [], [] => True
 | r :: rs, x :: xs => RlD H r x ∧ RlsD H rs xs
 | _, _ => False
theorem RlsD.same {H H' : Hp} (k : Same H H') : ∀ {rs : List Addr} {xs : List (List Int × List Int)}, RlsD H rs xs → RlsD H' rs xs
 | [], [], _ => trivial
 | _ :: _, _ :: _, ⟨a, b⟩ => ⟨a.same k, RlsD.same k b⟩
 | [], _ :: _, h => h.elim
 | _ :: _, [], h => h.elim
theorem RlsD.len {H : Hp} : ∀ {rs : List Addr} {xs : List (List Int × List Int)}, RlsD H rs xs → rs.length = xs.length
 | [], [], _ => rfl
 | _ :: _, _ :: _, ⟨_, b⟩ => by rw [List.length_cons, List.length_cons, RlsD.len b]
 | [], _ :: _, h => h.elim
 | _ :: _, [], h => h.elim
theorem RlsD.get {H : Hp} : ∀ {rs : List Addr} {xs : List (List Int × List Int)} {i : Nat} {r : Addr}, RlsD H rs xs → rs[i]? = some r → ∃ x, xs[i]? = some x ∧ RlD H r x
 | r' :: _, x :: _, 0, r, ⟨a, _⟩, e => by cases e; exact ⟨x, rfl, a⟩
 | _ :: _, _ :: _, i + 1, r, ⟨_, b⟩, e => RlsD.get (i := i) b e
 | [], _, _, _, _, e => nomatch e
 | _ :: _, [], _, _, h, _ => h.elim
theorem RlsD.snoc {H : Hp} : ∀ {rs : List Addr} {xs : List (List Int × List Int)} {r : Addr} {x : List Int × List Int}, RlsD H rs xs → RlD H r x → RlsD H (rs ++ [r]) (xs ++ [x])
 | [], [], _, _, _, h => ⟨h, trivial⟩
 | _ :: _, _ :: _, _, _, ⟨a, b⟩, h => ⟨a, RlsD.snoc b h⟩
 | [], _ :: _, _, _, h, _ => h.elim
 | _ :: _, [], _, _, h, _ => h.elim
theorem RlsD.rd {H : Hp} : ∀ {rs : List Addr} {xs : List (List Int × List Int)}, RlsD H rs xs → RdVs H (rs.map V.ref) (xs.map ruD)
 | [], [], _ => .nil
 | _ :: _, _ :: _, ⟨⟨_, _, h1, h2, h3⟩, b⟩ => .cons (.tup h1 (.cons (.tup h2 (yV _)) (.cons (.tup h3 (yV _)) .nil))) (RlsD.rd b)
 | [], _ :: _, h => h.elim
 | _ :: _, [], h => h.elim
theorem RlD.off {H : Hp} {D r : Addr} {ys : List V} {o : HO} {x : List Int × List Int} (hD : H D = some (.lst ys)) (h : RlD H r x) : RlD (upd H D o) r x := by
 obtain ⟨a, b, h1, h2, h3⟩ := h
 have ne : ∀ {q : Addr} {zs : List V}, H q = some (.tup zs) → q ≠ D := fun e z => by rw [z, hD] at e; cases e
 exact ⟨a, b, by rw [zl (ne h1)]; exact h1, by rw [zl (ne h2)]; exact h2, by rw [zl (ne h3)]; exact h3⟩
theorem RlsD.off {H : Hp} {D : Addr} {ys : List V} {o : HO} (hD : H D = some (.lst ys)) : ∀ {rs : List Addr} {xs : List (List Int × List Int)}, RlsD H rs xs → RlsD (upd H D o) rs xs
 | [], [], _ => trivial
 | _ :: _, _ :: _, ⟨a, b⟩ => ⟨a.off hD, RlsD.off hD b⟩
 | [], _ :: _, h => h.elim
 | _ :: _, [], h => h.elim
structure PotF (fz : Bool) (H : Hp) (p : Addr) (d : PD) : Prop where
 ex : ∃ (ps pr pin pb : Addr) (rs : List Addr), H p = some (.tup [.ref ps, .ref pr, .ref pin, .ref pb, .int d.ans]) ∧ (if fz = true then TupF H ps (d.nm.map V.str) else H ps = some (.tup (d.nm.map V.str))) ∧ H pr = some (.tup (rs.map V.ref)) ∧ RlsD H rs d.rl ∧
  H pin = some (.tup (d.ins.map V.int)) ∧ H pb = some (.tup (d.beg.map V.int))
theorem PotF.same {fz : Bool} {H H' : Hp} {p : Addr} {d : PD} (h : PotF fz H p d) (k : Same H H') : PotF fz H' p d := by
 obtain ⟨ps, pr, pin, pb, rs, h1, h2, h3, h4, h5, h6⟩ := h.ex
 refine ⟨ps, pr, pin, pb, rs, k _ _ h1, ?_, k _ _ h3, h4.same k, k _ _ h5, k _ _ h6⟩
 cases fz
 ·exact k _ _ h2
 ·exact TupF.same h2 k
theorem PotF.rd {fz : Bool} {H : Hp} {p : Addr} {d : PD} (h : PotF fz H p d) : RdV H (.ref p) (ptD d) := by
 obtain ⟨ps, pr, pin, pb, rs, h1, h2, h3, h4, h5, h6⟩ := h.ex
 refine .tup h1 (.cons ?_ (.cons (.tup h3 h4.rd) (.cons (.tup h5 (yV _)) (.cons (.tup h6 (yV _)) (.cons (.int _) .nil)))))
 cases fz
 ·exact .tup h2 (ZL _)
 ·obtain ⟨o, e, _⟩ := h2
  exact .ftup e (ZL _)
def Tst (H H' : Hp) : Prop := ∀ q xs, H q = some (.tup xs) → H' q = some (.tup xs)
theorem RlsD.tst {H H' : Hp} (k : Tst H H') : ∀ {rs : List Addr} {xs : List (List Int × List Int)}, RlsD H rs xs → RlsD H' rs xs
 | [], [], _ => trivial
 | _ :: _, _ :: _, ⟨⟨a, b, h1, h2, h3⟩, q⟩ => ⟨⟨a, b, k _ _ h1, k _ _ h2, k _ _ h3⟩, RlsD.tst k q⟩
 | [], _ :: _, h => h.elim
 | _ :: _, [], h => h.elim
theorem PotF.tst {H H' : Hp} {p : Addr} {d : PD} (h : PotF false H p d) (k : Tst H H') : PotF false H' p d := by
 obtain ⟨ps, pr, pin, pb, rs, h1, h2, h3, h4, h5, h6⟩ := h.ex
 exact ⟨ps, pr, pin, pb, rs, k _ _ h1, k _ _ h2, k _ _ h3, h4.tst k, k _ _ h5, k _ _ h6⟩
end PT
namespace L2
open PySem PySem.Spec PyProof.Rows
section
variable {prog : Program} {w : World} {A : Around} {E : Value → Shared → Prop} {s : Shared}
theorem zipW_item {z TI TO i1 i2 l1 l2 : Addr} {k1 k2 : Nat} {xs ys : Array Value} {x y a b : Value} {Q : Value → Shared → Prop} (D : ZipApart z TI TO i1 i2 l1 l2) (hz : IsZip s.heap z TI TO .none) (hTI : IsPair s.heap TI (.ref i1) (.ref i2)) (hTO : IsPair s.heap TO a b)
  (h1 : s.heap.IsListIter i1 l1 k1) (h2 : s.heap.IsTupleIter i2 l2 k2) (hl1 : s.heap.IsList l1 xs) (hl2 : s.heap.IsTuple l2 ys) (hx : xs[k1]? = some x) (hy : ys[k2]? = some y)
  (hQ : ∀ h', IsZip h' z TI TO (rawInt s.heap.objs.size) → IsPair h' TO x y → h'.IsListIter i1 l1 (k1 + 1) → h'.IsTupleIter i2 l2 (k2 + 1) → IsPair h' s.heap.objs.size x y →
   (∀ d o, d ≠ z → d ≠ TO → d ≠ i1 → d ≠ i2 → s.heap.get? d = some o → h'.get? d = some o) → Q (.ref s.heap.objs.size) { s with heap := h' }) :
  wpAny (model prog w) A (Builtin.«zip.__next__» ⟨[.ref z], []⟩) (fun f s' => ∃ v, f = .done (.ret v) ∧ Q v s') E s := by
 show wpAny _ _ (field (.ref z) 2 >>= _) _ _ _; refine wpAny_bind (wpAny_field hz rfl (x := .bool false) rfl ?_)
 show wpAny _ _ (field (.ref z) 3 >>= _) _ _ _; refine wpAny_bind (wpAny_field hz rfl (x := .ref TI) rfl ?_)
 refine wpAny_bind (wpAny_seqItems hTI rfl ?_); show wpAny _ _ (Builtin.SmallTypes.ownedTupleIsFree (.ref z) >>= _) _ _ _
 refine wpAny_bind ?_; unfold Builtin.SmallTypes.ownedTupleIsFree
 refine wpAny_bind (wpAny_field hz rfl (x := .none) rfl (wpAny_pure ?_)); simp only [if_true]
 refine wpAny_bind (wpAny_rule ?_); refine wpAny_bind (wpAny_field hz rfl (x := .ref TO) rfl ?_)
 refine wpAny_bind (wpAny_setField_rec hz (by simp) fun g1 zz1 s1 => ?_); replace zz1 : IsZip g1 z TI TO .ellipsis := zz1
 refine wpAny_bind ?_; simp only [List.zipIdx_cons, List.zipIdx_nil, List.forIn_cons, List.forIn_nil]
 refine wpAny_bind (wpAny_bind (wpAny_onRaise ?_)); show wpAny _ _ (Builtin.SmallTypes.nextOf (.ref i1) >>= _) _ _ _
 refine wpAny_bind (wpAny_nextOf_list_item (lstJ h1 s1.extBut D.i1z) (lstX hl1 s1.extBut D.l1z) hx fun g2 j2 s2 => wpAny_pure ?_)
 have o2 : IsPair g2 TO a b := s2.extBut _ _ D.TOi1 (s1.extBut _ _ D.TOz hTO)
 refine wpAny_bind (wpAny_seqItems o2 rfl ?_); refine wpAny_bind (wpAny_updateSeq_pair o2 fun g3 o3 s3 => ?_); replace o3 : IsPair g3 TO x b := o3
 refine wpAny_bind (wpAny_letGo (wpAny_pure ?_)); refine wpAny_bind (wpAny_bind (wpAny_onRaise ?_)); show wpAny _ _ (Builtin.SmallTypes.nextOf (.ref i2) >>= _) _ _ _
 refine wpAny_bind (yN (tupJ (tupJ (tupJ h2 s1.extBut D.i2z) s2.extBut D.i12.symm) s3.extBut D.TOi2.symm) (tupX (tupX (tupX hl2 s1.extBut D.l2z) s2.extBut D.l2i1) s3.extBut D.l2TO) hy fun g4 j4 s4 => wpAny_pure ?_)
 have o4 : IsPair g4 TO x b := s4.extBut _ _ D.TOi2 o3
 refine wpAny_bind (wpAny_seqItems o4 rfl ?_); refine wpAny_bind (wpAny_updateSeq_pair o4 fun g5 o5 s5 => ?_); replace o5 : IsPair g5 TO x y := o5
 refine wpAny_bind (wpAny_letGo (wpAny_pure (wpAny_pure ?_))); refine wpAny_bind (wpAny_seqItems o5 rfl ?_); refine wpAny_bind (wpAny_newTuple ?_)
 have sz : g5.objs.size = s.heap.objs.size := by rw [s5.1, s4.1, s3.1, s2.1, s1.1]
 have z5 : IsZip g5 z TI TO .ellipsis := s5.extBut _ _ D.TOz.symm (s4.extBut _ _ D.i2z.symm (s3.extBut _ _ D.TOz.symm (s2.extBut _ _ D.i1z.symm zz1)))
 have k5 : ∀ c o, c ≠ z → c ≠ TO → c ≠ i1 → c ≠ i2 → s.heap.get? c = some o → g5.get? c = some o := fun c o c1 c2 c3 c4 q => s5.extBut _ _ c2 (s4.extBut _ _ c4 (s3.extBut _ _ c2 (s2.extBut _ _ c3 (s1.extBut _ _ c1 q))))
 have a5 : g5.IsListIter i1 l1 (k1 + 1) := lstJ (lstJ (lstJ j2 s3.extBut D.TOi1.symm) s4.extBut D.i12) s5.extBut D.TOi1.symm
 have b5 : g5.IsTupleIter i2 l2 (k2 + 1) := tupJ j4 s5.extBut D.TOi2.symm
 have zlt : z < g5.objs.size := Heap.lt_size z5
 show wpAny _ _ (Builtin.SmallTypes.ownedTupleHandOut (.ref z) (.ref g5.objs.size) >>= _) _ _ _; refine wpAny_bind ?_; unfold Builtin.SmallTypes.ownedTupleHandOut
 have z6 : IsZip (g5.push { cls := .type "tuple", data := .seq #[x, y] }) z TI TO .ellipsis := Heap.get?_push_of_some _ z5
 refine wpAny_bind (wpAny_setField_rec z6 (by simp) fun g7 z7 s7 => ?_); replace z7 : IsZip g7 z TI TO (rawInt g5.objs.size) := z7
 refine wpAny_setField_rec z7 (by simp) fun g8 z8 s8 => ?_; replace z8 : IsZip g8 z TI TO (rawInt g5.objs.size) := z8
 have up : ∀ c o, c ≠ z → g5.get? c = some o → g8.get? c = some o := fun c o c1 q => s8.extBut _ _ c1 (s7.extBut _ _ c1 (Heap.get?_push_of_some _ q))
 have t8 : IsPair g8 g5.objs.size x y := s8.extBut _ _ (Nat.ne_of_gt zlt) (s7.extBut _ _ (Nat.ne_of_gt zlt) (Heap.get?_push_size _ rfl))
 rw [sz] at z8 t8; refine wpAny_pure ⟨_, rfl, ?_⟩; show Q (.ref g5.objs.size) _; rw [sz]
 exact hQ g8 z8 (up _ _ D.TOz o5) (a5.at fun o q => up _ o D.i1z q) (b5.at fun o q => up _ o D.i2z q) t8 fun c o c1 c2 c3 c4 q => up c o c1 (k5 c o c1 c2 c3 c4 q)
theorem zipW_end {z TI TO i1 i2 l1 l2 : Addr} {k1 k2 : Nat} {xs ys : Array Value} {a b : Value} {Q : Fin → Shared → Prop} (hh : A.handled = none) (D : ZipApart z TI TO i1 i2 l1 l2) (hz : IsZip s.heap z TI TO .none) (hTI : IsPair s.heap TI (.ref i1) (.ref i2)) (hTO : IsPair s.heap TO a b)
  (h1 : s.heap.IsListIter i1 l1 k1) (h2 : s.heap.IsTupleIter i2 l2 k2) (hl1 : s.heap.IsList l1 xs) (hl2 : s.heap.IsTuple l2 ys) (hend : xs[k1]? = none ∨ ys[k2]? = none)
  (hE : ∀ h' e, (∀ d o, d ≠ z → d ≠ TO → d ≠ i1 → d ≠ i2 → s.heap.get? d = some o → h'.get? d = some o) → (∃ o, h'.get? e = some o ∧ o.cls = .type "StopIteration") → E (.ref e) { s with heap := h' }) : wpAny (model prog w) A (Builtin.«zip.__next__» ⟨[.ref z], []⟩) Q E s := by
 show wpAny _ _ (field (.ref z) 2 >>= _) _ _ _; refine wpAny_bind (wpAny_field hz rfl (x := .bool false) rfl ?_)
 show wpAny _ _ (field (.ref z) 3 >>= _) _ _ _; refine wpAny_bind (wpAny_field hz rfl (x := .ref TI) rfl ?_)
 refine wpAny_bind (wpAny_seqItems hTI rfl ?_); show wpAny _ _ (Builtin.SmallTypes.ownedTupleIsFree (.ref z) >>= _) _ _ _
 refine wpAny_bind ?_; unfold Builtin.SmallTypes.ownedTupleIsFree
 refine wpAny_bind (wpAny_field hz rfl (x := .none) rfl (wpAny_pure ?_)); simp only [if_true]
 refine wpAny_bind (wpAny_rule ?_); refine wpAny_bind (wpAny_field hz rfl (x := .ref TO) rfl ?_)
 refine wpAny_bind (wpAny_setField_rec hz (by simp) fun g1 zz1 s1 => ?_); replace zz1 : IsZip g1 z TI TO .ellipsis := zz1
 refine wpAny_bind ?_; simp only [List.zipIdx_cons, List.zipIdx_nil, List.forIn_cons, List.forIn_nil]
 refine wpAny_bind (wpAny_bind (wpAny_onRaise ?_)); show wpAny _ _ (Builtin.SmallTypes.nextOf (.ref i1) >>= _) _ _ _
 cases hx : xs[k1]? with
 | none =>
  refine wpAny_bind (wpAny_nextOf_list_end hh (lstJ h1 s1.extBut D.i1z) (lstX hl1 s1.extBut D.l1z) hx fun g2 e s2 he => ?_)
  obtain ⟨oe, hoe, hce⟩ := he; have z2 : IsZip g2 z TI TO .ellipsis := s2 _ _ D.i1z.symm zz1
  have ez : e ≠ z := fun q => by subst q; rw [z2] at hoe; cases hoe; simp at hce
  refine wpAny_setField_rec z2 (by simp) fun g3 _ s3 => hE g3 e (fun c o c1 _ c3 _ q => s3.extBut _ _ c1 (s2 _ _ c3 (s1.extBut _ _ c1 q))) ⟨oe, s3.extBut _ _ ez hoe, hce⟩
 | some x =>
  have hy : ys[k2]? = none := by rcases hend with q | q; rw [hx] at q; cases q; exact q
  refine wpAny_bind (wpAny_nextOf_list_item (lstJ h1 s1.extBut D.i1z) (lstX hl1 s1.extBut D.l1z) hx fun g2 j2 s2 => wpAny_pure ?_)
  have o2 : IsPair g2 TO a b := s2.extBut _ _ D.TOi1 (s1.extBut _ _ D.TOz hTO)
  refine wpAny_bind (wpAny_seqItems o2 rfl ?_); refine wpAny_bind (wpAny_updateSeq_pair o2 fun g3 o3 s3 => ?_); refine wpAny_bind (wpAny_letGo (wpAny_pure ?_))
  refine wpAny_bind (wpAny_bind (wpAny_onRaise ?_)); show wpAny _ _ (Builtin.SmallTypes.nextOf (.ref i2) >>= _) _ _ _
  refine wpAny_bind (xF hh (tupJ (tupJ (tupJ h2 s1.extBut D.i2z) s2.extBut D.i12.symm) s3.extBut D.TOi2.symm) (tupX (tupX (tupX hl2 s1.extBut D.l2z) s2.extBut D.l2i1) s3.extBut D.l2TO) hy fun g4 e s4 he => ?_)
  obtain ⟨oe, hoe, hce⟩ := he; have z4 : IsZip g4 z TI TO .ellipsis := s4 _ _ D.i2z.symm (s3.extBut _ _ D.TOz.symm (s2.extBut _ _ D.i1z.symm zz1))
  have ez : e ≠ z := fun q => by subst q; rw [z4] at hoe; cases hoe; simp at hce
  refine wpAny_setField_rec z4 (by simp) fun g5 _ s5 => hE g5 e (fun c o c1 c2 c3 c4 q => s5.extBut _ _ c1 (s4 _ _ c4 (s3.extBut _ _ c2 (s2.extBut _ _ c3 (s1.extBut _ _ c1 q))))) ⟨oe, s5.extBut _ _ ez hoe, hce⟩
abbrev zwH1 (h : Heap) (a : Addr) : Heap := h.push { cls := .type "list_iterator", data := .fields #[.ref a, .int 0 0] }
abbrev zwH2 (h : Heap) (a b : Addr) : Heap := (zwH1 h a).push { cls := .type "tuple_iterator", data := .fields #[.ref b, .int 0 0] }
abbrev zwH3 (h : Heap) (a b : Addr) : Heap := (zwH2 h a b).push { cls := .type "tuple", data := .seq #[.ref h.objs.size, .ref (zwH1 h a).objs.size] }
abbrev zwH4 (h : Heap) (a b : Addr) : Heap := (zwH3 h a b).push { cls := .type "tuple", data := .seq #[.none, .none] }
abbrev zwH5 (h : Heap) (a b : Addr) : Heap := (zwH4 h a b).push { cls := .type "zip", data := .fields #[.none, .bool false, .bool false, .ref (zwH2 h a b).objs.size, .ref (zwH3 h a b).objs.size] }
theorem zw_new (a b : Addr) (xs ys : Array Value) : Meets (Builtin.«zip.__new__» ⟨[.type "zip", .ref a, .ref b], []⟩) (fun _ R s => s.heap.IsList a xs ∧ s.heap.IsTuple b ys ∧ R (.ok (.ret (.ref (zwH4 s.heap a b).objs.size))) { s with heap := zwH5 s.heap a b }) :=
 .of_wp fun prog w A R s h => by
  obtain ⟨hp, g, d, tk, os⟩ := s; obtain ⟨hA, hB, h⟩ := h; have hsub := sub_zip
  have tA : Heap.IsList (Shared.heap ⟨hp, g, d, tk, os⟩) a xs := hA
  have tB : Heap.IsTuple (Shared.heap ⟨hp.push { cls := .type "list_iterator", data := .fields #[.ref a, .int 0 0] }, g, d, tk, os⟩) b ys := let ⟨o, e, r⟩ := hB; ⟨o, Heap.get?_push_of_some _ e, r⟩
  wp_walk using wpAny_pyIter_list tA, wpAny_pyIter_tuple tB
  exact ⟨_, rfl, h⟩
theorem call_zw {a b : Addr} {xs ys : Array Value} {Q : Value → Shared → Prop} (hA : s.heap.IsList a xs) (hB : s.heap.IsTuple b ys)
  (k : ∀ h', IsZip h' (s.heap.objs.size + 4) (s.heap.objs.size + 2) (s.heap.objs.size + 3) .none → IsPair h' (s.heap.objs.size + 2) (.ref s.heap.objs.size) (.ref (s.heap.objs.size + 1)) → IsPair h' (s.heap.objs.size + 3) .none .none →
   h'.IsListIter s.heap.objs.size a 0 → h'.IsTupleIter (s.heap.objs.size + 1) b 0 → (∀ c o, s.heap.get? c = some o → h'.get? c = some o) → Q (.ref (s.heap.objs.size + 4)) { s with heap := h' }) :
  wpAny (model prog w) A (call (.type "zip") [.ref a, .ref b]) Q E s := by
 refine callType_new F.called_zip (by decide) (F.typeCall_zip_2 _ _) (F.newCall_zip_2 _ _) (fun obj => F.args_object_init_3 obj _ _) F.entry_zip_new (zw_new a b xs ys) ⟨hA, hB, ?_⟩
 have z1 : (zwH1 s.heap a).objs.size = s.heap.objs.size + 1 := Heap.size_push ..
 have z2 : (zwH2 s.heap a b).objs.size = s.heap.objs.size + 2 := by rw [Heap.size_push, z1]
 have z3 : (zwH3 s.heap a b).objs.size = s.heap.objs.size + 3 := by rw [Heap.size_push, z2]
 have z4 : (zwH4 s.heap a b).objs.size = s.heap.objs.size + 4 := by rw [Heap.size_push, z3]
 have g5 : (zwH5 s.heap a b).get? (zwH4 s.heap a b).objs.size = some _ := Heap.get?_push_size _ rfl
 have g4 : (zwH5 s.heap a b).get? (zwH3 s.heap a b).objs.size = some _ := Heap.get?_push_of_some _ (Heap.get?_push_size _ rfl)
 have g3 : (zwH5 s.heap a b).get? (zwH2 s.heap a b).objs.size = some _ := Heap.get?_push_of_some _ (Heap.get?_push_of_some _ (Heap.get?_push_size _ rfl))
 have g2 : (zwH5 s.heap a b).get? (zwH1 s.heap a).objs.size = some _ := Heap.get?_push_of_some _ (Heap.get?_push_of_some _ (Heap.get?_push_of_some _ (Heap.get?_push_size _ rfl)))
 have g1 : (zwH5 s.heap a b).get? s.heap.objs.size = some _ := Heap.get?_push_of_some _ (Heap.get?_push_of_some _ (Heap.get?_push_of_some _ (Heap.get?_push_of_some _ (Heap.get?_push_size _ rfl))))
 show _ ∧ _
 rw [z2, z3, z4] at g5; rw [z1, z2] at g3; rw [z3] at g4; rw [z1] at g2
 have kk : ∀ c o, s.heap.get? c = some o → (zwH5 s.heap a b).get? c = some o := fun c o q => Heap.get?_push_of_some _ (Heap.get?_push_of_some _ (Heap.get?_push_of_some _ (Heap.get?_push_of_some _ (Heap.get?_push_of_some _ q))))
 rw [z4]
 exact ⟨⟨_, g5, rfl⟩, k _ g5 g3 g4 ⟨_, g1, rfl, rfl⟩ ⟨_, g2, rfl, rfl⟩ kk⟩
end
def Itw (K : W.Frag) (a b : Addr) : It :=
 ⟨fun i H => ∃ xs ys x y, SqL K H a xs ∧ SqT K H b ys ∧ xs[i]? = some x ∧ ys[i]? = some y, fun i H v H' => ∃ p x y, v = .ref p ∧ H p = none ∧ H' = upd H p (.tup [x, y]) ∧ (∀ xs, SqL K H a xs → xs[i]? = some x) ∧ ∀ ys, SqT K H b ys → ys[i]? = some y,
  fun i H => ∃ xs ys, SqL K H a xs ∧ SqT K H b ys ∧ (xs.length ≤ i ∨ ys.length ≤ i)⟩
theorem turn_zw {P : Program} {w : World} {K : W.Frag} {es : List Expr} {kt : Nat} {pt : Pos} (a b z TI TO i1 i2 : Addr) (D : ZipApart z TI TO i1 i2 a b) :
  Turn P w K (.Tuple es kt pt) (Itw K a b) [z, TI, TO, i1, i2] z (fun i h => IsZip h z TI TO .none ∧ IsPair h TI (.ref i1) (.ref i2) ∧ (∃ u v, IsPair h TO u v) ∧ h.IsListIter i1 a i ∧ h.IsTupleIter i2 b i) where
 mem := by simp
 obj := fun i h st q hq => by
  obtain ⟨hz, hI, ⟨u, v, hO⟩, ⟨o1, e1, c1, d1⟩, ⟨o2, e2, c2, d2⟩⟩ := st
  simp only [List.mem_cons, List.not_mem_nil, or_false] at hq
  rcases hq with rfl | rfl | rfl | rfl | rfl
  ·exact ⟨_, hz, fun v y => by have y' : Data.fields _ = Data.cell v := y; cases y'⟩
  ·exact ⟨_, hI, fun v y => by have y' : Data.seq _ _ = Data.cell v := y; cases y'⟩
  ·exact ⟨_, hO, fun v y => by have y' : Data.seq _ _ = Data.cell v := y; cases y'⟩
  ·exact ⟨o1, e1, fun v y => by rw [d1] at y; cases y⟩
  ·exact ⟨o2, e2, fun v y => by rw [d2] at y; cases y⟩
 keep := fun i h h' st k => ⟨k z (by simp) _ st.1, k TI (by simp) _ st.2.1, let ⟨u, v, q⟩ := st.2.2.1; ⟨u, v, k TO (by simp) _ q⟩, st.2.2.2.1.at fun o x => k i1 (by simp) o x, st.2.2.2.2.at fun o x => k i2 (by simp) o x⟩
 item := by
  intro X hP hw hK hc i pins s σ H E I hf st hg
  subst hP hw hK
  obtain ⟨xs, ys, x, y, hqa, hqb, hx, hy⟩ := hg
  obtain ⟨ia, rva, pa, za⟩ := I.list hqa
  obtain ⟨ib, rvb, pb, zb⟩ := I.tuple hqb
  obtain ⟨u, hu, ru⟩ := rva.get hx
  obtain ⟨v, hv, rv⟩ := rvb.get hy
  obtain ⟨hz, hI, ⟨ou, ov, hO⟩, h1, h2⟩ := st
  have hT : s.TypeIs (.ref z) "zip" := ⟨_, hz, rfl⟩; unfold pyNext
  refine wpAny_bind (wpAny_attempt (wpAny_callSpecial?_slot (name := Str.ofString "__next__") hT F.slot_zip_next (wpAny_call_entry F.slot_zip_next hT F.entry_zip_next
   (zipW_item D hz hI hO h1 h2 pa.isList pb (x := u) (y := v) (by simpa using hu) (by simpa using hv) fun h' z' o' a' b' t' k' => wpAny_pure ?_) (F.args_zip_next_1 _))))
  refine ⟨_, rfl, wpAny_letOwnedTupleGo_zip z' fun h'' z'' sb => ?_⟩
  have nz : s.heap.objs.size ≠ z := Nat.ne_of_gt (Heap.lt_size hz)
  have nTO : s.heap.objs.size ≠ TO := Nat.ne_of_gt (Heap.lt_size hO)
  have nTI : s.heap.objs.size ≠ TI := Nat.ne_of_gt (Heap.lt_size hI)
  have n1 : s.heap.objs.size ≠ i1 := by obtain ⟨o, e, _⟩ := h1; exact Nat.ne_of_gt (Heap.lt_size e)
  have n2 : s.heap.objs.size ≠ i2 := by obtain ⟨o, e, _⟩ := h2; exact Nat.ne_of_gt (Heap.lt_size e)
  have up : ∀ q o, q ≠ z → h'.get? q = some o → h''.get? q = some o := fun q o hq e => (sb.2 q hq).trans e
  have hI'' : IsPair h'' TI (.ref i1) (.ref i2) := up _ _ D.TIz (k' TI _ D.TIz D.TITO D.TIi1 D.TIi2 hI)
  have I2 : Inv X pins σ (upd H s.heap.objs.size (.tup [x, y])) { s with heap := h'', toks := s.toks } := I.turnNew (ch := [z, TI, TO, i1, i2]) hf (fun q o hq e => by
   simp only [List.mem_cons, List.not_mem_nil, or_false, not_or] at hq
   exact up q o hq.1 (k' q o hq.1 hq.2.2.1 hq.2.2.2.1 hq.2.2.2.2 e)) (fun q hq => by
   simp only [List.mem_cons, List.not_mem_nil, or_false] at hq
   rcases hq with rfl | rfl | rfl | rfl | rfl
   ·exact ⟨_, z''⟩
   ·exact ⟨_, hI''⟩
   ·exact ⟨_, up _ _ D.TOz o'⟩
   ·obtain ⟨o, e, _⟩ := a'; exact ⟨o, up _ o D.i1z e⟩
   ·obtain ⟨o, e, _⟩ := b'; exact ⟨o, up _ o D.i2z e⟩) (Nat.le_refl _) (vals := [u, v]) (.cons ru (.cons rv .nil)) (sz2) ⟨_, up _ _ nz t', rfl, _, rfl⟩
  refine ⟨.ref s.heap.objs.size, _, I2, rfl, ⟨_, x, y, rfl, I.fresh, rfl, fun zs hzs => by rw [I.list_inj hzs hqa]; exact hx, fun zs hzs => by rw [I.tuple_inj hzs hqb]; exact hy⟩,
   ⟨z'', hI'', ⟨_, _, up _ _ D.TOz o'⟩, a'.at fun o e => up _ o D.i1z e, b'.at fun o e => up _ o D.i2z e⟩, fun q hq => ?_⟩
  have hq0 := (hf q hq).1
  simp only [List.mem_cons, List.not_mem_nil, or_false] at hq
  rw [zl]
  ·exact hq0
  ·rcases hq with rfl | rfl | rfl | rfl | rfl
   ·exact Ne.symm nz
   ·exact Ne.symm nTI
   ·exact Ne.symm nTO
   ·exact Ne.symm n1
   ·exact Ne.symm n2
 done := by
  intro X hP hw hK hc i pins s σ H E I hf st hg
  subst hP hw hK
  obtain ⟨xs, ys, hqa, hqb, hx⟩ := hg
  obtain ⟨ia, rva, pa, za⟩ := I.list hqa
  obtain ⟨ib, rvb, pb, zb⟩ := I.tuple hqb
  obtain ⟨hz, hI, ⟨ou, ov, hO⟩, h1, h2⟩ := st
  have la := rva.length
  have lb := rvb.length
  have hT : s.TypeIs (.ref z) "zip" := ⟨_, hz, rfl⟩; unfold pyNext
  refine wpAny_bind (wpAny_attempt (wpAny_callSpecial?_slot (name := Str.ofString "__next__") hT F.slot_zip_next (wpAny_call_entry F.slot_zip_next hT F.entry_zip_next
   (zipW_end (I.ok.hd hc) D hz hI hO h1 h2 pa.isList pb (hx.elim (fun q => .inl (by simp; omega)) fun q => .inr (by simp; omega)) fun h' e k' he => ?_) (F.args_zip_next_1 _))))
  obtain ⟨o, ho, hcl⟩ := he
  refine wpAny_bind (wpAny_isInstance (T := "StopIteration") (b := true) ⟨o, ho, hcl⟩ isSubtype_stop ?_)
  refine wpAny_pure ⟨rfl, I.turnOnly (tk := s.toks) hf fun q o hq e => ?_⟩
  simp only [List.mem_cons, List.not_mem_nil, or_false, not_or] at hq
  exact k' q o hq.1 hq.2.2.1 hq.2.2.2.1 hq.2.2.2.2 e
 self := fun _ _ s _ _ st h => wpAny_pyIter_zip st.1 h
section
variable {X : Cx} {es : List Expr} {kt : Nat} {pt : Pos}
def iZw (K : W.Frag) (ta : TA) : TI := fun σ H R => ta σ H fun vs H1 => ∃ a b, vs = [.ref a, .ref b] ∧ (∃ xs, SqL K H1 a xs) ∧ (∃ ys, SqT K H1 b ys) ∧ R (Itw K a b) H1
theorem pi_zw {e e' : Expr} {ta : TA} {p pos : Pos} (hm : X.mg "zip" = none) (ha : PA X [e, e'] ta) (hg : Gl X "zip" := by rfl) (h : zX e = false := by rfl) (h' : zX e' = false := by rfl) : PI X (.Tuple es kt pt) (.Call (.Name "zip" p) [e, e'] [] pos) (iZw X.K ta) := by
 intro pins s σ H R I hh
 refine Call_ (xR I hg hm boot_zip (PyProof.Rows.callWith_type1 (thn (ha pos pins s σ H _ I hh) fun us s1 ⟨vs, H1, I1, r1, q1⟩ => ?_) (xm h) (yB (by simp [h']))))
 obtain ⟨a, b, rfl, ⟨xs, hqa⟩, ⟨ys, hqb⟩, q⟩ := q1
 cases r1 with
 | cons ru r2 =>
  cases r2 with
  | cons rv r3 =>
   cases r3
   cases ru
   cases rv
   obtain ⟨ia, rva, pa, za⟩ := I1.list hqa
   obtain ⟨ib, rvb, pb, zb⟩ := I1.tuple hqb
   have la : a < s1.heap.objs.size := by obtain ⟨o, _, e, _⟩ := pa; exact Heap.lt_size e
   have lb : b < s1.heap.objs.size := by obtain ⟨o, e, _⟩ := pb; exact Heap.lt_size e
   refine call_zw (xs := ia.toArray) (ys := ib.toArray) pa.isList pb fun g hz hI hO j1 j2 hk => wpAny_pyIter_zip hz ?_
   refine ⟨_, [s1.heap.objs.size + 4, s1.heap.objs.size + 2, s1.heap.objs.size + 3, s1.heap.objs.size, s1.heap.objs.size + 1], _, _, H1, rfl, I1.kept (t' := s1.toks) hk, turn_zw a b _ _ _ _ _ (zipApart_new la lb), ⟨hz, hI, ⟨_, _, hO⟩, j1, j2⟩, fun q hq => ?_, by assumption⟩
   have hq' : s1.heap.objs.size ≤ q := by
    simp only [List.mem_cons, List.not_mem_nil, or_false] at hq
    rcases hq with z | z | z | z | z <;> rw [z] <;> first | exact Nat.le_refl _ | exact Nat.le_add_right _ _
   exact I1.fpOk hq' (I1.hok.fresh hq')
end
theorem w_forW {K : W.Frag} {ta : TA} {g : TG} {tb : TS} {D : Ends} {σ : St} {H : Hp} (h : ta σ H fun vs H1 => ∃ a b, vs = [.ref a, .ref b] ∧ (∃ xs, SqL K H1 a xs) ∧ (∃ ys, SqT K H1 b ys) ∧ ForJ (Itw K a b) g tb D σ H1) : tFor (iZw K ta) g tb D σ H := h
theorem for_zw {K : W.Frag} {a b : Addr} {xs zs : List V} (hz : zs.length = xs.length) {g : TG} {tb : TS} {D : Ends} {σ : St} {H : Hp} (Pv : Nat → St → Hp → Prop) (h0 : Pv 0 σ H) (hl : ∀ i σ H, Pv i σ H → SqL K H a xs ∧ SqT K H b zs)
  (hs : ∀ (i : Nat) (x y : V) σ H p, xs[i]? = some x → zs[i]? = some y → Pv i σ H → H p = none → g (.ref p) σ (upd H p (.tup [x, y])) fun σ2 H2 => tb { D with nx := Pv (i + 1), ct := Pv (i + 1), bk := D.nx } σ2 H2) (hd : ∀ σ H, Pv xs.length σ H → D.nx σ H) :
  ForJ (Itw K a b) g tb D σ H := by
 refine ⟨fun i m σ H => m = xs.length - i ∧ i ≤ xs.length ∧ Pv i σ H, ⟨xs.length, by simp, Nat.zero_le _, h0⟩, ?_⟩
 rintro i m σ H ⟨rfl, hi, p⟩
 have qa := hl i σ H p
 by_cases hlt : i < xs.length
 ·have hlz : i < zs.length := by omega
  refine .inr ⟨⟨xs, zs, xs[i], zs[i], qa.1, qa.2, by simp [hlt], by simp [hlz]⟩, Pv (i + 1), fun σ' H' p' => ⟨xs.length - (i + 1), by omega, rfl, hlt, p'⟩, fun v H' yv => ?_⟩
  obtain ⟨q, x, y, rfl, hq, rfl, ex, ey⟩ := yv
  exact hs i x y σ H q (ex xs qa.1) (ey zs qa.2) p hq
 ·have e : i = xs.length := by omega
  subst e
  exact .inl ⟨⟨xs, zs, qa.1, qa.2, .inl (Nat.le_refl _)⟩, hd σ H p⟩
section
variable {D : Addr} {te : TE} {tc : TT} {Q : VK} {ρ : St} {H : Hp}
theorem cgo_enu {K : W.Frag} {a : Addr} {xs : List V} (Pv : Nat → List V → Hp → Prop) (h0 : Pv 0 [] (upd H D (.lst []))) (hl : ∀ i ys H', i ≤ xs.length → Pv i ys H' → SqT K H' a xs)
  (hs : ∀ (i : Nat) x ys H' p, xs[i]? = some x → Pv i ys H' → H' D = some (.lst ys) → H' p = none → ∀ (R : V → Hp → Prop) (S : Hp → Prop), (∀ y H4, H4 D = some (.lst ys) → ys.length < sizeLine → Pv (i + 1) (ys ++ [y]) (upd H4 D (.lst (ys ++ [y]))) → R y H4) → (∀ H3, H3 D = some (.lst ys) → Pv (i + 1) ys H3 → S H3) →
   tc (some (.int (i : Int)) :: some x :: ρ) (upd H' p (.tup [.int (i : Int), x])) fun b H3 => if b = true then te (some (.int (i : Int)) :: some x :: ρ) H3 R else S H3)
  (hd : ∀ ys H', Pv xs.length ys H' → H' D = some (.lst ys) → Q (.ref D) H') : CGo (Ite K a) D (gTup K 2 (wl (yi 0) (wl (yi 1) gNil))) tc te Q (none :: none :: ρ) H := by
 refine ⟨fun i m τ ys H' => m = xs.length - i ∧ i ≤ xs.length ∧ (∃ tv tw, τ = tv :: tw :: ρ) ∧ Pv i ys H' ∧ H' D = some (.lst ys), ⟨xs.length, by omega, Nat.zero_le _, ⟨_, _, rfl⟩, h0, zi⟩, ?_⟩
 rintro i m τ ys H' ⟨rfl, hi, ⟨tv, tw, rfl⟩, hp, hD⟩
 refine ⟨hD, ?_⟩
 have sq := hl i ys H' hi hp
 by_cases hlt : i < xs.length
 ·refine .inr ⟨⟨xs, xs[i], sq, by simp [hlt]⟩, ?_⟩
  rintro v H'' ⟨p, x, rfl, hpn, rfl, hx⟩
  have hx' := hx xs sq
  refine ⟨p, [.int (i : Int), x], rfl, SqT.of zi, rfl, .int (i : Int), [x], rfl, x, [], rfl, rfl, ?_⟩
  exact hs i x ys _ p hx' hp hD hpn _ _ (fun y H4 a b c => ⟨a, b, xs.length - (i + 1), by omega, rfl, hlt, ⟨_, _, rfl⟩, c, zi⟩) fun H3 a c => ⟨xs.length - (i + 1), by omega, rfl, hlt, ⟨_, _, rfl⟩, c, a⟩
 ·have e : i = xs.length := by omega
  subst e
  exact .inl ⟨⟨xs, sq, rfl⟩, hd ys _ hp hD⟩
end
theorem w_compE {K : W.Frag} {ta : TA} {n : Nat} {ix : List Nat} {g : TG} {tc : TT} {te : TE} {σ : St} {H : Hp} {Q : VK} (h : ta σ H fun vs H1 => ∃ a, vs = [.ref a] ∧ (∃ xs, SqT K H1 a xs) ∧ ∀ D, H1 D = none → CGo (Ite K a) D g tc te Q (List.replicate n none ++ sub ix σ) H1) : wa (iEnu K ta) n ix g tc te σ H Q := h
theorem w_forE {K : W.Frag} {ta : TA} {g : TG} {tb : TS} {D : Ends} {σ : St} {H : Hp} (h : ta σ H fun vs H1 => ∃ a, vs = [.ref a] ∧ (∃ xs, SqT K H1 a xs) ∧ ForJ (Ite K a) g tb D σ H1) : tFor (iEnu K ta) g tb D σ H := h
theorem for_enu {K : W.Frag} {a : Addr} {xs : List V} {g : TG} {tb : TS} {D : Ends} {σ : St} {H : Hp} (Pv : Nat → St → Hp → Prop) (h0 : Pv 0 σ H) (hl : ∀ i σ H, Pv i σ H → SqT K H a xs)
  (hs : ∀ (i : Nat) (x : V) σ H p, xs[i]? = some x → Pv i σ H → H p = none → g (.ref p) σ (upd H p (.tup [.int (i : Int), x])) fun σ2 H2 => tb { D with nx := Pv (i + 1), ct := Pv (i + 1), bk := D.nx } σ2 H2) (hd : ∀ σ H, Pv xs.length σ H → D.nx σ H) :
  ForJ (Ite K a) g tb D σ H := by
 refine ⟨fun i m σ H => m = xs.length - i ∧ i ≤ xs.length ∧ Pv i σ H, ⟨xs.length, by simp, Nat.zero_le _, h0⟩, ?_⟩
 rintro i m σ H ⟨rfl, hi, p⟩
 have qa := hl i σ H p
 by_cases hlt : i < xs.length
 ·refine .inr ⟨⟨xs, xs[i], qa, by simp [hlt]⟩, Pv (i + 1), fun σ' H' p' => ⟨xs.length - (i + 1), by omega, rfl, hlt, p'⟩, fun v H' yv => ?_⟩
  obtain ⟨q, x, rfl, hq, rfl, ex⟩ := yv
  exact hs i x σ H q (ex xs qa) p hq
 ·have e : i = xs.length := by omega
  subst e
  exact .inl ⟨⟨xs, qa, rfl⟩, hd σ H p⟩
def rMaxT : List V → Hp → VK → Prop := fun xs H Q => ∃ (p : Addr) (ns : List Int), xs = [.ref p] ∧ H p = some (.tup (ns.map V.int)) ∧ 0 < ns.length ∧ ∀ M, M ∈ ns → (∀ a ∈ ns, a ≤ M) → Q (.int M) H
theorem call_maxT {X : Cx} {k : Nat} (hr : Room k X.A) : yk X (.builtin "max") rMaxT := by
 intro pins s σ H xs us Q I r h
 obtain ⟨p, ns, rfl, hp, h0, q⟩ := h
 obtain ⟨u, rfl, ru⟩ := r.one
 cases ru
 obtain ⟨its, rv, pl, hz⟩ := I.tuple (SqT.of hp)
 obtain ⟨ys, rfl, hy⟩ := Yl rv
 have ht : s.heap.IsTuple p (intItems ys.toArray) := by
  obtain ⟨o, e, c, n, d⟩ := pl
  exact ⟨o, e, c, n, by rw [d]; simp [intItems]⟩
 have hlt : p < s.heap.objs.size := by obtain ⟨_, e, _⟩ := ht; exact Heap.lt_size e
 have hlen : ys.length = ns.length := by rw [← hy, List.length_map]
 refine call_max_walk (wpAny_pyIter_tuple ht ?_)
 refine ⟨_, _, _, _, _, _, _, rfl, Walks.tuple (A := X.A.in1) hr.hd s.heap.objs.size p (Nat.ne_of_lt hlt) (intItems ys.toArray), ?_, ?_, by simp [intItems]; omega, CmpOf.ints_gt (numAt ys.toArray) (fun _ _ => intItems_at), fun v h' tk hv hk => ?_⟩
 ·exact ⟨⟨_, Heap.get?_push_size _ rfl, rfl, rfl⟩, ht.at fun o e => Heap.get?_push_of_some _ e⟩
 ·intro b hb
  show b < (s.heap.push _).objs.size
  rw [Heap.size_push]
  rcases List.mem_cons.mp hb with rfl | hb
  ·exact Nat.lt_succ_self _
  ·rw [List.mem_singleton.mp hb]
   exact Nat.lt_succ_of_lt hlt
 ·have kp : ∀ b o, s.heap.get? b = some o → h'.get? b = some o := fun b o e => hk b o (by
   intro hm
   have := Heap.lt_size e
   rw [List.mem_singleton.mp hm] at this
   exact absurd this (Nat.lt_irrefl _)) (Heap.get?_push_of_some _ e)
  obtain ⟨t, rfl⟩ := intItems_at hv
  obtain ⟨h1, h2⟩ := argBest_gt (numAt ys.toArray) (ys.toArray.size - 1)
  have hy' : (ys.toArray.toList.map (·.1)) = ns := by simpa using hy
  have esz : (intItems ys.toArray).size = ys.toArray.size := by simp [intItems]
  refine ⟨.int _, H, I.kept kp, ⟨t, rfl⟩, q _ ?_ fun a ha => ?_⟩
  ·rw [esz, numAt_eq, hy']
   exact PySem.getD_mem (by simp at h1 ⊢; omega)
  ·obtain ⟨j, hj, rfl⟩ := PySem.mem_getD ha
   have e2 := h2 j (by simp; omega)
   rw [numAt_eq, numAt_eq, hy'] at e2
   rw [esz, numAt_eq, hy']
   exact e2
end L2
namespace K52
open PySem L2 G2 PT
structure PX (d : PD) (m : Nat) : Prop where
 nl : d.nm.length = m
 nn : vL d.nm
 m0 : 0 < m
 m8 : m ≤ 8
 r8 : d.rl.length ≤ 8
 rs : ∀ r ∈ d.rl, (r.1.length = m ∧ ∀ x ∈ r.1, 0 ≤ x ∧ x ≤ 9) ∧ (r.2.length = m ∧ ∀ x ∈ r.2, 0 ≤ x ∧ x ≤ 9)
 hi : ∀ i ∈ d.ins, 0 ≤ i ∧ i < m
 i3 : d.ins.length ≤ 3
 bl : d.beg.length = m
 hb : ∀ b ∈ d.beg, 0 ≤ b ∧ b ≤ 99
 ha : 0 ≤ d.ans ∧ d.ans < m
theorem ZK {d : PD} {m : Nat} (h : PX d m) : Shw (ptD d) 20100 4 := by
 have s1 : Shw (.tuple (d.nm.map .str)) 1000 1 := by
  refine (Shw.tups (n := 82) (h := 0) (ds := d.nm.map PyData.str) fun x hx => ?_).up (by rw [List.length_map, h.nl]; have := h.m8; omega) (by decide)
  obtain ⟨y, hy, rfl⟩ := List.mem_map.mp hx
  exact Z5 (n := 8) (h.nn y hy).1 fun c hc => Nat.lt_of_lt_of_le ((h.nn y hy).2 c hc) (by decide)
 have s2 : Shw (.tuple (d.rl.map ruD)) 4000 3 := by
  refine (Shw.tups (n := 301) (h := 2) (ds := d.rl.map ruD) fun x hx => ?_).up (by rw [List.length_map]; have := h.r8; omega) (by decide)
  obtain ⟨r, hr, rfl⟩ := List.mem_map.mp hx
  obtain ⟨a, b⟩ := h.rs r hr
  have i1 : Shw (.tuple (r.1.map PyData.int)) 147 1 := (Shw.ints fun n hn => ⟨by have := a.2 n hn; omega, by have := a.2 n hn; omega⟩).up (by rw [a.1]; have := h.m8; omega) (by decide)
  have i2 : Shw (.tuple (r.2.map PyData.int)) 147 1 := (Shw.ints fun n hn => ⟨by have := b.2 n hn; omega, by have := b.2 n hn; omega⟩).up (by rw [b.1]; have := h.m8; omega) (by decide)
  exact i1.two i2
 have s3 : Shw (.tuple (d.ins.map .int)) 1000 1 := (Shw.ints fun n hn => ⟨by have := h.hi n hn; omega, by have := h.hi n hn; have := h.m8; omega⟩).up (by have := h.i3; omega) (by decide)
 have s4 : Shw (.tuple (d.beg.map .int)) 1000 1 := (Shw.ints fun n hn => ⟨by have := h.hb n hn; omega, by have := h.hb n hn; omega⟩).up (by have := h.bl; have := h.m8; omega) (by decide)
 have s5 : Shw (.int d.ans) 16 0 := Shw.int ⟨by have := h.ha; omega, by have := h.ha; have := h.m8; omega⟩
 have sa : ∀ x ∈ ([.tuple (d.nm.map .str), .tuple (d.rl.map ruD), .tuple (d.ins.map .int), .tuple (d.beg.map .int), .int d.ans] : List PyData), Shw x 4000 3 := fun x hx => by
  simp only [List.mem_cons, List.not_mem_nil, or_false] at hx
  rcases hx with rfl | rfl | rfl | rfl | rfl
  ·exact s1.up (by decide) (by decide)
  ·exact s2
  ·exact s3.up (by decide) (by decide)
  ·exact s4.up (by decide) (by decide)
  ·exact s5.up (by decide) (by decide)
 exact (Shw.tups sa).up (by simp only [List.length_cons, List.length_nil]; decide) (by decide)
theorem Zo {m : Nat} {H : Hp} : ∀ {rs : List Addr}, (∀ r ∈ rs, RuleT m H r) → ∃ xs, RlsD H rs xs ∧ ∀ r ∈ xs, (r.1.length = m ∧ ∀ x ∈ r.1, 0 ≤ x ∧ x ≤ 9) ∧ (r.2.length = m ∧ ∀ x ∈ r.2, 0 ≤ x ∧ x ≤ 9)
 | [], _ => ⟨[], trivial, fun x h => nomatch h⟩
 | r :: rs, h => by
  obtain ⟨xs, h1, h2⟩ := Zo (rs := rs) fun r' hr' => h r' (List.mem_cons_of_mem _ hr')
  obtain ⟨a, b, ts, gs, e1, e2, e3, l1, l2, b1, b2⟩ := h r List.mem_cons_self
  refine ⟨(ts, gs) :: xs, ⟨⟨a, b, e1, e2, e3⟩, h1⟩, fun x hx => ?_⟩
  rcases List.mem_cons.mp hx with rfl | hx
  ·exact ⟨⟨l1, b1⟩, ⟨l2, b2⟩⟩
  ·exact h2 x hx
theorem pot_of {H : Hp} {q : Addr} {rs : List Addr} {ins beg : List Int} {ans : Int} {m : Nat} (h : PotD H q rs ins beg ans m) : ∃ d : PD, PX d m ∧ PotF false H q d := by
 obtain ⟨ps, pr, pin, pb, nm, e1, e2, e3, e4, e5, e6⟩ := h.ex
 obtain ⟨xs, h1, h2⟩ := Zo h.hr
 refine ⟨⟨nm, xs, ins, beg, ans⟩, ?_, ⟨ps, pr, pin, pb, rs, e1, e2, e4, h1, e5, e6⟩⟩
 exact { nl := e3.1, nn := e3.2, m0 := h.m0, m8 := h.m8, r8 := by rw [← h1.len]; exact h.r8, rs := h2, hi := h.hi, i3 := h.i3, bl := h.bl, hb := h.hb, ha := h.ha }
def tkP (d : PD) (i : Nat) : Bool := decide (0 < (d.rl.getD i ([], [])).1.getD d.ans.toNat 0)
def tkr (d : PD) : Option Nat := (List.range d.rl.length).find? (tkP d)
def zs (n : Nat) : List Int := List.replicate n 0
def plc (sh n1 ans : Nat) (s : Nat) : Nat := if s = sh then ans else n1 + (if s < sh then s else s - 1)
def layN (f : Nat → Nat) (more cs : List Int) : Nat → List Int
 | 0 => cs
 | s + 1 => (layN f more cs s).set (f s) ((layN f more cs s).getD (f s) 0 + more.getD s 0)
def setN (f : Nat → Nat) (more cs : List Int) : Nat → List Int
 | 0 => cs
 | s + 1 => (setN f more cs s).set (f s) (more.getD s 0)
theorem xf (f : Nat → Nat) (more cs : List Int) : ∀ s, (layN f more cs s).length = cs.length
 | 0 => rfl
 | s + 1 => by rw [layN, List.length_set, xf f more cs s]
theorem xt (f : Nat → Nat) (more cs : List Int) : ∀ s, (setN f more cs s).length = cs.length
 | 0 => rfl
 | s + 1 => by rw [setN, List.length_set, xt f more cs s]
theorem Zv (f : Nat → Nat) (more cs : List Int) (p : Nat) : ∀ s, (∀ j, j < s → f j ≠ p) → (layN f more cs s).getD p 0 = cs.getD p 0
 | 0, _ => rfl
 | s + 1, h => by
  rw [layN, List.getD_eq_getElem?_getD, List.getElem?_set_ne (h s (Nat.lt_succ_self s)), ← List.getD_eq_getElem?_getD, Zv f more cs p s fun j hj => h j (Nat.lt_succ_of_lt hj)]
theorem zs_getD (n p : Nat) : (zs n).getD p 0 = 0 := by
 unfold zs
 rw [List.getD_eq_getElem?_getD, List.getElem?_replicate]
 split <;> rfl
theorem vY {f : Nat → Nat} {more : List Int} {N n : Nat} (inj : ∀ i j, i < n → j < n → f i = f j → i = j) : ∀ s, s ≤ n → layN f more (zs N) s = setN f more (zs N) s
 | 0, _ => rfl
 | s + 1, h => by
  have e : (layN f more (zs N) s).getD (f s) 0 = 0 := by
   rw [Zv, zs_getD]
   intro j hj z
   have := inj j s (by omega) (by omega) z
   omega
  rw [layN, setN, e, Int.zero_add, vY inj s (by omega)]
theorem ZR {more : List Int} {n : Nat} (h : more.length ≤ n) : ∀ s, s ≤ more.length → layN (fun i => i) more (zs n) s = more.take s ++ zs (n - s)
 | 0, _ => rfl
 | s + 1, hs => by
  have ih := ZR h s (by omega)
  have e1 : zs (n - s) = 0 :: zs (n - (s + 1)) := by
   unfold zs
   rw [show n - s = (n - (s + 1)) + 1 by omega, List.replicate_succ]
  have e2 : (more.take s).length = s := by rw [List.length_take]; omega
  have e3 : more.getD s 0 = more[s] := by rw [List.getD_eq_getElem?_getD, List.getElem?_eq_getElem (by omega)]; rfl
  have g : (more.take s ++ 0 :: zs (n - (s + 1))).getD s 0 = 0 := by
   rw [List.getD_eq_getElem?_getD, List.getElem?_append_right (by omega), e2, Nat.sub_self]
   rfl
  have t : more.take (s + 1) = more.take s ++ [more[s]] := by
   rw [List.take_add_one, List.getElem?_eq_getElem (show s < more.length by omega)]
   rfl
  rw [layN, ih, e1, g, e3, Int.zero_add, List.set_append_right _ _ (by omega), e2, Nat.sub_self, t, List.append_assoc]
  rfl
theorem Zs {f : Nat → Nat} {more cs : List Int} {x : Int} : ∀ s, x ∈ setN f more cs s → x ∈ cs ∨ ∃ j, x = more.getD j 0
 | 0, h => .inl h
 | s + 1, h => by
  rw [setN] at h
  rcases List.mem_or_eq_of_mem_set h with h | h
  ·exact Zs s h
  ·exact .inr ⟨s, h⟩
theorem wG (sh n1 ans s : Nat) : (s = sh ∧ plc sh n1 ans s = ans) ∨ (s < sh ∧ plc sh n1 ans s = n1 + s) ∨ (sh < s ∧ plc sh n1 ans s = n1 + (s - 1)) := by
 unfold plc
 rcases Nat.lt_trichotomy s sh with a | a | a
 ·exact .inr (.inl ⟨a, by rw [if_neg (by omega), if_pos a]⟩)
 ·exact .inl ⟨a, if_pos a⟩
 ·exact .inr (.inr ⟨a, by rw [if_neg (by omega), if_neg (by omega)]⟩)
theorem Yb {sh n1 ans : Nat} (h : ans < n1) {i j : Nat} (e : plc sh n1 ans i = plc sh n1 ans j) : i = j := by
 have := wG sh n1 ans i
 have := wG sh n1 ans j
 omega
theorem plc_lt {sh n1 ans n2 s : Nat} (h : ans < n1) (hs : s < n2) (hh : sh < n2) : plc sh n1 ans s < n1 + (n2 - 1) := by
 unfold plc
 split
 ·omega
 ·split <;> omega
def insN (f : Nat → Nat) (is : List Int) (k : Nat) : Nat → List Int
 | 0 => []
 | i + 1 => if i = k then insN f is k i else insN f is k i ++ [((f (is.getD i 0).toNat : Nat) : Int)]
theorem yF (f : Nat → Nat) (is : List Int) (k : Nat) : ∀ i, (insN f is k i).length = if k < i then i - 1 else i
 | 0 => by simp [insN]
 | i + 1 => by
  rw [insN]
  split
  ·rw [yF f is k i]; split <;> split <;> omega
  ·rw [List.length_append, yF f is k i, List.length_singleton]; split <;> split <;> omega
def ltr (i : Nat) : Str := ⟨#[97 + i]⟩
def nms (c : Str) (n : Nat) : List Str := (List.range n).map fun i => c ++ ltr i
structure Jn where
 A : PD
 B : PD
 k : Nat
def Jn.n1 (j : Jn) : Nat := j.A.nm.length
def Jn.n2 (j : Jn) : Nat := j.B.nm.length
def Jn.sh (j : Jn) : Nat := (j.B.ins.getD j.k 0).toNat
def Jn.f (j : Jn) : Nat → Nat := plc j.sh j.n1 j.A.ans.toNat
def Jn.N (j : Jn) : Nat := j.n1 + (j.n2 - 1)
def Jn.beg (j : Jn) : List Int := layN j.f j.B.beg (j.A.beg ++ zs (j.n2 - 1)) j.n2
def Jn.up (j : Jn) (r : List Int × List Int) : List Int × List Int := (r.1 ++ zs (j.n2 - 1), r.2 ++ zs (j.n2 - 1))
def Jn.at (j : Jn) (r : List Int × List Int) : List Int × List Int := (layN j.f r.1 (zs j.N) j.n2, layN j.f r.2 (zs j.N) j.n2)
def Jn.pot (j : Jn) : PD := ⟨nms "p" j.n1 ++ nms "q" (j.n2 - 1), j.A.rl.map j.up ++ j.B.rl.map j.at, j.A.ins ++ insN j.f j.B.ins j.k j.B.ins.length, j.beg, ((j.f j.B.ans.toNat : Nat) : Int)⟩
def Jn.bad (j : Jn) : Option (Str × Nat) :=
 match tkr j.A with
 | some t => some ("taken", t)
 | none => if 4 < j.A.ins.length + j.B.ins.length then some ("inputs", 0) else if 8 < j.N then some ("sorts", 0) else if 8 < j.A.rl.length + j.B.rl.length then some ("rules", 0) else if ∃ b ∈ j.beg, 99 < b then some ("begin", 0) else none
def Jn.D (j : Jn) : PyData := match j.bad with
 | some (w, t) => .tuple [.str w, .int (t : Int)]
 | none => ptD j.pot
theorem Zq {c : Str} (hc : c = "p" ∨ c = "q") {n : Nat} (h : n ≤ 8) : vL (nms c n) := fun x hx => by
 obtain ⟨i, hi, rfl⟩ := List.mem_map.mp hx
 have hi8 : i < 8 := by have := List.mem_range.mp hi; omega
 have : ∀ i < 8, ((("p" : Str) ++ ltr i).length ≤ 8 ∧ ∀ c ∈ (("p" : Str) ++ ltr i).cps.toList, c < 128) ∧ ((("q" : Str) ++ ltr i).length ≤ 8 ∧ ∀ c ∈ (("q" : Str) ++ ltr i).cps.toList, c < 128) := by decide +kernel
 rcases hc with rfl | rfl
 ·exact (this i hi8).1
 ·exact (this i hi8).2
theorem vZ {f : Nat → Nat} {more cs : List Int} (h1 : ∀ x ∈ more, 0 ≤ x) (h2 : ∀ x ∈ cs, 0 ≤ x) : ∀ s, ∀ x ∈ layN f more cs s, 0 ≤ x
 | 0 => h2
 | s + 1 => fun x hx => by
  have g0 : ∀ {l : List Int} {p : Nat}, (∀ x ∈ l, 0 ≤ x) → 0 ≤ l.getD p 0 := fun {l p} h => by
   rw [List.getD_eq_getElem?_getD]
   cases e : l[p]? with
   | none => exact Int.le_refl 0
   | some v => exact h v (List.mem_of_getElem? e)
  rw [layN] at hx
  rcases List.mem_or_eq_of_mem_set hx with hx | rfl
  ·exact vZ h1 h2 s x hx
  ·have a := g0 (p := f s) (vZ (f := f) h1 h2 s)
   have b := g0 (p := s) h1
   omega
structure Jn.ok (j : Jn) : Prop where
 a : PX j.A j.n1
 b : PX j.B j.n2
 hk : j.k < j.B.ins.length
section
variable {j : Jn}
theorem Jn.ok.sh2 (h : j.ok) : j.sh < j.n2 := by
 have e : j.B.ins.getD j.k 0 ∈ j.B.ins := by
  rw [List.getD_eq_getElem?_getD, List.getElem?_eq_getElem h.hk]
  exact List.getElem_mem h.hk
 have := h.b.hi _ e
 unfold Jn.sh
 omega
theorem Jn.ok.an (h : j.ok) : j.A.ans.toNat < j.n1 := by have := h.a.ha; omega
theorem Jn.ok.f_lt (h : j.ok) {s : Nat} (hs : s < j.n2) : j.f s < j.N := plc_lt h.an hs h.sh2
theorem Jn.ok.at_eq (h : j.ok) (r : List Int × List Int) : j.at r = (setN j.f r.1 (zs j.N) j.n2, setN j.f r.2 (zs j.N) j.n2) := by
 unfold Jn.at
 rw [vY (f := j.f) (n := j.n2) (fun a b _ _ e => Yb h.an e) _ (Nat.le_refl _), vY (f := j.f) (n := j.n2) (fun a b _ _ e => Yb h.an e) _ (Nat.le_refl _)]
theorem Ys {f : Nat → Nat} {row : List Int} {N s : Nat} (h : ∀ x ∈ row, 0 ≤ x ∧ x ≤ 9) : ∀ x ∈ setN f row (zs N) s, 0 ≤ x ∧ x ≤ 9 := fun x hx => by
 rcases Zs s hx with hx | ⟨i, rfl⟩
 ·rw [List.eq_of_mem_replicate hx]
  decide
 ·rw [List.getD_eq_getElem?_getD]
  cases e : row[i]? with
  | none => exact ⟨Int.le_refl 0, by show (0 : Int) ≤ 9; decide⟩
  | some v => exact h v (List.mem_of_getElem? e)
theorem v9 {row : List Int} {n : Nat} (h : ∀ x ∈ row, 0 ≤ x ∧ x ≤ 9) : ∀ x ∈ row ++ zs n, 0 ≤ x ∧ x ≤ 9 := fun x hx => by
 rcases List.mem_append.mp hx with hx | hx
 ·exact h x hx
 ·rw [List.eq_of_mem_replicate hx]
  decide
theorem Jn.ok.ins_mem (h : j.ok) : ∀ i, i ≤ j.B.ins.length → ∀ x ∈ insN j.f j.B.ins j.k i, 0 ≤ x ∧ x < j.N
 | 0, _ => fun x hx => nomatch hx
 | i + 1, hi => fun x hx => by
  rw [insN] at hx
  split at hx
  ·exact h.ins_mem i (by omega) x hx
  ·rcases List.mem_append.mp hx with hx | hx
   ·exact h.ins_mem i (by omega) x hx
   ·rw [List.mem_singleton.mp hx]
    have e : j.B.ins.getD i 0 ∈ j.B.ins := by
     rw [List.getD_eq_getElem?_getD, List.getElem?_eq_getElem (by omega)]
     exact List.getElem_mem _
    have h2 := h.b.hi _ e
    have := h.f_lt (s := (j.B.ins.getD i 0).toNat) (by omega)
    omega
theorem Jn.ok.px (h : j.ok) (hb : j.bad = none) : PX j.pot j.N := by
 unfold Jn.bad at hb
 split at hb
 ·cases hb
 have n0 := h.a.m0
 split at hb
 ·cases hb
 rename_i c1
 split at hb
 ·cases hb
 rename_i c2
 split at hb
 ·cases hb
 rename_i c3
 split at hb
 ·cases hb
 rename_i c4
 have hN : j.N = j.n1 + (j.n2 - 1) := rfl
 refine { nl := ?_, nn := ?_, m0 := by omega, m8 := by omega, r8 := ?_, rs := ?_, hi := ?_, i3 := ?_, bl := ?_, hb := ?_, ha := ?_ }
 ·show (nms _ _ ++ nms _ _).length = _
  unfold nms
  rw [List.length_append, List.length_map, List.length_map, List.length_range, List.length_range]
  omega
 ·intro x hx
  have a8 := h.a.m8
  have b8 := h.b.m8
  rcases List.mem_append.mp hx with hx | hx
  ·exact Zq (.inl rfl) a8 x hx
  ·exact Zq (.inr rfl) (by omega) x hx
 ·show (j.A.rl.map j.up ++ j.B.rl.map j.at).length ≤ 8
  rw [List.length_append, List.length_map, List.length_map]
  omega
 ·intro r hr
  rcases List.mem_append.mp hr with hr | hr
  ·obtain ⟨r', hr', rfl⟩ := List.mem_map.mp hr
   obtain ⟨a, b⟩ := h.a.rs r' hr'
   refine ⟨⟨?_, v9 a.2⟩, ⟨?_, v9 b.2⟩⟩
   ·show (r'.1 ++ zs _).length = _
    unfold zs
    rw [List.length_append, List.length_replicate, a.1, hN]
   ·show (r'.2 ++ zs _).length = _
    unfold zs
    rw [List.length_append, List.length_replicate, b.1, hN]
  ·obtain ⟨r', hr', rfl⟩ := List.mem_map.mp hr
   obtain ⟨a, b⟩ := h.b.rs r' hr'
   rw [h.at_eq]
   refine ⟨⟨?_, Ys a.2⟩, ⟨?_, Ys b.2⟩⟩
   ·show (setN _ _ _ _).length = _
    rw [xt]
    unfold zs
    rw [List.length_replicate]
   ·show (setN _ _ _ _).length = _
    rw [xt]
    unfold zs
    rw [List.length_replicate]
 ·intro i hi
  rcases List.mem_append.mp hi with hi | hi
  ·have := h.a.hi i hi
   omega
  ·exact h.ins_mem _ (Nat.le_refl _) i hi
 ·show (j.A.ins ++ insN j.f j.B.ins j.k j.B.ins.length).length ≤ 3
  rw [List.length_append, yF, if_pos h.hk]
  have := h.hk
  omega
 ·show (layN _ _ _ _).length = _
  unfold zs
  rw [xf, List.length_append, List.length_replicate, h.a.bl, hN]
 ·intro b hb'
  refine ⟨vZ (fun x hx => (h.b.hb x hx).1) (fun x hx => ?_) _ b hb', Int.not_lt.mp fun z => c4 ⟨b, hb', z⟩⟩
  rcases List.mem_append.mp hx with hx | hx
  ·exact (h.a.hb x hx).1
  ·rw [List.eq_of_mem_replicate hx]
   exact Int.le_refl 0
 ·have := h.f_lt (s := j.B.ans.toNat) (by have := h.b.ha; omega)
  show 0 ≤ ((j.f _ : Nat) : Int) ∧ ((j.f _ : Nat) : Int) < _
  omega
end
theorem Yu {ta : TE} {σ : St} {H : Hp} {Q : VK} (h : ta σ H fun x H1 => Q (.bl (!decide (x = .non))) H1) : Xh ta σ H Q := h
theorem Xd {ta : TE} {σ : St} {H : Hp} {Q : VK} (h : ta σ H fun x H1 => Q (.bl (decide (x = .non))) H1) : tIsN ta σ H Q := h
theorem w_aug {i : Nat} {te : TE} {ti : TIp} {D : Ends} {σ : St} {H : Hp} (h : ∃ x, σ[i]? = some (some x) ∧ te σ H fun y H1 => ti x y H1 fun z H2 => D.nx (σ.set i (some z)) H2) : tAug i te ti D σ H := h
theorem ps_augD {X : Cx} {x : Str} {pos pos' : Pos} {e : Expr} {te : TE} {op : Operator} {ti : TIp} (M : Nm X.N X.env.scope) (i : Nat) (he : PE X e te) (ho : PIp X op ti) (hi : X.N[i]? = some x := by rfl) (hf : X.fn x = true := by rfl) :
  PS X (.AugAssign (.Name x pos') op e pos) (tAug i te ti) := ps_aug M.nd hi (M.loc x (List.mem_of_getElem? hi)) he ho (.inl hf)
structure KJ (mg : Str → Option Value) : Prop where
 sor : Kn mg "MOST_SORTS" 8
 rul : Kn mg "MOST_RULES" 8
 inp : Kn mg "MOST_INPUTS" 3
 beg : Kn mg "MOST_BEGIN" 99
 lets : KnS mg "LETTERS" "abcdefghijklmnopqrstuvwxyz"
 one : KnS mg "ONE_LETTER" "p"
 oth : KnS mg "OTHER_LETTER" "q"
theorem atZ {xs : List Int} {i : Int} (h0 : 0 ≤ i) (h1 : i < xs.length) : atI (xs.map V.int) i = some (.int (xs.getD i.toNat 0)) := by
 obtain ⟨j, rfl⟩ := ofI h0
 have hj : j < xs.length := by omega
 refine yA ?_
 rw [List.getElem?_map, List.getElem?_eq_getElem hj, Int.toNat_natCast, List.getD_eq_getElem?_getD, List.getElem?_eq_getElem hj]
 rfl
def oV : Option Nat → V
 | none => .non
 | some t => .int (t : Int)
abbrev sTk : Stmt := top 23
abbrev nTk : List Str := ["pot", "number", "rule"]
theorem nmTk : Nm nTk (zk sTk) := ⟨by decide +kernel, by decide +kernel⟩
theorem scTk : FnScope nTk ["pot"] (zk sTk) := ⟨rfl, rfl, rfl, by decide +kernel, rfl, by decide +kernel, by decide +kernel⟩
def spTk : Sp := fun vs H Q _ => ∃ (q : Addr) (d : PD) (m : Nat), vs = [.ref q] ∧ PotF false H q d ∧ PX d m ∧ ∀ H', Same H H' → Q (oV (tkr d)) H'
section
variable {P : Program} {w : World} {K : W.Frag} {mg : Str → Option Value} {base : Heap}
theorem ok_Tk {f : Addr} {fd : FuncData} (B : Bl mg) (Z : KP mg) (J : KJ mg) (F : Fun K "first_taker" "first_taker" sTk f fd) : FnOk P w K mg base CX0 1 f fd ["pot"] spTk := by
 refine F.ok scTk (fun vs H Q E h => ?_) (fun cdv A outer s H vs Q E hr h => ?_)
 ·obtain ⟨q, d, m, rfl, _⟩ := h
  rfl
 obtain ⟨q, d, m, rfl, hP, hd, k⟩ := h
 refine' ⟨_, ?hb, ?rd⟩
 case' hb => skip
 case' hb => refine' zj ?g1 ?g2
 case' g2 => refine' zn ?g3
 case' g1 => refine' yt PassesOwn.never rfl ?g4 (wx rfl (zF (pgd nmTk 1) (zF (pgd nmTk 2) yo))) ?g5
 case g4 => exact YM B.enu (pa_1 (ziq (pvd nmTk 0) (pe_k Z.rules)))
 case' g5 => refine' zn ?g6
 case' g6 => refine' zT ?g7 ?g8 zB
 case g7 => exact zy yY (ziq (ziq (pvd nmTk 2) (pe_k Z.takes)) (ziq (pvd nmTk 0) (pe_k Z.answer))) zh (zD _)
 case' g8 => refine' zn ?g10
 case g10 => exact zE (pvd nmTk 1)
 case g3 => exact zE vU
 obtain ⟨ps, pr, pin, pb, rs, h1, h2, h3, h4, h5, h6⟩ := hP.ex
 walk_at "v"
 refine w_forE ?_
 walk_at "v"
 refine zm h1 rfl ?_
 walk_at "v"
 refine ⟨pr, rfl, ⟨_, SqT.of h3⟩, ?_⟩
 refine for_enu (xs := rs.map V.ref) (fun i σ H' => ∃ (u v : Option V), σ = [some (.ref q), u, v] ∧ (∀ j, j < i → tkP d j = false) ∧ Same H H') ⟨none, none, rfl, fun j z => absurd z (Nat.not_lt_zero j), Same.refl H⟩ (fun i σ H' ⟨_, _, _, _, k'⟩ => SqT.of (k' _ _ h3)) ?_ ?_
 ·rintro i x σ H' z hx ⟨u, v, rfl, hf, K'⟩ hz
  have hi : i < rs.length := itl hx
  have ex : x = .ref rs[i] := itx hx hi
  subst ex
  obtain ⟨r, gr, qa, qb, r1, r2, r3⟩ := h4.get (List.getElem?_eq_getElem hi)
  have rl := hd.rs r (List.mem_of_getElem? gr)
  have ha := hd.ha
  refine wU zi rfl ?_
  refine ⟨_, _, rfl, ?_⟩
  walk_at "v"
  refine ⟨_, _, rfl, ?_⟩
  walk_at "v"
  refine ⟨rfl, ?_⟩
  have K2 : Same H (upd H' z (.tup [.int (i : Int), .ref rs[i]])) := K'.new hz
  generalize upd H' z (.tup [.int (i : Int), .ref rs[i]]) = H2 at K2 ⊢
  walk_at "v"
  refine zm (K2 _ _ r1) rfl ?_
  walk_at "v"
  refine zm (K2 _ _ h1) rfl ?_
  refine zm (K2 _ _ r2) (atZ ha.1 (by rw [rl.1.1]; exact ha.2)) ?_
  walk_at "v"
  have et : tkP d i = decide (0 < r.1.getD d.ans.toNat 0) := by
   unfold tkP
   rw [show d.rl.getD i ([], []) = r by rw [List.getD_eq_getElem?_getD, gr]; rfl]
  refine iteD (fun h => ?_) (fun h => ?_)
  ·walk_at "v"
   have e : tkr d = some i := List.find?_range_eq_some.mpr ⟨by rw [et]; exact decide_eq_true h, List.mem_range.mpr (by rw [← h4.len]; exact hi), fun j hj => by rw [hf j hj]; rfl⟩
   rw [e] at k
   exact k _ K2
  ·refine ⟨_, _, rfl, fun j hj => ?_, K2⟩
   rcases Nat.lt_or_ge j i with z | z
   ·exact hf j z
   ·have : j = i := by omega
    rw [this, et]
    exact decide_eq_false h
 ·rintro σ H' ⟨u, v, rfl, hf, K'⟩
  walk_at "v"
  have e : tkr d = none := List.find?_range_eq_none.mpr fun i hi => by rw [hf i (by rw [List.length_map, h4.len]; exact hi)]; rfl
  rw [e] at k
  exact k _ K'
abbrev sNg : Stmt := top 25
abbrev nNg : List Str := ["things"]
theorem nmNg : Nm nNg (zk sNg) := ⟨by decide +kernel, by decide +kernel⟩
theorem scNg : FnScope nNg ["things"] (zk sNg) := ⟨rfl, rfl, rfl, by decide +kernel, rfl, by decide +kernel, by decide +kernel⟩
def qNga (s : Stmt) : Scope := match s with
 | .Return (some (.Call _ [(.ListComp _ _ sc _)] _ _)) _ => sc
 | _ => nsc
abbrev cNga : Scope := qNga ((zu sNg).getD 0 (.Pass ⟨0, 0, 0, 0⟩))
theorem bsNga : BScope (zk sNg) cNga ["thing"] [] [] := { okind := by decide +kernel, kind := by decide +kernel, nocell := by decide +kernel, names := by decide +kernel, fr := by decide +kernel, ff := by decide +kernel, nd := by decide +kernel, vis := by decide +kernel, loc := by decide +kernel, gl := by decide +kernel }
def spNg : Sp := fun vs H Q _ => ∃ (p : Addr) (xs : List V), vs = [.ref p] ∧ H p = some (.tup xs) ∧ xs.length ≤ 100 ∧ ∀ q H', Same H H' → H' q = some (.tup ((zs xs.length).map V.int)) → Q (.ref q) H'
theorem ok_Ng {f : Addr} {fd : FuncData} (B : Bl mg) (Z : KP mg) (J : KJ mg) (F : Fun K "noughts" "noughts" sNg f fd) : FnOk P w K mg base CX0 1 f fd ["things"] spNg := by
 refine F.ok scNg (fun vs H Q E h => ?_) (fun cdv A outer s H vs Q E hr h => ?_)
 ·obtain ⟨p, xs, rfl, _⟩ := h
  rfl
 obtain ⟨p, xs, rfl, hp, hl, k⟩ := h
 refine' ⟨_, ?hb, ?rd⟩
 case' hb => skip
 case' hb => refine' zn ?g1
 case' g1 => refine' zE ?g2
 case' g2 => refine' zU zV B.tuple PyProof.Rows.boot_tuple ?g3
 case' g3 => refine' pa_1 ?g4
 case' g4 => refine' zY (ix := []) bsNga.toCScope rfl rfl ?g5 ?g6 ?g7 ?g8
 case g5 => exact xx (pvd nmNg 0)
 case g6 => exact fun _ _ _ _ _ _ => pgb bsNga 0
 case g7 => exact fun _ _ _ _ _ _ => ye
 case g8 => exact fun _ _ _ _ _ _ => zh
 walk_at "v"
 refine ⟨p, rfl, ⟨_, SqT.of hp⟩, fun D hD => ?_⟩
 refine cg_tup (ws := xs) id (fun _ => V.int 0) (by rw [List.map_id]; exact SqT.of hp) (by omega) hD (fun b hb H' K' R kR => ?_) (fun H2 K2 e2 => ?_)
 ·walk_at "v"
  exact kR _ (Same.refl _)
 walk_at "v"
 refine ⟨D, _, rfl, e2, fun q H3 K3 e3 => ?_⟩
 refine k q H3 (K2.trans K3) ?_
 rw [e3]
 unfold zs
 rw [List.map_const', List.map_replicate]
abbrev sCb : Stmt := top 31
abbrev nCb : List Str := ["letter", "many"]
theorem nmCb : Nm nCb (zk sCb) := ⟨by decide +kernel, by decide +kernel⟩
theorem scCb : FnScope nCb ["letter", "many"] (zk sCb) := ⟨rfl, rfl, rfl, by decide +kernel, rfl, by decide +kernel, by decide +kernel⟩
def qCba (s : Stmt) : Scope := match s with
 | .Return (some (.Call _ [(.ListComp _ _ sc _)] _ _)) _ => sc
 | _ => nsc
abbrev cCba : Scope := qCba ((zu sCb).getD 0 (.Pass ⟨0, 0, 0, 0⟩))
theorem bsCba : BScope (zk sCb) cCba ["number"] ["letter"] ["LETTERS"] := { okind := by decide +kernel, kind := by decide +kernel, nocell := by decide +kernel, names := by decide +kernel, fr := by decide +kernel, ff := by decide +kernel, nd := by decide +kernel, vis := by decide +kernel, loc := by decide +kernel, gl := by decide +kernel }
theorem let_at : ∀ i < 8, ("abcdefghijklmnopqrstuvwxyz" : Str).cps.toList[i]? = some (97 + i) := by decide +kernel
def spCb : Sp := fun vs H Q _ => ∃ (c : Str) (n : Nat), vs = [.str c, .int (n : Int)] ∧ c.length ≤ 8 ∧ n ≤ 8 ∧ ∀ q H', Same H H' → H' q = some (.tup ((nms c n).map V.str)) → Q (.ref q) H'
theorem ok_Cb {f : Addr} {fd : FuncData} (B : Bl mg) (Z : KP mg) (J : KJ mg) (F : Fun K "called_by" "called_by" sCb f fd) : FnOk P w K mg base CX0 1 f fd ["letter", "many"] spCb := by
 refine F.ok scCb (fun vs H Q E h => ?_) (fun cdv A outer s H vs Q E hr h => ?_)
 ·obtain ⟨c, n, rfl, _⟩ := h
  rfl
 obtain ⟨c, n, rfl, hc, hn, k⟩ := h
 refine' ⟨_, ?hb, ?rd⟩
 case' hb => skip
 case' hb => refine' zn ?g1
 case' g1 => refine' zE ?g2
 case' g2 => refine' zU zV B.tuple PyProof.Rows.boot_tuple ?g3
 case' g3 => refine' pa_1 ?g4
 case' g4 => refine' zY (ix := [0]) bsCba.toCScope rfl rfl ?g5 ?g6 ?g7 ?g8
 case g5 => exact yD B.range (pa_1 (pvd nmCb 1))
 case g6 => exact fun _ _ _ _ _ _ => pgb bsCba 0
 case g7 => exact fun _ _ _ _ _ _ => ye
 case g8 => exact fun _ _ _ _ _ _ => zw xQ (pvb bsCba 1) (zo Y3 (YQ J.lets (bsCba.g 0)) (pvb bsCba 0) (fun _ _ => rfl))
 walk_at "v"
 refine ⟨(n : Int), rfl, by omega, by omega, fun D hD => ?_⟩
 refine cg_rng (lo := 0) (n := ((n : Int)).toNat) (fun i => V.str (c ++ ltr i)) (by omega) hD (fun i hi H' K' R kR => ?_) (fun H2 K2 e2 => ?_)
 ·walk_at "v"
  refine ⟨"abcdefghijklmnopqrstuvwxyz", _, _, rfl, rfl, by decide +kernel, (by rw [Int.zero_add]; exact yA (let_at i (by omega))), ?_⟩
  refine ⟨_, _, rfl, rfl, ?_, kR _ (Same.refl _)⟩
  exact Nat.le_of_lt (zt (by show c.length + 1 ≤ 1000; omega))
 walk_at "v"
 refine ⟨D, _, rfl, e2, fun q H3 K3 e3 => ?_⟩
 refine k q H3 (K2.trans K3) ?_
 rw [e3, Int.toNat_natCast]
 unfold nms
 rw [List.map_map]
 rfl
abbrev sPo2 : Stmt := top 30
abbrev nPo2 : List Str := ["one", "other", "k", "shared", "behind", "places", "sort"]
theorem yH : Nm nPo2 (zk sPo2) := ⟨by decide +kernel, by decide +kernel⟩
theorem scPo2 : FnScope nPo2 ["one", "other", "k"] (zk sPo2) := ⟨rfl, rfl, rfl, by decide +kernel, rfl, by decide +kernel, by decide +kernel⟩
def YD : Sp := fun vs H Q _ => ∃ (q1 q2 : Addr) (j : Jn), vs = [.ref q1, .ref q2, .int (j.k : Int)] ∧ PotF false H q1 j.A ∧ PotF false H q2 j.B ∧ j.ok ∧ ∀ q H', Same H H' → H' q = some (.lst ((List.range j.n2).map fun s => V.int (j.f s : Nat))) → Q (.ref q) H'
theorem ok_Po2 {f : Addr} {fd : FuncData} (B : Bl mg) (Z : KP mg) (J : KJ mg) (F : Fun K "places_of" "places_of" sPo2 f fd) : FnOk P w K mg base CX0 1 f fd ["one", "other", "k"] YD := by
 refine F.ok scPo2 (fun vs H Q E h => ?_) (fun cdv A outer s H vs Q E hr h => ?_)
 ·obtain ⟨q1, q2, j, rfl, _⟩ := h
  rfl
 obtain ⟨q1, q2, j, rfl, hA, hB, ok, k⟩ := h
 refine' ⟨_, ?hb, ?rd⟩
 case' hb => skip
 case' hb => refine' zj ?g1 ?g2
 case' g2 => refine' zj ?g3 ?g4
 case' g4 => refine' zj ?g5 ?g6
 case' g6 => refine' zj ?g7 ?g8
 case' g8 => refine' zn ?g9
 case g1 => exact zq yH 3 (ziq (ziq (pvd yH 1) (pe_k Z.inputs)) (pvd yH 2))
 case g3 => exact zq yH 4 (zJ zr B.len PySem.boot_len (pa_1 (ziq (pvd yH 0) (pe_k Z.sorts))))
 case g5 => exact zq yH 5 (zK yL)
 case' g7 => refine' yt PassesOwn.never rfl ?g10 (pgd yH 6) ?g11
 case g10 => exact yD B.range (pa_1 (zJ zr B.len PySem.boot_len (pa_1 (ziq (pvd yH 1) (pe_k Z.sorts)))))
 case' g11 => refine' zn ?g12
 case' g12 => refine' zT ?g13 ?g14 ?g15
 case g13 => exact zy yE (pvd yH 6) (pvd yH 3) (zD _)
 case' g14 => refine' zn ?g16
 case g16 => exact xi (vd PySem.F.plainAttrs_list PySem.F.slot_list_append PySem.F.type_list_append yZ (pvd yH 5) (pa_1 (ziq (pvd yH 0) (pe_k Z.answer))))
 case' g15 => refine' zj ?g17 ?g18
 case' g18 => refine' zn ?g19
 case g17 => exact xi (vd PySem.F.plainAttrs_list PySem.F.slot_list_append PySem.F.type_list_append yZ (pvd yH 5) (pa_1 (pvd yH 4)))
 case g19 => exact ps_augD yH 4 zh Y4
 case g9 => exact zE (pvd yH 5)
 obtain ⟨ps, pr, pin, pb, rs, h1, h2, h3, h4, h5, h6⟩ := hA.ex
 obtain ⟨ps', pr', pin', pb', rs', h1', h2', h3', h4', h5', h6'⟩ := hB.ex
 have h2 : H ps = some (.tup (j.A.nm.map V.str)) := h2
 have h2' : H ps' = some (.tup (j.B.nm.map V.str)) := h2'
 have hk := ok.hk
 have b8 := ok.b.m8
 have sh2 := ok.sh2
 have ha := ok.a.ha
 have esh : j.B.ins.getD j.k 0 = (j.sh : Int) := by
  have e : j.B.ins.getD j.k 0 ∈ j.B.ins := by
   rw [List.getD_eq_getElem?_getD, List.getElem?_eq_getElem hk]
   exact List.getElem_mem hk
  have := ok.b.hi _ e
  unfold Jn.sh
  omega
 walk_at "v"
 refine zm h1' rfl ?_
 walk_at "v"
 refine zm h5' (atZ (by omega) (by omega)) ?_
 rw [Int.toNat_natCast, esh]
 walk_at "v"
 refine zm h1 rfl ?_
 walk_at "v"
 refine ⟨ps, _, rfl, .inr (SqT.of h2), ?_⟩
 rw [List.length_map]
 walk_at "v"
 refine ⟨sz0, fun l hll => ?_⟩
 obtain ⟨H1, q, K1, e1⟩ := nob (.lst []) hll; rw [q]; clear q
 walk_at "v"
 refine zm (K1 _ _ h1') rfl ?_
 walk_at "v"
 refine ⟨ps', _, rfl, .inr (SqT.of (K1 _ _ h2')), ?_⟩
 rw [List.length_map]
 refine ⟨_, rfl, by omega, by have : j.B.nm.length ≤ 8 := b8; omega, ?_⟩
 rw [Int.toNat_natCast]
 refine yl (n := j.B.nm.length) (fun i σ H' => ∃ u, σ = [some (.ref q1), some (.ref q2), some (.int (j.k : Int)), some (.int (j.sh : Int)), some (.int ((j.A.nm.length + (if i ≤ j.sh then i else i - 1) : Nat) : Int)), some (.ref l), u] ∧ Same H H' ∧ H' l = some (.lst ((List.range i).map fun s => V.int (j.f s : Nat)))) ⟨none, rfl, K1, e1⟩ ?_ ?_
 ·rintro i σ H2 hi ⟨u, rfl, K2, e2⟩
  have ll : ((List.range i).map fun s => V.int (j.f s : Nat)).length < sizeLine := by rw [List.length_map, List.length_range]; exact zt (by have : j.B.nm.length ≤ 8 := b8; omega)
  have pv := wG j.sh j.n1 j.A.ans.toNat i
  have en : j.A.nm.length = j.n1 := rfl
  have ef : j.f i = plc j.sh j.n1 j.A.ans.toNat i := rfl
  have st : ∀ v : Int, ((j.f i : Nat) : Int) = v → ((List.range i).map fun s => V.int (j.f s : Nat)) ++ [V.int v] = (List.range (i + 1)).map fun s => V.int (j.f s : Nat) := fun v hv => by
   rw [List.range_succ, List.map_append, ← hv]
   rfl
  walk_at "v"
  refine ⟨rfl, ?_⟩
  walk_at "v"
  refine iteD (fun h => ?_) (fun h => ?_)
  ·have h' : i = j.sh := by injection h with h; omega
   walk_at "v"
   refine ⟨.inl ⟨rfl, _, SqL.of e2⟩, ?_⟩
   walk_at "v"
   refine zm (K2 _ _ h1) rfl ?_
   walk_at "v"
   refine ⟨l, _, _, rfl, rfl, e2, ll, ?_⟩
   refine ⟨some (.int (0 + (i : Int))), ?_, K2.put hll, ?_⟩
   ·have e3 : (if i + 1 ≤ j.sh then i + 1 else i + 1 - 1) = (if i ≤ j.sh then i else i - 1) := by
     split <;> split <;> omega
    rw [e3]
    rfl
   ·rw [zi, st _ (by omega)]
  ·have h' : i ≠ j.sh := fun z => h (congrArg V.int (by omega))
   walk_at "v"
   refine ⟨.inl ⟨rfl, _, SqL.of e2⟩, ?_⟩
   walk_at "v"
   refine ⟨l, _, _, rfl, rfl, e2, ll, ?_⟩
   refine wR ?_
   refine w_aug ⟨_, rfl, ?_⟩
   walk_at "v"
   refine ⟨_, _, rfl, rfl, ?_⟩
   refine ⟨some (.int (0 + (i : Int))), ?_, K2.put hll, ?_⟩
   ·have e3 : (if i + 1 ≤ j.sh then i + 1 else i + 1 - 1) = (if i ≤ j.sh then i else i - 1) + 1 := by
     split <;> split <;> omega
    rw [e3]
    rfl
   ·rw [zi, st _ ?_]
    split <;> omega
 ·rintro σ H2 ⟨u, rfl, K2, e2⟩
  walk_at "v"
  exact k l _ K2 e2
abbrev sLd : Stmt := top 33
abbrev nLd : List Str := ["counts", "places", "more", "told", "place", "count"]
theorem nmLd : Nm nLd (zk sLd) := ⟨by decide +kernel, by decide +kernel⟩
theorem scLd : FnScope nLd ["counts", "places", "more"] (zk sLd) := ⟨rfl, rfl, rfl, by decide +kernel, rfl, by decide +kernel, by decide +kernel⟩
def spLd : Sp := fun vs H Q _ => ∃ (pc pp pm : Addr) (cs ms : List Int) (g : Nat → Nat) (n : Nat), vs = [.ref pc, .ref pp, .ref pm] ∧ H pc = some (.tup (cs.map V.int)) ∧ H pp = some (.lst ((List.range n).map fun s => V.int (g s : Nat))) ∧ H pm = some (.tup (ms.map V.int)) ∧ ms.length = n ∧ n ≤ 8 ∧ cs.length ≤ 100 ∧ (∀ s, s < n → g s < cs.length) ∧ ∀ q H', Same H H' → H' q = some (.tup ((layN g ms cs n).map V.int)) → Q (.ref q) H'
theorem ok_Ld {f : Addr} {fd : FuncData} (B : Bl mg) (Z : KP mg) (J : KJ mg) (F : Fun K "laid" "laid" sLd f fd) : FnOk P w K mg base CX0 1 f fd ["counts", "places", "more"] spLd := by
 refine F.ok scLd (fun vs H Q E h => ?_) (fun cdv A outer s H vs Q E hr h => ?_)
 ·obtain ⟨pc, pp, pm, cs, ms, g, n, rfl, _⟩ := h
  rfl
 obtain ⟨pc, pp, pm, cs, ms, g, n, rfl, hc, hp, hm, hml, hn, hcl, hg, k⟩ := h
 refine' ⟨_, ?hb, ?rd⟩
 case' hb => skip
 case' hb => refine' zj ?g1 ?g2
 case' g2 => refine' zj ?g3 ?g4
 case' g4 => refine' zn ?g5
 case g1 => exact zq nmLd 3 (zU xl B.list PyProof.Rows.boot_list (pa_1 (pvd nmLd 0)))
 case' g3 => refine' yt PassesOwn.never rfl ?g6 (wx rfl (zF (pgd nmLd 4) (zF (pgd nmLd 5) yo))) ?g7
 case g6 => exact pi_zw B.zip (pa_2 (pvd nmLd 1) (pvd nmLd 2))
 case' g7 => refine' zn ?g8
 case g8 => exact ps_augS (pvd nmLd 3) (pvd nmLd 4) get_l (pvd nmLd 5) Y4 xK
 case g5 => exact zE (zU zV B.tuple PyProof.Rows.boot_tuple (pa_1 (pvd nmLd 3)))
 walk_at "v"
 refine ⟨pc, _, rfl, .inr (SqT.of hc), fun l hll => ?_⟩
 obtain ⟨H1, q, K1, e1⟩ := nob (.lst (cs.map V.int)) hll; rw [q]; clear q
 walk_at "v"
 refine w_forW ?_
 walk_at "v"
 refine ⟨pp, pm, rfl, ⟨_, SqL.of (K1 _ _ hp)⟩, ⟨_, SqT.of (K1 _ _ hm)⟩, ?_⟩
 refine for_zw (xs := (List.range n).map fun s => V.int (g s : Nat)) (zs := ms.map V.int) (by rw [List.length_map, List.length_map, List.length_range]; exact hml) (fun i σ H' => ∃ u4 u5, σ = [some (.ref pc), some (.ref pp), some (.ref pm), some (.ref l), u4, u5] ∧ Same H H' ∧ H' l = some (.lst ((layN g ms cs i).map V.int))) ⟨none, none, rfl, K1, e1⟩ (fun i σ H' ⟨_, _, _, k', _⟩ => ⟨SqL.of (k' _ _ hp), SqT.of (k' _ _ hm)⟩) ?_ ?_
 ·rintro i x y σ H2 z hx hy ⟨u4, u5, rfl, K2, e2⟩ hz
  have hi : i < n := by
   have := (List.getElem?_eq_some_iff.mp hx).1
   simpa using this
  have ex : x = .int (g i : Nat) := by
   rw [List.getElem?_map, List.getElem?_range hi] at hx
   exact (Option.some.inj hx).symm
  have ey : y = .int (ms.getD i 0) := by
   rw [List.getElem?_map, List.getElem?_eq_getElem (by omega)] at hy
   rw [List.getD_eq_getElem?_getD, List.getElem?_eq_getElem (by omega)]
   exact (Option.some.inj hy).symm
  subst ex ey
  have hgi := hg i hi
  have lln := xf g ms cs i
  refine wU zi rfl ?_
  refine ⟨_, _, rfl, ?_⟩
  walk_at "v"
  refine ⟨_, _, rfl, ?_⟩
  walk_at "v"
  refine ⟨rfl, ?_⟩
  have K3 : Same H2 (upd H2 z (.tup [.int (g i : Nat), .int (ms.getD i 0)])) := Same.new (Same.refl _) hz
  generalize upd H2 z (.tup [.int (g i : Nat), .int (ms.getD i 0)]) = H3 at K3 ⊢
  refine w_augS ?_
  walk_at "v"
  refine ⟨l, _, g i, .int ((layN g ms cs i).getD (g i) 0), rfl, rfl, K3 _ _ e2, ?_, ?_⟩
  ·rw [List.getElem?_map, List.getElem?_eq_getElem (by omega), List.getD_eq_getElem?_getD, List.getElem?_eq_getElem (by omega)]
   rfl
  walk_at "v"
  refine ⟨_, _, rfl, rfl, ?_⟩
  refine xo (j := g i) (K3 _ _ e2) (ixK (n := ((layN g ms cs i).map V.int).length) (by omega) (by rw [List.length_map]; omega)) ?_
  refine ⟨_, _, rfl, (K2.trans K3).put hll, ?_⟩
  rw [zi, layN, List.map_set]
 ·rintro σ H2 ⟨u4, u5, rfl, K2, e2⟩
  rw [List.length_map, List.length_range] at e2
  walk_at "v"
  refine ⟨l, _, rfl, e2, fun q H3 K3 e3 => ?_⟩
  exact k q H3 (K2.trans K3) e3
abbrev sRla : Stmt := top 32
abbrev nRla : List Str := ["none", "places", "rules"]
theorem nmRla : Nm nRla (zk sRla) := ⟨by decide +kernel, by decide +kernel⟩
theorem scRla : FnScope nRla ["none", "places", "rules"] (zk sRla) := ⟨rfl, rfl, rfl, by decide +kernel, rfl, by decide +kernel, by decide +kernel⟩
def qRlaa (s : Stmt) : Scope := match s with
 | .Return (some (.Call _ [(.ListComp _ _ sc _)] _ _)) _ => sc
 | _ => nsc
abbrev cRlaa : Scope := qRlaa ((zu sRla).getD 0 (.Pass ⟨0, 0, 0, 0⟩))
theorem bsRlaa : BScope (zk sRla) cRlaa ["rule"] ["none", "places"] ["laid", "TAKES", "GIVES"] := { okind := by decide +kernel, kind := by decide +kernel, nocell := by decide +kernel, names := by decide +kernel, fr := by decide +kernel, ff := by decide +kernel, nd := by decide +kernel, vis := by decide +kernel, loc := by decide +kernel, gl := by decide +kernel }
def YC : Sp := fun vs H Q _ => ∃ (pc pp pr : Addr) (cs : List Int) (rs : List Addr) (rl : List (List Int × List Int)) (g : Nat → Nat) (n : Nat), vs = [.ref pc, .ref pp, .ref pr] ∧ H pc = some (.tup (cs.map V.int)) ∧ H pp = some (.lst ((List.range n).map fun s => V.int (g s : Nat))) ∧ H pr = some (.tup (rs.map V.ref)) ∧ RlsD H rs rl ∧ rl.length ≤ 8 ∧ (∀ r ∈ rl, r.1.length = n ∧ r.2.length = n) ∧ n ≤ 8 ∧ cs.length ≤ 100 ∧ (∀ s, s < n → g s < cs.length) ∧
 ∀ q rs' H', Same H H' → H' q = some (.tup (rs'.map V.ref)) → RlsD H' rs' (rl.map fun r => (layN g r.1 cs n, layN g r.2 cs n)) → Q (.ref q) H'
theorem ok_Rla {f : Addr} {fd : FuncData} (B : Bl mg) (Z : KP mg) (J : KJ mg) (fL : Has P w K mg base 1 "laid" ["counts", "places", "more"] spLd) (F : Fun K "rules_laid" "rules_laid" sRla f fd) : FnOk P w K mg base CX0 2 f fd ["none", "places", "rules"] YC := by
 refine F.ok scRla (fun vs H Q E h => ?_) (fun cdv A outer s H vs Q E hr h => ?_)
 ·obtain ⟨pc, pp, pr, cs, rs, rl, g, n, rfl, _⟩ := h
  rfl
 obtain ⟨pc, pp, pr, cs, rs, rl, g, n, rfl, hc, hp, hpr, hR, r8, hrl, hn, hcl, hg, k⟩ := h
 refine' ⟨_, ?hb, ?rd⟩
 case' hb => skip
 case' hb => refine' zn ?g1
 case' g1 => refine' zE ?g2
 case' g2 => refine' zU zV B.tuple PyProof.Rows.boot_tuple ?g3
 case' g3 => refine' pa_1 ?g4
 case' g4 => refine' zY (ix := [0, 1]) bsRlaa.toCScope rfl rfl ?g5 ?g6 ?g7 ?g8
 case g5 => exact xx (pvd nmRla 2)
 case g6 => exact fun _ _ _ _ _ _ => pgb bsRlaa 0
 case g7 => exact fun _ _ _ _ _ _ => ye
 case g8 => exact fun _ _ _ _ _ _ => zx (pa_2 (pe_f fL hr (by decide) (pa_c (pvb bsRlaa 1) (pa_2 (pvb bsRlaa 2) (ziq (pvb bsRlaa 0) (pe_k Z.takes (bsRlaa.g 1))))) (bsRlaa.g 0)) (pe_f fL hr (by decide) (pa_c (pvb bsRlaa 1) (pa_2 (pvb bsRlaa 2) (ziq (pvb bsRlaa 0) (pe_k Z.gives (bsRlaa.g 2))))) (bsRlaa.g 0)))
 have rll := hR.len
 walk_at "v"
 refine ⟨pr, rfl, ⟨_, SqT.of hpr⟩, fun D hD => ?_⟩
 refine wn (xs := rs.map V.ref) (fun i ys H' => ∃ rs', ys = rs'.map V.ref ∧ rs'.length = i ∧ Same H H' ∧ RlsD H' rs' ((rl.take i).map fun r => (layN g r.1 cs n, layN g r.2 cs n))) ⟨[], rfl, rfl, Same.new (Same.refl H) hD, trivial⟩ (fun i ys H' _ ⟨_, _, _, k', _⟩ => SqT.of (k' _ _ hpr)) ?_ ?_
 ·rintro i x ys H1 hx ⟨rs', rfl, hrs', K1, hR1⟩ hDy R S kR _
  have hi : i < rs.length := itl hx
  have ex : x = .ref rs[i] := itx hx hi
  subst ex
  obtain ⟨r, gr, qa, qb, r1, r2, r3⟩ := hR.get (List.getElem?_eq_getElem hi)
  obtain ⟨l1, l2⟩ := hrl r (List.mem_of_getElem? gr)
  walk_at "v"
  refine zm (K1 _ _ r1) rfl ?_
  walk_at "v"
  refine ⟨pc, pp, qa, cs, r.1, g, n, rfl, K1 _ _ hc, K1 _ _ hp, K1 _ _ r2, l1, hn, hcl, hg, fun ta H2 K2 e2 => ?_⟩
  have K02 := K1.trans K2
  walk_at "v"
  refine zm (K02 _ _ r1) rfl ?_
  walk_at "v"
  refine ⟨pc, pp, qb, cs, r.2, g, n, rfl, K02 _ _ hc, K02 _ _ hp, K02 _ _ r3, l2, hn, hcl, hg, fun tb H3 K3 e3 => ?_⟩
  walk_at "v"
  refine ⟨sz2, fun tp htp => ?_⟩
  obtain ⟨H4, q, K4, e4⟩ := nob (.tup [.ref ta, .ref tb]) htp; rw [q]; clear q
  have K14 := (K2.trans K3).trans K4
  have hD4 := K14 _ _ hDy
  refine kR _ _ hD4 (lm1 (by omega)) ⟨rs' ++ [tp], by rw [List.map_append]; rfl, by rw [List.length_append, hrs']; rfl, (K1.trans K14).put hD, ?_⟩
  rw [List.take_add_one, gr, List.map_append]
  exact RlsD.snoc ((hR1.same K14).off hD4) (RlD.off hD4 ⟨ta, tb, e4, (K3.trans K4) _ _ e2, K4 _ _ e3⟩)
 rintro ys H1 ⟨rs', rfl, hrs', K1, hR1⟩ e1
 rw [List.length_map, List.take_of_length_le (by omega)] at hR1
 walk_at "v"
 refine ⟨D, _, rfl, e1, fun q H2 K2 e2 => ?_⟩
 exact k q rs' H2 (K1.trans K2) e2 (hR1.same K2)
abbrev sLb : Stmt := top 34
abbrev nLb : List Str := ["pot"]
theorem nmLb : Nm nLb (zk sLb) := ⟨by decide +kernel, by decide +kernel⟩
theorem scLb : FnScope nLb ["pot"] (zk sLb) := ⟨rfl, rfl, rfl, by decide +kernel, rfl, by decide +kernel, by decide +kernel⟩
def bdJ (d : PD) : Option Str := if 3 < d.ins.length then some "inputs" else if 8 < d.nm.length then some "sorts" else if 8 < d.rl.length then some "rules" else if ∃ b ∈ d.beg, 99 < b then some "begin" else none
def spLb (cJ : Addr) : Sp := fun vs H Q E => ∃ (q : Addr) (d : PD), vs = [.ref q] ∧ PotF false H q d ∧ 0 < d.beg.length ∧ (bdJ d = none → ∀ H', Same H H' → Q .non H') ∧
 (∀ w, bdJ d = some w → ∀ dx H', Same H H' → H' dx = none → E (.ref cJ) (some dx) (upd H' dx (XDct dx [("word", .str w), ("at", .int 0)])))
theorem ok_Lb {f : Addr} {fd : FuncData} (B : Bl mg) (Z : KP mg) (J : KJ mg) {cJ : Addr} (N : HasC P w K mg base 1 "NoJoin" cJ ["self", "word", "at"] (spXi K ["word", "at"])) (xa : XA K cJ) (hn1 : yp K cJ "word") (hn2 : yp K cJ "at") (F : Fun K "look_at_bounds" "look_at_bounds" sLb f fd) : FnOk P w K mg base (CXE P w) 3 f fd ["pot"] (spLb cJ) := by
 refine F.okX scLb (fun vs H Q E h => ?_) (fun cdv A outer s H vs Q E hr h L => ?_)
 ·obtain ⟨q, d, rfl, _⟩ := h
  rfl
 obtain ⟨q, d, rfl, hP, h0, kg, kb⟩ := h
 refine' ⟨_, ?hb, ?rd⟩
 case' hb => skip
 case' hb => refine' zj ?g1 ?g2
 case' g2 => refine' zj ?g3 ?g4
 case' g4 => refine' zj ?g5 ?g6
 case' g6 => refine' zn ?g7
 case' g1 => refine' zT ?g8 ?g9 zB
 case g8 => exact zy yY (zJ zr B.len PySem.boot_len (pa_1 (ziq (pvd nmLb 0) (pe_k Z.inputs)))) (pe_k J.inp) (zD _)
 case' g9 => refine' zn ?g11
 case g11 => exact xw N L rfl hr (by decide) (pa_2 zQ zh)
 case' g3 => refine' zT ?g12 ?g13 zB
 case g12 => exact zy yY (zJ zr B.len PySem.boot_len (pa_1 (ziq (pvd nmLb 0) (pe_k Z.sorts)))) (pe_k J.sor) (zD _)
 case' g13 => refine' zn ?g15
 case g15 => exact xw N L rfl hr (by decide) (pa_2 zQ zh)
 case' g5 => refine' zT ?g16 ?g17 zB
 case g16 => exact zy yY (zJ zr B.len PySem.boot_len (pa_1 (ziq (pvd nmLb 0) (pe_k Z.rules)))) (pe_k J.rul) (zD _)
 case' g17 => refine' zn ?g19
 case g19 => exact xw N L rfl hr (by decide) (pa_2 zQ zh)
 case' g7 => refine' zT ?g20 ?g21 zB
 case g20 => exact zy yY (zJ (call_maxT hr) B.max PyProof.Rows.boot_max (pa_1 (ziq (pvd nmLb 0) (pe_k Z.begin)))) (pe_k J.beg) (zD _)
 case' g21 => refine' zn ?g23
 case g23 => exact xw N L rfl hr (by decide) (pa_2 zQ zh)
 obtain ⟨ps, pr, pin, pb, rs, h1, h2, h3, h4, h5, h6⟩ := hP.ex
 have h2 : H ps = some (.tup (d.nm.map V.str)) := h2
 unfold bdJ at kg kb
 walk_at "v"
 refine zm h1 rfl ?_
 walk_at "v"
 refine ⟨pin, _, rfl, .inr (SqT.of h5), ?_⟩
 rw [List.length_map]
 walk_at "v"
 by_cases c0 : 3 < d.ins.length
 ·refine iteP (by omega) ?_
  rw [if_pos c0] at kb
  refine xT xa (fun f hf => by
    simp only [List.mem_cons, List.not_mem_nil, or_false] at hf
    rcases hf with rfl | rfl
    ·exact hn1
    ·exact hn2) ?_ (fun Q1 Q2 hQ h => hQ _ _ h)
  walk_at "v"
  exact ⟨rfl, by decide, fun dx hdx => kb _ rfl dx _ (Same.refl H) hdx⟩
 refine iteQ (by omega) ?_
 rw [if_neg c0] at kg kb
 walk_at "v"
 refine zm h1 rfl ?_
 walk_at "v"
 refine ⟨ps, _, rfl, .inr (SqT.of h2), ?_⟩
 rw [List.length_map]
 walk_at "v"
 by_cases c1 : 8 < d.nm.length
 ·refine iteP (by omega) ?_
  rw [if_pos c1] at kb
  refine xT xa (fun f hf => by
    simp only [List.mem_cons, List.not_mem_nil, or_false] at hf
    rcases hf with rfl | rfl
    ·exact hn1
    ·exact hn2) ?_ (fun Q1 Q2 hQ h => hQ _ _ h)
  walk_at "v"
  exact ⟨rfl, by decide, fun dx hdx => kb _ rfl dx _ (Same.refl H) hdx⟩
 refine iteQ (by omega) ?_
 rw [if_neg c1] at kg kb
 walk_at "v"
 refine zm h1 rfl ?_
 walk_at "v"
 refine ⟨pr, _, rfl, .inr (SqT.of h3), ?_⟩
 rw [List.length_map, h4.len]
 walk_at "v"
 by_cases c2 : 8 < d.rl.length
 ·refine iteP (by omega) ?_
  rw [if_pos c2] at kb
  refine xT xa (fun f hf => by
    simp only [List.mem_cons, List.not_mem_nil, or_false] at hf
    rcases hf with rfl | rfl
    ·exact hn1
    ·exact hn2) ?_ (fun Q1 Q2 hQ h => hQ _ _ h)
  walk_at "v"
  exact ⟨rfl, by decide, fun dx hdx => kb _ rfl dx _ (Same.refl H) hdx⟩
 refine iteQ (by omega) ?_
 rw [if_neg c2] at kg kb
 walk_at "v"
 refine zm h1 rfl ?_
 walk_at "v"
 refine ⟨pb, d.beg, rfl, h6, h0, fun M hM hMx => ?_⟩
 walk_at "v"
 by_cases c3 : ∃ b ∈ d.beg, 99 < b
 ·obtain ⟨b, hb, hb9⟩ := id c3
  refine iteP (by have := hMx b hb; omega) ?_
  rw [if_pos c3] at kb
  refine xT xa (fun f hf => by
    simp only [List.mem_cons, List.not_mem_nil, or_false] at hf
    rcases hf with rfl | rfl
    ·exact hn1
    ·exact hn2) ?_ (fun Q1 Q2 hQ h => hQ _ _ h)
  walk_at "v"
  exact ⟨rfl, by decide, fun dx hdx => kb _ rfl dx _ (Same.refl H) hdx⟩
 refine iteQ (fun z => c3 ⟨M, hM, z⟩) ?_
 rw [if_neg c3] at kg
 exact kg rfl _ (Same.refl H)
abbrev sPt : Stmt := top 29
abbrev nPt : List Str := ["one", "other", "k", "taker", "one_places", "other_places", "sorts", "none", "pot"]
theorem nmPt : Nm nPt (zk sPt) := ⟨by decide +kernel, by decide +kernel⟩
theorem scPt : FnScope nPt ["one", "other", "k"] (zk sPt) := ⟨rfl, rfl, rfl, by decide +kernel, rfl, by decide +kernel, by decide +kernel⟩
def qPta (s : Stmt) : Scope := match s with
 | .Assign _ (.Tuple [_, _, (.BinOp _ _ (.Call _ [(.ListComp _ _ sc _)] _ _) _), _, _] _ _) _ => sc
 | _ => nsc
abbrev cPta : Scope := qPta ((zu sPt).getD 6 (.Pass ⟨0, 0, 0, 0⟩))
theorem bsPta : BScope (zk sPt) cPta ["number", "sort"] ["k", "other_places"] [] := { okind := by decide +kernel, kind := by decide +kernel, nocell := by decide +kernel, names := by decide +kernel, fr := by decide +kernel, ff := by decide +kernel, nd := by decide +kernel, vis := by decide +kernel, loc := by decide +kernel, gl := by decide +kernel }
theorem RlsD.app {H : Hp} : ∀ {rs : List Addr} {xs : List (List Int × List Int)} {rs' : List Addr} {xs' : List (List Int × List Int)}, RlsD H rs xs → RlsD H rs' xs' → RlsD H (rs ++ rs') (xs ++ xs')
 | [], [], _, _, _, h => h
 | _ :: _, _ :: _, _, _, ⟨a, b⟩, h => ⟨a, RlsD.app b h⟩
 | [], _ :: _, _, _, h, _ => h.elim
 | _ :: _, [], _, _, h, _ => h.elim
theorem Jn.ok.bad_eq {j : Jn} (h : j.ok) (ht : tkr j.A = none) : j.bad = (bdJ j.pot).map fun w => (w, 0) := by
 have hk := h.hk
 have b0 := h.b.m0
 have e1 : j.pot.ins.length = j.A.ins.length + (j.B.ins.length - 1) := by
  show (j.A.ins ++ insN j.f j.B.ins j.k j.B.ins.length).length = _
  rw [List.length_append, yF, if_pos hk]
 have e2 : j.pot.nm.length = j.N := by
  show (nms _ _ ++ nms _ _).length = _
  unfold nms
  rw [List.length_append, List.length_map, List.length_map, List.length_range, List.length_range]
  rfl
 have e3 : j.pot.rl.length = j.A.rl.length + j.B.rl.length := by
  show (j.A.rl.map j.up ++ j.B.rl.map j.at).length = _
  rw [List.length_append, List.length_map, List.length_map]
 have e4 : j.pot.beg = j.beg := rfl
 unfold Jn.bad bdJ
 rw [ht, e1, e2, e3, e4]
 by_cases c1 : 4 < j.A.ins.length + j.B.ins.length
 ·simp only [if_pos c1, if_pos (show 3 < j.A.ins.length + (j.B.ins.length - 1) by omega)]; rfl
 simp only [if_neg c1, if_neg (show ¬ 3 < j.A.ins.length + (j.B.ins.length - 1) by omega)]
 by_cases c2 : 8 < j.N
 ·simp only [if_pos c2]; rfl
 simp only [if_neg c2]
 by_cases c3 : 8 < j.A.rl.length + j.B.rl.length
 ·simp only [if_pos c3]; rfl
 simp only [if_neg c3]
 by_cases c4 : ∃ b ∈ j.beg, 99 < b
 ·simp only [if_pos c4]; rfl
 simp only [if_neg c4]; rfl
theorem Jn.ok.up_eq {j : Jn} (h : j.ok) : j.A.rl.map (fun r => (layN (fun i => i) r.1 (zs j.N) j.n1, layN (fun i => i) r.2 (zs j.N) j.n1)) = j.A.rl.map j.up := by
 refine List.map_congr_left fun r hr => ?_
 obtain ⟨a, b⟩ := h.a.rs r hr
 have hN : j.N = j.n1 + (j.n2 - 1) := rfl
 have e : ∀ {x : List Int}, x.length = j.n1 → layN (fun i => i) x (zs j.N) j.n1 = x ++ zs (j.n2 - 1) := fun {x} hx => by
  have := ZR (more := x) (n := j.N) (by omega) j.n1 (by omega)
  rw [this, List.take_of_length_le (by omega), hN, Nat.add_sub_cancel_left]
 rw [e a.1, e b.1]
 rfl
theorem Jn.ok.beg_eq {j : Jn} (h : j.ok) : layN (fun i => i) j.A.beg (zs j.N) j.n1 = j.A.beg ++ zs (j.n2 - 1) := by
 have hN : j.N = j.n1 + (j.n2 - 1) := rfl
 have hx := h.a.bl
 have := ZR (more := j.A.beg) (n := j.N) (by omega) j.n1 (by omega)
 rw [this, List.take_of_length_le (by omega), hN, Nat.add_sub_cancel_left]
theorem yf (n : Nat) : (zs n).length = n := List.length_replicate
theorem XJ {f : Nat → Nat} {n : Nat} {i : Int} (h0 : 0 ≤ i) (h1 : i < n) : atI ((List.range n).map fun s => V.int (f s : Nat)) i = some (.int (f i.toNat : Nat)) := by
 obtain ⟨j, rfl⟩ := ofI h0
 have hj : j < n := by omega
 refine yA ?_
 rw [List.getElem?_map, List.getElem?_range hj]
 rfl
def spPt (cJ : Addr) : Sp := fun vs H Q E => ∃ (q1 q2 : Addr) (j : Jn), vs = [.ref q1, .ref q2, .int (j.k : Int)] ∧ PotF false H q1 j.A ∧ PotF false H q2 j.B ∧ j.ok ∧ (j.bad = none → ∀ q H', Same H H' → PotF false H' q j.pot → Q (.ref q) H') ∧
 (∀ w t, j.bad = some (w, t) → ∀ dx H', Same H H' → H' dx = none → E (.ref cJ) (some dx) (upd H' dx (XDct dx [("word", .str w), ("at", .int (t : Int))])))
theorem ok_Pt {f : Addr} {fd : FuncData} (B : Bl mg) (Z : KP mg) (J : KJ mg) {cJ : Addr} (N : HasC P w K mg base 1 "NoJoin" cJ ["self", "word", "at"] (spXi K ["word", "at"])) (xa : XA K cJ) (hn1 : yp K cJ "word") (hn2 : yp K cJ "at") (fT : Has P w K mg base 1 "first_taker" ["pot"] spTk) (fP : Has P w K mg base 1 "places_of" ["one", "other", "k"] YD) (fC : Has P w K mg base 1 "called_by" ["letter", "many"] spCb) (fN : Has P w K mg base 1 "noughts" ["things"] spNg) (fR : Has P w K mg base 2 "rules_laid" ["none", "places", "rules"] YC) (fL : Has P w K mg base 1 "laid" ["counts", "places", "more"] spLd) (fB : HasX P w K mg base 3 "look_at_bounds" ["pot"] (spLb cJ)) (F : Fun K "put_together" "put_together" sPt f fd) : FnOk P w K mg base (CXE P w) 4 f fd ["one", "other", "k"] (spPt cJ) := by
 refine F.okX scPt (fun vs H Q E h => ?_) (fun cdv A outer s H vs Q E hr h L => ?_)
 ·obtain ⟨q1, q2, j, rfl, _⟩ := h
  rfl
 obtain ⟨q1, q2, j, rfl, hA, hB, ok, kg, kb⟩ := h
 refine' ⟨_, ?hb, ?rd⟩
 case' hb => skip
 case' hb => refine' zj ?g1 ?g2
 case' g2 => refine' zj ?g3 ?g4
 case' g4 => refine' zj ?g5 ?g6
 case' g6 => refine' zj ?g7 ?g8
 case' g8 => refine' zj ?g9 ?g10
 case' g10 => refine' zj ?g11 ?g12
 case' g12 => refine' zj ?g13 ?g14
 case' g14 => refine' zj ?g15 ?g16
 case' g16 => refine' zn ?g17
 case g1 => exact zq nmPt 3 (pe_f fT hr (by decide) (pa_1 (pvd nmPt 0)))
 case' g3 => refine' zT ?g18 ?g19 zB
 case g18 => exact ZO (Ye (pvd nmPt 3))
 case' g19 => refine' zn ?g21
 case g21 => exact xw N L rfl hr (by decide) (pa_2 zQ (pvd nmPt 3))
 case g5 => exact zq nmPt 4 (zU (wt rfl) B.list PyProof.Rows.boot_list (pa_1 (zU xB B.range PyProof.Rows.boot_range (pa_1 (zJ zr B.len PySem.boot_len (pa_1 (ziq (pvd nmPt 0) (pe_k Z.sorts))))))))
 case g7 => exact zq nmPt 5 (pe_f fP hr (by decide) (pa_c (pvd nmPt 0) (pa_2 (pvd nmPt 1) (pvd nmPt 2))))
 case g9 => exact zq nmPt 6 (zw yI (pe_f fC hr (by decide) (pa_2 (YQ J.one) (zJ zr B.len PySem.boot_len (pa_1 (ziq (pvd nmPt 0) (pe_k Z.sorts)))))) (pe_f fC hr (by decide) (pa_2 (YQ J.oth) (zw ZP (zJ zr B.len PySem.boot_len (pa_1 (ziq (pvd nmPt 1) (pe_k Z.sorts)))) zh))))
 case g11 => exact zq nmPt 7 (pe_f fN hr (by decide) (pa_1 (pvd nmPt 6)))
 case' g13 => refine' zq nmPt 8 ?g22
 case' g22 => refine' zx ?g23
 case' g23 => refine' pa_c (pvd nmPt 6) ?g24
 case' g24 => refine' pa_c (zw yI (pe_f fR hr (by decide) (pa_c (pvd nmPt 7) (pa_2 (pvd nmPt 4) (ziq (pvd nmPt 0) (pe_k Z.rules))))) (pe_f fR hr (by decide) (pa_c (pvd nmPt 7) (pa_2 (pvd nmPt 5) (ziq (pvd nmPt 1) (pe_k Z.rules)))))) ?g25
 case' g25 => refine' pa_c ?g26 (pa_2 (pe_f fL hr (by decide) (pa_c (pe_f fL hr (by decide) (pa_c (pvd nmPt 7) (pa_2 (pvd nmPt 4) (ziq (pvd nmPt 0) (pe_k Z.begin))))) (pa_2 (pvd nmPt 5) (ziq (pvd nmPt 1) (pe_k Z.begin))))) (ziq (pvd nmPt 5) (ziq (pvd nmPt 1) (pe_k Z.answer))))
 case' g26 => refine' zw yI (ziq (pvd nmPt 0) (pe_k Z.inputs)) ?g27
 case' g27 => refine' zU zV B.tuple PyProof.Rows.boot_tuple ?g28
 case' g28 => refine' pa_1 ?g29
 case' g29 => refine' zY (ix := [2, 5]) bsPta.toCScope rfl rfl ?g30 ?g31 ?g32 ?g33
 case g30 => exact YM B.enu (pa_1 (ziq (pvd nmPt 1) (pe_k Z.inputs)))
 case g31 =>
  intro _ _ _ _ _ _
  refine' wH (n := 2) rfl ?g34
  case' g34 => refine' zF ?g38 ?g37
  case g38 => exact pgb bsPta 0
  case' g37 => refine' zF ?g40 yo
  case g40 => exact pgb bsPta 1
 case g32 => exact fun _ _ _ _ _ _ => wf (zy Zp (pvb bsPta 0) (pvb bsPta 2) (zD _))
 case g33 => exact fun _ _ _ _ _ _ => ziq (pvb bsPta 3) (pvb bsPta 1)
 case g15 => exact xi (Xw fB L hr (by decide) (pa_1 (pvd nmPt 8)))
 case g17 => exact zE (pvd nmPt 8)
 obtain ⟨ps, pr, pin, pb, rs, h1, h2, h3, h4, h5, h6⟩ := hA.ex
 obtain ⟨ps', pr', pin', pb', rs', h1', h2', h3', h4', h5', h6'⟩ := hB.ex
 have h2 : H ps = some (.tup (j.A.nm.map V.str)) := h2
 have h2' : H ps' = some (.tup (j.B.nm.map V.str)) := h2'
 have hk := ok.hk
 have a0 := ok.a.m0
 have a8 := ok.a.m8
 have b0 := ok.b.m0
 have b8 := ok.b.m8
 have ai := ok.a.i3
 have bi := ok.b.i3
 have ar := ok.a.r8
 have br := ok.b.r8
 have ln1 : j.A.nm.length = j.n1 := rfl
 have ln2 : j.B.nm.length = j.n2 := rfl
 have hN : j.N = j.n1 + (j.n2 - 1) := rfl
 walk_at "v"
 refine ⟨q1, j.A, j.n1, rfl, hA, ok.a, fun H1 K1 => ?_⟩
 walk_at "v"
 refine Yu ?_
 walk_at "v"
 cases ht : tkr j.A with
 | some t =>
  have eb : j.bad = some (("taken" : Str), t) := by unfold Jn.bad; rw [ht]
  refine XE (fun z => nomatch z) ?_
  refine xT xa (fun f hf => by
    simp only [List.mem_cons, List.not_mem_nil, or_false] at hf
    rcases hf with rfl | rfl
    ·exact hn1
    ·exact hn2) ?_ (fun Q1 Q2 hQ h => by obtain ⟨v, e, h⟩ := h; exact ⟨v, e, hQ _ _ h⟩)
  walk_at "v"
  exact ⟨rfl, by decide, fun dx hdx => kb _ _ eb dx _ K1 hdx⟩
 | none =>
 have eb := ok.bad_eq ht
 refine Yk rfl ?_
 walk_at "v"
 refine zm (K1 _ _ h1) rfl ?_
 walk_at "v"
 refine ⟨ps, _, rfl, .inr (SqT.of (K1 _ _ h2)), ?_⟩
 rw [List.length_map, ln1]
 refine ⟨_, rfl, fun rg hrg => ?_⟩
 obtain ⟨H2, q, K2, e2⟩ := nob (.rng 0 (j.n1 : Int)) hrg; rw [q]; clear q
 walk_at "v"
 refine ⟨rg, j.n1, rfl, e2, by omega, fun pl hpl => ?_⟩
 have K3 : Same H2 (upd H2 pl (.lst ((List.range j.n1).map fun (i : Nat) => V.int (i : Int)))) := Same.new (Same.refl _) hpl
 have e3 : upd H2 pl (.lst ((List.range j.n1).map fun (i : Nat) => V.int (i : Int))) pl = some (.lst ((List.range j.n1).map fun s => V.int (((fun i : Nat => i) s : Nat) : Int))) := zi
 generalize upd H2 pl (.lst ((List.range j.n1).map fun (i : Nat) => V.int (i : Int))) = H3 at K3 e3 ⊢
 have K03 := (K1.trans K2).trans K3
 walk_at "v"
 refine ⟨q1, q2, j, rfl, hA.same K03, hB.same K03, ok, fun po H4 K4 e4 => ?_⟩
 have K04 := K03.trans K4
 walk_at "v"
 refine zm (K04 _ _ h1) rfl ?_
 walk_at "v"
 refine ⟨ps, _, rfl, .inr (SqT.of (K04 _ _ h2)), ?_⟩
 rw [List.length_map, ln1]
 refine ⟨"p", j.n1, rfl, by decide +kernel, a8, fun c1 H5 K5 e5 => ?_⟩
 have K05 := K04.trans K5
 walk_at "v"
 refine zm (K05 _ _ h1') rfl ?_
 walk_at "v"
 refine ⟨ps', _, rfl, .inr (SqT.of (K05 _ _ h2')), ?_⟩
 rw [List.length_map, ln2]
 walk_at "v"
 rw [show ((j.n2 : Nat) : Int) - 1 = ((j.n2 - 1 : Nat) : Int) by omega]
 refine ⟨"q", j.n2 - 1, rfl, by decide +kernel, by omega, fun c2 H6 K6 e6 => ?_⟩
 have nl1 : (nms "p" j.n1).length = j.n1 := by unfold nms; rw [List.length_map, List.length_range]
 have nl2 : (nms "q" (j.n2 - 1)).length = j.n2 - 1 := by unfold nms; rw [List.length_map, List.length_range]
 refine ⟨c1, c2, _, _, rfl, rfl, K6 _ _ e5, e6, by rw [List.length_map, List.length_map, nl1, nl2]; omega, fun so H7 K7 e7 => ?_⟩
 rw [← List.map_append] at e7
 have K07 := (K05.trans K6).trans K7
 walk_at "v"
 refine ⟨so, _, rfl, e7, by rw [List.length_map, List.length_append, nl1, nl2]; omega, fun no H8 K8 e8 => ?_⟩
 rw [List.length_map, List.length_append, nl1, nl2, ← hN] at e8
 have K08 := K07.trans K8
 have K38 := (((K4.trans K5).trans K6).trans K7).trans K8
 have K48 := ((K5.trans K6).trans K7).trans K8
 walk_at "v"
 refine zm (K08 _ _ h1) rfl ?_
 walk_at "v"
 refine ⟨no, pl, pr, zs j.N, rs, j.A.rl, (fun i => i), j.n1, rfl, e8, K38 _ _ e3, K08 _ _ h3, h4.same K08, ar, fun r hr => ⟨(ok.a.rs r hr).1.1, (ok.a.rs r hr).2.1⟩, a8, by rw [yf]; omega, fun s hs => by rw [yf]; show s < j.N; omega, fun ra rsa H9 K9 e9 R9 => ?_⟩
 rw [ok.up_eq] at R9
 have K09 := K08.trans K9
 walk_at "v"
 refine zm (K09 _ _ h1') rfl ?_
 walk_at "v"
 refine ⟨no, po, pr', zs j.N, rs', j.B.rl, j.f, j.n2, rfl, K9 _ _ e8, (K48.trans K9) _ _ e4, K09 _ _ h3', h4'.same K09, br, fun r hr => ⟨(ok.b.rs r hr).1.1, (ok.b.rs r hr).2.1⟩, b8, by rw [yf]; omega, fun s hs => by rw [yf]; exact ok.f_lt hs, fun rb rsb H10 K10 e10 R10 => ?_⟩
 have la := R9.len
 have lb := R10.len
 rw [List.length_map] at la lb
 refine ⟨ra, rb, _, _, rfl, rfl, K10 _ _ e9, e10, by rw [List.length_map, List.length_map]; omega, fun ru H11 K11 e11 => ?_⟩
 rw [← List.map_append] at e11
 have R11 := RlsD.app ((R9.same K10).same K11) (R10.same K11)
 have K011 := (K09.trans K10).trans K11
 have K811 := (K9.trans K10).trans K11
 have K411 := K48.trans K811
 walk_at "v"
 refine zm (K011 _ _ h1) rfl ?_
 walk_at "v"
 refine w_compE ?_
 walk_at "v"
 refine zm (K011 _ _ h1') rfl ?_
 walk_at "v"
 refine ⟨pin', rfl, ⟨_, SqT.of (K011 _ _ h5')⟩, fun D hD => ?_⟩
 refine cgo_enu (xs := j.B.ins.map V.int) (ρ := [some (.int (j.k : Int)), some (.ref po)]) (fun i ys H' => ys = (insN j.f j.B.ins j.k i).map V.int ∧ Same H11 H') ⟨rfl, Same.new (Same.refl _) hD⟩ (fun i ys H' _ ⟨_, k'⟩ => SqT.of (k' _ _ (K011 _ _ h5'))) ?_ ?_
 ·rintro i x ys H12 z hx ⟨rfl, K12⟩ hDy hz R S kR kS
  have hi : i < j.B.ins.length := itl hx
  have ex : x = .int (j.B.ins.getD i 0) := by
   rw [List.getElem?_map, List.getElem?_eq_getElem hi] at hx
   rw [List.getD_eq_getElem?_getD, List.getElem?_eq_getElem hi]
   exact (Option.some.inj hx).symm
  subst ex
  have hm := ok.b.hi (j.B.ins.getD i 0) (by
   rw [List.getD_eq_getElem?_getD, List.getElem?_eq_getElem hi]
   exact List.getElem_mem hi)
  have il := yF j.f j.B.ins j.k i
  have il2 : (insN j.f j.B.ins j.k i).length ≤ i := by rw [il]; split <;> omega
  have K13 : Same H12 (upd H12 z (.tup [.int (i : Int), .int (j.B.ins.getD i 0)])) := Same.new (Same.refl _) hz
  generalize upd H12 z (.tup [.int (i : Int), .int (j.B.ins.getD i 0)]) = H13 at K13 ⊢
  walk_at "v"
  refine ⟨rfl, ?_⟩
  walk_at "v"
  refine Zz (fun h => ?_) (fun h => ?_)
  ·have h' : i ≠ j.k := fun z => h (congrArg V.int (by omega))
   walk_at "v"
   refine yd (K13 _ _ (K12 _ _ (K411 _ _ e4))) (XJ hm.1 hm.2) ?_
   refine kR _ _ (K13 _ _ hDy) (lm1 (by omega)) ⟨?_, (K12.trans K13).put hD⟩
   rw [insN, if_neg h', List.map_append]
   rfl
  ·have h' : i = j.k := by injection h with h; omega
   exact kS _ (K13 _ _ hDy) ⟨by rw [insN, if_pos h'], K12.trans K13⟩
 rintro ys H12 ⟨rfl, K12⟩ e12
 rw [List.length_map] at e12
 walk_at "v"
 refine ⟨D, _, rfl, e12, fun ti H13 K13 e13 => ?_⟩
 have K1113 := K12.trans K13
 have il : (insN j.f j.B.ins j.k j.B.ins.length).length ≤ 3 := by rw [yF]; split <;> omega
 refine ⟨pin, ti, _, _, rfl, rfl, (K011.trans K1113) _ _ h5, e13, by rw [List.length_map, List.length_map]; omega, fun inn H14 K14 e14 => ?_⟩
 rw [← List.map_append] at e14
 have K1114 := K1113.trans K14
 have K014 := K011.trans K1114
 have K814 := K811.trans K1114
 walk_at "v"
 refine zm (K014 _ _ h1) rfl ?_
 walk_at "v"
 refine ⟨no, pl, pb, zs j.N, j.A.beg, (fun i => i), j.n1, rfl, K814 _ _ e8, (K38.trans K814) _ _ e3, K014 _ _ h6, ok.a.bl, a8, by rw [yf]; omega, fun s hs => by rw [yf]; show s < j.N; omega, fun ba H15 K15 e15 => ?_⟩
 rw [ok.beg_eq] at e15
 have K015 := K014.trans K15
 walk_at "v"
 refine zm (K015 _ _ h1') rfl ?_
 walk_at "v"
 refine ⟨ba, po, pb', _, j.B.beg, j.f, j.n2, rfl, e15, (K411.trans (K1114.trans K15)) _ _ e4, K015 _ _ h6', ok.b.bl, b8, by rw [List.length_append, yf, ok.a.bl]; omega, fun s hs => by rw [List.length_append, yf, ok.a.bl]; have := ok.f_lt hs; omega, fun bb H16 K16 e16 => ?_⟩
 have K016 := K015.trans K16
 have K1416 := K15.trans K16
 have K1116 := K1114.trans K1416
 walk_at "v"
 refine zm (K016 _ _ h1') rfl ?_
 walk_at "v"
 refine yd ((K411.trans K1116) _ _ e4) (XJ ok.b.ha.1 ok.b.ha.2) ?_
 walk_at "v"
 refine ⟨sz5, fun q hq => ?_⟩
 obtain ⟨H17, q, K17, e17⟩ := nob (.tup [.ref so, .ref ru, .ref inn, .ref bb, .int (j.f j.B.ans.toNat : Nat)]) hq; rw [q]; clear q
 have K1117 := K1116.trans K17
 have K017 := K016.trans K17
 have hPot : PotF false H17 q j.pot := ⟨so, ru, inn, bb, rsa ++ rsb, e17, ((K8.trans K811).trans K1117) _ _ e7, K1117 _ _ e11, R11.same K1117, (K1416.trans K17) _ _ e14, K17 _ _ e16⟩
 walk_at "v"
 refine ZY ?_
 walk_at "v"
 refine ⟨q, j.pot, rfl, hPot, ?_, fun hb H18 K18 => ?_, fun w hw dx H18 K18 hd => ?_⟩
 ·show 0 < (layN _ _ _ _).length
  rw [xf, List.length_append, ok.a.bl]
  omega
 ·walk_at "v"
  exact kg (by rw [eb, hb]; rfl) q H18 (K017.trans K18) (hPot.same K18)
 ·exact kb w 0 (by rw [eb, hw]; rfl) dx H18 (K017.trans K18) hd
theorem ZE {D : Addr} {tc : TT} {te : TE} {Q : VK} {ρ : St} {H : Hp} {K : W.Frag} {a : Addr} {rs : List Addr} (Pv : Nat → List V → Hp → Prop) (h0 : Pv 0 [] (upd H D (.lst []))) (hl : ∀ i ys H', i ≤ rs.length → Pv i ys H' → SqT K H' a (rs.map V.ref))
  (hs : ∀ i r ys H', rs[i]? = some r → Pv i ys H' → H' D = some (.lst ys) → ∃ u v, H' r = some (.tup [u, v]) ∧ ∀ (R : V → Hp → Prop) (S : Hp → Prop), (∀ y H4, H4 D = some (.lst ys) → ys.length < sizeLine → Pv (i + 1) (ys ++ [y]) (upd H4 D (.lst (ys ++ [y]))) → R y H4) → (∀ H3, H3 D = some (.lst ys) → Pv (i + 1) ys H3 → S H3) →
   tc (some u :: some v :: ρ) H' fun b H3 => if b = true then te (some u :: some v :: ρ) H3 R else S H3)
  (hd : ∀ ys H', Pv rs.length ys H' → H' D = some (.lst ys) → Q (.ref D) H') : CGo (Itt K a) D (gTup K 2 (wl (yi 0) (wl (yi 1) gNil))) tc te Q (none :: none :: ρ) H := by
 refine ⟨fun i m τ ys H' => m = rs.length - i ∧ i ≤ rs.length ∧ (∃ tv tw, τ = tv :: tw :: ρ) ∧ Pv i ys H' ∧ H' D = some (.lst ys), ⟨rs.length, by omega, Nat.zero_le _, ⟨_, _, rfl⟩, h0, zi⟩, ?_⟩
 rintro i m τ ys H' ⟨rfl, hi, ⟨tv, tw, rfl⟩, hp, hD⟩
 refine ⟨hD, ?_⟩
 have sq := hl i ys H' hi hp
 by_cases hlt : i < rs.length
 ·refine .inr ⟨⟨_, .ref rs[i], sq, by simp [hlt]⟩, ?_⟩
  rintro v H'' ⟨rfl, hv⟩
  have hv' := hv _ sq
  rw [List.getElem?_map, List.getElem?_eq_getElem hlt] at hv'
  cases hv'
  obtain ⟨u, v, e, h⟩ := hs i rs[i] ys _ (List.getElem?_eq_getElem hlt) hp hD
  exact ⟨rs[i], [u, v], rfl, SqT.of e, rfl, u, [v], rfl, v, [], rfl, rfl, h _ _ (fun y H4 a b c => ⟨a, b, rs.length - (i + 1), by omega, rfl, hlt, ⟨_, _, rfl⟩, c, zi⟩) fun H3 a c => ⟨rs.length - (i + 1), by omega, rfl, hlt, ⟨_, _, rfl⟩, c, a⟩⟩
 ·have e : i = rs.length := by omega
  subst e
  exact .inl ⟨⟨_, sq, by simp⟩, hd ys _ hp hD⟩
abbrev sIt : Stmt := top 48
abbrev nIt : List Str := ["_law_pot_here", "_law_found"]
theorem nmIt : Nm nIt (zk sIt) := ⟨by decide +kernel, by decide +kernel⟩
theorem scIt : FnScope nIt ["_law_pot_here"] (zk sIt) := ⟨rfl, rfl, rfl, by decide +kernel, rfl, by decide +kernel, by decide +kernel⟩
def qIta (s : Stmt) : Scope := match s with
 | .Assign _ (.ListComp _ _ sc _) _ => sc
 | _ => nsc
abbrev cIta : Scope := qIta ((zu sIt).getD 0 (.Pass ⟨0, 0, 0, 0⟩))
theorem bsIta : BScope (zk sIt) cIta ["_law_rule_here"] ["_law_pot_here"] [] := { okind := by decide +kernel, kind := by decide +kernel, nocell := by decide +kernel, names := by decide +kernel, fr := by decide +kernel, ff := by decide +kernel, nd := by decide +kernel, vis := by decide +kernel, loc := by decide +kernel, gl := by decide +kernel }
theorem loIt_1 : (zk sIt).names.lookup ("_law_found" : Str) = some .local := by decide +kernel
def spIt : Sp := fun vs H Q _ => ∃ (q : Addr) (d : PD) (m : Nat), vs = [.ref q] ∧ PotF false H q d ∧ PX d m ∧ ∀ H', Same H H' → Q (oV (tkr d)) H'
theorem ok_It {f : Addr} {fd : FuncData} (B : Bl mg) (F : Fun K "_law_is_taken" "_law_is_taken" sIt f fd) : FnOk P w K mg base CX0 1 f fd ["_law_pot_here"] spIt := by
 refine F.ok scIt (fun vs H Q E h => ?_) (fun cdv A outer s H vs Q E hr h => ?_)
 ·obtain ⟨q, d, m, rfl, _⟩ := h
  rfl
 obtain ⟨q, d, m, rfl, hP, hd, k⟩ := h
 refine' ⟨_, ?hb, ?rd⟩
 case' hb => skip
 case' hb => refine' zj ?g1 ?g2
 case' g2 => refine' zj ?g3 ?g4
 case' g4 => refine' zn ?g5
 case' g1 => refine' Z9 (i := 1) (ix := [0]) nmIt.nd rfl loIt_1 bsIta.toCScope rfl rfl ?g6 ?g7 ?g8 ?g9
 case g6 => exact yD B.range (pa_1 (zJ zr B.len PySem.boot_len (pa_1 (ziq (pvd nmIt 0) zh))))
 case g7 => exact fun _ _ _ _ _ _ => pgb bsIta 0
 case g8 => exact fun _ _ _ _ _ _ => wf (zy yY (ziq (ziq (ziq (ziq (pvb bsIta 1) zh) (pvb bsIta 0)) zh) (ziq (pvb bsIta 1) zh)) zh (zD _))
 case g9 => exact fun _ _ _ _ _ _ => pvb bsIta 0
 case' g3 => refine' zT ?g10 ?g11 zB
 case g10 => exact zy (op_eqE hr) (pvd nmIt 1) (zK yL) (zD _)
 case' g11 => refine' zn ?g13
 case g13 => exact zE vU
 case g5 => exact zE (ziq (pvd nmIt 1) zh)
 obtain ⟨ps, pr, pin, pb, rs, h1, h2, h3, h4, h5, h6⟩ := hP.ex
 have r8 := hd.r8
 have ha := hd.ha
 have hl := h4.len
 walk_at "v"
 refine zm h1 rfl ?_
 walk_at "v"
 refine ⟨pr, _, rfl, .inr (SqT.of h3), ?_⟩
 rw [List.length_map, hl]
 refine ⟨_, rfl, by omega, by omega, fun D hD => ?_⟩
 rw [Int.toNat_natCast]
 refine ym (n := d.rl.length) (fun i ys H' => ys = ((List.range i).filter (tkP d)).map (fun n : Nat => V.int (n : Int)) ∧ Same H H') ⟨rfl, Same.new (Same.refl H) hD⟩ ?_ ?_
 ·rintro i ys H1 hi ⟨rfl, K1⟩ hDy R S kR kS
  have hi' : i < rs.length := by omega
  obtain ⟨r, gr, qa, qb, r1, r2, r3⟩ := h4.get (List.getElem?_eq_getElem hi')
  have rl := hd.rs r (List.mem_of_getElem? gr)
  have et : tkP d i = decide (0 < r.1.getD d.ans.toNat 0) := by
   unfold tkP
   rw [show d.rl.getD i ([], []) = r by rw [List.getD_eq_getElem?_getD, gr]; rfl]
  have fl : ((List.range i).filter (tkP d)).length ≤ i := by
   have := List.length_filter_le (tkP d) (List.range i)
   rwa [List.length_range] at this
  rw [Int.zero_add]
  walk_at "v"
  refine zm (K1 _ _ h1) rfl ?_
  walk_at "v"
  refine zm (K1 _ _ h3) (yA (by rw [List.getElem?_map, List.getElem?_eq_getElem hi']; rfl)) ?_
  walk_at "v"
  refine zm (K1 _ _ r1) rfl ?_
  walk_at "v"
  refine zm (K1 _ _ h1) rfl ?_
  refine zm (K1 _ _ r2) (atZ ha.1 (by rw [rl.1.1]; exact ha.2)) ?_
  walk_at "v"
  refine iteD (fun h => ?_) (fun h => ?_)
  ·walk_at "v"
   refine kR _ _ hDy (lm1 (by omega)) ⟨?_, K1.put hD⟩
   rw [List.range_succ, List.filter_append, List.filter_cons_of_pos (by rw [et]; exact decide_eq_true h), List.map_append]
   rfl
  ·refine kS _ hDy ⟨?_, K1⟩
   rw [List.range_succ, List.filter_append, List.filter_cons_of_neg (by rw [et, decide_eq_false h]; exact Bool.false_ne_true), List.filter_nil, List.append_nil]
 rintro ys H1 ⟨rfl, K1⟩ e1
 have eh : ((List.range d.rl.length).filter (tkP d)).head? = tkr d := List.head?_filter
 walk_at "v"
 refine ⟨sz0, fun z hz => ?_⟩
 obtain ⟨H2, q, K2, e2⟩ := nob (.lst []) hz; rw [q]; clear q
 refine ⟨D, z, _, rfl, rfl, K2 _ _ e1, e2, ?_⟩
 walk_at "v"
 generalize (List.range d.rl.length).filter (tkP d) = l at eh e1 ⊢
 cases l with
 | nil =>
  refine iteT ?_
  walk_at "v"
  rw [← eh] at k
  exact k _ (K1.trans K2)
 | cons a t =>
  refine iteF ?_
  walk_at "v"
  refine yd (K2 _ _ e1) at0 ?_
  rw [← eh] at k
  exact k _ (K1.trans K2)
abbrev sJd : Stmt := top 49
abbrev nJd : List Str := ["_law_one", "_law_other", "_law_k", "_law_taker", "_law_many", "_law_rest", "_law_at", "_law_place", "_law_begin", "_law_sort", "_law_rules", "_law_sides", "_law_found", "_law_side", "_law_names_here", "_law_inputs"]
theorem nmJd : Nm nJd (zk sJd) := ⟨by decide +kernel, by decide +kernel⟩
theorem scJd : FnScope nJd ["_law_one", "_law_other", "_law_k"] (zk sJd) := ⟨rfl, rfl, rfl, by decide +kernel, rfl, by decide +kernel, by decide +kernel⟩
def qJda (s : Stmt) : Scope := match s with
 | .Assign _ (.ListComp _ _ sc _) _ => sc
 | _ => nsc
abbrev cJda : Scope := qJda ((zu sJd).getD 5 (.Pass ⟨0, 0, 0, 0⟩))
theorem bsJda : BScope (zk sJd) cJda ["_law_sort"] ["_law_k", "_law_other"] [] := { okind := by decide +kernel, kind := by decide +kernel, nocell := by decide +kernel, names := by decide +kernel, fr := by decide +kernel, ff := by decide +kernel, nd := by decide +kernel, vis := by decide +kernel, loc := by decide +kernel, gl := by decide +kernel }
def qJdb (s : Stmt) : Scope := match s with
 | .If (.Compare (.ListComp _ _ sc _) _ _ _) _ _ _ => sc
 | _ => nsc
abbrev cJdb : Scope := qJdb ((zu sJd).getD 10 (.Pass ⟨0, 0, 0, 0⟩))
theorem bsJdb : BScope (zk sJd) cJdb ["_law_number"] [] [] := { okind := by decide +kernel, kind := by decide +kernel, nocell := by decide +kernel, names := by decide +kernel, fr := by decide +kernel, ff := by decide +kernel, nd := by decide +kernel, vis := by decide +kernel, loc := by decide +kernel, gl := by decide +kernel }
def qJdc (s : Stmt) : Scope := match s with
 | .Assign _ (.ListComp _ _ sc _) _ => sc
 | _ => nsc
abbrev cJdc : Scope := qJdc ((zu sJd).getD 11 (.Pass ⟨0, 0, 0, 0⟩))
theorem bsJdc : BScope (zk sJd) cJdc ["_law_takes", "_law_gives"] ["_law_rest"] ["len"] := { okind := by decide +kernel, kind := by decide +kernel, nocell := by decide +kernel, names := by decide +kernel, fr := by decide +kernel, ff := by decide +kernel, nd := by decide +kernel, vis := by decide +kernel, loc := by decide +kernel, gl := by decide +kernel }
def qJdd (s : Stmt) : Scope := match s with
 | .Assign _ (.BinOp (.ListComp _ _ sc _) _ _ _) _ => sc
 | _ => nsc
abbrev cJdd : Scope := qJdd ((zu sJd).getD 13 (.Pass ⟨0, 0, 0, 0⟩))
theorem bsJdd : BScope (zk sJd) cJdd ["_law_letter"] [] [] := { okind := by decide +kernel, kind := by decide +kernel, nocell := by decide +kernel, names := by decide +kernel, fr := by decide +kernel, ff := by decide +kernel, nd := by decide +kernel, vis := by decide +kernel, loc := by decide +kernel, gl := by decide +kernel }
def qJde (s : Stmt) : Scope := match s with
 | .Assign _ (.BinOp _ _ (.ListComp _ _ sc _) _) _ => sc
 | _ => nsc
abbrev cJde : Scope := qJde ((zu sJd).getD 13 (.Pass ⟨0, 0, 0, 0⟩))
theorem bsJde : BScope (zk sJd) cJde ["_law_letter"] [] [] := { okind := by decide +kernel, kind := by decide +kernel, nocell := by decide +kernel, names := by decide +kernel, fr := by decide +kernel, ff := by decide +kernel, nd := by decide +kernel, vis := by decide +kernel, loc := by decide +kernel, gl := by decide +kernel }
def qJdf (s : Stmt) : Scope := match s with
 | .Assign _ (.BinOp _ _ (.ListComp _ _ sc _) _) _ => sc
 | _ => nsc
abbrev cJdf : Scope := qJdf ((zu sJd).getD 14 (.Pass ⟨0, 0, 0, 0⟩))
theorem bsJdf : BScope (zk sJd) cJdf ["_law_j"] ["_law_at", "_law_k", "_law_other"] [] := { okind := by decide +kernel, kind := by decide +kernel, nocell := by decide +kernel, names := by decide +kernel, fr := by decide +kernel, ff := by decide +kernel, nd := by decide +kernel, vis := by decide +kernel, loc := by decide +kernel, gl := by decide +kernel }
theorem loJd_10 : (zk sJd).names.lookup ("_law_rules" : Str) = some .local := by decide +kernel
def rp (sh p : Nat) : Nat := if p < sh then p else p + 1
theorem xP (sh p : Nat) : (p < sh ∧ rp sh p = p) ∨ (sh ≤ p ∧ rp sh p = p + 1) := by
 unfold rp
 rcases Nat.lt_or_ge p sh with h | h
 ·exact .inl ⟨h, if_pos h⟩
 ·exact .inr ⟨h, if_neg (by omega)⟩
def cnt (sh i : Nat) : Nat := if i ≤ sh then i else i - 1
theorem v8 (sh i : Nat) : (i ≤ sh ∧ cnt sh i = i) ∨ (sh < i ∧ cnt sh i = i - 1) := by
 unfold cnt
 rcases Nat.lt_or_ge sh i with h | h
 ·exact .inr ⟨h, if_neg (by omega)⟩
 ·exact .inl ⟨h, if_pos h⟩
def rstN (sh c : Nat) : List V := (List.range c).map fun p => V.int (rp sh p : Nat)
structure DI (j : Jn) (kvs : List (Key × V)) (p : Nat) : Prop where
 l : kvs.length ≤ p + 1
 s : valV kvs (Sum.inl (j.sh : Int)) = some (.int (j.A.ans.toNat : Nat))
 r : ∀ q, valV kvs (Sum.inl ((rp j.sh q : Nat) : Int)) = if q < p then some (.int ((j.n1 + q : Nat) : Int)) else none
theorem DI.step {j : Jn} {kvs : List (Key × V)} {p : Nat} (h : DI j kvs p) : DI j (putK kvs (Sum.inl ((rp j.sh p : Nat) : Int)) (.int ((j.n1 + p : Nat) : Int))) (p + 1) where
 l := Nat.le_trans (yU _ _ _) (Nat.succ_le_succ h.l)
 s := by
  rw [Zm, if_neg, h.s]
  intro z
  have := xP j.sh p
  injection z with z
  omega
 r := fun q => by
  rw [Zm, h.r]
  have a := xP j.sh p
  have b := xP j.sh q
  by_cases e : q = p
  ·subst e
   rw [if_pos rfl, if_pos (Nat.lt_succ_self q)]
  ·rw [if_neg]
   ·by_cases c : q < p
    ·rw [if_pos c, if_pos (by omega)]
    ·rw [if_neg c, if_neg (by omega)]
   ·intro z
    injection z with z
    omega
theorem DI.all {j : Jn} {kvs : List (Key × V)} (h : DI j kvs (j.n2 - 1)) {s : Nat} (hs : s < j.n2) (hh : j.sh < j.n2) : valV kvs (Sum.inl (s : Int)) = some (.int (j.f s : Nat)) := by
 have pv := wG j.sh j.n1 j.A.ans.toNat s
 have ef : j.f s = plc j.sh j.n1 j.A.ans.toNat s := rfl
 rcases Nat.lt_trichotomy s j.sh with c | c | c
 ·have b := xP j.sh s
  have := h.r s
  rw [if_pos (by omega), show rp j.sh s = s by omega] at this
  rw [this, ef, show plc j.sh j.n1 j.A.ans.toNat s = j.n1 + s by omega]
 ·have := h.s
  rw [c, this, show j.f j.sh = j.A.ans.toNat by rw [← c]; omega]
 ·have b := xP j.sh (s - 1)
  have := h.r (s - 1)
  rw [if_pos (by omega), show rp j.sh (s - 1) = s by omega] at this
  rw [this, ef, show plc j.sh j.n1 j.A.ans.toNat s = j.n1 + (s - 1) by omega]
theorem w_dput {td ty tv : TE} {D : Ends} {σ : St} {H : Hp} (h : tv σ H fun v H1 => td σ H1 fun x H2 => ty σ H2 fun y H3 => ∃ a H4, x = .ref a ∧ DPut H3 a y v H4 ∧ D.nx σ H4) : Xp td ty tv D σ H := h
theorem wu {td ty : TE} {σ : St} {H : Hp} {Q : VK} (h : td σ H fun x H1 => ty σ H1 fun y H2 => ∃ a v, x = .ref a ∧ DGet H2 a y (some v) ∧ Q v H2) : Xl td ty σ H Q := h
theorem Xn : ∀ n < 9, sg (Txt.slice "abcdefgh" none (some ((n : Nat) : Int))) = (List.range n).map ltr := by decide +kernel
theorem Jn.D_err {j : Jn} {w : Str} {t : Nat} (e : j.bad = some (w, t)) : j.D = .tuple [.str w, .int (t : Int)] := by unfold Jn.D; rw [e]
theorem Jn.D_ok {j : Jn} (e : j.bad = none) : j.D = ptD j.pot := by unfold Jn.D; rw [e]
def spJd : Sp := fun vs H Q _ => ∃ (q1 q2 : Addr) (j : Jn), vs = [.ref q1, .ref q2, .int (j.k : Int)] ∧ PotF false H q1 j.A ∧ PotF false H q2 j.B ∧ j.ok ∧ ∀ r H', Same H H' → RdV H' (.ref r) j.D → Q (.ref r) H'
theorem ok_Jd {f : Addr} {fd : FuncData} (B : Bl mg) (fI : Has P w K mg base 1 "_law_is_taken" ["_law_pot_here"] spIt) (F : Fun K "_law_joined" "_law_joined" sJd f fd) : FnOk P w K mg base CX0 2 f fd ["_law_one", "_law_other", "_law_k"] spJd := by
 refine F.ok scJd (fun vs H Q E h => ?_) (fun cdv A outer s H vs Q E hr h => ?_)
 ·obtain ⟨q1, q2, j, rfl, _⟩ := h
  rfl
 obtain ⟨q1, q2, j, rfl, hA, hB, ok, k⟩ := h
 have hu := XG hr
 refine' ⟨_, ?hb, ?rd⟩
 case' hb => skip
 case' hb => refine' zj ?g1 ?g2
 case' g2 => refine' zj ?g3 ?g4
 case' g4 => refine' zj ?g5 ?g6
 case' g6 => refine' zj ?g7 ?g8
 case' g8 => refine' zj ?g9 ?g10
 case' g10 => refine' zj ?g11 ?g12
 case' g12 => refine' zj ?g13 ?g14
 case' g14 => refine' zj ?g15 ?g16
 case' g16 => refine' zj ?g17 ?g18
 case' g18 => refine' zj ?g19 ?g20
 case' g20 => refine' zj ?g21 ?g22
 case' g22 => refine' zj ?g23 ?g24
 case' g24 => refine' zj ?g25 ?g26
 case' g26 => refine' zj ?g27 ?g28
 case' g28 => refine' zj ?g29 ?g30
 case' g30 => refine' zn ?g31
 case g1 => exact zq nmJd 3 (pe_f fI hr (by decide) (pa_1 (pvd nmJd 0)))
 case' g3 => refine' zT ?g32 ?g33 zB
 case g32 => exact ZO (Ye (pvd nmJd 3))
 case' g33 => refine' zn ?g35
 case g35 => exact zE (zx (pa_2 zQ (pvd nmJd 3)))
 case' g5 => refine' zT ?g36 ?g37 zB
 case g36 => exact zy yY (zw yc (zJ zr B.len PySem.boot_len (pa_1 (ziq (pvd nmJd 0) zh))) (zJ zr B.len PySem.boot_len (pa_1 (ziq (pvd nmJd 1) zh)))) zh (zD _)
 case' g37 => refine' zn ?g39
 case g39 => exact zE (zx (pa_2 zQ zh))
 case g7 => exact zq nmJd 4 (zw ZP (zw yc (zJ zr B.len PySem.boot_len (pa_1 (ziq (pvd nmJd 0) zh))) (zJ zr B.len PySem.boot_len (pa_1 (ziq (pvd nmJd 1) zh)))) zh)
 case' g9 => refine' zT ?g40 ?g41 zB
 case g40 => exact PW.pt (YJ (zy yY (pvd nmJd 4) zh (zD _)) (YI (zy yY (zw yc (zJ zr B.len PySem.boot_len (pa_1 (ziq (pvd nmJd 0) zh))) (zJ zr B.len PySem.boot_len (pa_1 (ziq (pvd nmJd 1) zh)))) zh (zD _))))
 case' g41 => refine' zn ?g43
 case g43 => exact zE (pe_ifExp (zy yY (pvd nmJd 4) zh (zD _)) (zx (pa_2 zQ zh)) (zx (pa_2 zQ zh)))
 case' g11 => refine' zq nmJd 5 ?g44
 case' g44 => refine' zY (ix := [2, 1]) bsJda.toCScope rfl rfl ?g45 ?g46 ?g47 ?g48
 case g45 => exact yD B.range (pa_1 (zJ zr B.len PySem.boot_len (pa_1 (ziq (pvd nmJd 1) zh))))
 case g46 => exact fun _ _ _ _ _ _ => pgb bsJda 0
 case g47 => exact fun _ _ _ _ _ _ => wf (zy Zp (pvb bsJda 0) (ziq (ziq (pvb bsJda 2) zh) (pvb bsJda 1)) (zD _))
 case g48 => exact fun _ _ _ _ _ _ => pvb bsJda 0
 case' g13 => refine' zq nmJd 6 ?g49
 case g49 =>
  refine' zN ?zz1 rfl rfl (by simp) (by decide)
  case zz1 => exact zA (ziq (ziq (pvd nmJd 1) zh) (pvd nmJd 2)) (ziq (pvd nmJd 0) zh) zM
 case' g15 => refine' yt PassesOwn.never rfl ?g50 (pgd nmJd 7) ?g51
 case g50 => exact yD B.range (pa_1 (zJ zr B.len PySem.boot_len (pa_1 (pvd nmJd 5))))
 case' g51 => refine' zn ?g52
 case g52 => exact ps_dput hu (pvd nmJd 6) (ziq (pvd nmJd 5) (pvd nmJd 7)) (zw yc (zJ zr B.len PySem.boot_len (pa_1 (ziq (pvd nmJd 0) zh))) (pvd nmJd 7)) rfl
 case g17 => exact zq nmJd 8 (zw yM (zU xl B.list PyProof.Rows.boot_list (pa_1 (ziq (pvd nmJd 0) zh))) (zw vf (zK (pa_1 zh)) (zJ zr B.len PySem.boot_len (pa_1 (pvd nmJd 5)))))
 case' g19 => refine' yt PassesOwn.never rfl ?g53 (pgd nmJd 9) ?g54
 case g53 => exact yD B.range (pa_1 (zJ zr B.len PySem.boot_len (pa_1 (ziq (pvd nmJd 1) zh))))
 case' g54 => refine' zn ?g55
 case g55 => exact yu (zw yc (ziq (pvd nmJd 8) (wg hu (pvd nmJd 6) (pvd nmJd 9) (fun _ _ => rfl))) (ziq (ziq (pvd nmJd 1) zh) (pvd nmJd 9))) (xj (pvd nmJd 8) (wg hu (pvd nmJd 6) (pvd nmJd 9) (fun _ _ => rfl)) xK)
 case' g21 => refine' zT ?g56 ?g57 zB
 case' g56 => refine' zy (YT hr) ?g59 (zK yL) (zD _)
 case' g59 => refine' zY (ix := []) bsJdb.toCScope rfl rfl ?g60 ?g61 ?g62 ?g63
 case g60 => exact vS (pvd nmJd 8)
 case g61 => exact fun _ _ _ _ _ _ => pgb bsJdb 0
 case g62 => exact fun _ _ _ _ _ _ => wf (zy yY (pvb bsJdb 0) zh (zD _))
 case g63 => exact fun _ _ _ _ _ _ => pvb bsJdb 0
 case' g57 => refine' zn ?g64
 case g64 => exact zE (zx (pa_2 zQ zh))
 case' g23 => refine' Z9 (i := 10) (ix := [5]) nmJd.nd rfl loJd_10 bsJdc.toCScope rfl rfl ?g65 ?g66 ?g67 ?g68
 case g65 => exact xx (ziq (pvd nmJd 0) zh)
 case g66 =>
  intro _ _ _ _ _ _
  refine' wH (n := 2) rfl ?g69
  case' g69 => refine' zF ?g73 ?g72
  case g73 => exact pgb bsJdc 0
  case' g72 => refine' zF ?g75 yo
  case g75 => exact pgb bsJdc 1
 case g67 => exact fun _ _ _ _ _ _ => ye
 case g68 => exact fun _ _ _ _ _ _ => zx (pa_2 (zw yI (pvb bsJdc 0) (zw xE (zx (pa_1 zh)) (zJ yR B.len PySem.boot_len (pa_1 (pvb bsJdc 2)) (bsJdc.g 0)))) (zw yI (pvb bsJdc 1) (zw xE (zx (pa_1 zh)) (zJ yR B.len PySem.boot_len (pa_1 (pvb bsJdc 2)) (bsJdc.g 0)))))
 case' g25 => refine' yt PassesOwn.never rfl ?g76 (pgd nmJd 11) ?g77
 case g76 => exact xx (ziq (pvd nmJd 1) zh)
 case' g77 => refine' zj ?g78 ?g79
 case' g79 => refine' zj ?g80 ?g81
 case' g81 => refine' zn ?g82
 case g78 => exact zq nmJd 12 (zK (pa_2 (zw vf (zK (pa_1 zh)) (pvd nmJd 4)) (zw vf (zK (pa_1 zh)) (pvd nmJd 4))))
 case' g80 => refine' yt PassesOwn.never rfl ?g83 (pgd nmJd 13) ?g84
 case g83 => exact yD B.range (pa_1 zh)
 case' g84 => refine' zn ?g85
 case' g85 => refine' yt PassesOwn.never rfl ?g86 (pgd nmJd 9) ?g87
 case g86 => exact yD B.range (pa_1 (zJ zr B.len PySem.boot_len (pa_1 (ziq (pvd nmJd 1) zh))))
 case' g87 => refine' zn ?g88
 case g88 => exact yu (ziq (ziq (pvd nmJd 11) (pvd nmJd 13)) (pvd nmJd 9)) (xj (ziq (pvd nmJd 12) (pvd nmJd 13)) (wg hu (pvd nmJd 6) (pvd nmJd 9) (fun _ _ => rfl)) xK)
 case g82 => exact xi (vd PySem.F.plainAttrs_list PySem.F.slot_list_append PySem.F.type_list_append yZ (pvd nmJd 10) (pa_1 (zx (pa_2 (zU zV B.tuple PyProof.Rows.boot_tuple (pa_1 (ziq (pvd nmJd 12) zh))) (zU zV B.tuple PyProof.Rows.boot_tuple (pa_1 (ziq (pvd nmJd 12) zh)))))))
 case' g27 => refine' zq nmJd 14 ?g89
 case' g89 => refine' zw yM ?g90 ?g91
 case' g90 => refine' zY (ix := []) bsJdd.toCScope rfl rfl ?g92 ?g93 ?g94 ?g95
 case g92 => exact Xv (yK YF zQ xD (yS (zJ zr B.len PySem.boot_len (pa_1 (ziq (pvd nmJd 0) zh)))))
 case g93 => exact fun _ _ _ _ _ _ => pgb bsJdd 0
 case g94 => exact fun _ _ _ _ _ _ => ye
 case g95 => exact fun _ _ _ _ _ _ => zw xQ zQ (pvb bsJdd 0)
 case' g91 => refine' zY (ix := []) bsJde.toCScope rfl rfl ?g96 ?g97 ?g98 ?g99
 case g96 => exact Xv (yK YF zQ xD (yS (zJ zr B.len PySem.boot_len (pa_1 (pvd nmJd 5)))))
 case g97 => exact fun _ _ _ _ _ _ => pgb bsJde 0
 case g98 => exact fun _ _ _ _ _ _ => ye
 case g99 => exact fun _ _ _ _ _ _ => zw xQ zQ (pvb bsJde 0)
 case' g29 => refine' zq nmJd 15 ?g100
 case' g100 => refine' zw yM (zU xl B.list PyProof.Rows.boot_list (pa_1 (ziq (pvd nmJd 0) zh))) ?g101
 case' g101 => refine' zY (ix := [6, 2, 1]) bsJdf.toCScope rfl rfl ?g102 ?g103 ?g104 ?g105
 case g102 => exact yD B.range (pa_1 (zJ zr B.len PySem.boot_len (pa_1 (ziq (pvd nmJd 1) zh))))
 case g103 => exact fun _ _ _ _ _ _ => pgb bsJdf 0
 case g104 => exact fun _ _ _ _ _ _ => wf (zy Zp (pvb bsJdf 0) (pvb bsJdf 2) (zD _))
 case g105 => exact fun _ _ _ _ _ _ => wg hu (pvb bsJdf 1) (ziq (ziq (pvb bsJdf 3) zh) (pvb bsJdf 0)) (fun _ _ => rfl)
 case g31 => exact zE (zx (pa_c (zU zV B.tuple PyProof.Rows.boot_tuple (pa_1 (pvd nmJd 14))) (pa_c (zU zV B.tuple PyProof.Rows.boot_tuple (pa_1 (pvd nmJd 10))) (pa_c (zU zV B.tuple PyProof.Rows.boot_tuple (pa_1 (pvd nmJd 15))) (pa_2 (zU zV B.tuple PyProof.Rows.boot_tuple (pa_1 (pvd nmJd 8))) (wg hu (pvd nmJd 6) (ziq (pvd nmJd 1) zh) (fun _ _ => rfl)))))))
 obtain ⟨ps, pr, pin, pb, rs, h1, h2, h3, h4, h5, h6⟩ := hA.ex
 obtain ⟨ps', pr', pin', pb', rs', h1', h2', h3', h4', h5', h6'⟩ := hB.ex
 have h2 : H ps = some (.tup (j.A.nm.map V.str)) := h2
 have h2' : H ps' = some (.tup (j.B.nm.map V.str)) := h2'
 have hk := ok.hk
 have a0 := ok.a.m0
 have a8 := ok.a.m8
 have b0 := ok.b.m0
 have b8 := ok.b.m8
 have ai := ok.a.i3
 have bi := ok.b.i3
 have ar := ok.a.r8
 have br := ok.b.r8
 have sh2 := ok.sh2
 have an := ok.an
 have ln1 : j.A.nm.length = j.n1 := rfl
 have ln2 : j.B.nm.length = j.n2 := rfl
 have hN : j.N = j.n1 + (j.n2 - 1) := rfl
 have esh : j.B.ins.getD j.k 0 = (j.sh : Int) := by
  have e : j.B.ins.getD j.k 0 ∈ j.B.ins := by
   rw [List.getD_eq_getElem?_getD, List.getElem?_eq_getElem hk]
   exact List.getElem_mem hk
  have := ok.b.hi _ e
  unfold Jn.sh
  omega
 have ean : j.A.ans = (j.A.ans.toNat : Int) := by have := ok.a.ha; omega
 walk_at "v"
 refine ⟨q1, j.A, j.n1, rfl, hA, ok.a, fun H1 K1 => ?_⟩
 walk_at "v"
 refine Yu ?_
 walk_at "v"
 cases ht : tkr j.A with
 | some t =>
  have eb : j.bad = some (("taken" : Str), t) := by unfold Jn.bad; rw [ht]
  refine XE (fun z => nomatch z) ?_
  walk_at "v"
  refine ⟨sz2, fun r hr' => ?_⟩
  refine k r _ (K1.new hr') ?_
  rw [Jn.D_err eb]
  exact .tup zi (.cons (.str _) (.cons (.int _) .nil))
 | none =>
 have eb0 : j.bad = if 4 < j.A.ins.length + j.B.ins.length then some (("inputs" : Str), 0) else if 8 < j.N then some (("sorts" : Str), 0) else if 8 < j.A.rl.length + j.B.rl.length then some (("rules" : Str), 0) else if ∃ b ∈ j.beg, 99 < b then some (("begin" : Str), 0) else none := by unfold Jn.bad; rw [ht]
 refine Yk rfl ?_
 walk_at "v"
 refine zm (K1 _ _ h1) rfl ?_
 walk_at "v"
 refine ⟨pin, _, rfl, .inr (SqT.of (K1 _ _ h5)), ?_⟩
 rw [List.length_map]
 walk_at "v"
 refine zm (K1 _ _ h1') rfl ?_
 walk_at "v"
 refine ⟨pin', _, rfl, .inr (SqT.of (K1 _ _ h5')), ?_⟩
 rw [List.length_map]
 walk_at "v"
 by_cases c1 : 4 < j.A.ins.length + j.B.ins.length
 ·rw [if_pos c1] at eb0
  refine iteP (by omega) ?_
  walk_at "v"
  refine ⟨sz2, fun r hr' => ?_⟩
  refine k r _ (K1.new hr') ?_
  rw [Jn.D_err eb0]
  exact .tup zi (.cons (.str _) (.cons (.int _) .nil))
 rw [if_neg c1] at eb0
 refine iteQ (by omega) ?_
 walk_at "v"
 refine zm (K1 _ _ h1) rfl ?_
 walk_at "v"
 refine ⟨ps, _, rfl, .inr (SqT.of (K1 _ _ h2)), ?_⟩
 rw [List.length_map, ln1]
 walk_at "v"
 refine zm (K1 _ _ h1') rfl ?_
 walk_at "v"
 refine ⟨ps', _, rfl, .inr (SqT.of (K1 _ _ h2')), ?_⟩
 rw [List.length_map, ln2]
 walk_at "v"
 rw [show ((j.n1 : Nat) : Int) + ((j.n2 : Nat) : Int) - 1 = ((j.N : Nat) : Int) by omega]
 by_cases c2 : 8 < j.N
 ·rw [if_pos c2] at eb0
  refine iteP (by omega) ?_
  walk_at "v"
  refine iteP (by omega) ?_
  walk_at "v"
  refine ⟨sz2, fun r hr' => ?_⟩
  refine k r _ (K1.new hr') ?_
  rw [Jn.D_err eb0]
  exact .tup zi (.cons (.str _) (.cons (.int _) .nil))
 rw [if_neg c2] at eb0
 refine iteQ (by omega) ?_
 walk_at "v"
 refine zm (K1 _ _ h1) rfl ?_
 walk_at "v"
 refine ⟨pr, _, rfl, .inr (SqT.of (K1 _ _ h3)), ?_⟩
 rw [List.length_map, h4.len]
 walk_at "v"
 refine zm (K1 _ _ h1') rfl ?_
 walk_at "v"
 refine ⟨pr', _, rfl, .inr (SqT.of (K1 _ _ h3')), ?_⟩
 rw [List.length_map, h4'.len]
 walk_at "v"
 by_cases c3 : 8 < j.A.rl.length + j.B.rl.length
 ·rw [if_pos c3] at eb0
  refine iteP (by omega) ?_
  walk_at "v"
  refine iteQ (by omega) ?_
  walk_at "v"
  refine ⟨sz2, fun r hr' => ?_⟩
  refine k r _ (K1.new hr') ?_
  rw [Jn.D_err eb0]
  exact .tup zi (.cons (.str _) (.cons (.int _) .nil))
 rw [if_neg c3] at eb0
 refine iteQ (by omega) ?_
 walk_at "v"
 refine zm (K1 _ _ h1') rfl ?_
 walk_at "v"
 refine ⟨ps', _, rfl, .inr (SqT.of (K1 _ _ h2')), ?_⟩
 rw [List.length_map, ln2]
 refine ⟨_, rfl, by omega, by omega, fun D1 hD1 => ?_⟩
 rw [Int.toNat_natCast]
 refine ym (n := j.n2) (ρ := [some (.int (j.k : Int)), some (.ref q2)]) (fun i ys H' => ys = rstN j.sh (cnt j.sh i) ∧ Same H1 H') ⟨rfl, Same.new (Same.refl _) hD1⟩ ?_ ?_
 ·rintro i ys H2 hi ⟨rfl, K2⟩ hDy R S kR kS
  have K02 := K1.trans K2
  have cv := v8 j.sh i
  have cv' := v8 j.sh (i + 1)
  have rv := xP j.sh (cnt j.sh i)
  rw [Int.zero_add]
  walk_at "v"
  refine zm (K02 _ _ h1') rfl ?_
  walk_at "v"
  refine zm (K02 _ _ h5') (atZ (by omega) (by omega)) ?_
  rw [Int.toNat_natCast, esh]
  refine ⟨rfl, ?_⟩
  walk_at "v"
  refine Zz (fun h => ?_) (fun h => ?_)
  ·have h' : i ≠ j.sh := fun z => h (congrArg V.int (by omega))
   walk_at "v"
   refine kR _ _ hDy (by unfold rstN; rw [List.length_map, List.length_range]; exact zt (by omega)) ⟨?_, K2.put hD1⟩
   rw [show cnt j.sh (i + 1) = cnt j.sh i + 1 by omega]
   unfold rstN
   rw [List.range_succ, List.map_append, List.map_singleton, show rp j.sh (cnt j.sh i) = i by omega]
  ·have h' : i = j.sh := by injection h with h; omega
   exact kS _ hDy ⟨by rw [show cnt j.sh (i + 1) = cnt j.sh i by omega], K2⟩
 rintro ys H2 ⟨rfl, K2⟩ e2
 rw [show cnt j.sh j.n2 = j.n2 - 1 by have := v8 j.sh j.n2; omega] at e2
 have lrs : (rstN j.sh (j.n2 - 1)).length = j.n2 - 1 := by unfold rstN; rw [List.length_map, List.length_range]
 have K02 := K1.trans K2
 walk_at "v"
 refine zP fun d hd => ?_
 obtain ⟨H3, q, K3, e3⟩ := nob (.dK []) hd; rw [q]; clear q
 have K03 := K02.trans K3
 refine zz ?_
 walk_at "v"
 refine zm (K03 _ _ h1') rfl ?_
 walk_at "v"
 refine zm (K03 _ _ h5') (atZ (by omega) (by omega)) ?_
 rw [Int.toNat_natCast, esh]
 walk_at "v"
 refine zm (K03 _ _ h1) rfl ?_
 rw [ean]
 refine zC ?_
 refine ⟨e3, [(Sum.inl (j.sh : Int), .int (j.A.ans.toNat : Nat))], rfl, by show 1 ≤ 15; decide, ?_⟩
 have D0 : DI j (zH [] [(Sum.inl (j.sh : Int), .int (j.A.ans.toNat : Nat))]) 0 := by
  have em : zH ([] : List (Key × V)) [(Sum.inl (j.sh : Int), .int (j.A.ans.toNat : Nat))] = [(Sum.inl (j.sh : Int), .int (j.A.ans.toNat : Nat))] := rfl
  rw [em]
  refine ⟨Nat.le_refl _, yg rfl, fun q => ?_⟩
  rw [if_neg (Nat.not_lt_zero q), yh, valV_nil]
  intro z
  have := xP j.sh q
  injection z with z
  omega
 generalize zH ([] : List (Key × V)) [(Sum.inl (j.sh : Int), .int (j.A.ans.toNat : Nat))] = kv0 at D0 ⊢
 obtain ⟨H4, q, K4, e4⟩ := nop (.dK kv0) K3 hd; rw [q]; clear q
 walk_at "v"
 refine ⟨D1, _, rfl, .inl (SqL.of (K4 _ _ e2)), ?_⟩
 rw [lrs]
 refine ⟨_, rfl, by omega, by omega, ?_⟩
 rw [Int.toNat_natCast]
 refine yl (n := j.n2 - 1) (fun i σ H' => ∃ u7, σ = [some (.ref q1), some (.ref q2), some (.int (j.k : Int)), some .non, some (.int (j.N : Nat)), some (.ref D1), some (.ref d), u7, none, none, none, none, none, none, none, none] ∧ Same H2 H' ∧ ∃ kvs, H' d = some (.dK kvs) ∧ DI j kvs i) ⟨none, rfl, K4, kv0, e4, D0⟩ ?_ ?_
 ·rintro i σ H5 hi ⟨u7, rfl, K5, kvs, e5, D5⟩
  have K05 := K02.trans K5
  have dl := D5.l
  rw [Int.zero_add]
  walk_at "v"
  refine w_dput ?_
  walk_at "v"
  refine zm (K05 _ _ h1) rfl ?_
  walk_at "v"
  refine ⟨ps, _, rfl, .inr (SqT.of (K05 _ _ h2)), ?_⟩
  rw [List.length_map, ln1]
  walk_at "v"
  refine yd (v := .int (rp j.sh i : Nat)) (K5 _ _ e2) (yA (by unfold rstN; rw [List.getElem?_map, List.getElem?_range (by omega)]; rfl)) ?_
  refine ⟨d, _, rfl, DPut.k (k := Sum.inl ((rp j.sh i : Nat) : Int)) e5 (zt (by omega)), ?_⟩
  refine ⟨_, rfl, K5.put hd, _, zi, ?_⟩
  rw [show ((j.n1 : Nat) : Int) + (i : Int) = ((j.n1 + i : Nat) : Int) by omega]
  exact D5.step
 rintro σ H5 ⟨u7, rfl, K5, kvs, e5, D5⟩
 have gd : ∀ {H' : Hp}, H' d = some (.dK kvs) → ∀ s, s < j.n2 → DGet H' d (.int (s : Int)) (some (.int (j.f s : Nat))) := fun {H'} e s hs => by
  have := DGet.k (k := Sum.inl (s : Int)) e
  rw [D5.all hs sh2] at this
  exact this
 have K05 := K02.trans K5
 have e2 := K5 _ _ e2
 clear K4 e4 D0 K3 e3
 walk_at "v"
 refine zm (K05 _ _ h1) rfl ?_
 walk_at "v"
 refine ⟨pb, _, rfl, .inr (SqT.of (K05 _ _ h6)), fun b1 hb1 => ?_⟩
 obtain ⟨H6, q, K6, e6⟩ := nob (.lst (j.A.beg.map V.int)) hb1; rw [q]; clear q
 walk_at "v"
 refine ⟨sz1, fun z1 hz1 => ?_⟩
 obtain ⟨H7, q, K7, e7⟩ := nob (.lst [.int 0]) hz1; rw [q]; clear q
 walk_at "v"
 refine ⟨D1, _, rfl, .inl (SqL.of ((K6.trans K7) _ _ e2)), ?_⟩
 rw [lrs]
 refine ⟨z1, ((j.n2 - 1 : Nat) : Int), _, rfl, rfl, e7, by omega, by omega, by rw [Int.toNat_natCast]; exact Nat.le_of_lt (zt (by simp; omega)), fun z2 hz2 => ?_⟩
 have ezz : (List.replicate ((j.n2 - 1 : Nat) : Int).toNat [V.int 0]).flatten = (zs (j.n2 - 1)).map V.int := by
  rw [Int.toNat_natCast, vj]
  unfold zs
  rw [List.map_replicate]
 rw [ezz]
 obtain ⟨H8, q, K8, e8⟩ := nob (.lst ((zs (j.n2 - 1)).map V.int)) hz2; rw [q]; clear q
 refine ⟨b1, z2, _, _, rfl, rfl, (K7.trans K8) _ _ e6, e8, by rw [List.length_map, List.length_map, yf, ok.a.bl]; exact Nat.le_of_lt (zt (by omega)), fun be hbe => ?_⟩
 rw [← List.map_append]
 have K9 : Same H5 (upd H8 be (.lst ((j.A.beg ++ zs (j.n2 - 1)).map V.int))) := ((K6.trans K7).trans K8).new hbe
 have nbe : H5 be = none := ((K6.trans K7).trans K8).free hbe
 have e9 : upd H8 be (.lst ((j.A.beg ++ zs (j.n2 - 1)).map V.int)) be = some (.lst ((layN j.f j.B.beg (j.A.beg ++ zs (j.n2 - 1)) 0).map V.int)) := zi
 generalize upd H8 be (.lst ((j.A.beg ++ zs (j.n2 - 1)).map V.int)) = H9 at K9 e9 ⊢
 walk_at "v"
 refine zm ((K05.trans K9) _ _ h1') rfl ?_
 walk_at "v"
 refine ⟨ps', _, rfl, .inr (SqT.of ((K05.trans K9) _ _ h2')), ?_⟩
 rw [List.length_map, ln2]
 refine ⟨_, rfl, by omega, by omega, ?_⟩
 rw [Int.toNat_natCast]
 refine yl (n := j.n2) (fun i σ H' => ∃ u9, σ = [some (.ref q1), some (.ref q2), some (.int (j.k : Int)), some .non, some (.int (j.N : Nat)), some (.ref D1), some (.ref d), u7, some (.ref be), u9, none, none, none, none, none, none] ∧ Same H5 H' ∧ H' be = some (.lst ((layN j.f j.B.beg (j.A.beg ++ zs (j.n2 - 1)) i).map V.int))) ⟨none, rfl, K9, e9⟩ ?_ ?_
 ·rintro i σ H10 hi ⟨u9, rfl, K10, e10⟩
  have K010 := K05.trans K10
  have fl := ok.f_lt hi
  have ll := xf j.f j.B.beg (j.A.beg ++ zs (j.n2 - 1)) i
  rw [List.length_append, yf, ok.a.bl] at ll
  rw [Int.zero_add]
  walk_at "v"
  refine wu ?_
  walk_at "v"
  refine ⟨d, _, rfl, gd (K10 _ _ e5) i hi, ?_⟩
  refine yd e10 (atZ (by omega) (by omega)) ?_
  walk_at "v"
  refine zm (K010 _ _ h1') rfl ?_
  walk_at "v"
  refine zm (K010 _ _ h6') (atZ (by omega) (by rw [ok.b.bl]; omega)) ?_
  rw [Int.toNat_natCast, Int.toNat_natCast]
  walk_at "v"
  refine wu ?_
  walk_at "v"
  refine ⟨d, _, rfl, gd (K10 _ _ e5) i hi, ?_⟩
  refine xo (j := j.f i) e10 (ixK (n := ((layN j.f j.B.beg (j.A.beg ++ zs (j.n2 - 1)) i).map V.int).length) (by omega) (by rw [List.length_map]; omega)) ?_
  refine ⟨_, rfl, K10.put nbe, ?_⟩
  rw [zi, layN, List.map_set]
 rintro σ H10 ⟨u9, rfl, K10, e10⟩
 have K010 := K05.trans K10
 have e2 := K10 _ _ e2
 have e5 := K10 _ _ e5
 have e10 : H10 be = some (.lst (j.beg.map V.int)) := e10
 have lb : j.beg.length = j.N := by
  show (layN _ _ _ _).length = _
  rw [xf, List.length_append, yf, ok.a.bl]
  exact hN.symm
 walk_at "v"
 refine ⟨be, rfl, ⟨_, SqL.of e10⟩, fun D2 hD2 => ?_⟩
 refine cgo_list (xs := j.beg.map V.int) (ρ := []) (fun i ys H' => ys = ((j.beg.take i).filter (fun b => decide (99 < b))).map V.int ∧ Same H10 H') ⟨rfl, Same.new (Same.refl _) hD2⟩ (fun i ys H' _ ⟨_, k'⟩ => SqL.of (k' _ _ e10)) ?_ ?_
 ·rintro i x ys H11 hx ⟨rfl, K11⟩ hDy R S kR kS
  have hi : i < j.beg.length := itl hx
  have ex : x = .int j.beg[i] := itx hx hi
  subst ex
  have fl := List.length_filter_le (fun b => decide (99 < b)) (j.beg.take i)
  rw [List.length_take] at fl
  have tk : j.beg.take (i + 1) = j.beg.take i ++ [j.beg[i]] := by rw [List.take_add_one, List.getElem?_eq_getElem hi]; rfl
  walk_at "v"
  refine iteD (fun h => ?_) (fun h => ?_)
  ·walk_at "v"
   refine kR _ _ hDy (lm1 (by omega)) ⟨?_, K11.put hD2⟩
   rw [tk, List.filter_append, List.filter_cons_of_pos (p := fun b : Int => decide (99 < b)) (decide_eq_true h), List.map_append]
   rfl
  ·refine kS _ hDy ⟨?_, K11⟩
   rw [tk, List.filter_append, List.filter_cons_of_neg (p := fun b : Int => decide (99 < b)) (by rw [decide_eq_false h]; exact Bool.false_ne_true), List.filter_nil, List.append_nil]
 rintro ys H11 ⟨rfl, K11⟩ e11
 rw [List.length_map, List.take_of_length_le (Nat.le_refl _)] at e11
 walk_at "v"
 refine ⟨sz0, fun z3 hz3 => ?_⟩
 obtain ⟨H12, q, K12, e12⟩ := nob (.lst []) hz3; rw [q]; clear q
 refine ⟨D2, z3, _, rfl, rfl, K12 _ _ e11, e12, ?_⟩
 have K1012 := K11.trans K12
 have K012 := K010.trans K1012
 walk_at "v"
 by_cases c4 : ∃ b ∈ j.beg, 99 < b
 ·rw [if_pos c4] at eb0
  have en : ((j.beg.filter (fun b => decide (99 < b))).map V.int).isEmpty = false := by
   obtain ⟨b, hb, hb9⟩ := c4
   have : b ∈ j.beg.filter (fun b => decide (99 < b)) := List.mem_filter.mpr ⟨hb, decide_eq_true hb9⟩
   cases hf : j.beg.filter (fun b => decide (99 < b)) with
   | nil => rw [hf] at this; cases this
   | cons a t => rfl
  rw [en]
  refine iteT ?_
  walk_at "v"
  refine ⟨sz2, fun r hr' => ?_⟩
  refine k r _ (K012.new hr') ?_
  rw [Jn.D_err eb0]
  exact .tup zi (.cons (.str _) (.cons (.int _) .nil))
 rw [if_neg c4] at eb0
 have en : ((j.beg.filter (fun b => decide (99 < b))).map V.int).isEmpty = true := by
  have : j.beg.filter (fun b => decide (99 < b)) = [] := List.filter_eq_nil_iff.mpr fun b hb z => c4 ⟨b, hb, of_decide_eq_true z⟩
  rw [this]
  rfl
 rw [en]
 refine iteF ?_
 have e2 := K1012 _ _ e2
 have e5 := K1012 _ _ e5
 have e10 := K1012 _ _ e10
 walk_at "v"
 refine zm (K012 _ _ h1) rfl ?_
 walk_at "v"
 refine ⟨pr, rfl, ⟨_, SqT.of (K012 _ _ h3)⟩, fun D3 hD3 => ?_⟩
 refine ZE (rs := rs) (ρ := [some (.ref D1)]) (fun i ys H' => ∃ rx, ys = rx.map V.ref ∧ rx.length = i ∧ Same H12 H' ∧ RlsD H' rx ((j.A.rl.take i).map j.up)) ⟨[], rfl, rfl, Same.new (Same.refl _) hD3, trivial⟩ (fun i ys H' _ ⟨_, _, _, k', _⟩ => SqT.of (k' _ _ (K012 _ _ h3))) ?_ ?_
 ·rintro i r ys H13 hr0 ⟨rx, rfl, hrx, K13, R13⟩ hDy
  have hi : i < rs.length := (List.getElem?_eq_some_iff.mp hr0).1
  have hl4 := h4.len
  obtain ⟨x, gr, qa, qb, r1, r2, r3⟩ := h4.get hr0
  obtain ⟨lx1, lx2⟩ := ok.a.rs x (List.mem_of_getElem? gr)
  have K013 := K012.trans K13
  refine ⟨.ref qa, .ref qb, K013 _ _ r1, fun R S kR kS => ?_⟩
  walk_at "v"
  refine ⟨sz1, fun za hza => ?_⟩
  obtain ⟨Ha, q, Ka, ea⟩ := nob (.tup [.int 0]) hza; rw [q]; clear q
  walk_at "v"
  refine ⟨D1, _, rfl, (K13.trans Ka) _ _ e2, ?_⟩
  rw [lrs]
  refine ⟨za, j.n2 - 1, .int 0, rfl, rfl, ea, by omega, fun zb Hb Kb eb => ?_⟩
  have ezr : (List.replicate (j.n2 - 1) (V.int 0)) = (zs (j.n2 - 1)).map V.int := by unfold zs; rw [List.map_replicate]
  rw [ezr] at eb
  refine ⟨qa, zb, _, _, rfl, rfl, ((K013.trans Ka).trans Kb) _ _ r2, eb, by rw [List.length_map, List.length_map, yf, lx1.1]; omega, fun ta Hc Kc ec => ?_⟩
  rw [← List.map_append] at ec
  have K13c := (Ka.trans Kb).trans Kc
  walk_at "v"
  refine ⟨sz1, fun zd hzd => ?_⟩
  obtain ⟨Hd, q, Kd, ed⟩ := nob (.tup [.int 0]) hzd; rw [q]; clear q
  walk_at "v"
  refine ⟨D1, _, rfl, (K13.trans (K13c.trans Kd)) _ _ e2, ?_⟩
  rw [lrs]
  refine ⟨zd, j.n2 - 1, .int 0, rfl, rfl, ed, by omega, fun ze He Ke ee => ?_⟩
  rw [ezr] at ee
  have K13e := (K13c.trans Kd).trans Ke
  refine ⟨qb, ze, _, _, rfl, rfl, (K013.trans K13e) _ _ r3, ee, by rw [List.length_map, List.length_map, yf, lx2.1]; omega, fun tb Hf Kf ef => ?_⟩
  rw [← List.map_append] at ef
  walk_at "v"
  refine ⟨sz2, fun tp htp => ?_⟩
  obtain ⟨Hg, q, Kg, eg⟩ := nob (.tup [.ref ta, .ref tb]) htp; rw [q]; clear q
  have K13g := (K13e.trans Kf).trans Kg
  have hDg := K13g _ _ hDy
  refine kR _ _ hDg (lm1 (by omega)) ⟨rx ++ [tp], by rw [List.map_append]; rfl, by rw [List.length_append, hrx]; rfl, (K13.trans K13g).put hD3, ?_⟩
  rw [List.take_add_one, gr, List.map_append]
  exact RlsD.snoc ((R13.same K13g).off hDg) (RlD.off hDg ⟨ta, tb, eg, (((Kd.trans Ke).trans Kf).trans Kg) _ _ ec, Kg _ _ ef⟩)
 rintro ys H14 ⟨rx, rfl, hrx, K14, R14⟩ e14
 rw [h4.len, List.take_of_length_le (Nat.le_refl _)] at R14
 have K014 := K012.trans K14
 walk_at "v"
 refine zm (K014 _ _ h1') rfl ?_
 walk_at "v"
 refine ⟨pr', rfl, ⟨_, SqT.of (K014 _ _ h3')⟩, ?_⟩
 refine for_tup (xs := rs'.map V.ref) (fun i σ H' => ∃ u9 u11 u12 u13, σ = [some (.ref q1), some (.ref q2), some (.int (j.k : Int)), some .non, some (.int (j.N : Nat)), some (.ref D1), some (.ref d), u7, some (.ref be), u9, some (.ref D3), u11, u12, u13, none, none] ∧ Same H12 H' ∧ ∃ ry, H' D3 = some (.lst (ry.map V.ref)) ∧ ry.length = j.A.rl.length + i ∧ RlsD H' ry (j.A.rl.map j.up ++ (j.B.rl.take i).map j.at)) ⟨_, none, none, none, rfl, K14, rx, e14, by rw [hrx, h4.len]; rfl, by rw [List.take_zero, List.map_nil, List.append_nil]; exact R14⟩ (fun i σ H' _ ⟨_, _, _, _, _, k', _⟩ => SqT.of ((K012.trans k') _ _ h3')) ?_ ?_
 ·rintro i xv σ H15 hx ⟨u9, u11, u12, u13, rfl, K15, ry, e15, ly, R15⟩
  have hi : i < rs'.length := itl hx
  have hl4 := h4'.len
  have ex : xv = .ref rs'[i] := itx hx hi
  subst ex
  obtain ⟨x, gr, qa, qb, r1, r2, r3⟩ := h4'.get (List.getElem?_eq_getElem hi)
  obtain ⟨lx1, lx2⟩ := ok.b.rs x (List.mem_of_getElem? gr)
  have K015 := K012.trans K15
  have e2 := K15 _ _ e2
  have e5 := K15 _ _ e5
  have ezN : (List.replicate ((j.N : Nat) : Int).toNat [V.int 0]).flatten = (zs j.N).map V.int := by
   rw [Int.toNat_natCast, vj]
   unfold zs
   rw [List.map_replicate]
  walk_at "v"
  refine ⟨sz1, fun y1 hy1 => ?_⟩
  obtain ⟨H16, q, K16, e16⟩ := nob (.lst [.int 0]) hy1; rw [q]; clear q
  walk_at "v"
  refine ⟨y1, ((j.N : Nat) : Int), _, rfl, rfl, e16, by omega, by omega, by rw [Int.toNat_natCast]; exact Nat.le_of_lt (zt (by simp; omega)), fun f0 hf0 => ?_⟩
  rw [ezN]
  have n0 : H15 f0 = none := K16.free hf0
  obtain ⟨H17, q, K17, e17⟩ := nob (.lst ((zs j.N).map V.int)) hf0; rw [q]; clear q
  walk_at "v"
  refine ⟨sz1, fun y2 hy2 => ?_⟩
  obtain ⟨H18, q, K18, e18⟩ := nob (.lst [.int 0]) hy2; rw [q]; clear q
  walk_at "v"
  refine ⟨y2, ((j.N : Nat) : Int), _, rfl, rfl, e18, by omega, by omega, by rw [Int.toNat_natCast]; exact Nat.le_of_lt (zt (by simp; omega)), fun f1 hf1 => ?_⟩
  rw [ezN]
  have n1 : H15 f1 = none := ((K16.trans K17).trans K18).free hf1
  have nf01 : f0 ≠ f1 := zp (K18 _ _ e17) hf1
  obtain ⟨H19, q, K19, e19⟩ := nob (.lst ((zs j.N).map V.int)) hf1; rw [q]; clear q
  walk_at "v"
  refine ⟨sz2, fun fo hfo => ?_⟩
  have nfo0 : f0 ≠ fo := zp ((K18.trans K19) _ _ e17) hfo
  have nfo1 : f1 ≠ fo := zp e19 hfo
  have K20 : Same H15 (upd H19 fo (.lst [.ref f0, .ref f1])) := (((K16.trans K17).trans K18).trans K19).new hfo
  have e20 : upd H19 fo (.lst [.ref f0, .ref f1]) fo = some (.lst [.ref f0, .ref f1]) := zi
  have e200 : upd H19 fo (.lst [.ref f0, .ref f1]) f0 = some (.lst ((zs j.N).map V.int)) := by rw [zl nfo0]; exact (K18.trans K19) _ _ e17
  have e201 : upd H19 fo (.lst [.ref f0, .ref f1]) f1 = some (.lst ((zs j.N).map V.int)) := by rw [zl nfo1]; exact e19
  generalize upd H19 fo (.lst [.ref f0, .ref f1]) = H20 at K20 e20 e200 e201 ⊢
  walk_at "v"
  refine ⟨2, rfl, by decide, by decide, ?_⟩
  refine yl (n := 2) (fun t σ H' => ∃ u9 u13, σ = [some (.ref q1), some (.ref q2), some (.int (j.k : Int)), some .non, some (.int (j.N : Nat)), some (.ref D1), some (.ref d), u7, some (.ref be), u9, some (.ref D3), some (.ref rs'[i]), some (.ref fo), u13, none, none] ∧ Same H15 H' ∧ H' fo = some (.lst [.ref f0, .ref f1]) ∧ H' f0 = some (.lst ((setN j.f x.1 (zs j.N) (if 1 ≤ t then j.n2 else 0)).map V.int)) ∧ H' f1 = some (.lst ((setN j.f x.2 (zs j.N) (if 2 ≤ t then j.n2 else 0)).map V.int))) ⟨_, _, rfl, K20, e20, by rw [if_neg (by decide)]; exact e200, by rw [if_neg (by decide)]; exact e201⟩ ?_ ?_
  ·rintro t σ H21 ht2 ⟨u9, u13, rfl, K21, eo, ea, eb⟩
   have K021 := K015.trans K21
   obtain rfl | rfl : t = 0 ∨ t = 1 := by omega
   ·rw [if_neg (by decide)] at ea
    rw [if_neg (by decide)] at eb
    rw [Int.zero_add]
    walk_at "v"
    refine zm (K021 _ _ h1') rfl ?_
    walk_at "v"
    refine ⟨ps', _, rfl, .inr (SqT.of (K021 _ _ h2')), ?_⟩
    rw [List.length_map, ln2]
    refine ⟨_, rfl, by omega, by omega, ?_⟩
    rw [Int.toNat_natCast]
    refine yl (n := j.n2) (fun s σ H' => ∃ u9, σ = [some (.ref q1), some (.ref q2), some (.int (j.k : Int)), some .non, some (.int (j.N : Nat)), some (.ref D1), some (.ref d), u7, some (.ref be), u9, some (.ref D3), some (.ref rs'[i]), some (.ref fo), some (.int ((0 : Nat) : Int)), none, none] ∧ Same H15 H' ∧ H' fo = some (.lst [.ref f0, .ref f1]) ∧ H' f0 = some (.lst ((setN j.f x.1 (zs j.N) s).map V.int)) ∧ H' f1 = some (.lst ((setN j.f x.2 (zs j.N) 0).map V.int))) ⟨_, rfl, K21, eo, ea, eb⟩ ?_ ?_
    ·rintro s σ H22 hs ⟨u9', rfl, K22, eo2, ea2, eb2⟩
     have K022 := K015.trans K22
     have fl := ok.f_lt hs
     have sl := xt j.f x.1 (zs j.N) s
     rw [yf] at sl
     rw [Int.zero_add]
     walk_at "v"
     refine zm (K022 _ _ r1) rfl ?_
     walk_at "v"
     refine zm (K022 _ _ r2) (atZ (by omega) (by rw [lx1.1]; omega)) ?_
     rw [Int.toNat_natCast]
     walk_at "v"
     refine yd eo2 rfl ?_
     walk_at "v"
     refine wu ?_
     walk_at "v"
     refine ⟨d, _, rfl, gd (K22 _ _ e5) s hs, ?_⟩
     refine xo (j := j.f s) ea2 (ixK (n := ((setN j.f x.1 (zs j.N) s).map V.int).length) (by omega) (by rw [List.length_map]; omega)) ?_
     refine ⟨_, rfl, K22.put n0, by rw [zl nfo0.symm]; exact eo2, by rw [zi, setN, List.map_set], by rw [zl nf01.symm]; exact eb2⟩
    ·rintro σ H22 ⟨u9', rfl, K22, eo2, ea2, eb2⟩
     exact ⟨_, _, rfl, K22, eo2, by rw [if_pos (by decide)]; exact ea2, by rw [if_neg (by decide)]; exact eb2⟩
   ·rw [if_pos (by decide)] at ea
    rw [if_neg (by decide)] at eb
    rw [Int.zero_add]
    walk_at "v"
    refine zm (K021 _ _ h1') rfl ?_
    walk_at "v"
    refine ⟨ps', _, rfl, .inr (SqT.of (K021 _ _ h2')), ?_⟩
    rw [List.length_map, ln2]
    refine ⟨_, rfl, by omega, by omega, ?_⟩
    rw [Int.toNat_natCast]
    refine yl (n := j.n2) (fun s σ H' => ∃ u9, σ = [some (.ref q1), some (.ref q2), some (.int (j.k : Int)), some .non, some (.int (j.N : Nat)), some (.ref D1), some (.ref d), u7, some (.ref be), u9, some (.ref D3), some (.ref rs'[i]), some (.ref fo), some (.int ((1 : Nat) : Int)), none, none] ∧ Same H15 H' ∧ H' fo = some (.lst [.ref f0, .ref f1]) ∧ H' f1 = some (.lst ((setN j.f x.2 (zs j.N) s).map V.int)) ∧ H' f0 = some (.lst ((setN j.f x.1 (zs j.N) j.n2).map V.int))) ⟨_, rfl, K21, eo, eb, ea⟩ ?_ ?_
    ·rintro s σ H22 hs ⟨u9', rfl, K22, eo2, ea2, eb2⟩
     have K022 := K015.trans K22
     have fl := ok.f_lt hs
     have sl := xt j.f x.2 (zs j.N) s
     rw [yf] at sl
     rw [Int.zero_add]
     walk_at "v"
     refine zm (K022 _ _ r1) rfl ?_
     walk_at "v"
     refine zm (K022 _ _ r3) (atZ (by omega) (by rw [lx2.1]; omega)) ?_
     rw [Int.toNat_natCast]
     walk_at "v"
     refine yd eo2 rfl ?_
     walk_at "v"
     refine wu ?_
     walk_at "v"
     refine ⟨d, _, rfl, gd (K22 _ _ e5) s hs, ?_⟩
     refine xo (j := j.f s) ea2 (ixK (n := ((setN j.f x.2 (zs j.N) s).map V.int).length) (by omega) (by rw [List.length_map]; omega)) ?_
     refine ⟨_, rfl, K22.put n1, by rw [zl nfo1.symm]; exact eo2, by rw [zi, setN, List.map_set], by rw [zl nf01]; exact eb2⟩
    ·rintro σ H22 ⟨u9', rfl, K22, eo2, ea2, eb2⟩
     exact ⟨_, _, rfl, K22, eo2, by rw [if_pos (by decide)]; exact eb2, by rw [if_pos (by decide)]; exact ea2⟩
  rintro σ H21 ⟨u9, u13, rfl, K21, eo, ea, eb⟩
  rw [if_pos (by decide)] at ea eb
  walk_at "v"
  refine ⟨.inl ⟨rfl, _, SqL.of (K21 _ _ e15)⟩, ?_⟩
  walk_at "v"
  refine yd eo rfl ?_
  walk_at "v"
  refine ⟨f0, _, rfl, ea, fun ta H22 K22 e22 => ?_⟩
  walk_at "v"
  refine yd (K22 _ _ eo) rfl ?_
  walk_at "v"
  refine ⟨f1, _, rfl, K22 _ _ eb, fun tb H23 K23 e23 => ?_⟩
  walk_at "v"
  refine ⟨sz2, fun tp htp => ?_⟩
  obtain ⟨H24, q, K24, e24⟩ := nob (.tup [.ref ta, .ref tb]) htp; rw [q]; clear q
  have K1524 := ((K21.trans K22).trans K23).trans K24
  have hD24 := K1524 _ _ e15
  refine ⟨D3, _, _, rfl, rfl, hD24, lm1 (by omega), ?_⟩
  refine ⟨_, _, _, _, rfl, (K15.trans K1524).put hD3, ry ++ [tp], by rw [zi, List.map_append]; rfl, by rw [List.length_append, ly]; rfl, ?_⟩
  rw [List.take_add_one, gr, List.map_append, ← List.append_assoc]
  refine RlsD.snoc ((R15.same K1524).off hD24) (RlD.off hD24 ?_)
  rw [ok.at_eq]
  exact ⟨ta, tb, e24, (K23.trans K24) _ _ e22, K24 _ _ e23⟩
 rintro σ H15 ⟨u9', u11, u12, u13, rfl, K15, ry, e15, ly, R15⟩
 rw [List.length_map, h4'.len, List.take_of_length_le (Nat.le_refl _)] at R15
 have K015 := K012.trans K15
 have e5 := K15 _ _ e5
 have e10 := K15 _ _ e10
 have e2 := K15 _ _ e2
 walk_at "v"
 refine ZX ?_
 walk_at "v"
 refine zm (K015 _ _ h1) rfl ?_
 walk_at "v"
 refine ⟨ps, _, rfl, .inr (SqT.of (K015 _ _ h2)), ?_⟩
 rw [List.length_map, ln1]
 refine ⟨_, rfl, ?_⟩
 refine ⟨"abcdefgh", rfl, by decide +kernel, ?_⟩
 refine ⟨_, rfl, fun DA hDA => ?_⟩
 have nl1 : (nms "p" j.n1).length = j.n1 := by unfold nms; rw [List.length_map, List.length_range]
 have slp := Xn j.n1 (by omega)
 refine Y9 (ρ := []) (fun i ys H' => ys = ((List.range i).map fun q => (("p" : Str) ++ ltr q)).map V.str ∧ Same H15 H') ⟨rfl, Same.new (Same.refl _) hDA⟩ ?_ ?_
 ·rintro i y ys Hx hy ⟨rfl, Kx⟩ hDy R S kR kS
  rw [slp] at hy
  have hi : i < j.n1 := by
   have := (List.getElem?_eq_some_iff.mp hy).1
   simpa using this
  have ey : y = ltr i := by
   rw [List.getElem?_map, List.getElem?_range hi] at hy
   exact (Option.some.inj hy).symm
  subst ey
  walk_at "v"
  refine ⟨_, _, rfl, rfl, by show 1 + 1 ≤ sizeLine; decide, ?_⟩
  refine kR _ _ hDy (by rw [List.length_map, List.length_map, List.length_range]; exact zt (by omega)) ⟨?_, Kx.put hDA⟩
  rw [List.range_succ, List.map_append, List.map_append]
  rfl
 rintro ys HA ⟨rfl, KA⟩ eA
 rw [slp, List.length_map, List.length_range] at eA
 have eA : HA DA = some (.lst ((nms "p" j.n1).map V.str)) := eA
 walk_at "v"
 refine ZX ?_
 walk_at "v"
 refine ⟨D1, _, rfl, .inl (SqL.of (KA _ _ e2)), ?_⟩
 rw [lrs]
 refine ⟨_, rfl, ?_⟩
 refine ⟨"abcdefgh", rfl, by decide +kernel, ?_⟩
 refine ⟨_, rfl, fun DB hDB => ?_⟩
 have nl2 : (nms "q" (j.n2 - 1)).length = (j.n2 - 1) := by unfold nms; rw [List.length_map, List.length_range]
 have slq := Xn (j.n2 - 1) (by omega)
 refine Y9 (ρ := []) (fun i ys H' => ys = ((List.range i).map fun q => (("q" : Str) ++ ltr q)).map V.str ∧ Same HA H') ⟨rfl, Same.new (Same.refl _) hDB⟩ ?_ ?_
 ·rintro i y ys Hx hy ⟨rfl, Kx⟩ hDy R S kR kS
  rw [slq] at hy
  have hi : i < (j.n2 - 1) := by
   have := (List.getElem?_eq_some_iff.mp hy).1
   simpa using this
  have ey : y = ltr i := by
   rw [List.getElem?_map, List.getElem?_range hi] at hy
   exact (Option.some.inj hy).symm
  subst ey
  walk_at "v"
  refine ⟨_, _, rfl, rfl, by show 1 + 1 ≤ sizeLine; decide, ?_⟩
  refine kR _ _ hDy (by rw [List.length_map, List.length_map, List.length_range]; exact zt (by omega)) ⟨?_, Kx.put hDB⟩
  rw [List.range_succ, List.map_append, List.map_append]
  rfl
 rintro ys HB ⟨rfl, KB⟩ eB
 rw [slq, List.length_map, List.length_range] at eB
 have eB : HB DB = some (.lst ((nms "q" (j.n2 - 1)).map V.str)) := eB
 refine ⟨DA, DB, _, _, rfl, rfl, KB _ _ eA, eB, by rw [List.length_map, List.length_map, nl1, nl2]; exact Nat.le_of_lt (zt (by omega)), fun nn hnn => ?_⟩
 rw [← List.map_append]
 obtain ⟨HC, q, KC, eC⟩ := nob (.lst ((nms "p" j.n1 ++ nms "q" (j.n2 - 1)).map V.str)) hnn; rw [q]; clear q
 have K15C := (KA.trans KB).trans KC
 have K0C := K015.trans K15C
 walk_at "v"
 refine zm (K0C _ _ h1) rfl ?_
 walk_at "v"
 refine ⟨pin, _, rfl, .inr (SqT.of (K0C _ _ h5)), fun i1 hi1 => ?_⟩
 obtain ⟨HD, q, KD, eD⟩ := nob (.lst (j.A.ins.map V.int)) hi1; rw [q]; clear q
 have K0D := K0C.trans KD
 have K15D := K15C.trans KD
 walk_at "v"
 refine zm (K0D _ _ h1') rfl ?_
 walk_at "v"
 refine ⟨pin', _, rfl, .inr (SqT.of (K0D _ _ h5')), ?_⟩
 rw [List.length_map]
 refine ⟨_, rfl, by omega, by omega, fun D4 hD4 => ?_⟩
 rw [Int.toNat_natCast]
 refine ym (n := j.B.ins.length) (ρ := [some (.ref d), some (.int (j.k : Int)), some (.ref q2)]) (fun i ys H' => ys = (insN j.f j.B.ins j.k i).map V.int ∧ Same HD H') ⟨rfl, Same.new (Same.refl _) hD4⟩ ?_ ?_
 ·rintro i ys HE hi ⟨rfl, KE⟩ hDy R S kR kS
  have K0E := K0D.trans KE
  have hm := ok.b.hi (j.B.ins.getD i 0) (by
   rw [List.getD_eq_getElem?_getD, List.getElem?_eq_getElem hi]
   exact List.getElem_mem hi)
  have il := yF j.f j.B.ins j.k i
  have il2 : (insN j.f j.B.ins j.k i).length ≤ i := by rw [il]; split <;> omega
  obtain ⟨w0, hw0⟩ := ofI hm.1
  have hw2 : w0 < j.n2 := by omega
  rw [Int.zero_add]
  walk_at "v"
  refine ⟨rfl, ?_⟩
  walk_at "v"
  refine Zz (fun h => ?_) (fun h => ?_)
  ·have h' : i ≠ j.k := fun z => h (congrArg V.int (by omega))
   walk_at "v"
   refine wu ?_
   walk_at "v"
   refine zm (K0E _ _ h1') rfl ?_
   walk_at "v"
   refine zm (K0E _ _ h5') (atZ (by omega) (by omega)) ?_
   rw [Int.toNat_natCast, hw0]
   refine ⟨d, _, rfl, gd ((K15D.trans KE) _ _ e5) w0 hw2, ?_⟩
   refine kR _ _ hDy (lm1 (by omega)) ⟨?_, KE.put hD4⟩
   rw [insN, if_neg h', List.map_append, hw0, Int.toNat_natCast]
   rfl
  ·have h' : i = j.k := by injection h with h; omega
   exact kS _ hDy ⟨by rw [insN, if_pos h'], KE⟩
 rintro ys HE ⟨rfl, KE⟩ eE
 have il : (insN j.f j.B.ins j.k j.B.ins.length).length ≤ 3 := by rw [yF]; split <;> omega
 refine ⟨i1, D4, _, _, rfl, rfl, KE _ _ eD, eE, by rw [List.length_map, List.length_map]; exact Nat.le_of_lt (zt (by omega)), fun i2 hi2 => ?_⟩
 rw [← List.map_append]
 obtain ⟨HF, q, KF, eF⟩ := nob (.lst ((j.A.ins ++ insN j.f j.B.ins j.k j.B.ins.length).map V.int)) hi2; rw [q]; clear q
 have KCF := (KD.trans KE).trans KF
 have K15F := K15C.trans KCF
 walk_at "v"
 refine ⟨nn, _, rfl, KCF _ _ eC, fun t1 G1 L1 g1 => ?_⟩
 walk_at "v"
 refine ⟨D3, _, rfl, (K15F.trans L1) _ _ e15, fun t2 G2 L2 g2 => ?_⟩
 walk_at "v"
 refine ⟨i2, _, rfl, (L1.trans L2) _ _ eF, fun t3 G3 L3 g3 => ?_⟩
 walk_at "v"
 refine ⟨be, _, rfl, (((K15F.trans L1).trans L2).trans L3) _ _ e10, fun t4 G4 L4 g4 => ?_⟩
 have LF4 := ((L1.trans L2).trans L3).trans L4
 have K154 := K15F.trans LF4
 have K04 := K015.trans K154
 walk_at "v"
 refine wu ?_
 walk_at "v"
 refine zm (K04 _ _ h1') rfl ?_
 rw [show j.B.ans = ((j.B.ans.toNat : Nat) : Int) by have := ok.b.ha; omega]
 refine ⟨d, _, rfl, gd (K154 _ _ e5) j.B.ans.toNat (by have := ok.b.ha; omega), ?_⟩
 walk_at "v"
 refine ⟨sz5, fun q hq => ?_⟩
 obtain ⟨G5, q, L5, g5⟩ := nob (.tup [.ref t1, .ref t2, .ref t3, .ref t4, .int (j.f j.B.ans.toNat : Nat)]) hq; rw [q]; clear q
 have hPot : PotF false G5 q j.pot := ⟨t1, t2, t3, t4, ry, g5, (((L2.trans L3).trans L4).trans L5) _ _ g1, ((L3.trans L4).trans L5) _ _ g2, R15.same (K154.trans L5), (L4.trans L5) _ _ g3, L5 _ _ g4⟩
 refine k q G5 (K04.trans L5) ?_
 rw [Jn.D_ok eb0]
 exact hPot.rd
abbrev sINj : Stmt := xk (top 8) 0
abbrev nINj : List Str := ["self", "word", "at"]
theorem Yi : Nm nINj (zk sINj) := ⟨by decide +kernel, by decide +kernel⟩
theorem scINj : FnScope nINj ["self", "word", "at"] (zk sINj) := ⟨rfl, rfl, rfl, by decide +kernel, rfl, by decide +kernel, by decide +kernel⟩
theorem ok_INj {f : Addr} {fd : FuncData} (F : Fun K "__init__" "NoJoin.__init__" sINj f fd) : FnOk P w K mg base CX0 1 f fd ["self", "word", "at"] (spXi K ["word", "at"]) := by
 refine F.ok scINj (fun vs H Q E h => ?_) (fun cdv A outer s H vs Q E hr h => ?_)
 ·obtain ⟨a, C, v0, us, rfl, hl, _⟩ := h
  show us.length + 1 = 3
  rw [hl]; rfl
 obtain ⟨a, C, v0, us, rfl, hl, ha, xa, hn, k⟩ := h
 match us, hl, k with
 | [u0, u1], _, k =>
 refine' ⟨_, ?hb, ?rd⟩
 case hb =>
  refine' zj ?s1 ?r1
  case' r1 => refine' zn ?s2
  case' s1 => refine' Xu ?s3 ?s4
  case s3 => exact pvd Yi 0
  case s4 => exact pvd Yi 1
  case' s2 => refine' Xu ?s5 ?s6
  case s5 => exact pvd Yi 0
  case s6 => exact pvd Yi 2
 refine wR ?_
 refine Xa (xS rfl (xS rfl ?_))
 refine ⟨a, C, none, v0, rfl, ha, xa, hn _ (by simp), fun dx hd hne => ?_⟩
 refine Xa (xS rfl (xS rfl ?_))
 refine ⟨a, C, some dx, v0, rfl, zi, xa, hn _ (by simp), [("word", u0)], by rw [zl hne, zi], (by show (1 : Nat) < 100; decide), ?_⟩
 have z := k dx hd hne
 rw [upd_swap hne]
 exact z
abbrev sTj : Stmt := top 50
abbrev nTj : List Str := ["_law_one", "_law_other", "_law_k", "_law_caught", "_law_found", "e", "_law_others"]
theorem nmTj : Nm nTj (zk sTj) := ⟨by decide +kernel, by decide +kernel⟩
theorem scTj : FnScope nTj ["_law_one", "_law_other", "_law_k"] (zk sTj) := ⟨rfl, rfl, rfl, by decide +kernel, rfl, by decide +kernel, by decide +kernel⟩
theorem locE : (zk sTj).names.lookup ("e" : Str) = some .local := by decide +kernel
def spTj : Sp := fun vs H Q _ => ∃ (q1 q2 : Addr) (j : Jn), vs = [.ref q1, .ref q2, .int (j.k : Int)] ∧ PotF false H q1 j.A ∧ PotF false H q2 j.B ∧ j.ok ∧ ∀ v H', Same H H' → RdV H' v j.D → Q v H'
theorem ok_Tj {f : Addr} {fd : FuncData} {cD cJ c0 c1 c2 c3 c4 c5 c6 : Addr} (B : Bl mg) (vaE : mg "ValueError" = none) (U : XUni K mg cD [("NoJoin", cJ), ("NoAsk", c0), ("NoFault", c1), ("NoLines", c2), ("NoPaper", c3), ("NoPot", c4), ("NoRow", c5), ("NoStep", c6)])
  (G : HasX P w K mg base 4 "put_together" ["one", "other", "k"] (spPt cJ)) (hn1 : yp K cJ "word") (hn2 : yp K cJ "at") (F : Fun K "_law_told_join" "_law_told_join" sTj f fd) : FnOk P w K mg base CX0 5 f fd ["_law_one", "_law_other", "_law_k"] spTj := by
 refine F.ok scTj (fun vs H Q E h => ?_) (fun cdv A outer s H vs Q E hr h => ?_)
 ·obtain ⟨q1, q2, j, rfl, _⟩ := h
  rfl
 obtain ⟨q1, q2, j, rfl, hA, hB, ok, k⟩ := h
 refine' ⟨_, ?hb, ?rd⟩
 case hb =>
  refine' zj ?s1 ?r1
  case' r1 => refine' zj ?s2 ?r2
  case' r2 => refine' zj ?s3 ?r3
  case' r3 => refine' zj ?s4 ?r4
  case' r4 => refine' zj ?s5 ?r5
  case' r5 => refine' zj ?s6 ?r6
  case' r6 => refine' zn ?s7
  case s1 => exact zq nmTj 3 vU
  case s2 => exact zq nmTj 4 vU
  case s3 =>
   refine' ps_try (tb := fun EX => tAsg (ZG (spPt cJ) EX (x9 (tVar 0) (x9 (tVar 1) (x9 (tVar 2) tNil)))) (yi 4)) (i := 5) nmTj rfl rfl rfl U.mD U.base rfl locE ?tb ?ts
   case tb =>
    intro pn xe EX _ L
    exact zn (zq nmTj 4 (Xw G L hr (by decide) (pa_c (pvd nmTj 0) (pa_2 (pvd nmTj 1) (pvd nmTj 2)))))
   case ts =>
    intro a
    exact zn (zq nmTj 3 (pvd nmTj 5))
  case s4 =>
   refine' zT (ZO (pc_isN (pvd nmTj 3))) ?a1 zB
   case a1 => exact zn (zE (pvd nmTj 4))
  case s5 =>
   refine' zq nmTj 6 ?b2
   case' b2 => refine' zJ (isXT_K (K := K) rfl) B.isi PyProof.Rows.boot_isinstance ?b3
   case' b3 => refine' pa_2 (pvd nmTj 3) ?b4
   case b4 => exact (zx (pa_c (xz (C := c0) (U.cls ("NoAsk", c0) (by simp)).1) (pa_c (xz (C := c1) (U.cls ("NoFault", c1) (by simp)).1) (pa_c (xz (C := c2) (U.cls ("NoLines", c2) (by simp)).1) (pa_c (xz (C := c3) (U.cls ("NoPaper", c3) (by simp)).1) (pa_c (xz (C := c4) (U.cls ("NoPot", c4) (by simp)).1) (pa_2 (xz (C := c5) (U.cls ("NoRow", c5) (by simp)).1) (xz (C := c6) (U.cls ("NoStep", c6) (by simp)).1))))))))
  case s6 =>
   refine' zT ?d1 (zn (zE zQ)) zB
   case' d1 => refine' PW.pt ?d2
   case' d2 => refine' YJ (ZN (pvd nmTj 6)) ?d4
   case' d4 => refine' YJ ?d5 ?d6
   case d5 => exact YK (ZN (zJ (XF (K := K) rfl) B.isi PyProof.Rows.boot_isinstance (pa_2 (pvd nmTj 3) (xz (C := cJ) (U.cls ("NoJoin", cJ) (by simp)).1))))
   case' d6 => refine' YI ?d7
   case d7 => exact YK (ZN (zJ (XF (K := K) rfl) B.isi PyProof.Rows.boot_isinstance (pa_2 (pvd nmTj 3) (pe_bltn (v := .ty "ValueError") rfl vaE PyProof.Rows.Boot.«ValueError» rfl))))
  case s7 => exact zE (zx (pa_2 (YN (K := K) rfl (pvd nmTj 3)) (YN (K := K) rfl (pvd nmTj 3))))
 have nd := U.nd
 obtain ⟨_, xcN, xaN⟩ := U.cls ("NoJoin", cJ) (by simp)
 walk_at "v"
 refine w_try ?_
 walk_at "v"
 refine ZY ?_
 walk_at "v"
 refine ⟨q1, q2, j, rfl, hA, hB, ok, fun hn q H1 K1 hP => ?_, fun w t hb dx H1 K1 hd => ?_⟩
 ·walk_at "v"
  refine Xd ?_
  walk_at "v"
  refine iteP rfl ?_
  walk_at "v"
  refine k _ _ K1 ?_
  rw [Jn.D_ok hn]
  exact hP.rd
 ·refine ⟨cJ, _, rfl, xcN, contains_D, fun a vs ha => ?_⟩
  have hda : dx ≠ a := fun z => by rw [z, zi] at ha; cases ha
  have K2 : Same H (upd (upd H1 dx (XDct dx [("word", .str w), ("at", .int (t : Int))])) a (XObj a cJ (some dx) vs)) := (K1.new hd).new ha
  have ea : upd (upd H1 dx (XDct dx [("word", .str w), ("at", .int (t : Int))])) a (XObj a cJ (some dx) vs) a = some (XObj a cJ (some dx) vs) := zi
  have ed : upd (upd H1 dx (XDct dx [("word", .str w), ("at", .int (t : Int))])) a (XObj a cJ (some dx) vs) dx = some (XDct dx [("word", .str w), ("at", .int (t : Int))]) := by rw [zl hda, zi]
  generalize upd (upd H1 dx (XDct dx [("word", .str w), ("at", .int (t : Int))])) a (XObj a cJ (some dx) vs) = H2 at K2 ea ed ⊢
  walk_at "v"
  refine w_unE ?_
  walk_at "v"
  refine Xd ?_
  walk_at "v"
  refine iteQ (fun z => nomatch z) ?_
  walk_at "v"
  refine ⟨sz7, fun o2 ho2 => ?_⟩
  have K4 := K2.new (o := .tup [.ref c0, .ref c1, .ref c2, .ref c3, .ref c4, .ref c5, .ref c6]) ho2
  have ea4 : upd H2 o2 (.tup [.ref c0, .ref c1, .ref c2, .ref c3, .ref c4, .ref c5, .ref c6]) a = some (XObj a cJ (some dx) vs) := by rw [zl (zp ea ho2)]; exact ea
  have ed4 : upd H2 o2 (.tup [.ref c0, .ref c1, .ref c2, .ref c3, .ref c4, .ref c5, .ref c6]) dx = some (XDct dx [("word", .str w), ("at", .int (t : Int))]) := by rw [zl (zp ed ho2)]; exact ed
  have eo4 : upd H2 o2 (.tup [.ref c0, .ref c1, .ref c2, .ref c3, .ref c4, .ref c5, .ref c6]) o2 = some (.tup [.ref c0, .ref c1, .ref c2, .ref c3, .ref c4, .ref c5, .ref c6]) := zi
  walk_at "v"
  refine w_isXT (cs := [c0, c1, c2, c3, c4, c5, c6].map V.ref) (b := false) ea4 ed4 xaN eo4 (fun us hus => ?_) ?_
  ·rw [vt hus]
   refine Zw xcN fun c hc => ?_
   have hne : c ≠ cJ ∧ c ≠ cD := by
    simp only [List.map_cons, List.map_nil, List.nodup_cons, List.mem_cons, List.not_mem_nil, not_or, or_false] at nd hc
    rcases hc with rfl | rfl | rfl | rfl | rfl | rfl | rfl <;> exact ⟨by intro z; simp [z] at nd, by intro z; simp [z] at nd⟩
   have hx : ∃ x : Str, (x, c) ∈ ([("NoJoin", cJ), ("NoAsk", c0), ("NoFault", c1), ("NoLines", c2), ("NoPaper", c3), ("NoPot", c4), ("NoRow", c5), ("NoStep", c6)] : List (Str × Addr)) := by
    simp only [List.mem_cons, List.not_mem_nil, or_false] at hc
    rcases hc with rfl | rfl | rfl | rfl | rfl | rfl | rfl
    ·exact ⟨"NoAsk", by simp⟩
    ·exact ⟨"NoFault", by simp⟩
    ·exact ⟨"NoLines", by simp⟩
    ·exact ⟨"NoPaper", by simp⟩
    ·exact ⟨"NoPot", by simp⟩
    ·exact ⟨"NoRow", by simp⟩
    ·exact ⟨"NoStep", by simp⟩
   obtain ⟨x, hx⟩ := hx
   exact ⟨_, (U.cls (x, c) hx).2.1, contains_ne hne.1.symm hne.2⟩
  generalize upd H2 o2 (.tup [.ref c0, .ref c1, .ref c2, .ref c3, .ref c4, .ref c5, .ref c6]) = H4 at K4 ea4 ed4 ⊢
  walk_at "v"
  refine Xc (b := true) ea4 ed4 xaN (fun u hu => by cases hu; rw [Y2 xcN xcN]; simp) ?_
  walk_at "v"
  refine iteF ?_
  walk_at "v"
  refine Xc (b := true) ea4 ed4 xaN (fun u hu => by cases hu; exact kit_xv xcN) ?_
  walk_at "v"
  refine iteF ?_
  walk_at "v"
  refine w_xf ?_
  walk_at "v"
  refine ⟨a, cJ, dx, vs, _, _, rfl, ea4, ed4, xaN, hn1, rfl, ?_⟩
  walk_at "v"
  refine w_xf ?_
  walk_at "v"
  refine ⟨a, cJ, dx, vs, _, _, rfl, ea4, ed4, xaN, hn2, rfl, ?_⟩
  walk_at "v"
  refine ⟨sz2, fun r hr' => ?_⟩
  refine k _ _ (K4.new hr') ?_
  rw [Jn.D_err hb]
  exact .tup zi (.cons (.str _) (.cons (.int _) .nil))
abbrev sGr : Stmt := top 51
abbrev nGr : List Str := ["_law_feed_here", "_law_pot_here", "_law_sorts", "_law_rules", "_law_inputs", "_law_begin", "_law_answer", "_law_way", "_law_more"]
theorem nmGr : Nm nGr (zk sGr) := ⟨by decide +kernel, by decide +kernel⟩
theorem scGr : FnScope nGr ["_law_feed_here", "_law_pot_here"] (zk sGr) := ⟨rfl, rfl, rfl, by decide +kernel, rfl, by decide +kernel, by decide +kernel⟩
def qGra (s : Stmt) : Scope := match s with
 | .If _ [_, _, (.Assign _ (.Call _ [(.ListComp _ _ sc _)] _ _) _), _] _ _ => sc
 | _ => nsc
abbrev cGra : Scope := qGra ((zu sGr).getD 2 (.Pass ⟨0, 0, 0, 0⟩))
theorem bsGra : BScope (zk sGr) cGra ["_law_takes", "_law_gives"] ["_law_more"] [] := { okind := by decide +kernel, kind := by decide +kernel, nocell := by decide +kernel, names := by decide +kernel, fr := by decide +kernel, ff := by decide +kernel, nd := by decide +kernel, vis := by decide +kernel, loc := by decide +kernel, gl := by decide +kernel }
def qGrb (s : Stmt) : Scope := match s with
 | .If _ [(.Assign _ (.Call _ [(.ListComp _ _ sc _)] _ _) _)] _ _ => sc
 | _ => nsc
abbrev cGrb : Scope := qGrb ((zu sGr).getD 4 (.Pass ⟨0, 0, 0, 0⟩))
theorem bsGrb : BScope (zk sGr) cGrb ["_law_number"] ["_law_feed_here"] ["_law_draw"] := { okind := by decide +kernel, kind := by decide +kernel, nocell := by decide +kernel, names := by decide +kernel, fr := by decide +kernel, ff := by decide +kernel, nd := by decide +kernel, vis := by decide +kernel, loc := by decide +kernel, gl := by decide +kernel }
def zz7 : List Str := ["za", "zb", "zc", "zd", "ze", "zf", "zg"]
theorem zz_nice : vL zz7 := by unfold vL; decide +kernel
theorem cutN {α : Type} (g : α → V) (xs : List α) (k : Nat) : cutV (xs.map g) none (some (k : Int)) = (xs.take k).map g := by
 unfold cutV
 rw [HT.sIx_none, HT.sIx_nat, List.drop_zero, Nat.sub_zero, List.length_map, ← List.map_take]
 congr 1
 rw [List.take_eq_take_iff]
 omega
theorem rep8 {α : Type} (l : List α) : ∀ {k : Nat} {x : α}, x ∈ (List.replicate k l).flatten → x ∈ l := fun h => by
 obtain ⟨y, hy, hx⟩ := List.mem_flatten.mp h
 rw [List.eq_of_mem_replicate hy] at hx
 exact hx
theorem PotF.tk {H H' : Hp} {q : Addr} {d : PD} (h : PotF false H q d) (t : TK H H') : PotF false H' q d := h.tst t.t
theorem RlsD.tk {H H' : Hp} {rs : List Addr} {xs : List (List Int × List Int)} (h : RlsD H rs xs) (t : TK H H') : RlsD H' rs xs := RlsD.tst t.t h
theorem RlsD.take {H : Hp} : ∀ {rs : List Addr} {xs : List (List Int × List Int)} (n : Nat), RlsD H rs xs → RlsD H (rs.take n) (xs.take n)
 | _, _, 0, _ => trivial
 | [], [], _ + 1, _ => trivial
 | _ :: _, _ :: _, n + 1, ⟨a, b⟩ => ⟨a, RlsD.take n b⟩
 | [], _ :: _, _ + 1, h => h.elim
 | _ :: _, [], _ + 1, h => h.elim
theorem RlsD.rep {H : Hp} {rs : List Addr} {xs : List (List Int × List Int)} (h : RlsD H rs xs) : ∀ n, RlsD H (List.replicate n rs).flatten (List.replicate n xs).flatten
 | 0 => trivial
 | n + 1 => by
  rw [List.replicate_succ, List.replicate_succ, List.flatten_cons, List.flatten_cons]
  exact RlsD.app h (RlsD.rep h n)
def spGr : Sp := fun vs H Q _ => ∃ (p l : Addr) (ms : List Int) (n : Nat) (q : Addr) (d : PD) (m : Nat), vs = [.ref p, .ref q] ∧ Tq H p l ms n ∧ n ≤ 60000 ∧ PotF false H q d ∧ PX d m ∧ ∀ r d' m' H', PX d' m' → PotF false H' r d' → Tq H' p l ms (n + 20) → (TK H H' ∧ Bp p H H') → Q (.ref r) H'
theorem ok_Gr {f : Addr} {fd : FuncData} (B : Bl mg) (D : Has P w K mg base 1 "_law_draw" ["_law_feed_here", "_law_many"] yG) (F : Fun K "_law_great" "_law_great" sGr f fd) : FnOk P w K mg base CX0 2 f fd ["_law_feed_here", "_law_pot_here"] spGr := by
 refine F.ok scGr (fun vs H Q E h => ?_) (fun cdv A outer s H vs Q E hr h => ?_)
 ·obtain ⟨p, l, ms, n, q, d, m, rfl, _⟩ := h
  rfl
 obtain ⟨p, l, ms, n, q, d, m, rfl, T0, hn, hP, hd, k⟩ := h
 refine' ⟨_, ?hb, ?rd⟩
 case' hb => skip
 case' hb => refine' zj ?g1 ?g2
 case' g2 => refine' zj ?g3 ?g4
 case' g4 => refine' zj ?g5 ?g6
 case' g6 => refine' zj ?g7 ?g8
 case' g8 => refine' zj ?g9 ?g10
 case' g10 => refine' zj ?g11 ?g12
 case' g12 => refine' zn ?g13
 case g1 => exact yu (pvd nmGr 1) (wx rfl (zF (pgd nmGr 2) (zF (pgd nmGr 3) (zF (pgd nmGr 4) (zF (pgd nmGr 5) (zF (pgd nmGr 6) yo))))))
 case g3 => exact zq nmGr 7 (pe_f D hr (by decide) (pa_2 (pvd nmGr 0) zh))
 case' g5 => refine' zT ?g14 ?g15 zB
 case g14 => exact zy yE (pvd nmGr 7) zh (zD _)
 case' g15 => refine' zj ?g17 ?g18
 case' g18 => refine' zj ?g19 ?g20
 case' g20 => refine' zj ?g21 ?g22
 case' g22 => refine' zn ?g23
 case g17 => exact zq nmGr 8 (pe_f D hr (by decide) (pa_2 (pvd nmGr 0) (zw ZP zh (zJ zr B.len PySem.boot_len (pa_1 (pvd nmGr 2))))))
 case g19 => exact zq nmGr 2 (zw yI (pvd nmGr 2) (yK vQ (zx (pa_c zQ (pa_c zQ (pa_c zQ (pa_c zQ (pa_c zQ (pa_2 zQ zQ))))))) xD (yS (pvd nmGr 8))))
 case' g21 => refine' zq nmGr 3 ?g24
 case' g24 => refine' zU zV B.tuple PyProof.Rows.boot_tuple ?g25
 case' g25 => refine' pa_1 ?g26
 case' g26 => refine' zY (ix := [8]) bsGra.toCScope rfl rfl ?g27 ?g28 ?g29 ?g30
 case g27 => exact xx (pvd nmGr 3)
 case g28 =>
  intro _ _ _ _ _ _
  refine' wH (n := 2) rfl ?g31
  case' g31 => refine' zF ?g35 ?g34
  case g35 => exact pgb bsGra 0
  case' g34 => refine' zF ?g37 yo
  case g37 => exact pgb bsGra 1
 case g29 => exact fun _ _ _ _ _ _ => ye
 case g30 => exact fun _ _ _ _ _ _ => zx (pa_2 (zw yI (pvb bsGra 0) (zw xE (zx (pa_1 zh)) (pvb bsGra 2))) (zw yI (pvb bsGra 1) (zw xE (zx (pa_1 zh)) (pvb bsGra 2))))
 case g23 => exact zq nmGr 5 (zw yI (pvd nmGr 5) (zw xE (zx (pa_1 zh)) (pvd nmGr 8)))
 case' g7 => refine' zT ?g38 ?g39 zB
 case g38 => exact PW.pt (ZM (zy yE (pvd nmGr 7) zh (zD _)) (vR (zy (YS hr) (pvd nmGr 3) (zx yL) (zD _))))
 case' g39 => refine' zn ?g41
 case g41 => exact zq nmGr 3 (yK vQ (zw vV (pvd nmGr 3) zh) xD (yS (pe_f D hr (by decide) (pa_2 (pvd nmGr 0) zh))))
 case' g9 => refine' zT ?g42 ?g43 zB
 case g42 => exact zy yE (pvd nmGr 7) zh (zD _)
 case' g43 => refine' zn ?g45
 case' g45 => refine' zq nmGr 5 ?g46
 case' g46 => refine' zU zV B.tuple PyProof.Rows.boot_tuple ?g47
 case' g47 => refine' pa_1 ?g48
 case' g48 => refine' zY (ix := [0]) bsGrb.toCScope rfl rfl ?g49 ?g50 ?g51 ?g52
 case g49 => exact xx (pvd nmGr 5)
 case g50 => exact fun _ _ _ _ _ _ => pgb bsGrb 0
 case g51 => exact fun _ _ _ _ _ _ => ye
 case g52 => exact fun _ _ _ _ _ _ => ziq (zK (pa_c zh (pa_c zh (pa_2 zh zh)))) (pe_f D hr (by decide) (pa_2 (pvb bsGrb 1) zh) (bsGrb.g 0))
 case' g11 => refine' zT ?g53 ?g54 zB
 case g53 => exact zy yE (pvd nmGr 7) zh (zD _)
 case' g54 => refine' zn ?g56
 case g56 => exact zq nmGr 4 (yK vQ (zU (call_tupRng hr) B.tuple PyProof.Rows.boot_tuple (pa_1 (zU xB B.range PyProof.Rows.boot_range (pa_1 (zJ zr B.len PySem.boot_len (pa_1 (pvd nmGr 2))))))) xD (yS (pe_f D hr (by decide) (pa_2 (pvd nmGr 0) zh))))
 case g13 => exact zE (zx (pa_c (pvd nmGr 2) (pa_c (pvd nmGr 3) (pa_c (pvd nmGr 4) (pa_2 (pvd nmGr 5) (pvd nmGr 6))))))
 obtain ⟨ps, pr, pin, pb, rs, h1, h2, h3, h4, h5, h6⟩ := hP.ex
 have h2 : H ps = some (.tup (d.nm.map V.str)) := h2
 have m0 := hd.m0
 have m8 := hd.m8
 have nl := hd.nl
 have r8 := hd.r8
 have i3 := hd.i3
 have bl := hd.bl
 have l4 := h4.len
 walk_at "v"
 refine wU h1 rfl ?_
 refine ⟨_, _, rfl, ?_⟩
 walk_at "v"
 refine ⟨_, _, rfl, ?_⟩
 walk_at "v"
 refine ⟨_, _, rfl, ?_⟩
 walk_at "v"
 refine ⟨_, _, rfl, ?_⟩
 walk_at "v"
 refine ⟨_, _, rfl, ?_⟩
 walk_at "v"
 refine ⟨rfl, ?_⟩
 walk_at "v"
 refine ⟨p, l, ms, n, 6, rfl, T0, by omega, by decide, by decide, fun w c e f w0 w6 f0 f1 => ?_⟩
 have T1 := T0.draw (n' := n + 1) (c := c) (e := e) (f := f) f0 f1
 have TK1 : TK H (upd H p (.lst [.ref l, .int c, .int e, .int f])) := T0.tk
 have BP1 : Bp p H (upd H p (.lst [.ref l, .int c, .int e, .int f])) := Bp.refl.at
 generalize upd H p (.lst [.ref l, .int c, .int e, .int f]) = H1 at T1 TK1 BP1 ⊢
 have g1 := TK1.t _ _ h1
 have g2 := TK1.t _ _ h2
 have g3 := TK1.t _ _ h3
 have g4 := RlsD.tk h4 TK1
 have g5 := TK1.t _ _ h5
 have g6 := TK1.t _ _ h6
 clear f0 f1
 walk_at "v"
 obtain rfl | rfl | rfl | rfl | hw : w = 0 ∨ w = 1 ∨ w = 2 ∨ w = 3 ∨ 4 ≤ w := by omega
 ·refine ⟨rfl, ?_⟩
  walk_at "v"
  refine iteP rfl ?_
  walk_at "v"
  refine ⟨ps, _, rfl, .inr (SqT.of g2), ?_⟩
  rw [List.length_map, nl]
  walk_at "v"
  refine ⟨p, l, ms, n + 1, 9 - (m : Int), rfl, T1, by omega, by omega, by omega, fun w c e f w0 w9 f0 f1 => ?_⟩
  have T2 := T1.draw (n' := n + 2) (c := c) (e := e) (f := f) f0 (by omega)
  have TK2 : TK H1 (upd H1 p (.lst [.ref l, .int c, .int e, .int f])) := T1.tk
  have BP2 : Bp p H (upd H1 p (.lst [.ref l, .int c, .int e, .int f])) := BP1.at
  generalize upd H1 p (.lst [.ref l, .int c, .int e, .int f]) = H2 at T2 TK2 BP2 ⊢
  obtain ⟨mo, rfl⟩ := ofI w0
  walk_at "v"
  refine ⟨sz7, fun z1 hz1 => ?_⟩
  have K3 : Same H2 (upd H2 z1 (.tup (zz7.map V.str))) := Same.new (Same.refl _) hz1
  have e3 : upd H2 z1 (.tup (zz7.map V.str)) z1 = some (.tup (zz7.map V.str)) := zi
  change _
  generalize hH3 : upd H2 z1 (.tup (zz7.map V.str)) = H3 at K3 e3
  have hH3' : upd H2 z1 (.tup [.str "za", .str "zb", .str "zc", .str "zd", .str "ze", .str "zf", .str "zg"]) = H3 := hH3
  rw [hH3']
  walk_at "v"
  refine ⟨_, rfl, ?_⟩
  refine ⟨z1, _, rfl, e3, fun z2 H4 K4 e4 => ?_⟩
  rw [cutN] at e4
  have lz : (zz7.take mo).length = mo := by rw [List.length_take]; show min mo 7 = mo; omega
  have K24 := K3.trans K4
  have TK24 := TK2.trans (TK.same K24)
  refine ⟨ps, z2, _, _, rfl, rfl, TK24.t _ _ g2, e4, by rw [List.length_map, List.length_map, lz]; omega, fun so H5 K5 e5 => ?_⟩
  rw [← List.map_append] at e5
  have K25 := K24.trans K5
  have TK25 := TK2.trans (TK.same K25)
  walk_at "v"
  refine ⟨pr, rfl, ⟨_, SqT.of (TK25.t _ _ g3)⟩, fun D1 hD1 => ?_⟩
  refine ZE (rs := rs) (ρ := [some (.int (mo : Int))]) (fun i ys H' => ∃ rx, ys = rx.map V.ref ∧ rx.length = i ∧ Same H5 H' ∧ RlsD H' rx ((d.rl.take i).map fun r => (r.1 ++ zs mo, r.2 ++ zs mo))) ⟨[], rfl, rfl, Same.new (Same.refl _) hD1, trivial⟩ (fun i ys H' _ ⟨_, _, _, k', _⟩ => SqT.of (k' _ _ (TK25.t _ _ g3))) ?_ ?_
  ·rintro i r ys H13 hr0 ⟨rx, rfl, hrx, K13, R13⟩ hDy
   have hi : i < rs.length := (List.getElem?_eq_some_iff.mp hr0).1
   obtain ⟨x, gr, qa, qb, r1, r2, r3⟩ := h4.get hr0
   obtain ⟨lx1, lx2⟩ := hd.rs x (List.mem_of_getElem? gr)
   have TK13 := (TK1.trans TK25).trans (TK.same K13)
   refine ⟨.ref qa, .ref qb, TK13.t _ _ r1, fun R S kR kS => ?_⟩
   walk_at "v"
   refine ⟨sz1, fun za hza => ?_⟩
   obtain ⟨Ha, q, Ka, ea⟩ := nob (.tup [.int 0]) hza; rw [q]; clear q
   walk_at "v"
   refine ⟨za, mo, .int 0, rfl, rfl, ea, by omega, fun zb Hb Kb eb => ?_⟩
   have ezr : (List.replicate mo (V.int 0)) = (zs mo).map V.int := by unfold zs; rw [List.map_replicate]
   rw [ezr] at eb
   refine ⟨qa, zb, _, _, rfl, rfl, (Ka.trans Kb) _ _ (TK13.t _ _ r2), eb, by rw [List.length_map, List.length_map, yf, lx1.1]; omega, fun ta Hc Kc ec => ?_⟩
   rw [← List.map_append] at ec
   have K13c := (Ka.trans Kb).trans Kc
   walk_at "v"
   refine ⟨sz1, fun zd hzd => ?_⟩
   obtain ⟨Hd, q, Kd, ed⟩ := nob (.tup [.int 0]) hzd; rw [q]; clear q
   walk_at "v"
   refine ⟨zd, mo, .int 0, rfl, rfl, ed, by omega, fun ze He Ke ee => ?_⟩
   rw [ezr] at ee
   have K13e := (K13c.trans Kd).trans Ke
   refine ⟨qb, ze, _, _, rfl, rfl, K13e _ _ (TK13.t _ _ r3), ee, by rw [List.length_map, List.length_map, yf, lx2.1]; omega, fun tb Hf Kf ef => ?_⟩
   rw [← List.map_append] at ef
   walk_at "v"
   refine ⟨sz2, fun tp htp => ?_⟩
   obtain ⟨Hg, q, Kg, eg⟩ := nob (.tup [.ref ta, .ref tb]) htp; rw [q]; clear q
   have K13g := (K13e.trans Kf).trans Kg
   have hDg := K13g _ _ hDy
   refine kR _ _ hDg (lm1 (by omega)) ⟨rx ++ [tp], by rw [List.map_append]; rfl, by rw [List.length_append, hrx]; rfl, (K13.trans K13g).put hD1, ?_⟩
   rw [List.take_add_one, gr, List.map_append]
   exact RlsD.snoc ((R13.same K13g).off hDg) (RlD.off hDg ⟨ta, tb, eg, (((Kd.trans Ke).trans Kf).trans Kg) _ _ ec, Kg _ _ ef⟩)
  rintro ys H6 ⟨rx, rfl, hrx, K6, R6⟩ e6
  rw [l4, List.take_of_length_le (Nat.le_refl _)] at R6
  walk_at "v"
  refine ⟨D1, _, rfl, e6, fun ru H7 K7 e7 => ?_⟩
  walk_at "v"
  refine ⟨sz1, fun y1 hy1 => ?_⟩
  obtain ⟨H8, q, K8, e8⟩ := nob (.tup [.int 1]) hy1; rw [q]; clear q
  walk_at "v"
  refine ⟨y1, mo, .int 1, rfl, rfl, e8, by omega, fun y2 H9 K9 e9 => ?_⟩
  have K59 := ((K6.trans K7).trans K8).trans K9
  have TK9 := TK25.trans (TK.same K59)
  rw [show List.replicate mo (V.int 1) = (List.replicate mo (1 : Int)).map V.int by rw [List.map_replicate]] at e9
  refine ⟨pb, y2, _, _, rfl, rfl, TK9.t _ _ g6, e9, by rw [List.length_map, List.length_map, List.length_replicate, bl]; omega, fun be H10 K10 e10 => ?_⟩
  rw [← List.map_append] at e10
  have K510 := K59.trans K10
  have TK10 := TK25.trans (TK.same K510)
  walk_at "v"
  refine ⟨rfl, ?_⟩
  walk_at "v"
  refine iteQ (fun z => by injection z with z; omega) ?_
  walk_at "v"
  refine ⟨rfl, ?_⟩
  walk_at "v"
  refine iteQ (fun z => by injection z with z; omega) ?_
  walk_at "v"
  refine ⟨rfl, ?_⟩
  walk_at "v"
  refine iteQ (fun z => by injection z with z; omega) ?_
  walk_at "v"
  refine ⟨sz5, fun r hr' => ?_⟩
  have Kz : Same H10 (upd H10 r (.tup [.ref so, .ref ru, .ref pin, .ref be, .int d.ans])) := Same.new (Same.refl _) hr'
  refine k r ⟨d.nm ++ zz7.take mo, d.rl.map fun r => (r.1 ++ zs mo, r.2 ++ zs mo), d.ins, d.beg ++ List.replicate mo 1, d.ans⟩ (m + mo) _ ?_ ⟨so, ru, pin, be, rx, zi, (K510.trans Kz) _ _ e5, (((K8.trans K9).trans K10).trans Kz) _ _ e7, R6.same ((((K7.trans K8).trans K9).trans K10).trans Kz), Kz _ _ (TK10.t _ _ g5), Kz _ _ e10⟩ (((T2.same K25).same K510).same Kz |>.up (by omega)) ⟨(TK1.trans TK10).trans (TK.same Kz), BP2.trans (Bp.same ((K25.trans K510).trans Kz))⟩
  refine { nl := by show (d.nm ++ zz7.take mo).length = _; rw [List.length_append, nl, lz], nn := fun x hx => ?_, m0 := by omega, m8 := by omega, r8 := by show (d.rl.map _).length ≤ 8; rw [List.length_map]; exact r8, rs := fun r hr => ?_, hi := fun i hi => by have := hd.hi i hi; omega, i3 := i3, bl := by show (d.beg ++ List.replicate mo 1).length = _; rw [List.length_append, List.length_replicate, bl], hb := fun b hb => ?_, ha := by have := hd.ha; exact ⟨this.1, by show d.ans < _; omega⟩ }
  ·rcases List.mem_append.mp hx with hx | hx
   ·exact hd.nn x hx
   ·exact zz_nice x (List.mem_of_mem_take hx)
  ·obtain ⟨r', hr', rfl⟩ := List.mem_map.mp hr
   obtain ⟨a, b⟩ := hd.rs r' hr'
   exact ⟨⟨by show (r'.1 ++ zs mo).length = _; rw [List.length_append, yf, a.1], v9 a.2⟩, ⟨by show (r'.2 ++ zs mo).length = _; rw [List.length_append, yf, b.1], v9 b.2⟩⟩
  ·rcases List.mem_append.mp hb with hb | hb
   ·exact hd.hb b hb
   ·rw [List.eq_of_mem_replicate hb]
    decide
 ·refine ⟨rfl, ?_⟩
  walk_at "v"
  refine iteQ (fun z => by injection z with z; omega) ?_
  walk_at "v"
  refine ⟨rfl, ?_⟩
  walk_at "v"
  refine iteP rfl ?_
  walk_at "v"
  refine ⟨sz0, fun z0 hz0 => ?_⟩
  obtain ⟨H2, q, K2, e2⟩ := nob (.tup []) hz0; rw [q]; clear q
  refine ⟨pr, z0, _, rfl, rfl, K2 _ _ g3, e2, ?_⟩
  walk_at "v"
  have T2 := T1.same K2
  cases hrs : rs with
  | nil =>
   rw [hrs] at g3 g4
   refine iteF ?_
   walk_at "v"
   refine ⟨rfl, ?_⟩
   walk_at "v"
   refine iteQ (fun z => by injection z with z; omega) ?_
   walk_at "v"
   refine ⟨rfl, ?_⟩
   walk_at "v"
   refine iteQ (fun z => by injection z with z; omega) ?_
   walk_at "v"
   refine ⟨sz5, fun r hr' => ?_⟩
   have Kz : Same H2 (upd H2 r (.tup [.ref ps, .ref pr, .ref pin, .ref pb, .int d.ans])) := Same.new (Same.refl _) hr'
   have K2z := K2.trans Kz
   exact k r d m _ hd ⟨ps, pr, pin, pb, [], zi, K2z _ _ g2, K2z _ _ g3, g4.same K2z, K2z _ _ g5, K2z _ _ g6⟩ ((T2.same Kz).up (by omega)) ⟨TK1.trans (TK.same K2z), BP1.trans (Bp.same K2z)⟩
  | cons ra rt =>
   rw [← hrs]
   have ne : rs ≠ [] := by rw [hrs]; exact List.cons_ne_nil _ _
   rw [show (rs.map V.ref).isEmpty = false by rw [hrs]; rfl]
   refine iteT ?_
   walk_at "v"
   have stp : ∀ (rr : Addr) (H3 : Hp), Same H2 H3 → H3 rr = some (.tup ((List.replicate 8 rs).flatten.map V.ref)) → True := fun _ _ _ _ => trivial
   refine ⟨pr, 8, _, rfl, rfl, K2 _ _ g3, (fun z => ne (List.map_eq_nil_iff.mp z)), by decide, by decide, by rw [List.length_map]; show rs.length * 8 ≤ 1000; omega, fun z => absurd z (by decide), fun _ rr hrr => ?_⟩
   rw [show (List.replicate (8 : Int).toNat (rs.map V.ref)).flatten = ((List.replicate 8 rs).flatten).map V.ref by rw [List.map_flatten, List.map_replicate]; rfl]
   obtain ⟨H3, q, K3, e3⟩ := nob (.tup (((List.replicate 8 rs).flatten).map V.ref)) hrr; rw [q]; clear q
   have T3 := T2.same K3
   have K13 := K2.trans K3
   walk_at "v"
   refine ⟨p, l, ms, n + 1, 9, rfl, T3, by omega, by decide, by decide, fun w c e f w0 w9 f0 f1 => ?_⟩
   have T4 := T3.draw (n' := n + 2) (c := c) (e := e) (f := f) f0 (by omega)
   have TK4 : TK H3 (upd H3 p (.lst [.ref l, .int c, .int e, .int f])) := T3.tk
   have BP4 : Bp p H (upd H3 p (.lst [.ref l, .int c, .int e, .int f])) := (BP1.trans (Bp.same K13)).at
   generalize upd H3 p (.lst [.ref l, .int c, .int e, .int f]) = H4 at T4 TK4 BP4 ⊢
   obtain ⟨mo, rfl⟩ := ofI w0
   have TK14 := (TK.same K13).trans TK4
   refine ⟨_, rfl, ?_⟩
   refine ⟨rr, _, rfl, TK4.t _ _ e3, fun ru H5 K5 e5 => ?_⟩
   rw [cutN] at e5
   walk_at "v"
   refine ⟨rfl, ?_⟩
   walk_at "v"
   refine iteQ (fun z => by injection z with z; omega) ?_
   walk_at "v"
   refine ⟨rfl, ?_⟩
   walk_at "v"
   refine iteQ (fun z => by injection z with z; omega) ?_
   walk_at "v"
   refine ⟨sz5, fun r hr' => ?_⟩
   have Kz : Same H5 (upd H5 r (.tup [.ref ps, .ref ru, .ref pin, .ref pb, .int d.ans])) := Same.new (Same.refl _) hr'
   have TKz := (TK14.trans (TK.same K5)).trans (TK.same Kz)
   have Rz := RlsD.take mo (RlsD.rep (RlsD.tk g4 TKz) 8)
   refine k r ⟨d.nm, (List.replicate 8 d.rl).flatten.take mo, d.ins, d.beg, d.ans⟩ m _ ?_ ⟨ps, ru, pin, pb, _, zi, TKz.t _ _ g2, Kz _ _ e5, Rz, TKz.t _ _ g5, TKz.t _ _ g6⟩ (((T4.same K5).same Kz).up (by omega)) ⟨TK1.trans TKz, BP4.trans (Bp.same (K5.trans Kz))⟩
   exact { nl := nl, nn := hd.nn, m0 := m0, m8 := m8, r8 := by show (List.take mo _).length ≤ 8; rw [List.length_take]; omega, rs := fun r hr => hd.rs r (rep8 _ (List.mem_of_mem_take hr)), hi := hd.hi, i3 := i3, bl := bl, hb := hd.hb, ha := hd.ha }
 ·refine ⟨rfl, ?_⟩
  walk_at "v"
  refine iteQ (fun z => by injection z with z; omega) ?_
  walk_at "v"
  refine ⟨rfl, ?_⟩
  walk_at "v"
  refine iteQ (fun z => by injection z with z; omega) ?_
  walk_at "v"
  refine ⟨rfl, ?_⟩
  walk_at "v"
  refine iteP rfl ?_
  walk_at "v"
  refine ⟨pb, rfl, ⟨_, SqT.of g6⟩, fun D1 hD1 => ?_⟩
  have npD := T1.np hD1
  have nlD := T1.nl hD1
  refine wn (xs := d.beg.map V.int) (ρ := [some (.ref p)]) (fun i ys H' => ∃ bs : List Int, ys = bs.map V.int ∧ bs.length = i ∧ (∀ b ∈ bs, 0 ≤ b ∧ b ≤ 99) ∧ Tq H' p l ms (n + 1 + i) ∧ Bp p H1 H' ∧ TK H1 H') ⟨[], rfl, rfl, fun b h => (nomatch h), T1.new hD1, Bp.refl.new hD1, TK.new hD1⟩ (fun i ys H' _ ⟨_, _, _, _, _, _, k'⟩ => SqT.of (k'.t _ _ g6)) ?_ ?_
  ·rintro i x ys H2 hx ⟨bs, rfl, hbl, hbs, T2, BP2, TK2⟩ hDy R S kR _
   have hi : i < d.beg.length := itl hx
   walk_at "v"
   refine ⟨sz4, fun z1 hz1 => ?_⟩
   have ez : upd H2 z1 (.lst [.int 49, .int 50, .int 99, .int 0]) z1 = some (.lst (([49, 50, 99, 0] : List Int).map V.int)) := zi
   have Tz := T2.new (o := .lst [.int 49, .int 50, .int 99, .int 0]) hz1
   have TKz := TK2.trans (TK.new (o := .lst [.int 49, .int 50, .int 99, .int 0]) hz1)
   have npz := T2.np hz1
   have BPz : Bp p H1 (upd H2 z1 (.lst [.int 49, .int 50, .int 99, .int 0])) := BP2.new hz1
   have dz : upd H2 z1 (.lst [.int 49, .int 50, .int 99, .int 0]) D1 = some (.lst (bs.map V.int)) := by rw [zl (zp hDy hz1)]; exact hDy
   generalize upd H2 z1 (.lst [.int 49, .int 50, .int 99, .int 0]) = H3 at ez Tz TKz BPz dz ⊢
   walk_at "v"
   refine ⟨p, l, ms, n + 1 + i, 4, rfl, Tz, by omega, by decide, by decide, fun r c e f r0 r1 f0 f1 => ?_⟩
   obtain ⟨v, hv, hat⟩ := YL (xs := [49, 50, 99, 0]) r0 r1
   refine yd (by rw [zl (Ne.symm npz)]; exact ez) hat ?_
   have hD' : upd H3 p (.lst [.ref l, .int c, .int e, .int f]) D1 = some (.lst (bs.map V.int)) := by rw [zl (Ne.symm npD)]; exact dz
   refine kR _ _ hD' (lm1 (by omega)) ⟨bs ++ [v], by rw [List.map_append]; rfl, by simp [hbl], fun b hb => ?_, (Tz.draw (n' := n + 1 + (i + 1)) f0 (by omega)).put npD nlD, BPz.at.put hD1, (TKz.trans Tz.tk).trans (TK.lst hD')⟩
   rcases List.mem_append.mp hb with old | new
   ·exact hbs b old
   ·rw [List.mem_singleton.mp new]
    simp only [List.mem_cons, List.not_mem_nil, or_false] at hv
    omega
  rintro ys H2 ⟨bs, rfl, hbl, hbs, T2, BP2, TK2⟩ eD
  rw [List.length_map] at hbl T2
  walk_at "v"
  refine ⟨D1, _, rfl, eD, fun be H3 K3 e3 => ?_⟩
  walk_at "v"
  refine ⟨rfl, ?_⟩
  walk_at "v"
  refine iteQ (fun z => by injection z with z; omega) ?_
  walk_at "v"
  refine ⟨sz5, fun r hr' => ?_⟩
  have Kz : Same H3 (upd H3 r (.tup [.ref ps, .ref pr, .ref pin, .ref be, .int d.ans])) := Same.new (Same.refl _) hr'
  have TKz := (TK2.trans (TK.same K3)).trans (TK.same Kz)
  refine k r ⟨d.nm, d.rl, d.ins, bs, d.ans⟩ m _ ?_ ⟨ps, pr, pin, be, rs, zi, TKz.t _ _ g2, TKz.t _ _ g3, RlsD.tk g4 TKz, TKz.t _ _ g5, Kz _ _ e3⟩ (((T2.same K3).same Kz).up (by omega)) ⟨TK1.trans TKz, (BP1.trans BP2).trans (Bp.same (K3.trans Kz))⟩
  exact { nl := nl, nn := hd.nn, m0 := m0, m8 := m8, r8 := r8, rs := hd.rs, hi := hd.hi, i3 := i3, bl := hbl.trans bl, hb := hbs, ha := hd.ha }
 ·refine ⟨rfl, ?_⟩
  walk_at "v"
  refine iteQ (fun z => by injection z with z; omega) ?_
  walk_at "v"
  refine ⟨rfl, ?_⟩
  walk_at "v"
  refine iteQ (fun z => by injection z with z; omega) ?_
  walk_at "v"
  refine ⟨rfl, ?_⟩
  walk_at "v"
  refine iteQ (fun z => by injection z with z; omega) ?_
  walk_at "v"
  refine ⟨rfl, ?_⟩
  walk_at "v"
  refine iteP rfl ?_
  walk_at "v"
  refine ⟨ps, _, rfl, .inr (SqT.of g2), ?_⟩
  rw [List.length_map, nl]
  refine ⟨_, rfl, fun rg hrg => ?_⟩
  obtain ⟨H2, q, K2, e2⟩ := nob (.rng 0 (m : Int)) hrg; rw [q]; clear q
  walk_at "v"
  refine ⟨rg, m, rfl, e2, by omega, fun t1 ht1 => ?_⟩
  obtain ⟨H3, q, K3, e3⟩ := nob (.tup ((List.range m).map fun (i : Nat) => V.int (i : Int))) ht1; rw [q]; clear q
  have T3 := (T1.same K2).same K3
  walk_at "v"
  refine ⟨p, l, ms, n + 1, 4, rfl, T3, by omega, by decide, by decide, fun w c e f w0 w9 f0 f1 => ?_⟩
  have T4 := T3.draw (n' := n + 2) (c := c) (e := e) (f := f) f0 (by omega)
  have TK4 : TK H3 (upd H3 p (.lst [.ref l, .int c, .int e, .int f])) := T3.tk
  have BP4 : Bp p H (upd H3 p (.lst [.ref l, .int c, .int e, .int f])) := (BP1.trans (Bp.same (K2.trans K3))).at
  generalize upd H3 p (.lst [.ref l, .int c, .int e, .int f]) = H4 at T4 TK4 BP4 ⊢
  obtain ⟨mo, rfl⟩ := ofI w0
  have TK14 := (TK.same (K2.trans K3)).trans TK4
  refine ⟨_, rfl, ?_⟩
  refine ⟨t1, _, rfl, TK4.t _ _ e3, fun inn H5 K5 e5 => ?_⟩
  rw [cutN] at e5
  have e5 : H5 inn = some (.tup ((((List.range m).take mo).map fun (i : Nat) => (i : Int)).map V.int)) := by rw [e5, List.map_map]; rfl
  walk_at "v"
  refine ⟨sz5, fun r hr' => ?_⟩
  have Kz : Same H5 (upd H5 r (.tup [.ref ps, .ref pr, .ref inn, .ref pb, .int d.ans])) := Same.new (Same.refl _) hr'
  have TKz := (TK14.trans (TK.same K5)).trans (TK.same Kz)
  refine k r ⟨d.nm, d.rl, ((List.range m).take mo).map fun (i : Nat) => (i : Int), d.beg, d.ans⟩ m _ ?_ ⟨ps, pr, inn, pb, rs, zi, TKz.t _ _ g2, TKz.t _ _ g3, RlsD.tk g4 TKz, Kz _ _ e5, TKz.t _ _ g6⟩ (((T4.same K5).same Kz).up (by omega)) ⟨TK1.trans TKz, BP4.trans (Bp.same (K5.trans Kz))⟩
  refine { nl := nl, nn := hd.nn, m0 := m0, m8 := m8, r8 := r8, rs := hd.rs, hi := fun i hi => ?_, i3 := by show (((List.range m).take mo).map _).length ≤ 3; rw [List.length_map, List.length_take]; omega, bl := bl, hb := hd.hb, ha := hd.ha }
  obtain ⟨j, hj, rfl⟩ := List.mem_map.mp hi
  have := List.mem_range.mp (List.mem_of_mem_take hj)
  omega
 ·refine ⟨rfl, ?_⟩
  walk_at "v"
  refine iteQ (fun z => by injection z with z; omega) ?_
  walk_at "v"
  refine ⟨rfl, ?_⟩
  walk_at "v"
  refine iteQ (fun z => by injection z with z; omega) ?_
  walk_at "v"
  refine ⟨rfl, ?_⟩
  walk_at "v"
  refine iteQ (fun z => by injection z with z; omega) ?_
  walk_at "v"
  refine ⟨rfl, ?_⟩
  walk_at "v"
  refine iteQ (fun z => by injection z with z; omega) ?_
  walk_at "v"
  refine ⟨sz5, fun r hr' => ?_⟩
  have Kz : Same H1 (upd H1 r (.tup [.ref ps, .ref pr, .ref pin, .ref pb, .int d.ans])) := Same.new (Same.refl _) hr'
  exact k r d m _ hd ⟨ps, pr, pin, pb, rs, zi, Kz _ _ g2, Kz _ _ g3, g4.same Kz, Kz _ _ g5, Kz _ _ g6⟩ ((T1.same Kz).up (by omega)) ⟨TK1.trans (TK.same Kz), BP1.trans (Bp.same Kz)⟩
abbrev sLaw : Stmt := top 52
abbrev nLaw : List Str := ["_law_script", "_law_feed_here", "_law_k", "_law_one", "_law_other", "_law_kept", "_law_first", "_law_second", "_law_at"]
theorem zZ : Nm nLaw (zk sLaw) := ⟨by decide +kernel, by decide +kernel⟩
theorem scLaw : FnScope nLaw ["_law_script"] (zk sLaw) := ⟨rfl, rfl, rfl, by decide +kernel, rfl, by decide +kernel, by decide +kernel⟩
def qLawa (s : Stmt) : Scope := match s with
 | .For _ _ [(.Assign _ (.ListComp _ _ sc _) _), _, _, _] _ _ => sc
 | _ => nsc
abbrev cLawa : Scope := qLawa ((zu sLaw).getD 1 (.Pass ⟨0, 0, 0, 0⟩))
theorem bsLawa : BScope (zk sLaw) cLawa ["_law_j"] ["_law_feed_here"] ["_law_great", "_law_pot"] := { okind := by decide +kernel, kind := by decide +kernel, nocell := by decide +kernel, names := by decide +kernel, fr := by decide +kernel, ff := by decide +kernel, nd := by decide +kernel, vis := by decide +kernel, loc := by decide +kernel, gl := by decide +kernel }
theorem Jn.ok.wd {j : Jn} (h : j.ok) {w : Str} {t : Nat} (e : j.bad = some (w, t)) : (w.length ≤ 8 ∧ ∀ c ∈ w.cps.toList, c < 128) ∧ t ≤ 8 := by
 have nice : ∀ w ∈ ([("taken" : Str), "inputs", "sorts", "rules", "begin"] : List Str), w.length ≤ 8 ∧ ∀ c ∈ w.cps.toList, c < 128 := by decide +kernel
 unfold Jn.bad at e
 split at e
 ·rename_i t' ht
  cases e
  refine ⟨nice _ (by simp), ?_⟩
  have := (List.find?_range_eq_some.mp ht).2.1
  have := List.mem_range.mp this
  have := h.a.r8
  omega
 ·split at e
  ·cases e; exact ⟨nice _ (by simp), Nat.zero_le _⟩
  ·split at e
   ·cases e; exact ⟨nice _ (by simp), Nat.zero_le _⟩
   ·split at e
    ·cases e; exact ⟨nice _ (by simp), Nat.zero_le _⟩
    ·split at e
     ·cases e; exact ⟨nice _ (by simp), Nat.zero_le _⟩
     ·cases e
theorem Jn.ok.shw {j : Jn} (h : j.ok) : Shw j.D 20100 4 := by
 cases e : j.bad with
 | none => rw [Jn.D_ok e]; exact ZK (h.px e)
 | some x =>
  obtain ⟨w, t⟩ := x
  rw [Jn.D_err e]
  obtain ⟨⟨w1, w2⟩, t8⟩ := h.wd e
  have s1 : Shw (.str w) 1000 3 := (Z5 (n := 8) w1 fun c hc => Nat.lt_of_lt_of_le (w2 c hc) (by decide)).up (by decide) (by decide)
  have s2 : Shw (.int (t : Int)) 1000 3 := (Shw.int ⟨by omega, by omega⟩).up (by decide) (by decide)
  have sa : ∀ x ∈ ([.str w, .int (t : Int)] : List PyData), Shw x 1000 3 := fun x hx => by
   simp only [List.mem_cons, List.not_mem_nil, or_false] at hx
   rcases hx with rfl | rfl
   ·exact s1
   ·exact s2
  exact (Shw.tups sa).up (by simp only [List.length_cons, List.length_nil]; decide) (by decide)
theorem Z8 {d : PD} {m : Nat} (h : PX d m) : PX d d.nm.length := by rw [h.nl]; exact h
def Z3 (K : W.Frag) : Sp := fun vs H Q _ => ∃ (a : Addr) (ns : List Int), vs = [.ref a] ∧ SqF K H a (ns.map V.int) ∧ ns.length ≤ 63 ∧ ∀ H', Q (.bl true) H'
theorem ok_Law {f : Addr} {fd : FuncData} (B : Bl mg) (fF : Has P w K mg base 1 "_law_feed" ["_law_script"] (ZJ K)) (D : Has P w K mg base 1 "_law_draw" ["_law_feed_here", "_law_many"] yG) (fP : Has P w K mg base 5 "_law_pot" ["_law_feed_here"] spPo) (fG : Has P w K mg base 2 "_law_great" ["_law_feed_here", "_law_pot_here"] spGr) (fT : Has P w K mg base 5 "_law_told_join" ["_law_one", "_law_other", "_law_k"] spTj) (fJ : Has P w K mg base 2 "_law_joined" ["_law_one", "_law_other", "_law_k"] spJd) (F : Fun K "law" "law" sLaw f fd) : FnOk P w K mg base CX0 6 f fd ["_law_script"] (Z3 K) := by
 refine F.ok scLaw (fun vs H Q E h => ?_) (fun cdv A outer s H vs Q E hr h => ?_)
 ·obtain ⟨a, ns, rfl, _⟩ := h
  rfl
 obtain ⟨a, ns, rfl, hS, hl, k⟩ := h
 refine' ⟨_, ?hb, ?rd⟩
 case' hb => skip
 case' hb => refine' zj ?g1 ?g2
 case' g2 => refine' zj ?g3 ?g4
 case' g4 => refine' zn ?g5
 case g1 => exact zq zZ 1 (pe_f fF hr (by decide) (pa_1 (pvd zZ 0)))
 case' g3 => refine' yt PassesOwn.never rfl ?g6 (pgd zZ 2) ?g7
 case g6 => exact yD B.range (pa_1 zh)
 case' g7 => refine' zj ?g8 ?g9
 case' g9 => refine' zj ?g10 ?g11
 case' g11 => refine' zj ?g12 ?g13
 case' g13 => refine' zn ?g14
 case' g8 => refine' yu ?g15 (Yc rfl (zF (pgd zZ 3) (zF (pgd zZ 4) yo)))
 case' g15 => refine' zY (ix := [1]) bsLawa.toCScope rfl rfl ?g16 ?g17 ?g18 ?g19
 case g16 => exact yD B.range (pa_1 zh)
 case g17 => exact fun _ _ _ _ _ _ => pgb bsLawa 0
 case g18 => exact fun _ _ _ _ _ _ => ye
 case g19 => exact fun _ _ _ _ _ _ => pe_f fG hr (by decide) (pa_2 (pvb bsLawa 1) (ziq (pe_f fP hr (by decide) (pa_1 (pvb bsLawa 1)) (bsLawa.g 1)) zh)) (bsLawa.g 0)
 case g10 => exact zq zZ 5 (zJ (xI hr) B.repr PyProof.Rows.boot_repr (pa_1 (zx (pa_2 (pvd zZ 3) (pvd zZ 4)))))
 case' g12 => refine' yt PassesOwn.never rfl ?g20 (wx rfl (zF (pgd zZ 6) (zF (pgd zZ 7) yo))) ?g21
 case g20 => exact vS (zK (pa_c (zx (pa_2 (pvd zZ 3) (pvd zZ 4))) (pa_2 (zx (pa_2 (pvd zZ 4) (pvd zZ 3))) (zx (pa_2 (pvd zZ 3) (pvd zZ 3))))))
 case' g21 => refine' zn ?g22
 case' g22 => refine' zT ?g23 ?g24 zB
 case g23 => exact zy (YS hr) (ziq (pvd zZ 7) zh) (zx yL) (zD _)
 case' g24 => refine' zj ?g26 ?g27
 case' g27 => refine' zn ?g28
 case g26 => exact zq zZ 8 (pe_f D hr (by decide) (pa_2 (pvd zZ 1) (zJ zr B.len PySem.boot_len (pa_1 (ziq (pvd zZ 7) zh)))))
 case' g28 => refine' zT ?g29 ?g30 zB
 case g29 => exact zy Zp (zJ (xI hr) B.repr PyProof.Rows.boot_repr (pa_1 (pe_f fT hr (by decide) (pa_c (pvd zZ 6) (pa_2 (pvd zZ 7) (pvd zZ 8)))))) (zJ (xI hr) B.repr PyProof.Rows.boot_repr (pa_1 (pe_f fJ hr (by decide) (pa_c (pvd zZ 6) (pa_2 (pvd zZ 7) (pvd zZ 8)))))) (zD _)
 case' g30 => refine' zn ?g32
 case g32 => exact zE YR
 case' g14 => refine' zT ?g33 ?g34 zB
 case g33 => exact zy Zp (zJ (xI hr) B.repr PyProof.Rows.boot_repr (pa_1 (zx (pa_2 (pvd zZ 3) (pvd zZ 4))))) (pvd zZ 5) (zD _)
 case' g34 => refine' zn ?g36
 case g36 => exact zE YR
 case g5 => exact zE YR
 walk_at "v"
 refine ⟨a, ns, rfl, hS.sq, fun p l ms H1 T1 _ => ?_⟩
 walk_at "v"
 refine ⟨4, rfl, by decide, by decide, ?_⟩
 refine yl (n := 4) (fun j σ H' => ∃ u2 u3 u4 u5 u6 u7 u8 : Option V, σ = [some (.ref a), some (.ref p), u2, u3, u4, u5, u6, u7, u8] ∧ Tq H' p l ms (400 * j)) ⟨none, none, none, none, none, none, none, rfl, T1⟩ ?_ ?_
 ·rintro j σ H2 hj ⟨u2, u3, u4, u5, u6, u7, u8, rfl, T2⟩
  rw [Int.zero_add]
  walk_at "v"
  refine ⟨2, rfl, by decide, by decide, fun D hD => ?_⟩
  have npD := T2.np hD
  have nlD := T2.nl hD
  refine ym (n := 2) (ρ := [some (.ref p)]) (fun i ys H' => ∃ pots : List Addr, ys = pots.map V.ref ∧ pots.length = i ∧ (∀ q ∈ pots, ∃ d m, PX d m ∧ PotF false H' q d) ∧ Tq H' p l ms (400 * j + 170 * i)) ⟨[], rfl, rfl, fun q h => (nomatch h), T2.new hD⟩ ?_ ?_
  ·rintro i ys H3 hi ⟨pots, rfl, hpl, hps, T3⟩ hDy R S kR _
   walk_at "v"
   refine ⟨p, l, ms, _, rfl, T3, by omega, fun r q ak rs ins beg ans m A H4 er P4 _ _ _ T4 B4 => ?_⟩
   obtain ⟨d, hd, hF⟩ := pot_of P4
   walk_at "v"
   refine zm er rfl ?_
   walk_at "v"
   refine ⟨p, l, ms, _, q, d, m, rfl, T4, by omega, hF, hd, fun r' d' m' H5 hd' hF' T5 B5 => ?_⟩
   have hD5 : H5 D = some (.lst (pots.map V.ref)) := B5.2 _ _ (Ne.symm npD) (B4.2 _ _ (Ne.symm npD) hDy)
   have tkl : TK H5 (upd H5 D (.lst (pots.map V.ref ++ [.ref r']))) := TK.lst hD5
   refine kR _ _ hD5 (lm1 (by omega)) ⟨pots ++ [r'], by rw [List.map_append]; rfl, by rw [List.length_append, hpl]; rfl, fun q hq => ?_, (T5.up (by omega)).put npD nlD⟩
   rcases List.mem_append.mp hq with hq | hq
   ·obtain ⟨d0, m0, hx, hF0⟩ := hps q hq
    exact ⟨d0, m0, hx, PotF.tk hF0 ((B4.1.trans B5.1).trans tkl)⟩
   ·rw [List.mem_singleton.mp hq]
    exact ⟨d', m', hd', PotF.tk hF' tkl⟩
  rintro ys H3 ⟨pots, rfl, hpl, hps, T3⟩ e3
  obtain ⟨q1, q2, rfl⟩ : ∃ q1 q2, pots = [q1, q2] := by
   match pots, hpl with
   | [x, y], _ => exact ⟨x, y, rfl⟩
  obtain ⟨d1, m1, hd1, F1⟩ := hps q1 List.mem_cons_self
  obtain ⟨d2, m2, hd2, F2⟩ := hps q2 (List.mem_cons_of_mem _ List.mem_cons_self)
  have sh2 : Shw (.tuple [ptD d1, ptD d2]) 60000 5 := ((ZK hd1).two (ZK hd2)).up (by decide) (by decide)
  refine ⟨D, _, _, rfl, e3, ?_⟩
  refine ⟨_, _, rfl, ?_⟩
  walk_at "v"
  refine ⟨_, _, rfl, ?_⟩
  walk_at "v"
  refine ⟨rfl, ?_⟩
  walk_at "v"
  refine ⟨sz2, fun t1 ht1 => ?_⟩
  obtain ⟨H4, q, K4, e4⟩ := nob (.tup [.ref q1, .ref q2]) ht1; rw [q]; clear q
  walk_at "v"
  refine ZW (d := .tuple [ptD d1, ptD d2]) (.tup e4 (.cons (F1.same K4).rd (.cons (F2.same K4).rd .nil))) sh2 (by decide) (by decide) ?_
  generalize hkx : (PyData.tuple [ptD d1, ptD d2]).shown = kx
  walk_at "v"
  refine ⟨sz2, fun a1 ha1 => ?_⟩
  obtain ⟨H5, q, K5, e5⟩ := nob (.tup [.ref q1, .ref q2]) ha1; rw [q]; clear q
  walk_at "v"
  refine ⟨sz2, fun a2 ha2 => ?_⟩
  obtain ⟨H6, q, K6, e6⟩ := nob (.tup [.ref q2, .ref q1]) ha2; rw [q]; clear q
  walk_at "v"
  refine ⟨sz2, fun a3 ha3 => ?_⟩
  obtain ⟨H7, q, K7, e7⟩ := nob (.tup [.ref q1, .ref q1]) ha3; rw [q]; clear q
  walk_at "v"
  refine ⟨sz3, fun l8 hl8 => ?_⟩
  obtain ⟨H8, q, K8, e8⟩ := nob (.lst [.ref a1, .ref a2, .ref a3]) hl8; rw [q]; clear q
  have K38 := (((K4.trans K5).trans K6).trans K7).trans K8
  have T8 := T3.same K38
  have F18 := F1.same K38
  have F28 := F2.same K38
  have np8 : p ≠ l8 := (T3.same (((K4.trans K5).trans K6).trans K7)).np hl8
  have hall : ∀ x ∈ ([.ref a1, .ref a2, .ref a3] : List V), ∃ (ax qa qb : Addr) (da db : PD) (ma mb : Nat), x = .ref ax ∧ H8 ax = some (.tup [.ref qa, .ref qb]) ∧ PX da ma ∧ PotF false H8 qa da ∧ PX db mb ∧ PotF false H8 qb db := fun x hx => by
   simp only [List.mem_cons, List.not_mem_nil, or_false] at hx
   rcases hx with rfl | rfl | rfl
   ·exact ⟨_, _, _, d1, d2, m1, m2, rfl, ((K6.trans K7).trans K8) _ _ e5, hd1, F18, hd2, F28⟩
   ·exact ⟨_, _, _, d2, d1, m2, m1, rfl, (K7.trans K8) _ _ e6, hd2, F28, hd1, F18⟩
   ·exact ⟨_, _, _, d1, d1, m1, m1, rfl, K8 _ _ e7, hd1, F18, hd1, F18⟩
  walk_at "v"
  refine ⟨l8, rfl, ⟨_, SqL.of e8⟩, ?_⟩
  refine ZB (xs := [.ref a1, .ref a2, .ref a3]) (fun i σ H' => ∃ u6 u7 u8 : Option V, σ = [some (.ref a), some (.ref p), some (.int (j : Int)), some (.ref q1), some (.ref q2), some (.str kx), u6, u7, u8] ∧ Tq H' p l ms (400 * j + 340 + i) ∧ Bp p H8 H') ⟨u6, u7, u8, rfl, T8.up (by omega), Bp.refl⟩ (fun i σ H' _ ⟨_, _, _, _, _, b'⟩ => SqL.of (b' _ _ (Ne.symm np8) e8)) ?_ ?_
  ·rintro i x σ H9 hx ⟨u6, u7, u8, rfl, T9, B9⟩
   have hi : i < 3 := (List.getElem?_eq_some_iff.mp hx).1
   obtain ⟨ax, qa, qb, da, db, ma, mb, rfl, eax, hda, Fa, hdb, Fb⟩ := hall x (List.mem_of_getElem? hx)
   have TK9 := T8.tkb B9
   have Fa9 := PotF.tk Fa TK9
   have Fb9 := PotF.tk Fb TK9
   obtain ⟨ps, pr, pin, pb, rs, h1, h2, h3, h4, h5, h6⟩ := Fb9.ex
   refine wU (TK9.t _ _ eax) rfl ?_
   refine ⟨_, _, rfl, ?_⟩
   walk_at "v"
   refine ⟨_, _, rfl, ?_⟩
   walk_at "v"
   refine ⟨rfl, ?_⟩
   walk_at "v"
   refine zm h1 rfl ?_
   walk_at "v"
   refine ⟨sz0, fun z hz => ?_⟩
   obtain ⟨H10, q, K10, e10⟩ := nob (.tup []) hz; rw [q]; clear q
   refine ⟨pin, z, _, rfl, rfl, K10 _ _ h5, e10, ?_⟩
   walk_at "v"
   have T10 := T9.same K10
   have B10 := B9.trans (Bp.same K10)
   by_cases hne : db.ins = []
   ·rw [show (!(db.ins.map V.int).isEmpty) = false by rw [hne]; rfl]
    refine iteF ?_
    exact ⟨_, _, _, rfl, T10.up (by omega), B10⟩
   rw [show (!(db.ins.map V.int).isEmpty) = true by cases hc : db.ins with | nil => exact absurd hc hne | cons _ _ => rfl]
   have hlen : 0 < db.ins.length := List.length_pos_iff.mpr hne
   have i3 := hdb.i3
   refine iteT ?_
   walk_at "v"
   refine zm (K10 _ _ h1) rfl ?_
   walk_at "v"
   refine ⟨pin, _, rfl, .inr (SqT.of (K10 _ _ h5)), ?_⟩
   rw [List.length_map]
   refine ⟨p, l, ms, _, (db.ins.length : Int), rfl, T10, by omega, by omega, by omega, fun r c e f r0 r1 f0 f1 => ?_⟩
   have T11 := T10.draw (n' := 400 * j + 340 + (i + 1)) (c := c) (e := e) (f := f) f0 (by omega)
   have TK11 : TK H10 (upd H10 p (.lst [.ref l, .int c, .int e, .int f])) := T10.tk
   have B11 : Bp p H8 (upd H10 p (.lst [.ref l, .int c, .int e, .int f])) := B10.at
   generalize upd H10 p (.lst [.ref l, .int c, .int e, .int f]) = H11 at T11 TK11 B11 ⊢
   obtain ⟨kk, rfl⟩ := ofI r0
   have TK911 := (TK.same K10).trans TK11
   have Fa11 := PotF.tk Fa9 TK911
   have Fb11 := PotF.tk Fb9 TK911
   have ok : Jn.ok ⟨da, db, kk⟩ := ⟨Z8 hda, Z8 hdb, by show kk < db.ins.length; omega⟩
   walk_at "v"
   refine ⟨qa, qb, ⟨da, db, kk⟩, rfl, Fa11, Fb11, ok, fun v H12 K12 hv => ?_⟩
   walk_at "v"
   refine ZW hv ok.shw (by decide) (by decide) ?_
   generalize hjx : (Jn.D ⟨da, db, kk⟩).shown = jx
   walk_at "v"
   refine ⟨qa, qb, ⟨da, db, kk⟩, rfl, Fa11.same K12, Fb11.same K12, ok, fun r H13 K13 hr' => ?_⟩
   walk_at "v"
   refine ZW hr' ok.shw (by decide) (by decide) ?_
   rw [hjx]
   walk_at "v"
   refine ⟨rfl, ?_⟩
   walk_at "v"
   refine Yk rfl ?_
   exact ⟨_, _, _, rfl, (T11.same K12).same K13, B11.trans (Bp.same (K12.trans K13))⟩
  rintro σ H9 ⟨u6, u7, u8, rfl, T9, B9⟩
  have TK9 := T8.tkb B9
  walk_at "v"
  refine ⟨sz2, fun t2 ht2 => ?_⟩
  obtain ⟨H10, q, K10, e10⟩ := nob (.tup [.ref q1, .ref q2]) ht2; rw [q]; clear q
  walk_at "v"
  refine ZW (d := .tuple [ptD d1, ptD d2]) (.tup e10 (.cons ((PotF.tk F18 TK9).same K10).rd (.cons ((PotF.tk F28 TK9).same K10).rd .nil))) sh2 (by decide) (by decide) ?_
  rw [hkx]
  walk_at "v"
  refine ⟨rfl, ?_⟩
  walk_at "v"
  refine Yk rfl ?_
  exact ⟨_, _, _, _, _, _, _, rfl, (T9.same K10).up (by show 400 * j + 340 + 3 ≤ _; omega)⟩
 ·rintro σ H2 ⟨u2, u3, u4, u5, u6, u7, u8, rfl, T2⟩
  walk_at "v"
  exact k _
end
end K52
namespace K52
open PySem L2 G2
theorem all_mk {l : W.OpenLaw} {w : World} {K : W.Frag} {h : Heap} {mg : Str → Option Value} {fa f1 f2 f3 f4 f5 f6 f7 f8 f9 f10 f11 f12 f13 f14 f15 f16 f17 f18 f19 f20 f21 f22 f23 f24 : Addr} (X : K.In h) (G : h.Ns mainGlobals mg) (hfa : mg "law" = some (.ref fa))
  {od1 an1 od2 an2 od3 an3 od4 an4 od5 an5 od6 an6 od7 an7 od8 an8 od9 an9 od10 an10 od11 an11 od12 an12 od13 an13 od14 an14 od15 an15 od16 an16 od17 an17 od18 an18 od19 an19 od20 an20 od21 an21 od22 an22 od23 an23 od24 an24 : Option Addr} {sl1 sl2 sl3 sl4 sl5 sl6 sl7 sl8 sl9 sl10 sl11 sl12 sl13 sl14 sl15 sl16 sl17 sl18 sl19 sl20 sl21 sl22 sl23 sl24 : Array (Option Value)} {oc1 kV1 dc1 pm1 cd1 ct1 oc2 kV2 dc2 pm2 cd2 ct2 oc3 kV3 dc3 pm3 cd3 ct3 oc4 kV4 dc4 pm4 cd4 ct4 oc5 kV5 dc5 pm5 cd5 ct5 oc6 kV6 dc6 pm6 cd6 ct6 oc7 kV7 dc7 pm7 cd7 ct7 oc8 kV8 dc8 pm8 cd8 ct8 oc9 kV9 dc9 pm9 cd9 ct9 oc10 kV10 dc10 pm10 cd10 ct10 oc11 kV11 dc11 pm11 cd11 ct11 oc12 kV12 dc12 pm12 cd12 ct12 oc13 kV13 dc13 pm13 cd13 ct13 oc14 kV14 dc14 pm14 cd14 ct14 oc15 kV15 dc15 pm15 cd15 ct15 oc16 kV16 dc16 pm16 cd16 ct16 oc17 kV17 dc17 pm17 cd17 ct17 oc18 kV18 dc18 pm18 cd18 ct18 oc19 kV19 dc19 pm19 cd19 ct19 oc20 kV20 dc20 pm20 cd20 ct20 oc21 kV21 dc21 pm21 cd21 ct21 oc22 kV22 dc22 pm22 cd22 ct22 oc23 kV23 dc23 pm23 cd23 ct23 oc24 kV24 dc24 pm24 cd24 ct24 : Value} {t1 t2 t3 t4 t5 t6 t7 t8 t9 t10 t11 t12 t13 t14 : Tok}
  {x0 xN0 x1 xN1 x2 xN2 x3 xN3 x4 xN4 x5 xN5 x6 xN6 x7 xN7 x8 xN8 : Addr} {xm0 xq0 xm1 xq1 xm2 xq2 xm3 xq3 xm4 xq4 xm5 xq5 xm6 xq6 xm7 xq7 xm8 xq8 : Str} {xb0 xu0 xb1 xu1 xb2 xu2 xb3 xu3 xb4 xu4 xb5 xu5 xb6 xu6 xb7 xu7 xb8 xu8 : List Value} {xn0 xn1 xn2 xn3 xn4 xn5 xn6 xn7 xn8 : List Str} {xh0 xh1 xh2 xh3 xh4 xh5 xh6 xh7 xh8 : Bool} {xo0 xo1 xo2 xo3 xo4 xo5 xo6 xo7 xo8 : Option Bool} {xd0 xd1 xd2 xd3 xd4 xd5 xd6 xd7 xd8 : Option Addr} {xk0_0 xk0_1 xk0_2 xk0_3 xk0_5 xk1_0 xk1_1 xk1_2 xk1_3 xk1_5 xk2_0 xk2_1 xk2_2 xk2_3 xk2_5 xk3_0 xk3_1 xk3_2 xk3_3 xk3_5 xk4_0 xk4_1 xk4_2 xk4_3 xk4_5 xk5_0 xk5_1 xk5_2 xk5_3 xk5_5 xk6_0 xk6_1 xk6_2 xk6_3 xk6_5 xk7_0 xk7_1 xk7_2 xk7_3 xk7_5 xk8_0 xk8_1 xk8_2 xk8_3 xk8_5 : Option Value}
  {i1 : Addr} {id1 ia1 : Option Addr} {is1 : Array (Option Value)} {ic1 iV1 iD1 ip1 iC1 iT1 : Value}
  (a1 : W.nsIn K mainGlobals "_law_feed" = some (some (.ref f1))) (l1 : K.lookup f1 = some ⟨oc1, od1, .func (W.fnOf "_law_feed" "_law_feed" (zG vb) (zu vb) (zk vb) .none kV1 dc1 pm1 an1 cd1 ct1), sl1⟩) (c1 : W.codeIn K cd1 "_law_feed" = true) (k1 : W.keepIn K (.ref f1) = true)
  (a2 : W.nsIn K mainGlobals "_law_draw" = some (some (.ref f2))) (l2 : K.lookup f2 = some ⟨oc2, od2, .func (W.fnOf "_law_draw" "_law_draw" (zG vc) (zu vc) (zk vc) .none kV2 dc2 pm2 an2 cd2 ct2), sl2⟩) (c2 : W.codeIn K cd2 "_law_draw" = true) (k2 : W.keepIn K (.ref f2) = true)
  (a3 : W.nsIn K mainGlobals "_law_row" = some (some (.ref f3))) (l3 : K.lookup f3 = some ⟨oc3, od3, .func (W.fnOf "_law_row" "_law_row" (zG sRow) (zu sRow) (zk sRow) .none kV3 dc3 pm3 an3 cd3 ct3), sl3⟩) (c3 : W.codeIn K cd3 "_law_row" = true) (k3 : W.keepIn K (.ref f3) = true)
  (a4 : W.nsIn K mainGlobals "_law_rule" = some (some (.ref f4))) (l4 : K.lookup f4 = some ⟨oc4, od4, .func (W.fnOf "_law_rule" "_law_rule" (zG xu) (zu xu) (zk xu) .none kV4 dc4 pm4 an4 cd4 ct4), sl4⟩) (c4 : W.codeIn K cd4 "_law_rule" = true) (k4 : W.keepIn K (.ref f4) = true)
  (a5 : W.nsIn K mainGlobals "_law_names" = some (some (.ref f5))) (l5 : K.lookup f5 = some ⟨oc5, od5, .func (W.fnOf "_law_names" "_law_names" (zG xO) (zu xO) (zk xO) .none kV5 dc5 pm5 an5 cd5 ct5), sl5⟩) (c5 : W.codeIn K cd5 "_law_names" = true) (k5 : W.keepIn K (.ref f5) = true)
  (a6 : W.nsIn K mainGlobals "_law_drawn" = some (some (.ref f6))) (l6 : K.lookup f6 = some ⟨oc6, od6, .func (W.fnOf "_law_drawn" "_law_drawn" (zG yJ) (zu yJ) (zk yJ) .none kV6 dc6 pm6 an6 cd6 ct6), sl6⟩) (c6 : W.codeIn K cd6 "_law_drawn" = true) (k6 : W.keepIn K (.ref f6) = true)
  (a7 : W.nsIn K mainGlobals "_law_line" = some (some (.ref f7))) (l7 : K.lookup f7 = some ⟨oc7, od7, .func (W.fnOf "_law_line" "_law_line" (zG wc) (zu wc) (zk wc) .none kV7 dc7 pm7 an7 cd7 ct7), sl7⟩) (c7 : W.codeIn K cd7 "_law_line" = true) (k7 : W.keepIn K (.ref f7) = true)
  (a8 : W.nsIn K mainGlobals "_law_ask" = some (some (.ref f8))) (l8 : K.lookup f8 = some ⟨oc8, od8, .func (W.fnOf "_law_ask" "_law_ask" (zG sAsk) (zu sAsk) (zk sAsk) .none kV8 dc8 pm8 an8 cd8 ct8), sl8⟩) (c8 : W.codeIn K cd8 "_law_ask" = true) (k8 : W.keepIn K (.ref f8) = true)
  (a9 : W.nsIn K mainGlobals "_law_shaped" = some (some (.ref f9))) (l9 : K.lookup f9 = some ⟨oc9, od9, .func (W.fnOf "_law_shaped" "_law_shaped" (zG sShp) (zu sShp) (zk sShp) .none kV9 dc9 pm9 an9 cd9 ct9), sl9⟩) (c9 : W.codeIn K cd9 "_law_shaped" = true) (k9 : W.keepIn K (.ref f9) = true)
  (a10 : W.nsIn K mainGlobals "_law_bent" = some (some (.ref f10))) (l10 : K.lookup f10 = some ⟨oc10, od10, .func (W.fnOf "_law_bent" "_law_bent" (zG sBe) (zu sBe) (zk sBe) .none kV10 dc10 pm10 an10 cd10 ct10), sl10⟩) (c10 : W.codeIn K cd10 "_law_bent" = true) (k10 : W.keepIn K (.ref f10) = true)
  (a11 : W.nsIn K mainGlobals "_law_pot" = some (some (.ref f11))) (l11 : K.lookup f11 = some ⟨oc11, od11, .func (W.fnOf "_law_pot" "_law_pot" (zG sPo) (zu sPo) (zk sPo) .none kV11 dc11 pm11 an11 cd11 ct11), sl11⟩) (c11 : W.codeIn K cd11 "_law_pot" = true) (k11 : W.keepIn K (.ref f11) = true)
  (a12 : W.nsIn K mainGlobals "first_taker" = some (some (.ref f12))) (l12 : K.lookup f12 = some ⟨oc12, od12, .func (W.fnOf "first_taker" "first_taker" (zG sTk) (zu sTk) (zk sTk) .none kV12 dc12 pm12 an12 cd12 ct12), sl12⟩) (c12 : W.codeIn K cd12 "first_taker" = true) (k12 : W.keepIn K (.ref f12) = true)
  (a13 : W.nsIn K mainGlobals "noughts" = some (some (.ref f13))) (l13 : K.lookup f13 = some ⟨oc13, od13, .func (W.fnOf "noughts" "noughts" (zG sNg) (zu sNg) (zk sNg) .none kV13 dc13 pm13 an13 cd13 ct13), sl13⟩) (c13 : W.codeIn K cd13 "noughts" = true) (k13 : W.keepIn K (.ref f13) = true)
  (a14 : W.nsIn K mainGlobals "called_by" = some (some (.ref f14))) (l14 : K.lookup f14 = some ⟨oc14, od14, .func (W.fnOf "called_by" "called_by" (zG sCb) (zu sCb) (zk sCb) .none kV14 dc14 pm14 an14 cd14 ct14), sl14⟩) (c14 : W.codeIn K cd14 "called_by" = true) (k14 : W.keepIn K (.ref f14) = true)
  (a15 : W.nsIn K mainGlobals "places_of" = some (some (.ref f15))) (l15 : K.lookup f15 = some ⟨oc15, od15, .func (W.fnOf "places_of" "places_of" (zG sPo2) (zu sPo2) (zk sPo2) .none kV15 dc15 pm15 an15 cd15 ct15), sl15⟩) (c15 : W.codeIn K cd15 "places_of" = true) (k15 : W.keepIn K (.ref f15) = true)
  (a16 : W.nsIn K mainGlobals "laid" = some (some (.ref f16))) (l16 : K.lookup f16 = some ⟨oc16, od16, .func (W.fnOf "laid" "laid" (zG sLd) (zu sLd) (zk sLd) .none kV16 dc16 pm16 an16 cd16 ct16), sl16⟩) (c16 : W.codeIn K cd16 "laid" = true) (k16 : W.keepIn K (.ref f16) = true)
  (a17 : W.nsIn K mainGlobals "rules_laid" = some (some (.ref f17))) (l17 : K.lookup f17 = some ⟨oc17, od17, .func (W.fnOf "rules_laid" "rules_laid" (zG sRla) (zu sRla) (zk sRla) .none kV17 dc17 pm17 an17 cd17 ct17), sl17⟩) (c17 : W.codeIn K cd17 "rules_laid" = true) (k17 : W.keepIn K (.ref f17) = true)
  (a18 : W.nsIn K mainGlobals "look_at_bounds" = some (some (.ref f18))) (l18 : K.lookup f18 = some ⟨oc18, od18, .func (W.fnOf "look_at_bounds" "look_at_bounds" (zG sLb) (zu sLb) (zk sLb) .none kV18 dc18 pm18 an18 cd18 ct18), sl18⟩) (c18 : W.codeIn K cd18 "look_at_bounds" = true) (k18 : W.keepIn K (.ref f18) = true)
  (a19 : W.nsIn K mainGlobals "put_together" = some (some (.ref f19))) (l19 : K.lookup f19 = some ⟨oc19, od19, .func (W.fnOf "put_together" "put_together" (zG sPt) (zu sPt) (zk sPt) .none kV19 dc19 pm19 an19 cd19 ct19), sl19⟩) (c19 : W.codeIn K cd19 "put_together" = true) (k19 : W.keepIn K (.ref f19) = true)
  (a20 : W.nsIn K mainGlobals "_law_is_taken" = some (some (.ref f20))) (l20 : K.lookup f20 = some ⟨oc20, od20, .func (W.fnOf "_law_is_taken" "_law_is_taken" (zG sIt) (zu sIt) (zk sIt) .none kV20 dc20 pm20 an20 cd20 ct20), sl20⟩) (c20 : W.codeIn K cd20 "_law_is_taken" = true) (k20 : W.keepIn K (.ref f20) = true)
  (a21 : W.nsIn K mainGlobals "_law_joined" = some (some (.ref f21))) (l21 : K.lookup f21 = some ⟨oc21, od21, .func (W.fnOf "_law_joined" "_law_joined" (zG sJd) (zu sJd) (zk sJd) .none kV21 dc21 pm21 an21 cd21 ct21), sl21⟩) (c21 : W.codeIn K cd21 "_law_joined" = true) (k21 : W.keepIn K (.ref f21) = true)
  (a22 : W.nsIn K mainGlobals "_law_told_join" = some (some (.ref f22))) (l22 : K.lookup f22 = some ⟨oc22, od22, .func (W.fnOf "_law_told_join" "_law_told_join" (zG sTj) (zu sTj) (zk sTj) .none kV22 dc22 pm22 an22 cd22 ct22), sl22⟩) (c22 : W.codeIn K cd22 "_law_told_join" = true) (k22 : W.keepIn K (.ref f22) = true)
  (a23 : W.nsIn K mainGlobals "_law_great" = some (some (.ref f23))) (l23 : K.lookup f23 = some ⟨oc23, od23, .func (W.fnOf "_law_great" "_law_great" (zG sGr) (zu sGr) (zk sGr) .none kV23 dc23 pm23 an23 cd23 ct23), sl23⟩) (c23 : W.codeIn K cd23 "_law_great" = true) (k23 : W.keepIn K (.ref f23) = true)
  (a24 : W.nsIn K mainGlobals "law" = some (some (.ref f24))) (l24 : K.lookup f24 = some ⟨oc24, od24, .func (W.fnOf "law" "law" (zG sLaw) (zu sLaw) (zk sLaw) .none kV24 dc24 pm24 an24 cd24 ct24), sl24⟩) (c24 : W.codeIn K cd24 "law" = true) (k24 : W.keepIn K (.ref f24) = true)
  (z1 : W.nsIn K mainGlobals "len" = some none) (z2 : W.nsIn K mainGlobals "range" = some none) (z3 : W.nsIn K mainGlobals "tuple" = some none) (z4 : W.nsIn K mainGlobals "int" = some none) (z5 : W.nsIn K mainGlobals "bool" = some none) (z6 : W.nsIn K mainGlobals "list" = some none) (z7 : W.nsIn K mainGlobals "str" = some none) (z8 : W.nsIn K mainGlobals "all" = some none) (z9 : W.nsIn K mainGlobals "any" = some none) (z10 : W.nsIn K mainGlobals "isinstance" = some none) (z11 : W.nsIn K mainGlobals "repr" = some none) (z12 : W.nsIn K mainGlobals "zip" = some none) (z13 : W.nsIn K mainGlobals "min" = some none) (z14 : W.nsIn K mainGlobals "max" = some none) (z15 : W.nsIn K mainGlobals "sum" = some none) (z16 : W.nsIn K mainGlobals "enumerate" = some none) (z17 : W.nsIn K mainGlobals "sorted" = some none) (z18 : W.nsIn K mainGlobals "set" = some none) (z19 : W.nsIn K mainGlobals "dict" = some none) (z20 : W.nsIn K mainGlobals "abs" = some none) (z21 : W.nsIn K mainGlobals "ValueError" = some none)
  (g1 : W.nsIn K mainGlobals "SORTS" = some (some (.int (0) t1))) (g2 : W.nsIn K mainGlobals "RULES" = some (some (.int (1) t2))) (g3 : W.nsIn K mainGlobals "INPUTS" = some (some (.int (2) t3))) (g4 : W.nsIn K mainGlobals "BEGIN" = some (some (.int (3) t4))) (g5 : W.nsIn K mainGlobals "ANSWER" = some (some (.int (4) t5))) (g6 : W.nsIn K mainGlobals "TAKES" = some (some (.int (0) t6))) (g7 : W.nsIn K mainGlobals "GIVES" = some (some (.int (1) t7))) (g8 : W.nsIn K mainGlobals "MOST_SORTS" = some (some (.int (8) t8))) (g9 : W.nsIn K mainGlobals "MOST_RULES" = some (some (.int (8) t9))) (g10 : W.nsIn K mainGlobals "MOST_INPUTS" = some (some (.int (3) t10))) (g11 : W.nsIn K mainGlobals "MOST_BEGIN" = some (some (.int (99) t11))) (g12 : W.nsIn K mainGlobals "LETTERS" = some (some (.str "abcdefghijklmnopqrstuvwxyz" t12))) (g13 : W.nsIn K mainGlobals "ONE_LETTER" = some (some (.str "p" t13))) (g14 : W.nsIn K mainGlobals "OTHER_LETTER" = some (some (.str "q" t14)))
  (xa0 : W.nsIn K mainGlobals "DropError" = some (some (.ref x0))) (xl0 : K.lookup x0 = some (excClassObj xm0 xq0 x0 xN0 xb0 bmV true xn0 xu0 xh0 xo0 xd0 xk0_0 xk0_1 xk0_2 xk0_3 xk0_5 "ValueError.__new__"))
  (xa1 : W.nsIn K mainGlobals "NoJoin" = some (some (.ref x1))) (xl1 : K.lookup x1 = some (excClassObj xm1 xq1 x1 xN1 xb1 (.ref x0 :: bmV) true xn1 xu1 xh1 xo1 xd1 xk1_0 xk1_1 xk1_2 xk1_3 xk1_5 "ValueError.__new__"))
  (xa2 : W.nsIn K mainGlobals "NoAsk" = some (some (.ref x2))) (xl2 : K.lookup x2 = some (excClassObj xm2 xq2 x2 xN2 xb2 (.ref x0 :: bmV) true xn2 xu2 xh2 xo2 xd2 xk2_0 xk2_1 xk2_2 xk2_3 xk2_5 "ValueError.__new__"))
  (xa3 : W.nsIn K mainGlobals "NoFault" = some (some (.ref x3))) (xl3 : K.lookup x3 = some (excClassObj xm3 xq3 x3 xN3 xb3 (.ref x0 :: bmV) true xn3 xu3 xh3 xo3 xd3 xk3_0 xk3_1 xk3_2 xk3_3 xk3_5 "ValueError.__new__"))
  (xa4 : W.nsIn K mainGlobals "NoLines" = some (some (.ref x4))) (xl4 : K.lookup x4 = some (excClassObj xm4 xq4 x4 xN4 xb4 (.ref x0 :: bmV) true xn4 xu4 xh4 xo4 xd4 xk4_0 xk4_1 xk4_2 xk4_3 xk4_5 "ValueError.__new__"))
  (xa5 : W.nsIn K mainGlobals "NoPaper" = some (some (.ref x5))) (xl5 : K.lookup x5 = some (excClassObj xm5 xq5 x5 xN5 xb5 (.ref x0 :: bmV) true xn5 xu5 xh5 xo5 xd5 xk5_0 xk5_1 xk5_2 xk5_3 xk5_5 "ValueError.__new__"))
  (xa6 : W.nsIn K mainGlobals "NoPot" = some (some (.ref x6))) (xl6 : K.lookup x6 = some (excClassObj xm6 xq6 x6 xN6 xb6 (.ref x0 :: bmV) true xn6 xu6 xh6 xo6 xd6 xk6_0 xk6_1 xk6_2 xk6_3 xk6_5 "ValueError.__new__"))
  (xa7 : W.nsIn K mainGlobals "NoRow" = some (some (.ref x7))) (xl7 : K.lookup x7 = some (excClassObj xm7 xq7 x7 xN7 xb7 (.ref x0 :: bmV) true xn7 xu7 xh7 xo7 xd7 xk7_0 xk7_1 xk7_2 xk7_3 xk7_5 "ValueError.__new__"))
  (xa8 : W.nsIn K mainGlobals "NoStep" = some (some (.ref x8))) (xl8 : K.lookup x8 = some (excClassObj xm8 xq8 x8 xN8 xb8 (.ref x0 :: bmV) true xn8 xu8 xh8 xo8 xd8 xk8_0 xk8_1 xk8_2 xk8_3 xk8_5 "ValueError.__new__"))
  (xg1 : W.findIn K (.ref x1) "__getattribute__" = some (some (.builtin "BaseException.__getattribute__"))) (xt1 : W.findIn K (.ref x1) "__getattr__" = some none) (xs1 : W.findIn K (.ref x1) "__setattr__" = some (some (.builtin "object.__setattr__"))) (xc1 : W.findIn K (.ref x1) "__class__" = some (some (.builtin "object.__class__")))
  (xg2 : W.findIn K (.ref x2) "__getattribute__" = some (some (.builtin "BaseException.__getattribute__"))) (xt2 : W.findIn K (.ref x2) "__getattr__" = some none) (xs2 : W.findIn K (.ref x2) "__setattr__" = some (some (.builtin "object.__setattr__"))) (xc2 : W.findIn K (.ref x2) "__class__" = some (some (.builtin "object.__class__")))
  (xg3 : W.findIn K (.ref x3) "__getattribute__" = some (some (.builtin "BaseException.__getattribute__"))) (xt3 : W.findIn K (.ref x3) "__getattr__" = some none) (xs3 : W.findIn K (.ref x3) "__setattr__" = some (some (.builtin "object.__setattr__"))) (xc3 : W.findIn K (.ref x3) "__class__" = some (some (.builtin "object.__class__")))
  (xg4 : W.findIn K (.ref x4) "__getattribute__" = some (some (.builtin "BaseException.__getattribute__"))) (xt4 : W.findIn K (.ref x4) "__getattr__" = some none) (xs4 : W.findIn K (.ref x4) "__setattr__" = some (some (.builtin "object.__setattr__"))) (xc4 : W.findIn K (.ref x4) "__class__" = some (some (.builtin "object.__class__")))
  (xg5 : W.findIn K (.ref x5) "__getattribute__" = some (some (.builtin "BaseException.__getattribute__"))) (xt5 : W.findIn K (.ref x5) "__getattr__" = some none) (xs5 : W.findIn K (.ref x5) "__setattr__" = some (some (.builtin "object.__setattr__"))) (xc5 : W.findIn K (.ref x5) "__class__" = some (some (.builtin "object.__class__")))
  (xg6 : W.findIn K (.ref x6) "__getattribute__" = some (some (.builtin "BaseException.__getattribute__"))) (xt6 : W.findIn K (.ref x6) "__getattr__" = some none) (xs6 : W.findIn K (.ref x6) "__setattr__" = some (some (.builtin "object.__setattr__"))) (xc6 : W.findIn K (.ref x6) "__class__" = some (some (.builtin "object.__class__")))
  (xg7 : W.findIn K (.ref x7) "__getattribute__" = some (some (.builtin "BaseException.__getattribute__"))) (xt7 : W.findIn K (.ref x7) "__getattr__" = some none) (xs7 : W.findIn K (.ref x7) "__setattr__" = some (some (.builtin "object.__setattr__"))) (xc7 : W.findIn K (.ref x7) "__class__" = some (some (.builtin "object.__class__")))
  (xg8 : W.findIn K (.ref x8) "__getattribute__" = some (some (.builtin "BaseException.__getattribute__"))) (xt8 : W.findIn K (.ref x8) "__getattr__" = some none) (xs8 : W.findIn K (.ref x8) "__setattr__" = some (some (.builtin "object.__setattr__"))) (xc8 : W.findIn K (.ref x8) "__class__" = some (some (.builtin "object.__class__")))
  (xsg : W.specialIn K (.builtin "object.__class__") "__get__" = some (some (.builtin "getset_descriptor.__get__"))) (xtk : W.takesIn K (.builtin "object.__class__") = some true) (xnd : [x0, x1, x2, x3, x4, x5, x6, x7, x8].Nodup)
  (ii1 : W.findIn K (.ref x1) "__init__" = some (some (.ref i1))) (il1 : K.lookup i1 = some ⟨ic1, id1, .func (W.fnOf "__init__" "NoJoin.__init__" (zG sINj) (zu sINj) (zk sINj) .none iV1 iD1 ip1 ia1 iC1 iT1), is1⟩) (ie1 : W.codeIn K iC1 "NoJoin.__init__" = true) (if1 : W.isFn K (.ref i1) = true) (ik1 : W.keepIn K (.ref i1) = true) (im1 : W.keepIn K (.ref x1) = true) (iq1_0 : W.findIn K (.ref x1) "word" = some none) (iq1_1 : W.findIn K (.ref x1) "at" = some none) :
  ∃ fd : FuncData, (∀ (s : Shared) (v : Value), BindsTo s fd ⟨[v], []⟩ [("_law_script", v)]) ∧ ∀ base : Heap, K.In base → base.Ns mainGlobals mg → FnOk l.prog w K mg base CX0 6 fa fd ["_law_script"] (Z3 K) := by
 have e := hfa.symm.trans (W.mg_of X G a24)
 cases e
 have F1 := zW (st := vb) l1 c1 k1
 have b1 := F1.binds (ps := ["_law_script"]) fun _ _ _ _ _ _ us hl => match us, hl with | [_], _ => rfl
 have m1 := W.mg_of X G a1
 have F2 := zW (st := vc) l2 c2 k2
 have b2 := F2.binds (ps := ["_law_feed_here", "_law_many"]) fun _ _ _ _ _ _ us hl => match us, hl with | [_, _], _ => rfl
 have m2 := W.mg_of X G a2
 have F3 := zW (st := sRow) l3 c3 k3
 have b3 := F3.binds (ps := ["_law_feed_here", "_law_many", "_law_sides"]) fun _ _ _ _ _ _ us hl => match us, hl with | [_, _, _], _ => rfl
 have m3 := W.mg_of X G a3
 have F4 := zW (st := xu) l4 c4 k4
 have b4 := F4.binds (ps := ["_law_feed_here", "_law_many"]) fun _ _ _ _ _ _ us hl => match us, hl with | [_, _], _ => rfl
 have m4 := W.mg_of X G a4
 have F5 := zW (st := xO) l5 c5 k5
 have b5 := F5.binds (ps := ["_law_feed_here", "_law_many"]) fun _ _ _ _ _ _ us hl => match us, hl with | [_, _], _ => rfl
 have m5 := W.mg_of X G a5
 have F6 := zW (st := yJ) l6 c6 k6
 have b6 := F6.binds (ps := ["_law_feed_here", "_law_most"]) fun _ _ _ _ _ _ us hl => match us, hl with | [_, _], _ => rfl
 have m6 := W.mg_of X G a6
 have F7 := zW (st := wc) l7 c7 k7
 have b7 := F7.binds (ps := ["_law_feed_here", "_law_many", "_law_most"]) fun _ _ _ _ _ _ us hl => match us, hl with | [_, _, _], _ => rfl
 have m7 := W.mg_of X G a7
 have F8 := zW (st := sAsk) l8 c8 k8
 have b8 := F8.binds (ps := ["_law_feed_here", "_law_many", "_law_most"]) fun _ _ _ _ _ _ us hl => match us, hl with | [_, _, _], _ => rfl
 have m8 := W.mg_of X G a8
 have F9 := zW (st := sShp) l9 c9 k9
 have b9 := F9.binds (ps := ["_law_ask_here"]) fun _ _ _ _ _ _ us hl => match us, hl with | [_], _ => rfl
 have m9 := W.mg_of X G a9
 have F10 := zW (st := sBe) l10 c10 k10
 have b10 := F10.binds (ps := ["_law_feed_here", "_law_rules", "_law_begin"]) fun _ _ _ _ _ _ us hl => match us, hl with | [_, _, _], _ => rfl
 have m10 := W.mg_of X G a10
 have F11 := zW (st := sPo) l11 c11 k11
 have b11 := F11.binds (ps := ["_law_feed_here"]) fun _ _ _ _ _ _ us hl => match us, hl with | [_], _ => rfl
 have m11 := W.mg_of X G a11
 have F12 := zW (st := sTk) l12 c12 k12
 have b12 := F12.binds (ps := ["pot"]) fun _ _ _ _ _ _ us hl => match us, hl with | [_], _ => rfl
 have m12 := W.mg_of X G a12
 have F13 := zW (st := sNg) l13 c13 k13
 have b13 := F13.binds (ps := ["things"]) fun _ _ _ _ _ _ us hl => match us, hl with | [_], _ => rfl
 have m13 := W.mg_of X G a13
 have F14 := zW (st := sCb) l14 c14 k14
 have b14 := F14.binds (ps := ["letter", "many"]) fun _ _ _ _ _ _ us hl => match us, hl with | [_, _], _ => rfl
 have m14 := W.mg_of X G a14
 have F15 := zW (st := sPo2) l15 c15 k15
 have b15 := F15.binds (ps := ["one", "other", "k"]) fun _ _ _ _ _ _ us hl => match us, hl with | [_, _, _], _ => rfl
 have m15 := W.mg_of X G a15
 have F16 := zW (st := sLd) l16 c16 k16
 have b16 := F16.binds (ps := ["counts", "places", "more"]) fun _ _ _ _ _ _ us hl => match us, hl with | [_, _, _], _ => rfl
 have m16 := W.mg_of X G a16
 have F17 := zW (st := sRla) l17 c17 k17
 have b17 := F17.binds (ps := ["none", "places", "rules"]) fun _ _ _ _ _ _ us hl => match us, hl with | [_, _, _], _ => rfl
 have m17 := W.mg_of X G a17
 have F18 := zW (st := sLb) l18 c18 k18
 have b18 := F18.binds (ps := ["pot"]) fun _ _ _ _ _ _ us hl => match us, hl with | [_], _ => rfl
 have m18 := W.mg_of X G a18
 have F19 := zW (st := sPt) l19 c19 k19
 have b19 := F19.binds (ps := ["one", "other", "k"]) fun _ _ _ _ _ _ us hl => match us, hl with | [_, _, _], _ => rfl
 have m19 := W.mg_of X G a19
 have F20 := zW (st := sIt) l20 c20 k20
 have b20 := F20.binds (ps := ["_law_pot_here"]) fun _ _ _ _ _ _ us hl => match us, hl with | [_], _ => rfl
 have m20 := W.mg_of X G a20
 have F21 := zW (st := sJd) l21 c21 k21
 have b21 := F21.binds (ps := ["_law_one", "_law_other", "_law_k"]) fun _ _ _ _ _ _ us hl => match us, hl with | [_, _, _], _ => rfl
 have m21 := W.mg_of X G a21
 have F22 := zW (st := sTj) l22 c22 k22
 have b22 := F22.binds (ps := ["_law_one", "_law_other", "_law_k"]) fun _ _ _ _ _ _ us hl => match us, hl with | [_, _, _], _ => rfl
 have m22 := W.mg_of X G a22
 have F23 := zW (st := sGr) l23 c23 k23
 have b23 := F23.binds (ps := ["_law_feed_here", "_law_pot_here"]) fun _ _ _ _ _ _ us hl => match us, hl with | [_, _], _ => rfl
 have m23 := W.mg_of X G a23
 have F24 := zW (st := sLaw) l24 c24 k24
 have y1 := W.mg_none_of X G z1
 have y2 := W.mg_none_of X G z2
 have y3 := W.mg_none_of X G z3
 have y4 := W.mg_none_of X G z4
 have y5 := W.mg_none_of X G z5
 have y6 := W.mg_none_of X G z6
 have y7 := W.mg_none_of X G z7
 have y8 := W.mg_none_of X G z8
 have y9 := W.mg_none_of X G z9
 have y10 := W.mg_none_of X G z10
 have y11 := W.mg_none_of X G z11
 have y12 := W.mg_none_of X G z12
 have y13 := W.mg_none_of X G z13
 have y14 := W.mg_none_of X G z14
 have y15 := W.mg_none_of X G z15
 have y16 := W.mg_none_of X G z16
 have y17 := W.mg_none_of X G z17
 have y18 := W.mg_none_of X G z18
 have y19 := W.mg_none_of X G z19
 have y20 := W.mg_none_of X G z20
 have y21 := W.mg_none_of X G z21
 have XC0 : XC K x0 bmV := ⟨⟨_, _, _, _, _, _, _, _, _, _, _, _, _, _, xl0⟩, .base⟩
 have XC1 : XC K x1 (.ref x0 :: bmV) := ⟨⟨_, _, _, _, _, _, _, _, _, _, _, _, _, _, xl1⟩, .own _ .base⟩
 have XC2 : XC K x2 (.ref x0 :: bmV) := ⟨⟨_, _, _, _, _, _, _, _, _, _, _, _, _, _, xl2⟩, .own _ .base⟩
 have XC3 : XC K x3 (.ref x0 :: bmV) := ⟨⟨_, _, _, _, _, _, _, _, _, _, _, _, _, _, xl3⟩, .own _ .base⟩
 have XC4 : XC K x4 (.ref x0 :: bmV) := ⟨⟨_, _, _, _, _, _, _, _, _, _, _, _, _, _, xl4⟩, .own _ .base⟩
 have XC5 : XC K x5 (.ref x0 :: bmV) := ⟨⟨_, _, _, _, _, _, _, _, _, _, _, _, _, _, xl5⟩, .own _ .base⟩
 have XC6 : XC K x6 (.ref x0 :: bmV) := ⟨⟨_, _, _, _, _, _, _, _, _, _, _, _, _, _, xl6⟩, .own _ .base⟩
 have XC7 : XC K x7 (.ref x0 :: bmV) := ⟨⟨_, _, _, _, _, _, _, _, _, _, _, _, _, _, xl7⟩, .own _ .base⟩
 have XC8 : XC K x8 (.ref x0 :: bmV) := ⟨⟨_, _, _, _, _, _, _, _, _, _, _, _, _, _, xl8⟩, .own _ .base⟩
 have XA1 : XA K x1 := ⟨⟨_, XC1⟩, xg1, xt1, xs1, xc1, xsg, xtk⟩
 have XA2 : XA K x2 := ⟨⟨_, XC2⟩, xg2, xt2, xs2, xc2, xsg, xtk⟩
 have XA3 : XA K x3 := ⟨⟨_, XC3⟩, xg3, xt3, xs3, xc3, xsg, xtk⟩
 have XA4 : XA K x4 := ⟨⟨_, XC4⟩, xg4, xt4, xs4, xc4, xsg, xtk⟩
 have XA5 : XA K x5 := ⟨⟨_, XC5⟩, xg5, xt5, xs5, xc5, xsg, xtk⟩
 have XA6 : XA K x6 := ⟨⟨_, XC6⟩, xg6, xt6, xs6, xc6, xsg, xtk⟩
 have XA7 : XA K x7 := ⟨⟨_, XC7⟩, xg7, xt7, xs7, xc7, xsg, xtk⟩
 have XA8 : XA K x8 := ⟨⟨_, XC8⟩, xg8, xt8, xs8, xc8, xsg, xtk⟩
 have U : XUni K mg x0 [("NoJoin", x1), ("NoAsk", x2), ("NoFault", x3), ("NoLines", x4), ("NoPaper", x5), ("NoPot", x6), ("NoRow", x7), ("NoStep", x8)] := ⟨XC0, W.mg_of X G xa0, fun c hc => ?_, by simpa using xnd⟩
 rotate_left
 ·simp only [List.mem_cons, List.not_mem_nil, or_false] at hc
  rcases hc with rfl | rfl | rfl | rfl | rfl | rfl | rfl | rfl
  ·exact ⟨W.mg_of X G xa1, XC1, XA1⟩
  ·exact ⟨W.mg_of X G xa2, XC2, XA2⟩
  ·exact ⟨W.mg_of X G xa3, XC3, XA3⟩
  ·exact ⟨W.mg_of X G xa4, XC4, XA4⟩
  ·exact ⟨W.mg_of X G xa5, XC5, XA5⟩
  ·exact ⟨W.mg_of X G xa6, XC6, XA6⟩
  ·exact ⟨W.mg_of X G xa7, XC7, XA7⟩
  ·exact ⟨W.mg_of X G xa8, XC8, XA8⟩
 have FI1 := zW (st := sINj) il1 ie1 ik1
 have BI1 := FI1.binds (ps := ["self", "word", "at"]) fun _ _ _ _ _ _ us hl => match us, hl with | [_, _, _], _ => rfl
 have B : Blt mg := ⟨y1, y2, y3, y6, y4, y13, y14, y12⟩
 have B2 : Bl mg := ⟨y1, y2, y3, y4, y5, y6, y7, y8, y9, y10, y11, y12, y13, y14, y15, y16, y17, y18, y19, y20⟩
 have Z : PT.KP mg := ⟨⟨_, W.mg_of X G g1⟩, ⟨_, W.mg_of X G g2⟩, ⟨_, W.mg_of X G g3⟩, ⟨_, W.mg_of X G g4⟩, ⟨_, W.mg_of X G g5⟩, ⟨_, W.mg_of X G g6⟩, ⟨_, W.mg_of X G g7⟩⟩
 have J : KJ mg := ⟨⟨_, W.mg_of X G g8⟩, ⟨_, W.mg_of X G g9⟩, ⟨_, W.mg_of X G g10⟩, ⟨_, W.mg_of X G g11⟩, ⟨_, W.mg_of X G g12⟩, ⟨_, W.mg_of X G g13⟩, ⟨_, W.mg_of X G g14⟩⟩
 refine ⟨W.fnOf "law" "law" (zG sLaw) (zu sLaw) (zk sLaw) .none kV24 dc24 pm24 an24 cd24 ct24, fun s v => .of_eq rfl, fun base _ _ => ?_⟩
 have HC1 : HasC l.prog w K mg base 1 "NoJoin" x1 ["self", "word", "at"] (spXi K ["word", "at"]) := ⟨_, _, ⟨ii1, if1, im1, XA1⟩, ok_INj FI1, W.mg_of X G xa1, BI1⟩
 have H1 : Has l.prog w K mg base 1 "_law_feed" ["_law_script"] (ZJ K) := ⟨_, _, ok_Feed B F1, m1, k1, b1⟩
 have H2 : Has l.prog w K mg base 1 "_law_draw" ["_law_feed_here", "_law_many"] yG := ⟨_, _, ok_Draw B F2, m2, k2, b2⟩
 have H3 : Has l.prog w K mg base 2 "_law_row" ["_law_feed_here", "_law_many", "_law_sides"] YB := ⟨_, _, ok_Row B H2 F3, m3, k3, b3⟩
 have H4 : Has l.prog w K mg base 3 "_law_rule" ["_law_feed_here", "_law_many"] ZH := ⟨_, _, ok_Rule B H2 H3 F4, m4, k4, b4⟩
 have H5 : Has l.prog w K mg base 2 "_law_names" ["_law_feed_here", "_law_many"] wF := ⟨_, _, ok_Names B H2 F5, m5, k5, b5⟩
 have H6 : Has l.prog w K mg base 4 "_law_drawn" ["_law_feed_here", "_law_most"] vP := ⟨_, _, ok_Drawn B H2 H5 H4 F6, m6, k6, b6⟩
 have H7 : Has l.prog w K mg base 2 "_law_line" ["_law_feed_here", "_law_many", "_law_most"] ZI := ⟨_, _, ok_Line B H2 F7, m7, k7, b7⟩
 have H8 : Has l.prog w K mg base 3 "_law_ask" ["_law_feed_here", "_law_many", "_law_most"] YE := ⟨_, _, ok_Ask H2 H7 F8, m8, k8, b8⟩
 have H9 : Has l.prog w K mg base 1 "_law_shaped" ["_law_ask_here"] YA := ⟨_, _, ok_Shp F9, m9, k9, b9⟩
 have H10 : Has l.prog w K mg base 2 "_law_bent" ["_law_feed_here", "_law_rules", "_law_begin"] spBe := ⟨_, _, ok_Be B y19 H2 F10, m10, k10, b10⟩
 have H11 : Has l.prog w K mg base 5 "_law_pot" ["_law_feed_here"] spPo := ⟨_, _, ok_Po B H2 H6 H8 H9 H10 H5 F11, m11, k11, b11⟩
 have H12 : Has l.prog w K mg base 1 "first_taker" ["pot"] spTk := ⟨_, _, ok_Tk B2 Z J F12, m12, k12, b12⟩
 have H13 : Has l.prog w K mg base 1 "noughts" ["things"] spNg := ⟨_, _, ok_Ng B2 Z J F13, m13, k13, b13⟩
 have H14 : Has l.prog w K mg base 1 "called_by" ["letter", "many"] spCb := ⟨_, _, ok_Cb B2 Z J F14, m14, k14, b14⟩
 have H15 : Has l.prog w K mg base 1 "places_of" ["one", "other", "k"] YD := ⟨_, _, ok_Po2 B2 Z J F15, m15, k15, b15⟩
 have H16 : Has l.prog w K mg base 1 "laid" ["counts", "places", "more"] spLd := ⟨_, _, ok_Ld B2 Z J F16, m16, k16, b16⟩
 have H17 : Has l.prog w K mg base 2 "rules_laid" ["none", "places", "rules"] YC := ⟨_, _, ok_Rla B2 Z J H16 F17, m17, k17, b17⟩
 have H18 : HasX l.prog w K mg base 3 "look_at_bounds" ["pot"] (spLb x1) := ⟨_, _, ok_Lb B2 Z J HC1 XA1 iq1_0 iq1_1 F18, m18, k18, b18⟩
 have H19 : HasX l.prog w K mg base 4 "put_together" ["one", "other", "k"] (spPt x1) := ⟨_, _, ok_Pt B2 Z J HC1 XA1 iq1_0 iq1_1 H12 H15 H14 H13 H17 H16 H18 F19, m19, k19, b19⟩
 have H20 : Has l.prog w K mg base 1 "_law_is_taken" ["_law_pot_here"] spIt := ⟨_, _, ok_It B2 F20, m20, k20, b20⟩
 have H21 : Has l.prog w K mg base 2 "_law_joined" ["_law_one", "_law_other", "_law_k"] spJd := ⟨_, _, ok_Jd B2 H20 F21, m21, k21, b21⟩
 have H22 : Has l.prog w K mg base 5 "_law_told_join" ["_law_one", "_law_other", "_law_k"] spTj := ⟨_, _, ok_Tj B2 y21 U H19 iq1_0 iq1_1 F22, m22, k22, b22⟩
 have H23 : Has l.prog w K mg base 2 "_law_great" ["_law_feed_here", "_law_pot_here"] spGr := ⟨_, _, ok_Gr B2 H2 F23, m23, k23, b23⟩
 exact ok_Law B2 H1 H2 H11 H23 H22 H21 F24
theorem walk {l : W.OpenLaw} {q : Program} {loose : List Str} {XP : (Str → Option Value) → Heap → Prop} {YP : World → Heap → Prop} {d : DefRec} {K : Params → W.Frag} (hn : l.most = some 63) (hdf : d.params.defaults = [])
  (hY : ∀ (w : World) (h : Heap), YP w h → (K w.params).In h)
  (F : ∀ (w : World) (mg : Str → Option Value) (fa : Addr) (h : Heap), (K w.params).In h → h.Ns mainGlobals mg → mg d.name = some (.ref fa) →
   ∃ fd : FuncData, (∀ (s : Shared) (u : Value), BindsTo s fd ⟨[u], []⟩ [("_law_script", u)]) ∧ ∀ base : Heap, (K w.params).In base → base.Ns mainGlobals mg → FnOk l.prog w (K w.params) mg base CX0 6 fa fd ["_law_script"] (Z3 (K w.params))) :
  W.WalkO q loose XP YP l.row.toRowW d [] (fun f vs => PySem.call f vs) :=
 L2.walk_of (n := 63) (k := 6) (x := "_law_script") (CX := fun _ => CX0) (sp := fun w => Z3 (K w.params)) hn (by decide) hdf ⟨rfl, by decide, by decide, rfl⟩ hY F (fun _ H a ns hl hO hS => ⟨a, ns, rfl, SqF.of hO hS, hl, fun _ => rfl⟩) fun _ _ _ _ _ z => z
end K52
open PySem PySem.W PyProof.Rows
set_option maxRecDepth 100000 in
set_option maxHeartbeats 0 in
theorem PySem.Challenge.cw_dropsums_k52_put_together_holds : PySem.Challenge.rw_dropsums_k52_put_together.Holds := by
 w_on
 refine W.holds_law K52.said0 fun said => ?_
 refine W.holds_open (q := K52.VW) (loose := []) (Xt := fun s => W.xlAt K52.VW [] s && W.recOk (W.RowW.records K52.RR.toRowW) s) (XP := W.XL K52.VW []) (Yf := W.Hook.obs (W.kHook K52.KK K52.KA K52.ke)) (Ya := W.Hook.val (W.kHook K52.KK K52.KA K52.ke)) (YP := W.Hook.says (W.kHook K52.KK K52.KA K52.ke)) (N := 6234) K52.left0 (W.Hook.of _) (W.Hook.keeps _) (fun s e => W.xl_of s (Bool.and_eq_true_iff.mp e).1) W.XL.keeps (by rfl) (by rfl) (by rfl) (fun s e => W.recFacts_of (Bool.and_eq_true_iff.mp e).2) (by rfl) said (by decide +kernel) ⟨rfl, rfl, rfl, rfl, rfl, by decide +kernel⟩ ?hw ?hc
 case hw => w_witness2
 k_fill
 refine K52.walk (l := PySem.Challenge.rw_dropsums_k52_put_together) rfl rfl (fun w h Y => W.kIn_of Y) ?F
 case F =>
  intro w mg fa h KX G hmg
  refine' K52.all_mk KX G hmg ?a1 ?l1 ?c1 ?k1 ?a2 ?l2 ?c2 ?k2 ?a3 ?l3 ?c3 ?k3 ?a4 ?l4 ?c4 ?k4 ?a5 ?l5 ?c5 ?k5 ?a6 ?l6 ?c6 ?k6 ?a7 ?l7 ?c7 ?k7 ?a8 ?l8 ?c8 ?k8 ?a9 ?l9 ?c9 ?k9 ?a10 ?l10 ?c10 ?k10 ?a11 ?l11 ?c11 ?k11 ?a12 ?l12 ?c12 ?k12 ?a13 ?l13 ?c13 ?k13 ?a14 ?l14 ?c14 ?k14 ?a15 ?l15 ?c15 ?k15 ?a16 ?l16 ?c16 ?k16 ?a17 ?l17 ?c17 ?k17 ?a18 ?l18 ?c18 ?k18 ?a19 ?l19 ?c19 ?k19 ?a20 ?l20 ?c20 ?k20 ?a21 ?l21 ?c21 ?k21 ?a22 ?l22 ?c22 ?k22 ?a23 ?l23 ?c23 ?k23 ?a24 ?l24 ?c24 ?k24 ?z1 ?z2 ?z3 ?z4 ?z5 ?z6 ?z7 ?z8 ?z9 ?z10 ?z11 ?z12 ?z13 ?z14 ?z15 ?z16 ?z17 ?z18 ?z19 ?z20 ?z21 ?g1 ?g2 ?g3 ?g4 ?g5 ?g6 ?g7 ?g8 ?g9 ?g10 ?g11 ?g12 ?g13 ?g14 ?xa0 ?xl0 ?xa1 ?xl1 ?xa2 ?xl2 ?xa3 ?xl3 ?xa4 ?xl4 ?xa5 ?xl5 ?xa6 ?xl6 ?xa7 ?xl7 ?xa8 ?xl8 ?xg1 ?xt1 ?xs1 ?xc1 ?xg2 ?xt2 ?xs2 ?xc2 ?xg3 ?xt3 ?xs3 ?xc3 ?xg4 ?xt4 ?xs4 ?xc4 ?xg5 ?xt5 ?xs5 ?xc5 ?xg6 ?xt6 ?xs6 ?xc6 ?xg7 ?xt7 ?xs7 ?xc7 ?xg8 ?xt8 ?xs8 ?xc8 ?xsg ?xtk ?xnd ?ii1 ?il1 ?ie1 ?if1 ?ik1 ?im1 ?iq1_0 ?iq1_1
  all_goals try k_is
  decide
