import PyProof.Rows.All
import Wide.All
import OpenK.AllK
import Wide.FinOn
import Lean
import PyProof.EqAt
import PyProof.EqKinds
import PyProof.TupleCall
import PyProof.Rows.SumAny
import PyProof.Draws
import PyProof.ZipIter
import PyProof.EnumMake
import PyProof.Rows.ZipGen
import PyProof.FitsInt
import PyProof.ReprLen
import KE.IntBitsLaws
import PyProof.NeData
import PyProof.ConsumeWalk
import PyProof.WalkInts
import PyProof.Rows.SeqMore
import PyProof.ListMulRoad
import PyProof.DictUpdate
import KE.KDictList
import PyProof.Rows.TupDisplay
import KE.KSortTup
import PyProof.TupleOfStr
import PyProof.ListRange
import KE.KRevSl
import PyProof.MeetsStr
import PyProof.StrBlockG
import PyProof.CallStr
import KE.KIntText
import PyProof.StrLawsTight
import PyProof.StrLawsChain
import PyProof.StrLawsJoin
import PyProof.StrWalks
import PyProof.SliceStr
import PyProof.StrBlockI
import PyProof.SeqRoads
import PyProof.NsDelKeeps
import PyProof.RulesAs
import KE.KIsAll
import PyProof.Rows.SetFrom
import PyProof.WalksMore
import PyProof.FactsAll.subtypes_4
import PyProof.MeetsStr2
import PyProof.Rows.Range3
import PyProof.StrLawsRepr
import PySem.Challenge.RW_dropsums_k41_ended_and_what_can_still_co
-- CHANGE: your row's module here, as the last of these rows
set_option Elab.async false
set_option linter.all false
set_option maxRecDepth 100000
namespace L2
open PySem PySem.Spec PyProof.Rows
abbrev Key := Sum Int Str
def keyIs : Key → Value → Bool
 | .inl k, v => Value.isInt k v
 | .inr x, v => Value.isStrOf x v
def keyH (w : World) : Key → Int
 | .inl k => hashInt k
 | .inr x => hashStr w x
theorem keyIs_shape : ∀ {k : Key} {v : Value}, keyIs k v = true → (∃ i t, k = Sum.inl i ∧ v = Value.int i t) ∨ (∃ x t, k = Sum.inr x ∧ v = Value.str x t)
 | .inl i, v, h => by
  obtain ⟨t, e⟩ := Value.isInt_shape (k := i) (v := v) h
  exact .inl ⟨i, t, rfl, e⟩
 | .inr x, v, h => by
  obtain ⟨t, e⟩ := Value.isStrOf_shape (x := x) (v := v) h
  exact .inr ⟨x, t, rfl, e⟩
theorem keyIs_int (i : Int) (t : Tok) : keyIs (.inl i) (.int i t) = true := by simp [keyIs, Value.isInt]
theorem keyIs_str (x : Str) (t : Tok) : keyIs (.inr x) (.str x t) = true := by simp [keyIs, Value.isStrOf]
theorem key_ll (a b : Int) : decide ((Sum.inl a : Key) = Sum.inl b) = (a == b) := by
 by_cases e : a = b
 ·subst e; simp
 ·have h : ¬ (Sum.inl a : Key) = Sum.inl b := fun q => e (Sum.inl.inj q)
  rw [decide_eq_false h]
  exact (beq_eq_false_iff_ne.mpr e).symm
theorem key_rr (a b : Str) : decide ((Sum.inr a : Key) = Sum.inr b) = decide (a = b) := by
 by_cases e : a = b
 ·subst e; simp
 ·have h : ¬ (Sum.inr a : Key) = Sum.inr b := fun q => e (Sum.inr.inj q)
  rw [decide_eq_false h, decide_eq_false e]
theorem key_lr (a : Int) (b : Str) : decide ((Sum.inl a : Key) = Sum.inr b) = false := decide_eq_false (fun q => nomatch q)
theorem key_rl (a : Str) (b : Int) : decide ((Sum.inr a : Key) = Sum.inl b) = false := decide_eq_false (fun q => nomatch q)
def mixKind (prog : Program) (w : World) : PySem.KeyKind prog w Key where
 is := keyIs
 hash := keyH w
 inj := fun v a b ha hb => by
  rcases keyIs_shape ha with ⟨i, t, rfl, rfl⟩ | ⟨x, t, rfl, rfl⟩
  ·rcases keyIs_shape hb with ⟨j, u, rfl, e⟩ | ⟨y, u, rfl, e⟩
   ·injection e with e1 _; rw [e1]
   ·exact nomatch e
  ·rcases keyIs_shape hb with ⟨j, u, rfl, e⟩ | ⟨y, u, rfl, e⟩
   ·exact nomatch e
   ·injection e with e1 _; rw [e1]
 byValue := fun k v h => by
  rcases keyIs_shape h with ⟨i, t, rfl, rfl⟩ | ⟨x, t, rfl, rfl⟩ <;> rfl
 pyHash := fun hv h => by
  rcases keyIs_shape hv with ⟨i, t, rfl, rfl⟩ | ⟨x, t, rfl, rfl⟩
  ·exact wpAny_pyHash_int h
  ·exact wpAny_pyHash_str h
 eqBool := fun hu hv h => by
  rcases keyIs_shape hu with ⟨i, t, rfl, rfl⟩ | ⟨x, t, rfl, rfl⟩
  ·rcases keyIs_shape hv with ⟨j, u, rfl, rfl⟩ | ⟨y, u, rfl, rfl⟩
   ·rw [key_ll] at h; exact wpAny_eqBool_int h
   ·rw [key_lr] at h; exact SeqAt.EqAt.int_str i t y u _ _ _ _ h
  ·rcases keyIs_shape hv with ⟨j, u, rfl, rfl⟩ | ⟨y, u, rfl, rfl⟩
   ·rw [key_rl] at h; exact SeqAt.EqAt.str_int x t j u _ _ _ _ h
   ·rw [key_rr] at h; exact wpAny_eqBool_str h
 «strs» := fun k x t v h => by
  rcases keyIs_shape h with ⟨i, u, rfl, e⟩ | ⟨y, u, rfl, e⟩
  ·exact nomatch e
  ·injection e with e1 _
   subst e1
   cases v <;> rfl
theorem mixKind_int (prog : Program) (w : World) (i : Int) (t : Tok) : (mixKind prog w).is (.inl i) (.int i t) = true := keyIs_int i t
theorem mixKind_str (prog : Program) (w : World) (x : Str) (t : Tok) : (mixKind prog w).is (.inr x) (.str x t) = true := keyIs_str x t
inductive V where
 | non | bl (b : Bool) | int (i : Int) | str (x : Str) | byt (b : Array UInt8) | flt (b : UInt64) | ref (a : Addr) | ty (n : String)
 deriving DecidableEq
def RelV : V → Value → Prop
 | .non, u => u = Value.none
 | .bl b, u => u = Value.bool b
 | .int i, u => ∃ t, u = Value.int i t
 | .str x, u => ∃ t, u = Value.str x t
 | .byt b, u => ∃ t, u = Value.bytes b t
 | .flt b, u => ∃ t, u = Value.float b t
 | .ref a, u => u = Value.ref a
 | .ty n, u => u = Value.type n
abbrev Vals : List V → List Value → Prop := Paired RelV
theorem Vals.length {xs : List V} {us : List Value} (r : Vals xs us) : xs.length = us.length := Paired.length r
theorem Vals.get : ∀ {xs : List V} {us : List Value} {i : Nat} {x : V}, Vals xs us → xs[i]? = some x → ∃ u, us[i]? = some u ∧ RelV x u
 | _, _, _, _, .nil, e => by simp at e
 | _, _, 0, _, .cons r _, e => by simp at e; subst e; exact ⟨_, rfl, r⟩
 | _, _, i + 1, x, .cons _ t, e => by
  obtain ⟨u, h1, h2⟩ := Vals.get (i := i) (x := x) t (by simpa using e)
  exact ⟨u, by simpa using h1, h2⟩
theorem Vals.set {x : V} {u : Value} (r : RelV x u) : ∀ {xs : List V} {us : List Value} (i : Nat), Vals xs us → Vals (xs.set i x) (us.set i u)
 | _, _, _, .nil => .nil
 | _, _, 0, .cons _ t => .cons r t
 | _, _, i + 1, .cons q t => .cons q (Vals.set r i t)
theorem Vals.append : ∀ {xs ys : List V} {us ws : List Value}, Vals xs us → Vals ys ws → Vals (xs ++ ys) (us ++ ws)
 | _, _, _, _, .nil, s => s
 | _, _, _, _, .cons r t, s => .cons r (Vals.append t s)
theorem Vals.take : ∀ {xs : List V} {us : List Value} (n : Nat), Vals xs us → Vals (xs.take n) (us.take n)
 | _, _, 0, _ => .nil
 | _, _, _ + 1, .nil => .nil
 | _, _, n + 1, .cons r t => .cons r (Vals.take n t)
theorem Vals.drop : ∀ {xs : List V} {us : List Value} (n : Nat), Vals xs us → Vals (xs.drop n) (us.drop n)
 | _, _, 0, r => r
 | _, _, _ + 1, .nil => .nil
 | _, _, n + 1, .cons _ t => Vals.drop n t
def RelO : Option V → Option Value → Prop
 | some v, some u => RelV v u
 | none, none => True
 | _, _ => False
def KV {κ : Type} : List (κ × V) → List (κ × Value) → Prop := Paired fun (p : κ × V) (q : κ × Value) => p.1 = q.1 ∧ RelV p.2 q.2
def kV : Key → V
 | .inl i => .int i
 | .inr x => .str x
inductive HO where
 | lst (xs : List V)
 | tup (xs : List V)
 | dK (kvs : List (Key × V)) | dT (kvs : List (List Key × V))
 | set (S : Int → Bool) (n : Nat)
 | ins (C dx : Addr) (fs : List (Str × V))
 | own (x : Addr)
 | xd (fs : List (Str × V))
 | met (f x : Addr)
 | rng (lo hi : Int)
 | frz (o : Obj) (u : HO)
 | tbl (ps : Array Value)
 | ext (φ : Heap → Prop)
abbrev Hp := Addr → Option HO
def upd (H : Hp) (a : Addr) (o : HO) : Hp := fun b => if b = a then some o else H b
theorem upd_same {H : Hp} {a : Addr} {o : HO} : upd H a o a = some o := by unfold upd; rw [if_pos rfl]
theorem upd_ne {H : Hp} {a b : Addr} {o : HO} (h : b ≠ a) : upd H a o b = H b := by unfold upd; rw [if_neg h]
theorem upd_upd {H : Hp} {a : Addr} {o u : HO} : upd (upd H a o) a u = upd H a u := by
 funext b; unfold upd; split <;> rfl
theorem ne_of {H : Hp} {a b : Addr} {o u : HO} (h : H a = some o) (h' : H b = some u) (d : o ≠ u) : a ≠ b := by
 intro e; subst e; rw [h] at h'; exact d (Option.some.inj h')
theorem ne_of_none {H : Hp} {a b : Addr} {o : HO} (h : H a = some o) (h' : H b = none) : a ≠ b := by
 intro e; subst e; rw [h] at h'; cases h'
section
variable (P : Program) (w : World)
def ObjOk (H : Hp) (h : Heap) (a : Addr) : HO → Prop
 | .lst xs => xs.length ≤ sizeLine ∧ ∃ (its : List Value) (n : Nat), Vals xs its ∧ h.get? a = some { cls := .type "list", data := .seq its.toArray n }
 | .tup xs => xs.length ≤ sizeLine ∧ ∃ its : List Value, Vals xs its ∧ IsTup h a its.toArray
 | .dK kvs => kvs.length ≤ sizeLine ∧ (a == sysModules) = false ∧ ∃ vs, KV kvs vs ∧ h.DictOf (mixKind P w) a vs
 | .dT kvs => kvs.length ≤ sizeLine ∧ (a == sysModules) = false ∧ ∃ xs : List (List Key × Addr × Value),
   Paired (fun (p : List Key × V) (q : List Key × Addr × Value) => p.1 = q.1 ∧ H q.2.1 = some (.tup (p.1.map kV)) ∧ RelV p.2 q.2.2) kvs xs ∧
   ∃ o es ep, h.get? a = some o ∧ o.ExactDict ∧ o.data = .dict es ep ∧ es.toList = xs.map (entryOfKey (tupleKind (mixKind P w))) ∧ (xs.map (·.1)).Nodup
 | .set S n => h.SetOf (intKind P w) a S n
 | .ins C dx fs => H dx = some (.own a) ∧ fs.length ≤ 1000 ∧ dx ≠ a ∧ h.get? a = some (PySem.W.instObj C dx) ∧
   ∃ mA, h.Ns1 dx mA ∧ (∀ f, RelO (fs.lookup f) (mA f)) ∧ PySem.Within mA (fs.map (·.1))
 | .own _ => ∃ o, h.get? a = some o
 | .xd fs => ∃ mA, h.Ns1 a mA ∧ ∀ f, RelO (fs.lookup f) (mA f)
 | .rng lo hi => ∃ t u v, h.get? a = some { cls := .type "range", data := .fields #[.int lo t, .int hi u, .int 1 v] }
 | .frz o u => h.get? a = some o ∧ ObjOk H h a u
 | .tbl ps => h.get? a = some { cls := .none, data := .fields ps }
 | .met f x => h.get? a = some (PySem.W.methodObj (.ref f) (.ref x))
 | .ext φ => φ h ∧ (∃ o, h.get? a = some o) ∧ ∀ h1 h2 : Heap, φ h1 → (∀ o, h1.get? a = some o → h2.get? a = some o) → φ h2
def HOk (H : Hp) (h : Heap) : Prop := ∀ a o, H a = some o → ObjOk P w H h a o
end
section
variable {P : Program} {w : World} {H H' : Hp} {h h' : Heap} {a : Addr} {o : HO}
theorem ObjOk.lt (x : ObjOk P w H h a o) : a < h.objs.size := by
 cases o with
 | lst xs => obtain ⟨_, _, _, _, e⟩ := x; exact Heap.lt_size e
 | tup xs => obtain ⟨_, _, _, p⟩ := x; exact p.lt
 | dK kvs => obtain ⟨_, _, _, _, o, _, _, e, _⟩ := x; exact Heap.lt_size e
 | dT kvs => obtain ⟨_, _, _, _, o, _, _, e, _⟩ := x; exact Heap.lt_size e
 | set S n => obtain ⟨o, _, _, _, e, _⟩ := x; exact Heap.lt_size e
 | ins C dx fs => obtain ⟨_, _, _, e, _⟩ := x; exact Heap.lt_size e
 | own y => obtain ⟨_, e⟩ := x; exact Heap.lt_size e
 | xd fs => obtain ⟨_, ⟨_, _, _, e, _⟩, _⟩ := x; exact Heap.lt_size e
 | rng lo hi => obtain ⟨_, _, _, e⟩ := x; exact Heap.lt_size e
 | frz ob u => obtain ⟨e, _⟩ := x; exact Heap.lt_size e
 | tbl ps => exact Heap.lt_size (show h.get? a = some _ from x)
 | met f y => exact Heap.lt_size (show h.get? a = some _ from x)
 | ext φ => obtain ⟨_, ⟨_, e⟩, _⟩ := x; exact Heap.lt_size e
theorem Paired.mapP {α β : Type} {F G : α → β → Prop} : ∀ {l₁ : List α} {l₂ : List β}, Paired F l₁ l₂ → (∀ a b, F a b → G a b) → Paired G l₁ l₂
 | _, _, .nil, _ => .nil
 | _, _, .cons r t, f => .cons (f _ _ r) (Paired.mapP t f)
theorem ObjOk.stay (x : ObjOk P w H h a o) (k : ∀ b u, (b = a ∨ H b = some (.own a)) → h.get? b = some u → h'.get? b = some u)
  (ho : ∀ b, H b = some (.own a) → H' b = some (.own a)) (ht : ∀ b xs, H b = some (.tup xs) → H' b = some (.tup xs)) : ObjOk P w H' h' a o := by
 induction o with
 | lst xs => obtain ⟨z, its, n, r, e⟩ := x; exact ⟨z, its, n, r, k _ _ (.inl rfl) e⟩
 | tup xs => obtain ⟨z, its, r, ob, e, c⟩ := x; exact ⟨z, its, r, ob, k _ _ (.inl rfl) e, c⟩
 | dK kvs => obtain ⟨z, y, vs, r, ob, es, ep, e, c⟩ := x; exact ⟨z, y, vs, r, ob, es, ep, k _ _ (.inl rfl) e, c⟩
 | dT kvs =>
  obtain ⟨z, y, xs, r, ob, es, ep, e, c⟩ := x
  exact ⟨z, y, xs, Paired.mapP r fun p q z => ⟨z.1, ht _ _ z.2.1, z.2.2⟩, ob, es, ep, k _ _ (.inl rfl) e, c⟩
 | set S n => obtain ⟨ob, es, ep, t, e, c⟩ := x; exact ⟨ob, es, ep, t, k _ _ (.inl rfl) e, c⟩
 | ins C dx fs =>
  obtain ⟨d, z, ne, e, mA, ⟨od, es, ep, e2, c⟩, r⟩ := x
  exact ⟨ho _ d, z, ne, k _ _ (.inl rfl) e, mA, ⟨od, es, ep, k _ _ (.inr d) e2, c⟩, r⟩
 | own y => obtain ⟨ob, e⟩ := x; exact ⟨ob, k _ _ (.inl rfl) e⟩
 | xd fs => obtain ⟨mA, ⟨od, es, ep, e, c⟩, r⟩ := x; exact ⟨mA, ⟨od, es, ep, k _ _ (.inl rfl) e, c⟩, r⟩
 | rng lo hi => obtain ⟨t, u, v, e⟩ := x; exact ⟨t, u, v, k _ _ (.inl rfl) e⟩
 | frz ob u ih => obtain ⟨e, q⟩ := x; exact ⟨k _ _ (.inl rfl) e, ih q⟩
 | tbl ps =>
  have e : h.get? a = some { cls := .none, data := .fields ps } := x
  show h'.get? a = some { cls := .none, data := .fields ps }
  exact k a _ (.inl rfl) e
 | met f y =>
  have e : h.get? a = some (PySem.W.methodObj (.ref f) (.ref y)) := x
  show h'.get? a = some (PySem.W.methodObj (.ref f) (.ref y))
  exact k a _ (.inl rfl) e
 | ext φ => obtain ⟨p, ⟨o, e⟩, st⟩ := x; exact ⟨st _ _ p fun o q => k _ _ (.inl rfl) q, ⟨o, k _ _ (.inl rfl) e⟩, st⟩
theorem HOk.lt (x : HOk P w H h) (e : H a = some o) : a < h.objs.size := (x a o e).lt
theorem HOk.fresh (x : HOk P w H h) (e : h.objs.size ≤ a) : H a = none := by
 cases q : H a with
 | none => rfl
 | some u => exact absurd (Nat.lt_of_lt_of_le (x.lt q) e) (Nat.lt_irrefl _)
theorem HOk.kept (x : HOk P w H h) (k : ∀ b u, h.get? b = some u → h'.get? b = some u) : HOk P w H h' := fun a o e =>
 (x a o e).stay (fun b u _ q => k b u q) (fun _ q => q) fun _ _ q => q
theorem HOk.laid (x : HOk P w H h) (k : ∀ b u, h.get? b = some u → h'.get? b = some u) (hp : h.objs.size ≤ a) (new : ObjOk P w (upd H a o) h' a o) : HOk P w (upd H a o) h' := fun b u e => by
 have hn := x.fresh hp
 by_cases hb : b = a
 ·subst hb; rw [upd_same] at e; cases e; exact new
 ·rw [upd_ne hb] at e
  exact (x b u e).stay (fun c v _ q => k c v q) (fun c q => by rw [upd_ne (ne_of_none q hn)]; exact q) fun c xs q => by rw [upd_ne (ne_of_none q hn)]; exact q
end
def Rd (H : Hp) (a : Addr) (u : HO) : Prop := H a = some u ∨ ∃ o, H a = some (.frz o u)
theorem Rd.ok {P : Program} {w : World} {H : Hp} {h : Heap} {a : Addr} {u : HO} (r : Rd H a u) (x : HOk P w H h) : ObjOk P w H h a u := by
 rcases r with r | ⟨o, r⟩
 ·exact x a u r
 ·obtain ⟨_, q⟩ := x a _ r
  exact q
def Mut : Option HO → Prop
 | some (.lst _) => True
 | some (.dK _) => True
 | some (.dT _) => True
 | some (.set _ _) => True
 | some (.ins _ _ _) => True
 | some (.ext _) => True
 | _ => False
section
variable {P : Program} {w : World} {H : Hp} {h h' : Heap} {x e : Addr} {o' : HO}
theorem HOk.write (ok : HOk P w H h) (mu : Mut (H x)) (he : e = x ∨ H e = some (.own x)) (k : ∀ b u, b ≠ e → h.get? b = some u → h'.get? b = some u) (heo : ∃ u, h'.get? e = some u)
  (new : ObjOk P w (upd H x o') h' x o') : HOk P w (upd H x o') h' := fun b u q => by
 have nown : ∀ c y, H c = some (.own y) → c ≠ x := fun c y r z => by subst z; rw [r] at mu; exact mu
 have ntup : ∀ c xs, H c = some (.tup xs) → c ≠ x := fun c xs r z => by subst z; rw [r] at mu; exact mu
 by_cases hb : b = x
 ·subst hb; rw [upd_same] at q; cases q; exact new
 ·rw [upd_ne hb] at q
  by_cases hbe : b = e
  ·have q' : H b = some (.own x) := by
    rcases he with z | z
    ·exact absurd (hbe.trans z) hb
    ·rw [hbe]; exact z
   rw [q] at q'; cases q'
   obtain ⟨v, hv⟩ := heo
   exact ⟨v, by rw [hbe]; exact hv⟩
  ·refine (ok b u q).stay (fun c v hc r => k c v ?_ r) (fun c r => by rw [upd_ne (nown c b r)]; exact r) fun c xs r => by rw [upd_ne (ntup c xs r)]; exact r
   rcases hc with rfl | hc
   ·exact hbe
   ·rintro rfl
    rcases he with z | z
    ·exact nown c b hc z
    ·rw [hc] at z; cases z; exact hb rfl
end
structure Un (fs ex : List Addr) (H H' : Hp) (h h' : Heap) : Prop where
 keep : ∀ b o, h.get? b = some o → H b = none → b ∉ fs → b ∉ ex → h'.get? b = some o
 slot : ∀ b o, h.get? b = some o → H b = none → b ∈ fs → b ∉ ex → ∃ sl, h'.get? b = some { o with slots := sl }
 free : ∀ b o, h.get? b = some o → H b = none → b ∉ ex → H' b = none
 there : ∀ b o, h.get? b = some o → b ∉ ex → ∃ o', h'.get? b = some o'
 tups : ∀ b xs, H b = some (.tup xs) → H' b = some (.tup xs)
 frzs : ∀ b o u, H b = some (.frz o u) → H' b = some (.frz o u)
 tbls : ∀ b ps, H b = some (.tbl ps) → ∃ more, H' b = some (.tbl (ps ++ more))
section
variable {fs fs' ex ex' : List Addr} {H H1 H2 : Hp} {h h1 h2 h' : Heap} {a x e : Addr} {o : HO}
theorem Un.any (u : Un fs ex H H1 h h1) {b : Addr} {ob : Obj} (q : h.get? b = some ob) (n : H b = none) (hx : b ∉ ex) : ∃ sl, h1.get? b = some { ob with slots := sl } := by
 by_cases hb : b ∈ fs
 ·exact u.slot b ob q n hb hx
 ·exact ⟨ob.slots, u.keep b ob q n hb hx⟩
theorem Un.kept (k : ∀ b u, h.get? b = some u → h'.get? b = some u) : Un fs ex H H h h' :=
 ⟨fun b ob q _ _ _ => k b ob q, fun b ob q _ _ _ => ⟨ob.slots, k b ob q⟩, fun _ _ _ n _ => n, fun b ob q _ => ⟨ob, k b ob q⟩, fun _ _ q => q, fun _ _ _ q => q, fun _ ps q => ⟨#[], by rw [q]; simp⟩⟩
theorem Un.refl : Un fs ex H H h h := Un.kept fun _ _ q => q
theorem Un.laid (k : ∀ b u, h.get? b = some u → h'.get? b = some u) (hp : h.objs.size ≤ a) (hn : H a = none) : Un fs ex H (upd H a o) h h' where
 keep := fun b u q _ _ _ => k b u q
 slot := fun b u q _ _ _ => ⟨u.slots, k b u q⟩
 free := fun b u q n _ => by rw [upd_ne (Nat.ne_of_lt (Nat.lt_of_lt_of_le (Heap.lt_size q) hp))]; exact n
 there := fun b u q _ => ⟨u, k b u q⟩
 tups := fun b xs q => by rw [upd_ne (ne_of_none q hn)]; exact q
 frzs := fun b u xs q => by rw [upd_ne (ne_of_none q hn)]; exact q
 tbls := fun b ps q => ⟨#[], by rw [upd_ne (ne_of_none q hn), q]; simp⟩
theorem Un.write (mu : Mut (H x)) (he : e = x ∨ H e = some (.own x)) (k : ∀ b u, b ≠ e → h.get? b = some u → h'.get? b = some u) (heo : ∃ u, h'.get? e = some u) : Un fs ex H (upd H x o) h h' := by
 have hx : ∀ b, H b = none → b ≠ x := fun b n z => by subst z; rw [n] at mu; exact mu
 have hb : ∀ b, H b = none → b ≠ e := fun b n z => by
  subst z
  rcases he with r | r
  ·exact hx b n r
  ·rw [n] at r; cases r
 have hm : ∀ b u, H b = some u → ¬ Mut (some u) → b ≠ x := fun b u q nm z => by subst z; rw [q] at mu; exact nm mu
 refine ⟨fun b u q n _ _ => k b u (hb b n) q, fun b u q n _ _ => ⟨u.slots, k b u (hb b n) q⟩, fun b u q n _ => by rw [upd_ne (hx b n)]; exact n, fun b u q _ => ?_,
  fun b xs q => by rw [upd_ne (hm b _ q fun z => z)]; exact q, fun b u xs q => by rw [upd_ne (hm b _ q fun z => z)]; exact q, fun b ps q => ⟨#[], by rw [upd_ne (hm b _ q fun z => z), q]; simp⟩⟩
 by_cases hbe : b = e
 ·subst hbe; exact heo
 ·exact ⟨u, k b u hbe q⟩
end
def trk (h : Heap) (H : Hp) : List Addr := (List.range h.objs.size).filter fun a => (H a).isSome
def hidT (h : Heap) (H : Hp) : Heap := PySem.W.hideAll h (trk h H)
theorem hidT_size (h : Heap) (H : Hp) : (hidT h H).objs.size = h.objs.size := PySem.W.hideAll_size _ _
theorem hidT_get {h : Heap} {H : Hp} {b : Addr} {o : Obj} (e : h.get? b = some o) (n : H b = none) : (hidT h H).get? b = some o :=
 PySem.W.hideAll_get _ e fun hm => by
  have q : (H b).isSome = true := (List.mem_filter.mp hm).2
  rw [n] at q; simp at q
theorem of_hidT {h : Heap} {H : Hp} {b : Addr} {o : Obj} (e : (hidT h H).get? b = some o) : h.get? b = some o ∧ H b = none := by
 have e' : h.get? b = some o := PySem.W.of_hideAll (trk h H) e
 refine ⟨e', ?_⟩
 cases q : H b with
 | none => rfl
 | some x =>
  have hm : b ∈ trk h H := List.mem_filter.mpr ⟨List.mem_range.mpr (Heap.lt_size e'), by simp [q]⟩
  have z : (hidT h H).get? b = none := PySem.W.hideAll_none (trk h H) hm
  rw [z] at e; cases e
def allNews (g h : Heap) (L : Addr) : List (Addr × Obj) := (List.range h.objs.size).filterMap fun a => if a = L ∨ (g.get? a).isSome = true then none else (h.get? a).map fun o => (a, o)
def rest (g h : Heap) (L d : Addr) : List (Addr × Obj) := (allNews g h L).filter fun p => decide (p.1 ≠ d)
structure Mod (K : PySem.W.Frag) (mg : Str → Option Value) (base : Heap) : Prop where
 kin : K.In base
 glob : base.Ns mainGlobals mg
 blt : ∃ mb, base.Ns builtinsNs mb ∧ ∀ x : Str, x ≠ "__name__" → mb x = bootBuiltins x
 nolimit : base.NoLimit
structure Cx where
 prog : Program
 w : World
 K : PySem.W.Frag
 mg : Str → Option Value
 base : Heap
 A : Around
 N : List Str
 s₀ : Shared
 H₀ : Hp
 env : Env
 outer : List Env
 stack : List Env
 ex : List Addr
 fn : Str → Bool
 calm : Bool
 pn : List (Addr × Obj)
 xe : Value → Shared → Prop
def frs (l : List Env) : List Addr := l.filterMap (·.frame)
abbrev Cx.fs (X : Cx) : List Addr := frs X.outer
def Vis (sc : Scope) (x : Str) : Prop := sc.names.lookup x = some .local ∨ sc.names.lookup x = some .cell ∨ sc.names.lookup x = some .free
def Loc (sc : Scope) (x : Str) : Prop := sc.names.lookup x = some .local ∨ sc.names.lookup x = some .cell
def Look (env : Env) (h : Heap) (m : Str → Option Value) (x : Str) (u : Value) : Prop :=
 (env.kindOf x = some .local ∧ m x = some u) ∨ ((env.kindOf x = some .cell ∨ env.kindOf x = some .free) ∧ ∃ c, env.cells.lookup x = some c ∧ h.IsCell c (some u))
structure Cx.Ok (X : Cx) : Prop where
 mod : Mod X.K X.mg X.base
 kind : X.env.scope.kind = .function
 glob : X.env.globals = mainGlobals
 blt : X.env.builtins = builtinsNs
 above : X.s₀.heap.objs.size ≤ X.env.locals
 inj : ∀ x y c, X.env.cells.lookup x = some c → X.env.cells.lookup y = some c → x = y
 has : ∀ x, (X.env.kindOf x = some .cell ∨ X.env.kindOf x = some .free) → ∃ c, X.env.cells.lookup x = some c
 cab : ∀ x c, X.fn x = true → X.env.cells.lookup x = some c → X.s₀.heap.objs.size ≤ c
 hd : X.calm = true → X.A.handled = none
 frames : X.A.frames = some X.stack
 stk : X.stack = X.outer ∨ (X.stack = X.env :: X.outer ∧ X.env.frame = some X.env.locals)
 exf : ∀ b ∈ X.ex, b ≠ X.env.locals ∧ ∀ x c, X.env.cells.lookup x = some c → c ≠ b
 bs : ∀ b o, X.base.get? b = some o → X.s₀.heap.get? b = some o ∧ X.H₀ b = none
 bsz : X.base.objs.size ≤ X.s₀.heap.objs.size
 noex : ∀ b o, X.base.get? b = some o → b ∉ X.ex
 exfs : ∀ b ∈ X.ex, b ∉ X.fs
 funs : X.s₀.heap.FunFrames X.base X.outer
 frf : ∀ b ∈ X.fs, X.H₀ b = none
structure Inv (X : Cx) (pins : List (Addr × Obj)) (σ : List (Option V)) (H : Hp) (s : Shared) : Prop where
 ok : X.Ok
 os : s.os = X.s₀.os
 bare : AllBare s.gens
 base : Un X.fs X.ex X.H₀ H X.s₀.heap s.heap
 loc : ∃ m, s.heap.Ns X.env.locals m ∧ ∀ (i : Nat) (x : Str) (v : V), X.N[i]? = some x → σ[i]? = some (some v) → Vis X.env.scope x → ∃ u, RelV v u ∧ Look X.env s.heap m x u
 cell : ∀ x c, X.env.cells.lookup x = some c → ∃ v, s.heap.IsCell c v
 free : H X.env.locals = none
 freeC : ∀ x c, X.env.cells.lookup x = some c → H c = none
 pin : ∀ p ∈ X.pn ++ pins, s.heap.get? p.1 = some p.2 ∧ H p.1 = none ∧ p.1 ≠ X.env.locals ∧ p.1 ∉ X.fs ∧ ∀ v, p.2.data ≠ .cell v
 hok : HOk X.prog X.w H s.heap
 len : σ.length = X.N.length
section
variable {X : Cx} {pins : List (Addr × Obj)} {σ : List (Option V)} {H H' : Hp} {s : Shared} {h' : Heap}
theorem Cx.Ok.nofr (ok : X.Ok) {b : Addr} {o : Obj} (e : X.base.get? b = some o) : b ∉ X.fs := fun hb => by
 have := (ok.funs.mem hb).1
 rw [e] at this; cases this
theorem Inv.bs (I : Inv X pins σ H s) : ∀ b o, X.base.get? b = some o → s.heap.get? b = some o ∧ H b = none := fun b o e =>
 ⟨I.base.keep b o (I.ok.bs b o e).1 (I.ok.bs b o e).2 (I.ok.nofr e) (I.ok.noex b o e), I.base.free b o (I.ok.bs b o e).1 (I.ok.bs b o e).2 (I.ok.noex b o e)⟩
theorem Inv.bk (I : Inv X pins σ H s) : ∀ b o, X.base.get? b = some o → s.heap.get? b = some o := fun b o e => (I.bs b o e).1
theorem Inv.mod (I : Inv X pins σ H s) : Mod X.K X.mg X.base := I.ok.mod
theorem Inv.kIn (I : Inv X pins σ H s) : X.K.In s.heap := I.ok.mod.kin.keeps I.bk
theorem Inv.lt (I : Inv X pins σ H s) : X.env.locals < s.heap.objs.size := let ⟨_, hn, _⟩ := I.loc; hn.lt
theorem Inv.sz (I : Inv X pins σ H s) : X.s₀.heap.objs.size ≤ s.heap.objs.size := Nat.le_trans I.ok.above (Nat.le_of_lt I.lt)
theorem Inv.nofs (I : Inv X pins σ H s) {a : Addr} (h : s.heap.objs.size ≤ a) : a ∉ X.fs := fun hb => by
 obtain ⟨_, o, ho, _⟩ := I.ok.funs.mem hb
 exact absurd (Nat.lt_of_lt_of_le (Heap.lt_size ho) (Nat.le_trans I.sz h)) (Nat.lt_irrefl _)
theorem Inv.cne (I : Inv X pins σ H s) : ∀ x c, X.env.cells.lookup x = some c → c ≠ X.env.locals := fun x c e z => by
 obtain ⟨v, o, ho, hd⟩ := I.cell x c e
 obtain ⟨m, ⟨o', es, ep, ho', hd', _⟩, _⟩ := I.loc
 rw [z, ho'] at ho; cases ho; rw [hd'] at hd; cases hd
theorem Inv.funs (I : Inv X pins σ H s) : s.heap.FunFrames X.base X.outer := by
 have all : ∀ (l : List Env), (∀ b ∈ frs l, b ∈ X.fs) → X.s₀.heap.FunFrames X.base l → s.heap.FunFrames X.base l := by
  intro l
  induction l with
  | nil => intro _ _; trivial
  | cons env r ih =>
   intro hs hl
   obtain ⟨hk, ⟨L, o, hf, hn, ho, hd⟩, hr⟩ := hl
   have hL : L ∈ X.fs := hs L (by unfold frs; rw [List.filterMap_cons, hf]; exact List.mem_cons_self)
   obtain ⟨sl, e⟩ := I.base.slot L o ho (I.ok.frf L hL) hL fun z => I.ok.exfs L z hL
   exact ⟨hk, ⟨L, _, hf, hn, e, hd⟩, ih (fun b hb => hs b (by unfold frs; rw [List.filterMap_cons, hf]; exact List.mem_cons_of_mem _ hb)) hr⟩
 exact all X.outer (fun _ hb => hb) I.ok.funs
theorem Inv.stack (I : Inv X pins σ H s) : s.heap.FunFrames X.base X.stack := by
 rcases I.ok.stk with e | ⟨e, hf⟩
 ·rw [e]; exact I.funs
 ·rw [e]
  obtain ⟨m, hn, _⟩ := I.loc
  refine .cons (by rw [I.ok.kind]; decide) hf hn ?_ I.funs
  exact Heap.get?_none_of_le (Nat.le_trans I.ok.bsz I.ok.above)
theorem Inv.stkSub (I : Inv X pins σ H s) : ∀ b ∈ frs X.stack, b ∈ X.env.locals :: X.fs := fun b hb => by
 rcases I.ok.stk with e | ⟨e, hf⟩
 ·rw [e] at hb; exact List.mem_cons_of_mem _ hb
 ·rw [e] at hb
  unfold frs at hb
  rw [List.filterMap_cons, hf] at hb
  exact hb
theorem Inv.stkFree (I : Inv X pins σ H s) : ∀ b ∈ frs X.stack, H b = none := fun b hb => by
 rcases List.mem_cons.mp (I.stkSub b hb) with e | hb
 ·rw [e]; exact I.free
 ·obtain ⟨_, o, ho, _⟩ := I.ok.funs.mem hb
  exact I.base.free b o ho (I.ok.frf b hb) fun z => I.ok.exfs b z hb
theorem Inv.step {g' : Array GenState} {t' : Nat} {d' : Drawn} {ch : List Addr} (I : Inv X pins σ H s)
  (hch : ∀ b ∈ ch, (b ∈ X.ex ∨ X.s₀.heap.objs.size ≤ b) ∧ b ≠ X.env.locals ∧ (∀ x c, X.env.cells.lookup x = some c → c ≠ b) ∧ ∀ p ∈ X.pn ++ pins, p.1 ≠ b)
  (keep : ∀ b o, b ≠ X.env.locals → b ∉ X.fs → b ∉ ch → s.heap.get? b = some o → H b = none → h'.get? b = some o)
  (slot : ∀ b o, b ≠ X.env.locals → b ∈ X.fs → b ∉ ch → s.heap.get? b = some o → H b = none → ∃ sl, h'.get? b = some { o with slots := sl }) (free : ∀ b o, b ∉ ch → s.heap.get? b = some o → H b = none → H' b = none)
  (there : ∀ b o, b ∉ ch → s.heap.get? b = some o → ∃ o', h'.get? b = some o')
  (tups : ∀ b xs, H b = some (.tup xs) → H' b = some (.tup xs)) (frzs : ∀ b o u, H b = some (.frz o u) → H' b = some (.frz o u)) (tbls : ∀ b ps, H b = some (.tbl ps) → ∃ more, H' b = some (.tbl (ps ++ more)))
  (ns : ∀ m, s.heap.Ns X.env.locals m → h'.Ns X.env.locals m) (hok : HOk X.prog X.w H' h') (hg : AllBare g') :
  Inv X pins σ H' { s with heap := h', gens := g', drawn := d', toks := t' } := by
 have neL : ∀ b o, X.s₀.heap.get? b = some o → b ≠ X.env.locals := fun b o e => Nat.ne_of_lt (Nat.lt_of_lt_of_le (Heap.lt_size e) I.ok.above)
 have neC : ∀ b o, X.s₀.heap.get? b = some o → b ∉ X.ex → b ∉ ch := fun b o e hx hb => by
  rcases (hch b hb).1 with z | z
  ·exact hx z
  ·exact absurd (Nat.lt_of_lt_of_le (Heap.lt_size e) z) (Nat.lt_irrefl _)
 have cellK : ∀ x c, X.env.cells.lookup x = some c → ∀ v, s.heap.IsCell c v → h'.IsCell c v := fun x c e v ⟨o, ho, hd⟩ => by
  have nch : c ∉ ch := fun z => (hch c z).2.2.1 x c e rfl
  by_cases hc : c ∈ X.fs
  ·obtain ⟨sl, q⟩ := slot c o (I.cne x c e) hc nch ho (I.freeC x c e)
   exact ⟨_, q, hd⟩
  ·exact ⟨o, keep c o (I.cne x c e) hc nch ho (I.freeC x c e), hd⟩
 refine ⟨I.ok, I.os, hg, ⟨fun b o e n hb hx => ?_, fun b o e n hb hx => ?_, fun b o e n hx => ?_, fun b o e hx => ?_, fun b xs e => tups b xs (I.base.tups b xs e), fun b o xs e => frzs b o xs (I.base.frzs b o xs e), fun b ps e => ?_⟩, ?_, fun x c e => ?_, ?_, fun x c e => ?_, fun p hp => ?_, hok, I.len⟩
 ·exact keep b o (neL b o e) hb (neC b o e hx) (I.base.keep b o e n hb hx) (I.base.free b o e n hx)
 ·obtain ⟨sl, e1⟩ := I.base.slot b o e n hb hx
  obtain ⟨sl', e2⟩ := slot b _ (neL b o e) hb (neC b o e hx) e1 (I.base.free b o e n hx)
  exact ⟨sl', e2⟩
 ·obtain ⟨o', e1⟩ := I.base.there b o e hx
  exact free b o' (neC b o e hx) e1 (I.base.free b o e n hx)
 ·obtain ⟨o', e1⟩ := I.base.there b o e hx
  exact there b o' (neC b o e hx) e1
 ·obtain ⟨m1, e1⟩ := I.base.tbls b ps e
  obtain ⟨m2, e2⟩ := tbls b _ e1
  exact ⟨m1 ++ m2, by rw [e2, Array.append_assoc]⟩
 ·obtain ⟨m, hn, hl⟩ := I.loc
  refine ⟨m, ns m hn, fun i x v e1 e2 e3 => ?_⟩
  obtain ⟨u, r, l⟩ := hl i x v e1 e2 e3
  refine ⟨u, r, ?_⟩
  rcases l with l | ⟨k, c, e, z⟩
  ·exact .inl l
  ·exact .inr ⟨k, c, e, cellK x c e _ z⟩
 ·obtain ⟨v, z⟩ := I.cell x c e
  exact ⟨v, cellK x c e v z⟩
 ·obtain ⟨m, ⟨o, _, _, ho, _⟩, _⟩ := I.loc
  exact free _ o (fun z => (hch _ z).2.1 rfl) ho I.free
 ·obtain ⟨v, o, ho, hd⟩ := I.cell x c e
  exact free c o (fun z => (hch c z).2.2.1 x c e rfl) ho (I.freeC x c e)
 ·obtain ⟨e, n, ne, nf, d⟩ := I.pin p hp
  have nch : p.1 ∉ ch := fun z => (hch p.1 z).2.2.2 p hp rfl
  exact ⟨keep p.1 p.2 ne nf nch e n, free p.1 p.2 nch e n, ne, nf, d⟩
theorem Inv.un {t' : Nat} (I : Inv X pins σ H s) (u : Un X.fs [] H H' s.heap h') (hok : HOk X.prog X.w H' h') : Inv X pins σ H' { s with heap := h', toks := t' } := by
 obtain ⟨m, ⟨o, es, ep, ho, r⟩, _⟩ := id I.loc
 obtain ⟨sl, hL⟩ := u.any ho I.free (by simp)
 exact I.step (g' := s.gens) (d' := s.drawn) (ch := []) (fun _ z => nomatch z) (fun b o _ hb _ e n => u.keep b o e n hb (by simp)) (fun b o _ hb _ e n => u.slot b o e n hb (by simp)) (fun b o _ e n => u.free b o e n (by simp)) (fun b o _ e => u.there b o e (by simp)) u.tups u.frzs u.tbls (fun m' hm => by
  obtain ⟨o', es', ep', ho', r'⟩ := hm
  rw [ho] at ho'; cases ho'
  exact ⟨_, es', ep', hL, r'⟩) hok I.bare
theorem Inv.call {g' : Array GenState} {t' : Nat} {d' : Drawn} {ch : List Addr} (I : Inv X pins σ H s) (u : Un (frs X.stack) ch H H' s.heap h') (hok : HOk X.prog X.w H' h') (hg : AllBare g')
  (hch : ∀ b ∈ ch, (b ∈ X.ex ∨ X.s₀.heap.objs.size ≤ b) ∧ b ≠ X.env.locals ∧ (∀ x c, X.env.cells.lookup x = some c → c ≠ b) ∧ ∀ p ∈ X.pn ++ pins, p.1 ≠ b) :
  Inv X pins σ H' { s with heap := h', gens := g', drawn := d', toks := t' } := by
 obtain ⟨m, ⟨o, es, ep, ho, r⟩, _⟩ := id I.loc
 obtain ⟨sl, hL⟩ := u.any ho I.free fun z => (hch _ z).2.1 rfl
 exact I.step (ch := ch) hch (fun b o hL hb hc e n => u.keep b o e n (fun z => (List.mem_cons.mp (I.stkSub b z)).elim hL hb) hc) (fun b o _ _ hc e n => u.any e n hc) (fun b o hc e n => u.free b o e n hc) (fun b o hc e => u.there b o e hc) u.tups u.frzs u.tbls (fun m' hm => by
  obtain ⟨o', es', ep', ho', r'⟩ := hm
  rw [ho] at ho'; cases ho'
  exact ⟨_, es', ep', hL, r'⟩) hok hg
theorem Inv.turned {t' : Nat} {it : Addr} (I : Inv X pins σ H s) (k : ∀ b o, b ≠ it → s.heap.get? b = some o → h'.get? b = some o) (hn : H it = none) (hL : it ≠ X.env.locals)
  (h1 : it ∈ X.ex ∨ X.s₀.heap.objs.size ≤ it) (h2 : ∀ x c, X.env.cells.lookup x = some c → c ≠ it) (h3 : ∀ p ∈ X.pn ++ pins, p.1 ≠ it) : Inv X pins σ H { s with heap := h', toks := t' } := by
 have nit : ∀ b u, H b = some u → b ≠ it := fun b u e z => by rw [z, hn] at e; cases e
 refine I.step (g' := s.gens) (d' := s.drawn) (ch := [it]) (fun b hb => ?_) (fun b o _ _ hc e _ => k b o (fun z => hc (by simp [z])) e) (fun b o _ _ hc e _ => ⟨o.slots, k b o (fun z => hc (by simp [z])) e⟩) (fun _ _ _ _ n => n)
  (fun b o hc e => ⟨o, k b o (fun z => hc (by simp [z])) e⟩) (fun _ _ e => e) (fun _ _ _ e => e) (fun b ps e => ⟨#[], by rw [e]; simp⟩) (fun m hm => ?_) (fun b u e => ?_) I.bare
 ·have e : b = it := by simpa using hb
  subst e
  exact ⟨h1, hL, h2, h3⟩
 ·obtain ⟨o, es, ep, ho, r⟩ := hm
  exact ⟨o, es, ep, k _ o (Ne.symm hL) ho, r⟩
 ·refine (I.hok b u e).stay (fun c v hc q => k c v ?_ q) (fun _ q => q) fun _ _ q => q
  rcases hc with z | z
  ·rw [z]; exact nit b u e
  ·exact nit c _ z
theorem Inv.tok (I : Inv X pins σ H s) (t : Nat) : Inv X pins σ H { s with toks := t } := I.un (h' := s.heap) (t' := t) Un.refl I.hok
theorem Inv.kept {t' : Nat} (I : Inv X pins σ H s) (k : ∀ b u, s.heap.get? b = some u → h'.get? b = some u) : Inv X pins σ H { s with heap := h', toks := t' } := I.un (Un.kept k) (I.hok.kept k)
theorem Inv.laid {a : Addr} {o : HO} {t' : Nat} (I : Inv X pins σ H s) (k : ∀ b u, s.heap.get? b = some u → h'.get? b = some u) (hp : s.heap.objs.size ≤ a) (new : ObjOk X.prog X.w (upd H a o) h' a o) :
  Inv X pins σ (upd H a o) { s with heap := h', toks := t' } := I.un (Un.laid k hp (I.hok.fresh hp)) (I.hok.laid k hp new)
theorem Inv.write {x e : Addr} {o : HO} {t' : Nat} (I : Inv X pins σ H s) (mu : Mut (H x)) (he : e = x ∨ H e = some (.own x)) (k : ∀ b u, b ≠ e → s.heap.get? b = some u → h'.get? b = some u) (heo : ∃ u, h'.get? e = some u)
  (new : ObjOk X.prog X.w (upd H x o) h' x o) : Inv X pins σ (upd H x o) { s with heap := h', toks := t' } := I.un (Un.write mu he k heo) (I.hok.write mu he k heo new)
theorem Inv.pins_of {pins' : List (Addr × Obj)} (I : Inv X pins σ H s) (h : ∀ p ∈ pins', s.heap.get? p.1 = some p.2 ∧ H p.1 = none ∧ p.1 ≠ X.env.locals ∧ p.1 ∉ X.fs ∧ ∀ v, p.2.data ≠ .cell v) : Inv X pins' σ H s :=
 ⟨I.ok, I.os, I.bare, I.base, I.loc, I.cell, I.free, I.freeC, fun p hp => (List.mem_append.mp hp).elim (fun z => I.pin p (List.mem_append_left _ z)) (h p), I.hok, I.len⟩
theorem nodup_ix {N : List Str} (hN : N.Nodup) {i j : Nat} {x : Str} (a : N[i]? = some x) (b : N[j]? = some x) : i = j := by
 obtain ⟨h1, e1⟩ := List.getElem?_eq_some_iff.mp a
 obtain ⟨h2, e2⟩ := List.getElem?_eq_some_iff.mp b
 exact (List.getElem_inj hN).mp (e1.trans e2.symm)
theorem store_ok2 {M : Model} {A : Around} {E : Value → Shared → Prop} {i : Nat} {x : Str} {v : V} {u : Value} {Q : Unit → Shared → Prop} (I : Inv X pins σ H s) (hN : X.N.Nodup) (hi : X.N[i]? = some x) (hx : Loc X.env.scope x) (r : RelV v u)
  (h : ∀ s', Inv X pins (σ.set i (some v)) H s' → (∃ a, Heap.SameBut a s.heap s'.heap ∧ (a = X.env.locals ∨ X.env.cells.lookup x = some a)) → Q () s') (hf : X.fn x = true ∨ X.env.scope.names.lookup x = some .local := by first | exact .inl rfl | exact .inr rfl | assumption) : wpAny M A (storeName X.env x u) Q E s := by
 obtain ⟨m, hn, hl⟩ := id I.loc
 have hcls : (X.env.scope.kind == .class || (X.env.scope.kind == .module && X.env.locals != X.env.globals)) = false := by rw [I.ok.kind]; rfl
 have hiσ : i < σ.length := by rw [I.len]; exact (List.getElem?_eq_some_iff.mp hi).1
 have cne := I.cne
 have tracked : ∀ {a : Addr} {h' : Heap}, (∃ o, s.heap.get? a = some o ∧ H a = none) → Heap.SameBut a s.heap h' → HOk X.prog X.w H h' := fun {a h'} ha hs b ob e => by
  obtain ⟨_, _, hfree⟩ := ha
  refine (I.hok b ob e).stay (fun c w' hc q => (hs.2 c ?_).trans q) (fun _ q => q) fun _ _ q => q
  rintro rfl
  rcases hc with rfl | hc
  ·rw [hfree] at e; cases e
  ·rw [hfree] at hc; cases hc
 rcases hx with hk | hk
 ·refine wpAny_storeName_local hk hn (fun h' hn' hs => ?_) hcls
  obtain ⟨oL, _, _, hoL, _⟩ := id hn
  refine h _ ⟨I.ok, I.os, I.bare, ⟨fun b o e n hb hx => ?_, fun b o e n hb hx => ?_, I.base.free, fun b o e hx => ?_, I.base.tups, I.base.frzs, I.base.tbls⟩, ⟨_, hn', fun j y v' e1 e2 e3 => ?_⟩, fun y c e => ?_, I.free, I.freeC, fun p hp => ?_, tracked ⟨oL, hoL, I.free⟩ hs, by simpa using I.len⟩ ⟨_, hs, .inl rfl⟩
  ·exact (hs.2 b (Nat.ne_of_lt (Nat.lt_of_lt_of_le (Heap.lt_size e) I.ok.above))).trans (I.base.keep b o e n hb hx)
  ·obtain ⟨sl, e1⟩ := I.base.slot b o e n hb hx
   exact ⟨sl, (hs.2 b (Nat.ne_of_lt (Nat.lt_of_lt_of_le (Heap.lt_size e) I.ok.above))).trans e1⟩
  ·obtain ⟨o', e1⟩ := I.base.there b o e hx
   exact ⟨o', (hs.2 b (Nat.ne_of_lt (Nat.lt_of_lt_of_le (Heap.lt_size e) I.ok.above))).trans e1⟩
  ·by_cases hj : j = i
   ·subst hj
    rw [hi] at e1; cases e1
    rw [List.getElem?_set_self hiσ] at e2
    cases e2
    exact ⟨u, r, .inl ⟨hk, by simp⟩⟩
   ·rw [List.getElem?_set_ne (Ne.symm hj)] at e2
    obtain ⟨u', r', q⟩ := hl j y v' e1 e2 e3
    refine ⟨u', r', ?_⟩
    rcases q with ⟨k, e⟩ | ⟨k, c, e, z⟩
    ·refine .inl ⟨k, ?_⟩
     have : y ≠ x := fun e => hj (nodup_ix hN e1 (e ▸ hi))
     simp [this, e]
    ·exact .inr ⟨k, c, e, z.sameBut hs (cne y c e)⟩
  ·obtain ⟨w', z⟩ := I.cell y c e
   exact ⟨w', z.sameBut hs (cne y c e)⟩
  ·obtain ⟨e, n, ne, nf, d⟩ := I.pin p hp
   exact ⟨(hs.2 p.1 ne).trans e, n, ne, nf, d⟩
 ·have hfn : X.fn x = true := by
   rcases hf with z | z
   ·exact z
   ·rw [z] at hk; cases hk
  obtain ⟨c, hc⟩ := I.ok.has x (.inl hk)
  obtain ⟨w', z⟩ := I.cell x c hc
  refine wpAny_storeName_cell I.ok.kind hk hc z (fun h' hc' hs => ?_)
  obtain ⟨oc, hoc, hocd⟩ := id z
  refine h { s with heap := h' } ⟨I.ok, I.os, I.bare, ⟨fun b o e n hb hx => ?_, fun b o e n hb hx => ?_, I.base.free, fun b o e hx => ?_, I.base.tups, I.base.frzs, I.base.tbls⟩, ⟨m, hn.sameBut hs (Ne.symm (cne x c hc)), fun j y v' e1 e2 e3 => ?_⟩, fun y c' e => ?_, I.free, I.freeC, fun p hp => ?_, tracked ⟨oc, hoc, I.freeC x c hc⟩ hs, by simpa using I.len⟩ ⟨c, hs, .inr hc⟩
  ·exact (hs.2 b (Nat.ne_of_lt (Nat.lt_of_lt_of_le (Heap.lt_size e) (I.ok.cab x c hfn hc)))).trans (I.base.keep b o e n hb hx)
  ·obtain ⟨sl, e1⟩ := I.base.slot b o e n hb hx
   exact ⟨sl, (hs.2 b (Nat.ne_of_lt (Nat.lt_of_lt_of_le (Heap.lt_size e) (I.ok.cab x c hfn hc)))).trans e1⟩
  ·obtain ⟨o', e1⟩ := I.base.there b o e hx
   exact ⟨o', (hs.2 b (Nat.ne_of_lt (Nat.lt_of_lt_of_le (Heap.lt_size e) (I.ok.cab x c hfn hc)))).trans e1⟩
  ·by_cases hj : j = i
   ·subst hj
    rw [hi] at e1; cases e1
    rw [List.getElem?_set_self hiσ] at e2
    cases e2
    exact ⟨u, r, .inr ⟨.inl hk, c, hc, hc'⟩⟩
   ·rw [List.getElem?_set_ne (Ne.symm hj)] at e2
    obtain ⟨u', r', q⟩ := hl j y v' e1 e2 e3
    refine ⟨u', r', ?_⟩
    rcases q with q | ⟨k, c', e, z'⟩
    ·exact .inl q
    ·refine .inr ⟨k, c', e, z'.sameBut hs ?_⟩
     rintro rfl
     exact hj (nodup_ix hN e1 (I.ok.inj _ _ _ e hc ▸ hi))
  ·by_cases hcc : c' = c
   ·subst hcc; exact ⟨_, hc'⟩
   ·obtain ⟨w2, z2⟩ := I.cell y c' e
    exact ⟨w2, z2.sameBut hs hcc⟩
  ·obtain ⟨e, n, ne, nf, d⟩ := I.pin p hp
   refine ⟨(hs.2 p.1 ?_).trans e, n, ne, nf, d⟩
   intro q
   rw [q, hoc] at e
   have q' : oc = p.2 := Option.some.inj e
   exact d w' (by rw [← q']; exact hocd)
theorem store_ok {M : Model} {A : Around} {E : Value → Shared → Prop} {i : Nat} {x : Str} {v : V} {u : Value} {Q : Unit → Shared → Prop} (I : Inv X pins σ H s) (hN : X.N.Nodup) (hi : X.N[i]? = some x) (hx : Loc X.env.scope x) (r : RelV v u)
  (h : ∀ s', Inv X pins (σ.set i (some v)) H s' → Q () s') (hf : X.fn x = true ∨ X.env.scope.names.lookup x = some .local := by first | exact .inl rfl | exact .inr rfl | assumption) : wpAny M A (storeName X.env x u) Q E s :=
 store_ok2 I hN hi hx r (fun s' I' _ => h s' I') hf
theorem Inv.call' {s' : Shared} {ch : List Addr} (I : Inv X pins σ H s) (ho : s'.os = s.os) (u : Un (frs X.stack) ch H H' s.heap s'.heap) (hok : HOk X.prog X.w H' s'.heap) (hg : AllBare s'.gens)
  (hch : ∀ b ∈ ch, (b ∈ X.ex ∨ X.s₀.heap.objs.size ≤ b) ∧ b ≠ X.env.locals ∧ (∀ x c, X.env.cells.lookup x = some c → c ≠ b) ∧ ∀ p ∈ X.pn ++ pins, p.1 ≠ b) : Inv X pins σ H' s' := by
 obtain ⟨h', g', d', t', o'⟩ := s'
 have e : o' = s.os := ho
 subst e
 exact I.call (g' := g') (t' := t') (d' := d') u hok hg hch
end
abbrev XK := Value → Option Addr → Hp → Prop
abbrev St := List (Option V)
abbrev VK := V → Hp → Prop
abbrev TE := St → Hp → VK → Prop
abbrev TT := St → Hp → (Bool → Hp → Prop) → Prop
abbrev TA := St → Hp → (List V → Hp → Prop) → Prop
structure Ends where
 nx : St → Hp → Prop
 rt : VK
 bk : St → Hp → Prop := fun _ _ => False
 ct : St → Hp → Prop := fun _ _ => False
abbrev TS := Ends → St → Hp → Prop
def EP (X : Cx) (pins : List (Addr × Obj)) (σ : St) (Q : VK) (u : Value) (s' : Shared) : Prop := ∃ v H', Inv X pins σ H' s' ∧ RelV v u ∧ Q v H'
def TP (X : Cx) (pins : List (Addr × Obj)) (σ : St) (Q : Bool → Hp → Prop) (b : Bool) (s' : Shared) : Prop := ∃ H', Inv X pins σ H' s' ∧ Q b H'
def AP (X : Cx) (pins : List (Addr × Obj)) (σ : St) (Q : List V → Hp → Prop) (us : List Value) (s' : Shared) : Prop := ∃ vs H', Inv X pins σ H' s' ∧ Vals vs us ∧ Q vs H'
def SP (X : Cx) (pins : List (Addr × Obj)) (D : Ends) (f : Flow) (s' : Shared) : Prop :=
 match f with
 | .next => ∃ σ' H', Inv X pins σ' H' s' ∧ D.nx σ' H'
 | .brk => ∃ σ' H', Inv X pins σ' H' s' ∧ D.bk σ' H'
 | .cont => ∃ σ' H', Inv X pins σ' H' s' ∧ D.ct σ' H'
 | .ret u => ∃ v σ' H', Inv X pins σ' H' s' ∧ RelV v u ∧ D.rt v H'
def PE (X : Cx) (e : Expr) (t : TE) : Prop :=
 ∀ (pins : List (Addr × Obj)) (s : Shared) (σ : St) (H : Hp) (Q : VK), Inv X pins σ H s → t σ H Q → wpAny (model X.prog X.w) X.A (eval e X.env) (EP X pins σ Q) X.xe s
def PT (X : Cx) (e : Expr) (t : TT) : Prop :=
 ∀ (pins : List (Addr × Obj)) (s : Shared) (σ : St) (H : Hp) (Q : Bool → Hp → Prop), Inv X pins σ H s → t σ H Q → wpAny (model X.prog X.w) X.A (isTrue e X.env (eval e X.env)) (TP X pins σ Q) X.xe s
def PW (X : Cx) (e : Expr) (t : TT) : Prop :=
 ∀ (whole : Sem Value) (pins : List (Addr × Obj)) (s : Shared) (σ : St) (H : Hp) (Q : Bool → Hp → Prop), Inv X pins σ H s → t σ H Q → wpAny (model X.prog X.w) X.A (isTrue e X.env whole) (TP X pins σ Q) X.xe s
theorem PW.pt {X : Cx} {e : Expr} {t : TT} (h : PW X e t) : PT X e t := h _
def PA (X : Cx) (es : List Expr) (t : TA) : Prop :=
 ∀ (pos : Pos) (pins : List (Addr × Obj)) (s : Shared) (σ : St) (H : Hp) (Q : List V → Hp → Prop), Inv X pins σ H s → t σ H Q → wpAny (model X.prog X.w) X.A (spliced (backTo pos (starEach es X.env))) (AP X pins σ Q) X.xe s
def PS (X : Cx) (st : Stmt) (t : TS) : Prop :=
 ∀ (pins : List (Addr × Obj)) (s : Shared) (σ : St) (H : Hp) (D : Ends), Inv X pins σ H s → t D σ H → wpAny (model X.prog X.w) X.A (exec st X.env) (SP X pins D) X.xe s
def PSs (X : Cx) (st : List Stmt) (t : TS) : Prop :=
 ∀ (pins : List (Addr × Obj)) (s : Shared) (σ : St) (H : Hp) (D : Ends), Inv X pins σ H s → t D σ H → wpAny (model X.prog X.w) X.A (execs st X.env) (SP X pins D) X.xe s
theorem thn {α : Type} {t : Sem α} {Q Q' : α → Shared → Prop} {M : Model} {A : Around} {E : Value → Shared → Prop} {s : Shared} (h : wpAny M A t Q E s) (hQ : ∀ a s, Q a s → Q' a s) : wpAny M A t Q' E s := wpAny_mono h hQ fun _ _ x => x
section
variable {X : Cx}
def tVar (i : Nat) : TE := fun σ H Q => ∃ v, σ[i]? = some (some v) ∧ Q v H
def tC (v : V) : TE := fun _ H Q => Q v H
theorem pe_var {i : Nat} {x : Str} {pos : Pos} (hN : X.N[i]? = some x) (hv : Vis X.env.scope x) (hd : (x == ("__debug__" : Str)) = false := by decide) (hcd : (x == ("__classdict__" : Str)) = false := by decide) : PE X (.Name x pos) (tVar i) := by
 intro pins s σ H Q I h
 obtain ⟨v, e, h⟩ := h
 obtain ⟨m, hn, hl⟩ := I.loc
 obtain ⟨u, r, l⟩ := hl i x v hN e hv
 have fin : EP X pins σ Q u s := ⟨v, H, I, r, h⟩
 rcases l with ⟨hk, hm⟩ | ⟨hk, c, hc, hcell⟩
 ·exact wpAny_Name (wpAny_loadName_local I.ok.kind hk hn hm fin) hd
 ·rcases hk with hk | hk
  ·exact wpAny_Name (wpAny_loadName_cell I.ok.kind hk hc hcell fin) hd
  ·exact wpAny_Name (wpAny_loadName_free I.ok.kind hk hc hcell fin hcd) hd
theorem pe_int {i j pos} : PE X (.Constant (.int i) j pos) (tC (.int i)) := fun _ _ _ H _ I h => wpAny_Constant_int ⟨.int i, H, I.tok _, ⟨_, rfl⟩, h⟩
theorem pe_bl {b j pos} : PE X (.Constant (.bool b) j pos) (tC (.bl b)) := fun _ _ _ H _ I h => Constant_bool ⟨.bl b, H, I, rfl, h⟩
theorem pe_non {j pos} : PE X (.Constant .none j pos) (tC .non) := fun _ _ _ H _ I h => Constant_none ⟨.non, H, I, rfl, h⟩
theorem pe_str {x j pos} : PE X (.Constant (.str x) j pos) (tC (.str x)) := fun _ _ _ H _ I h => Calls.Constant_str ⟨.str x, H, I.tok _, ⟨_, rfl⟩, h⟩
def Gl (X : Cx) (x : Str) : Prop := X.env.kindOf x = some .globalImplicit
theorem ld_glob {E : Value → Shared → Prop} {pins : List (Addr × Obj)} {s : Shared} {σ : St} {H : Hp} {x : Str} {u : Value} {pos : Pos} {Q : Value → Shared → Prop} (I : Inv X pins σ H s) (hg : Gl X x) (hm : X.mg x = some u) (h : Q u s)
  (hd : (x == ("__debug__" : Str)) = false := by decide) : wpAny (model X.prog X.w) X.A (eval (.Name x pos) X.env) Q E s :=
 Calls.Name_function_global I.ok.kind hg (Calls.loadGlobal_global (by rw [I.ok.glob]; exact I.mod.glob.keeps I.bk) hm h) hd
theorem ld_blt {E : Value → Shared → Prop} {pins : List (Addr × Obj)} {s : Shared} {σ : St} {H : Hp} {x : Str} {u : Value} {pos : Pos} {Q : Value → Shared → Prop} (I : Inv X pins σ H s) (hg : Gl X x) (hm : X.mg x = none) (hv : bootBuiltins x = some u) (h : Q u s)
  (hn : x ≠ "__name__" := by decide) (hd : (x == ("__debug__" : Str)) = false := by decide) : wpAny (model X.prog X.w) X.A (eval (.Name x pos) X.env) Q E s := by
 obtain ⟨mb, h1, h2⟩ := I.mod.blt
 exact Calls.Name_function_global I.ok.kind hg (Calls.loadGlobal_builtin (by rw [I.ok.glob]; exact I.mod.glob.keeps I.bk) hm (by rw [I.ok.blt]; exact h1.keeps I.bk) ((h2 x hn).trans hv) h) hd
theorem pe_glob {x : Str} {v : V} {u : Value} {pos : Pos} (hg : Gl X x) (hm : X.mg x = some u) (r : RelV v u) (hd : (x == ("__debug__" : Str)) = false := by decide) : PE X (.Name x pos) (tC v) :=
 fun _ _ _ H _ I h => ld_glob I hg hm ⟨v, H, I, r, h⟩ hd
theorem pe_bltn {x : Str} {v : V} {u : Value} {pos : Pos} (hg : Gl X x) (hm : X.mg x = none) (hv : bootBuiltins x = some u) (r : RelV v u) (hn : x ≠ "__name__" := by decide) (hd : (x == ("__debug__" : Str)) = false := by decide) : PE X (.Name x pos) (tC v) :=
 fun _ _ _ H _ I h => ld_blt I hg hm hv ⟨v, H, I, r, h⟩ hn hd
variable {a b : Expr} {ta tb : TE} {pos : Pos}
def PC (X : Cx) (op : CmpOp) (a b : Expr) (t : TE) : Prop :=
 ∀ (pins : List (Addr × Obj)) (s : Shared) (σ : St) (H : Hp) (Q : VK), Inv X pins σ H s → t σ H Q →
  wpAny (model X.prog X.w) X.A (eval a X.env) (fun v s₁ => wpAny (model X.prog X.w) X.A (eval b X.env) (fun u s₂ => wpAny (model X.prog X.w) X.A (compareOp op v u) (EP X pins σ Q) X.xe s₂) X.xe s₁) X.xe s
theorem nobehind (b : Expr) {op : CmpOp} (h : op ≠ .In) (h2 : op ≠ .NotIn) : behindInMarks op b = false := by
 have e1 : (op == CmpOp.In) = false := by cases op <;> first | rfl | exact absurd rfl h
 have e2 : (op == CmpOp.NotIn) = false := by cases op <;> first | rfl | exact absurd rfl h2
 cases b <;> simp [behindInMarks, e1, e2]
def tNotN (ta : TE) : TE := fun σ H Q => ta σ H fun x H1 => Q (.bl (!decide (x = .non))) H1
theorem RelV.none_iff {x : V} {v : Value} (r : RelV x v) : (v == Value.none) = decide (x = .non) := by
 cases x with
 | non => cases r; rfl
 | bl _ => cases r; rfl
 | int _ => obtain ⟨t, rfl⟩ := r; rfl
 | str _ => obtain ⟨t, rfl⟩ := r; rfl
 | byt _ => obtain ⟨t, rfl⟩ := r; rfl
 | flt _ => obtain ⟨t, rfl⟩ := r; rfl
 | ref _ => cases r; rfl
 | ty _ => cases r; rfl
theorem pc_notN {j pos'} (ha : PE X a ta) : PC X .IsNot a (.Constant .none j pos') (tNotN ta) := by
 intro pins s σ H Q I h
 refine thn (ha pins s σ H _ I h) fun v s1 ⟨x, H1, I1, r1, q1⟩ => ?_
 exact Constant_none (isnot_none_gen ⟨.bl _, H1, I1, by rw [r1.none_iff]; rfl, q1⟩)
def tB (t : TE) : TT := fun σ H Q => t σ H fun x H1 => ∃ c, x = .bl c ∧ Q c H1
theorem pt_cmp {op : CmpOp} {t : TE} (h : PC X op a b t) (h1 : behindInMarks op b = false := by first | exact nobehind _ (by decide) (by decide) | rfl) : PT X (.Compare a [op] [b] pos) (tB t) := by
 intro pins s σ H Q I hw
 refine wpAny_isTrue_Compare1 (thn (h pins s σ H _ I hw) fun v s1 h1 => thn h1 fun u s2 h2 => thn h2 fun c s3 ⟨x, H1, I1, r1, q1⟩ => ?_) h1
 obtain ⟨d, rfl, q⟩ := q1
 cases r1
 exact wpAny_truthy_bool ⟨H1, I1, q⟩
theorem pt_val {e : Expr} {t : TE} (h : PE X e t) (he : ∀ whole, isTrue e X.env whole = (do let v ← whole; standAt e.pos; holding [v] (truthy v)) := by intro _; rfl) : PT X e (tB t) := by
 intro pins s σ H Q I hw
 refine isTrue_plain (thn (h pins s σ H _ I hw) fun v s1 ⟨x, H1, I1, r1, q1⟩ => ?_) (he _)
 obtain ⟨d, rfl, q⟩ := q1
 cases r1
 exact wpAny_truthy_bool ⟨H1, I1, q⟩
variable {tA tB' : TT} {rest : List Expr}
def tAnd (t u : TT) : TT := fun σ H Q => t σ H fun c H1 => if c = true then u σ H1 Q else Q false H1
def tOr (t u : TT) : TT := fun σ H Q => t σ H fun c H1 => if c = true then Q true H1 else u σ H1 Q
def tNot (t : TT) : TT := fun σ H Q => t σ H fun c H1 => Q (!c) H1
theorem pw_and1 (ha : PT X a tA) : PW X (.BoolOp .And [a] pos) tA := by
 intro wh pins s σ H Q I h
 refine isTrue_and (thn (ha pins s σ H Q I h) fun c s1 e => ?_)
 cases c with
 | true => exact isTrue_and_nil e
 | false => exact e
theorem pw_or1 (ha : PT X a tA) : PW X (.BoolOp .Or [a] pos) tA := by
 intro wh pins s σ H Q I h
 refine isTrue_or (thn (ha pins s σ H Q I h) fun c s1 e => ?_)
 cases c with
 | false => exact isTrue_or_nil e
 | true => exact e
theorem pw_and (ha : PT X a tA) (hb : PW X (.BoolOp .And (b :: rest) pos) tB') : PW X (.BoolOp .And (a :: b :: rest) pos) (tAnd tA tB') := by
 intro wh pins s σ H Q I h
 refine isTrue_and (thn (ha pins s σ H _ I h) fun c s1 ⟨H1, I1, q1⟩ => ?_)
 cases c with
 | true => exact hb wh pins s1 σ H1 Q I1 q1
 | false => exact ⟨H1, I1, q1⟩
theorem pw_or (ha : PT X a tA) (hb : PW X (.BoolOp .Or (b :: rest) pos) tB') : PW X (.BoolOp .Or (a :: b :: rest) pos) (tOr tA tB') := by
 intro wh pins s σ H Q I h
 refine isTrue_or (thn (ha pins s σ H _ I h) fun c s1 ⟨H1, I1, q1⟩ => ?_)
 cases c with
 | true => exact ⟨H1, I1, q1⟩
 | false => exact hb wh pins s1 σ H1 Q I1 q1
theorem pt_not (ha : PT X a tA) : PT X (.UnaryOp .Not a pos) (tNot tA) := by
 intro pins s σ H Q I h
 exact isTrue_not (ha pins s σ H (fun c H1 => Q (!c) H1) I h)
end
def SqL (K : PySem.W.Frag) (H : Hp) (a : Addr) (xs : List V) : Prop :=
 Rd H a (.lst xs) ∨
  ∃ (o : Obj) (its : Array Value) (n : Nat), K.lookup a = some o ∧ o.cls = .type "list" ∧ o.dict = none ∧ o.data = .seq its n ∧ its.size ≤ sizeLine ∧ Vals xs its.toList
def SqT (K : PySem.W.Frag) (H : Hp) (a : Addr) (xs : List V) : Prop :=
 Rd H a (.tup xs) ∨
  ∃ (o : Obj) (its : Array Value) (n : Nat), K.lookup a = some o ∧ o.cls = .type "tuple" ∧ o.data = .seq its n ∧ its.size ≤ sizeLine ∧ Vals xs its.toList
def absV : Value → Option V
 | .none => some .non
 | .bool b => some (.bl b)
 | .int i _ => some (.int i)
 | .str x _ => some (.str x)
 | .bytes b _ => some (.byt b)
 | .float b _ => some (.flt b)
 | .ref a => some (.ref a)
 | .type n => some (.ty n)
 | _ => none
theorem RelV.abs {x : V} {u : Value} (r : RelV x u) : absV u = some x := by
 cases x with
 | non => cases r; rfl
 | bl _ => cases r; rfl
 | int _ => obtain ⟨t, rfl⟩ := r; rfl
 | str _ => obtain ⟨t, rfl⟩ := r; rfl
 | byt _ => obtain ⟨t, rfl⟩ := r; rfl
 | flt _ => obtain ⟨t, rfl⟩ := r; rfl
 | ref _ => cases r; rfl
 | ty _ => cases r; rfl
theorem RelV.inj {x y : V} {u : Value} (r : RelV x u) (q : RelV y u) : x = y := Option.some.inj (r.abs.symm.trans q.abs)
theorem Vals.inj : ∀ {xs ys : List V} {us : List Value}, Vals xs us → Vals ys us → xs = ys
 | _, _, _, .nil, .nil => rfl
 | _, _, _, .cons r t, .cons r' t' => by rw [r.inj r', Vals.inj t t']
section
variable {X : Cx} {pins : List (Addr × Obj)} {σ : St} {H : Hp} {s : Shared} {a : Addr} {xs ys : List V}
theorem SqL.of {K : PySem.W.Frag} (h : H a = some (.lst xs)) : SqL K H a xs := .inl (.inl h)
theorem SqT.of {K : PySem.W.Frag} (h : H a = some (.tup xs)) : SqT K H a xs := .inl (.inl h)
theorem Inv.list (I : Inv X pins σ H s) (h : SqL X.K H a xs) : ∃ its : List Value, Vals xs its ∧ PlainL s.heap a its.toArray ∧ xs.length ≤ sizeLine := by
 rcases h with h | ⟨o, its, n, hk, hc, hd, hs, hz, r⟩
 ·obtain ⟨z, its, n, r, e⟩ := h.ok I.hok
  exact ⟨its, r, ⟨_, n, e, rfl, rfl, rfl⟩, z⟩
 ·refine ⟨its.toList, r, ⟨o, n, I.kIn a o hk, hc, hd, by simpa using hs⟩, ?_⟩
  have e := r.length
  simp only [Array.length_toList] at e
  omega
theorem Inv.tuple (I : Inv X pins σ H s) (h : SqT X.K H a xs) : ∃ its : List Value, Vals xs its ∧ IsTup s.heap a its.toArray ∧ xs.length ≤ sizeLine := by
 rcases h with h | ⟨o, its, n, hk, hc, hs, hz, r⟩
 ·obtain ⟨z, its, r, p⟩ := h.ok I.hok
  exact ⟨its, r, p, z⟩
 ·refine ⟨its.toList, r, ⟨o, I.kIn a o hk, hc, n, by simpa using hs⟩, ?_⟩
  have e := r.length
  simp only [Array.length_toList] at e
  omega
theorem Inv.list_inj (I : Inv X pins σ H s) (h : SqL X.K H a xs) (h' : SqL X.K H a ys) : xs = ys := by
 obtain ⟨its, r, ⟨o, n, e, _, _, d⟩, _⟩ := I.list h
 obtain ⟨its', r', ⟨o', n', e', _, _, d'⟩, _⟩ := I.list h'
 rw [e] at e'; cases e'
 rw [d] at d'
 injection d' with d1 _
 have : its = its' := by simpa using congrArg Array.toList d1
 subst this
 exact r.inj r'
theorem Inv.tuple_inj (I : Inv X pins σ H s) (h : SqT X.K H a xs) (h' : SqT X.K H a ys) : xs = ys := by
 obtain ⟨its, r, ⟨o, e, _, n, d⟩, _⟩ := I.tuple h
 obtain ⟨its', r', ⟨o', e', _, n', d'⟩, _⟩ := I.tuple h'
 rw [e] at e'; cases e'
 rw [d] at d'
 injection d' with d1 _
 have : its = its' := by simpa using congrArg Array.toList d1
 subst this
 exact r.inj r'
end
abbrev Cx.wish (X : Cx) (E : Value → Shared → Prop) : Cx := { X with xe := E }
abbrev Cx.nox (X : Cx) : Cx := X.wish fun _ _ => False
theorem Cx.Ok.wish {X : Cx} (ok : X.Ok) (E : Value → Shared → Prop) : (X.wish E).Ok :=
 ⟨ok.mod, ok.kind, ok.glob, ok.blt, ok.above, ok.inj, ok.has, ok.cab, ok.hd, ok.frames, ok.stk, ok.exf, ok.bs, ok.bsz, ok.noex, ok.exfs, ok.funs, ok.frf⟩
theorem Cx.Ok.unwish {X : Cx} {E : Value → Shared → Prop} (ok : (X.wish E).Ok) : X.Ok :=
 ⟨ok.mod, ok.kind, ok.glob, ok.blt, ok.above, ok.inj, ok.has, ok.cab, ok.hd, ok.frames, ok.stk, ok.exf, ok.bs, ok.bsz, ok.noex, ok.exfs, ok.funs, ok.frf⟩
section
variable {X : Cx} {pins : List (Addr × Obj)} {σ : St} {H : Hp} {s : Shared} {E : Value → Shared → Prop}
theorem Inv.wish (I : Inv X pins σ H s) (E : Value → Shared → Prop) : Inv (X.wish E) pins σ H s := ⟨I.ok.wish E, I.os, I.bare, I.base, I.loc, I.cell, I.free, I.freeC, I.pin, I.hok, I.len⟩
theorem Inv.unwish (I : Inv (X.wish E) pins σ H s) : Inv X pins σ H s := ⟨I.ok.unwish, I.os, I.bare, I.base, I.loc, I.cell, I.free, I.freeC, I.pin, I.hok, I.len⟩
theorem SP.unwish {D : Ends} {f : Flow} {s' : Shared} (h : SP (X.wish E) pins D f s') : SP X pins D f s' := by
 cases f with
 | next => obtain ⟨σ', H', I, q⟩ := h; exact ⟨σ', H', I.unwish, q⟩
 | brk => obtain ⟨σ', H', I, q⟩ := h; exact ⟨σ', H', I.unwish, q⟩
 | cont => obtain ⟨σ', H', I, q⟩ := h; exact ⟨σ', H', I.unwish, q⟩
 | ret u => obtain ⟨v, σ', H', I, r, q⟩ := h; exact ⟨v, σ', H', I.unwish, r, q⟩
theorem PSs.nox {st : List Stmt} {t : TS} (h : PSs X.nox st t) : PSs X st t := fun pins s σ H D I hw =>
 wpAny_mono (h pins s σ H D (I.wish _) hw) (fun _ _ q => q.unwish) fun _ _ z => False.elim z
end
section
variable {X : Cx} {st : Stmt} {rest : List Stmt} {t u : TS} {e : Expr} {te : TE} {pos : Pos}
def tNext : TS := fun D σ H => D.nx σ H
def tSeq (t u : TS) : TS := fun D σ H => t { D with nx := u D } σ H
theorem pss_nil : PSs X [] tNext := fun _ _ σ H _ I h => wpAny_execs_nil ⟨σ, H, I, h⟩
theorem pss_cons (h1 : PS X st t) (h2 : PSs X rest u) : PSs X (st :: rest) (tSeq t u) := by
 intro pins s σ H D I h
 refine wpAny_execs_cons (thn (h1 pins s σ H { D with nx := u D } I h) fun f s1 q => ?_)
 cases f with
 | next =>
  obtain ⟨σ', H', I', q⟩ := q
  exact h2 pins s1 σ' H' D I' q
 | ret v => exact q
 | brk => exact q
 | cont => exact q
theorem pss_one (h1 : PS X st t) : PSs X [st] t := by
 intro pins s σ H D I h
 refine wpAny_execs_cons (thn (h1 pins s σ H D I h) fun f s1 q => ?_)
 cases f with
 | next => exact wpAny_execs_nil q
 | ret v => exact q
 | brk => exact q
 | cont => exact q
theorem Inv.quiet {pins : List (Addr × Obj)} {σ : St} {H : Hp} {s : Shared} (I : Inv X pins σ H s) : interactive X.env = false := by simp [interactive, I.ok.kind]
def tDrop (te : TE) : TS := fun D σ H => te σ H fun _ H1 => D.nx σ H1
theorem ps_expr (he : PE X e te) (hs : swapsWith e none pos.line X.env = pure false := by rfl) : PS X (.Expr e pos) (tDrop te) := by
 intro pins s σ H D I h
 exact wpAny_Expr_any (thn (he pins s σ H _ I h) fun v s1 ⟨x, H1, I1, r1, q1⟩ => ⟨σ, H1, I1, q1⟩) I.quiet hs
def tRet (te : TE) : TS := fun D σ H => te σ H D.rt
theorem ps_ret (he : PE X e te) : PS X (.Return (some e) pos) (tRet te) := by
 intro pins s σ H D I h
 exact wpAny_Return_some (thn (he pins s σ H _ I h) fun v s1 ⟨x, H1, I1, r1, q1⟩ => ⟨x, σ, H1, I1, r1, q1⟩)
def tIfS (c : TT) (t u : TS) : TS := fun D σ H => c σ H fun b H1 => if b = true then t D σ H1 else u D σ H1
theorem ps_if {c : Expr} {a b : List Stmt} {tc : TT} (hc : PT X c tc) (ha : PSs X a t) (hb : PSs X b u) : PS X (.If c a b pos) (tIfS tc t u) := by
 intro pins s σ H D I h
 refine wpAny_If (thn (hc pins s σ H _ I h) fun d s1 ⟨H1, I1, q1⟩ => ?_)
 cases d with
 | true => exact ha pins s1 σ H1 D I1 q1
 | false => exact hb pins s1 σ H1 D I1 q1
def tNever : TS := fun _ _ _ => False
theorem ps_never : PS X st tNever := fun _ _ _ _ _ _ h => h.elim
end
abbrev TG := V → St → Hp → (St → Hp → Prop) → Prop
abbrev TGs := List V → St → Hp → (St → Hp → Prop) → Prop
def PG (X : Cx) (target : Expr) (t : TG) : Prop :=
 ∀ (pins : List (Addr × Obj)) (s : Shared) (σ : St) (H : Hp) (v : V) (u : Value) (Q : St → Hp → Prop), Inv X pins σ H s → RelV v u → t v σ H Q →
  wpAny (model X.prog X.w) X.A (assign target X.env u) (fun _ s' => ∃ σ' H', Inv X pins σ' H' s' ∧ Q σ' H') X.xe s
def PGs (X : Cx) (ts : List Expr) (t : TGs) : Prop :=
 ∀ (pins : List (Addr × Obj)) (s : Shared) (σ : St) (H : Hp) (vs : List V) (us : List Value) (Q : St → Hp → Prop), Inv X pins σ H s → Vals vs us → t vs σ H Q →
  wpAny (model X.prog X.w) X.A (assignInOrder ((assignEach ts X.env).map (·.2)) us) (fun _ s' => ∃ σ' H', Inv X pins σ' H' s' ∧ Q σ' H') X.xe s
abbrev TSet := V → V → V → Hp → (Hp → Prop) → Prop
def PSet (X : Cx) (t : TSet) : Prop :=
 ∀ (pins : List (Addr × Obj)) (s : Shared) (σ : St) (H : Hp) (o i v : V) (ov iv u : Value) (Q : Hp → Prop), Inv X pins σ H s → RelV o ov → RelV i iv → RelV v u → t o i v H Q →
  wpAny (model X.prog X.w) X.A (setItem ov iv u) (fun _ s' => ∃ H', Inv X pins σ H' s' ∧ Q H') X.xe s
section
variable {X : Cx} {pos : Pos}
def gName (i : Nat) : TG := fun v σ H Q => Q (σ.set i (some v)) H
theorem pg_name {i : Nat} {x : Str} (hN : X.N.Nodup) (hi : X.N[i]? = some x) (hx : Loc X.env.scope x) (hf : X.fn x = true ∨ X.env.scope.names.lookup x = some .local := by first | exact .inl rfl | exact .inr rfl | assumption) : PG X (.Name x pos) (gName i) := by
 intro pins s σ H v u Q I r h
 exact wpAny_assign_Name (store_ok I hN hi hx r (fun s' I' => ⟨_, H, I', h⟩) hf)
def gNil : TGs := fun vs σ H Q => vs = [] ∧ Q σ H
def gCons (t : TG) (u : TGs) : TGs := fun vs σ H Q => ∃ v r, vs = v :: r ∧ t v σ H fun σ' H' => u r σ' H' Q
theorem pgs_nil : PGs X [] gNil := by
 intro pins s σ H vs us Q I r h
 obtain ⟨e, h⟩ := h
 subst e
 cases r
 exact assignInOrder_nil ⟨σ, H, I, h⟩
theorem pgs_cons {e : Expr} {es : List Expr} {t : TG} {u : TGs} (h1 : PG X e t) (h2 : PGs X es u)
  (hs : (assignEach (e :: es) X.env).map (·.2) = assign e X.env :: (assignEach es X.env).map (·.2) := by rfl) : PGs X (e :: es) (gCons t u) := by
 intro pins s σ H vs us Q I r h
 obtain ⟨v, vr, e1, h⟩ := h
 subst e1
 cases r with
 | cons r rr =>
  rw [hs]
  refine assignInOrder_cons (thn (h1 pins s σ H _ _ _ I r h) fun _ s1 ⟨σ1, H1, I1, q1⟩ => ?_)
  exact h2 pins s1 σ1 H1 _ _ Q I1 rr q1
def gTup (K : PySem.W.Frag) (n : Nat) (t : TGs) : TG := fun v σ H Q => ∃ a xs, v = .ref a ∧ SqT K H a xs ∧ xs.length = n ∧ t xs σ H Q
theorem pg_tup {es : List Expr} {k : Nat} {t : TGs} {n : Nat} (hc : X.calm = true) (h : PGs X es t)
  (hn : (assignEach es X.env).length = n := by rfl) (hst : (assignEach es X.env).findIdx? (·.1) = none := by rfl) : PG X (.Tuple es k pos) (gTup X.K n t) := by
 intro pins s σ H v u Q I r hw
 obtain ⟨a, xs, e1, hq, hl, hw⟩ := hw
 subst e1
 cases r
 obtain ⟨its, rv, ht, hz⟩ := I.tuple hq
 refine assign_Tuple_tuple (I.ok.hd hc) ht (by simp [hn, ← hl, rv.length]) hst fun h' hx => ?_
 have I1 : Inv X pins σ H { s with heap := h' } := I.kept (t' := s.toks) fun b o e => hx b o (Nat.ne_of_lt (Heap.lt_size e)) e
 exact h pins _ σ H xs _ Q I1 (by simpa using rv) hw
def gSub (to ti : TE) (t : TSet) : TG := fun v σ H Q => to σ H fun o H1 => ti σ H1 fun i H2 => t o i v H2 fun H3 => Q σ H3
theorem pg_sub {o i : Expr} {to ti : TE} {t : TSet} (ho : PE X o to) (hi : PE X i ti) (hs : PSet X t)
  (ha : ∀ v, assign (.Subscript o i pos) X.env v = (do
   let ov ← holding [v] (eval o X.env)
   let iv ← holding [v, ov] (eval i X.env)
   standAt pos
   holding [v, ov, iv] (setItem ov iv v)
   release [v, ov, iv] []) := by intro _; rfl) : PG X (.Subscript o i pos) (gSub to ti t) := by
 intro pins s σ H v u Q I r h
 rw [ha]
 refine wpAny_bind (wpAny_holding (thn (ho pins s σ H _ I h) fun ov s1 ⟨x, H1, I1, r1, q1⟩ => ?_))
 refine wpAny_bind (wpAny_holding (thn (hi pins s1 σ H1 _ I1 q1) fun iv s2 ⟨y, H2, I2, r2, q2⟩ => ?_))
 refine wpAny_bind (wpAny_standAt (wpAny_bind (wpAny_holding (thn (hs pins s2 σ H2 x y v ov iv u _ I2 r1 r2 r q2) fun _ s3 ⟨H3, I3, q3⟩ => ?_))))
 exact wpAny_release ⟨σ, H3, I3, q3⟩
def tAsg (te : TE) (g : TG) : TS := fun D σ H => te σ H fun x H1 => g x σ H1 D.nx
theorem ps_asg {tg e : Expr} {te : TE} {g : TG} (he : PE X e te) (hg : PG X tg g) (hs : swapsWithSole [tg] e pos.line X.env = pure false := by rfl) (hw : swappedStores [tg] e X.env = pure none := by rfl)
  (h1 : (assignEach [tg] X.env).map (·.2) = [assign tg X.env] := by rfl) : PS X (.Assign [tg] e pos) (tAsg te g) := by
 intro pins s σ H D I h
 refine wpAny_Assign_stores (thn (he pins s σ H _ I h) fun v s1 ⟨x, H1, I1, r1, q1⟩ => ?_) hs hw
 rw [h1]
 exact thn (hg pins s1 σ H1 x v _ I1 r1 q1) fun _ s2 q => q
theorem ps_set {i : Nat} {x : Str} {e : Expr} {te : TE} {pos' : Pos} (hN : X.N.Nodup) (hi : X.N[i]? = some x) (hx : Loc X.env.scope x) (he : PE X e te) (hs : swapsWith e (some (.Name x pos')) pos.line X.env = pure false := by rfl) (hf : X.fn x = true ∨ X.env.scope.names.lookup x = some .local := by first | exact .inl rfl | exact .inr rfl | assumption) :
  PS X (.Assign [.Name x pos'] e pos) (tAsg te (gName i)) := by
 intro pins s σ H D I h
 refine wpAny_Assign_Name (thn (he pins s σ H _ I h) fun v s1 ⟨y, H1, I1, r1, q1⟩ => ?_) hs
 exact store_ok I1 hN hi hx r1 (fun s2 I2 => ⟨_, H1, I2, q1⟩) hf
end
section
variable {X : Cx} {pos : Pos}
def tWhile (c : TT) (tb : TS) : TS := fun D σ H => ∃ W : Nat → St → Hp → Prop, (∃ m, W m σ H) ∧ ∀ m σ H, W m σ H →
 c σ H fun b H1 => if b = true then ∃ N : St → Hp → Prop, (∀ σ' H', N σ' H' → ∃ m', m' < m ∧ W m' σ' H') ∧ tb { D with nx := N, ct := N, bk := D.nx } σ H1 else D.nx σ H1
theorem ps_while {c : Expr} {body : List Stmt} {tc : TT} {tb : TS} (hp : PassesOwn (model X.prog X.w) X.A X.env X.xe) (hc : PT X c tc) (hb : PSs X body tb) : PS X (.While c body [] pos) (tWhile tc tb) := by
 intro pins s σ H D I h
 obtain ⟨W, ⟨m0, w0⟩, turn⟩ := h
 refine wpAny_While (codeAny_whileLoop (fun n s' => ∃ σ' H', Inv X pins σ' H' s' ∧ W n σ' H') ?_ m0 ⟨σ, H, I, w0⟩)
 rintro n s1 ⟨σ1, H1, I1, w1⟩
 refine wpAny_passesOwn hp (thn (hc pins s1 σ1 H1 _ I1 (turn n σ1 H1 w1)) fun b s2 ⟨H2, I2, q2⟩ => ?_)
 cases b with
 | true =>
  obtain ⟨N, hN, q2⟩ := q2
  rw [if_pos rfl]
  refine wpAny_passesOwn hp (thn (hb pins s2 σ1 H2 _ I2 q2) fun f s3 q3 => ?_)
  cases f with
  | next =>
   obtain ⟨σ3, H3, I3, n3⟩ := q3
   obtain ⟨m', hm, w3⟩ := hN σ3 H3 n3
   exact ⟨m', hm, σ3, H3, I3, w3⟩
  | cont =>
   obtain ⟨σ3, H3, I3, n3⟩ := q3
   obtain ⟨m', hm, w3⟩ := hN σ3 H3 n3
   exact ⟨m', hm, σ3, H3, I3, w3⟩
  | brk => exact q3
  | ret v => exact q3
 | false =>
  rw [if_neg Bool.false_ne_true]
  exact wpAny_execs_nil ⟨σ1, H2, I2, q2⟩
end
structure It where
 go : Nat → Hp → Prop
 yld : Nat → Hp → V → Hp → Prop
 stop : Nat → Hp → Prop
def FpOk (X : Cx) (pins : List (Addr × Obj)) (H : Hp) (b : Addr) : Prop :=
 H b = none ∧ b ≠ X.env.locals ∧ b ∉ X.fs ∧ (b ∈ X.ex ∨ X.s₀.heap.objs.size ≤ b) ∧ (∀ x c, X.env.cells.lookup x = some c → c ≠ b) ∧ ∀ p ∈ X.pn ++ pins, p.1 ≠ b
theorem Inv.fpOk {X : Cx} {pins : List (Addr × Obj)} {σ : St} {H H' : Hp} {s : Shared} {b : Addr} (I : Inv X pins σ H s) (hb : s.heap.objs.size ≤ b) (hn : H' b = none) : FpOk X pins H' b := by
 refine ⟨hn, Nat.ne_of_gt (Nat.lt_of_lt_of_le I.lt hb), I.nofs hb, .inr (Nat.le_trans I.sz hb), fun x c e z => ?_, fun p hp z => ?_⟩
 ·obtain ⟨v, q⟩ := I.cell x c e
  exact absurd (Nat.lt_of_lt_of_le q.lt (by rw [z]; exact hb)) (Nat.lt_irrefl _)
 ·exact absurd (Nat.lt_of_lt_of_le (Heap.lt_size (I.pin p hp).1) (by rw [z]; exact hb)) (Nat.lt_irrefl _)
structure Turn (P : Program) (w : World) (K : PySem.W.Frag) (tg : Expr) (J : It) (fp : List Addr) (it : Addr) (tn : Nat → Heap → Prop) : Prop where
 mem : it ∈ fp
 obj : ∀ i h, tn i h → ∀ b ∈ fp, ∃ o, h.get? b = some o ∧ ∀ v, o.data ≠ .cell v
 keep : ∀ i h h', tn i h → (∀ b ∈ fp, ∀ o, h.get? b = some o → h'.get? b = some o) → tn i h'
 item : ∀ (X : Cx), X.prog = P → X.w = w → X.K = K → X.calm = true → ∀ (i : Nat) (pins : List (Addr × Obj)) (s : Shared) (σ : St) (H : Hp) (E : Value → Shared → Prop), Inv X pins σ H s → (∀ b ∈ fp, FpOk X pins H b) → tn i s.heap → J.go i H →
  wpAny (model P w) X.A (pyNext (.ref it)) (fun r s1 => ∃ u, r = some u ∧
   wpAny (model P w) X.A (letOwnedTupleGo tg (.ref it) u) (fun _ s2 => ∃ x H', Inv X pins σ H' s2 ∧ RelV x u ∧ J.yld i H x H' ∧ tn (i + 1) s2.heap ∧ ∀ b ∈ fp, H' b = none) E s1) E s
 done : ∀ (X : Cx), X.prog = P → X.w = w → X.K = K → X.calm = true → ∀ (i : Nat) (pins : List (Addr × Obj)) (s : Shared) (σ : St) (H : Hp) (E : Value → Shared → Prop), Inv X pins σ H s → (∀ b ∈ fp, FpOk X pins H b) → tn i s.heap → J.stop i H →
  wpAny (model P w) X.A (pyNext (.ref it)) (fun r s1 => r = none ∧ Inv X pins σ H s1) E s
 self : ∀ (A : Around) (i : Nat) (s : Shared) (Q : Value → Shared → Prop) (E : Value → Shared → Prop), tn i s.heap → Q (.ref it) s → wpAny (model P w) A (pyIter (.ref it)) Q E s
abbrev TI := St → Hp → (It → Hp → Prop) → Prop
def PIE (X : Cx) (pins : List (Addr × Obj)) (σ : St) (tg : Expr) (R : It → Hp → Prop) (itv : Value) (s2 : Shared) : Prop :=
 ∃ (it : Addr) (fp : List Addr) (tn : Nat → Heap → Prop) (J : It) (H' : Hp), itv = .ref it ∧ Inv X pins σ H' s2 ∧ Turn X.prog X.w X.K tg J fp it tn ∧ tn 0 s2.heap ∧ (∀ b ∈ fp, FpOk X pins H' b) ∧ R J H'
def PI (X : Cx) (tg iter : Expr) (wi : TI) : Prop :=
 ∀ (pins : List (Addr × Obj)) (s : Shared) (σ : St) (H : Hp) (R : It → Hp → Prop), Inv X pins σ H s → wi σ H R →
  wpAny (model X.prog X.w) X.A (eval iter X.env) (fun v s1 => wpAny (model X.prog X.w) X.A (pyIter v) (PIE X pins σ tg R) X.xe s1) X.xe s
theorem go_of {M : Model} {A : Around} {E : Value → Shared → Prop} {s : Shared} {tg : Expr} {it : Addr} {u : Value} {o : Obj} {n : String} {vs : Array Value} {Q : Unit → Shared → Prop} (ho : s.heap.get? it = some o) (hc : o.cls = .type n) (hd : o.data = .fields vs)
    (hn : ["enumerate", "zip", "dict_itemiterator", "dict_reverseitemiterator", "odict_iterator", "itertools.zip_longest", "itertools.pairwise"].contains n = false) (hQ : Q () s) : wpAny M A (letOwnedTupleGo tg (.ref it) u) Q E s := by
  unfold letOwnedTupleGo
  cases tg <;> first
    | exact wpAny_pure hQ
    | (cases u <;> first
        | exact wpAny_pure hQ
        | (refine wpAny_bind (wpAny_load ho ?_)
           rw [hc, hd]
           show wpAny M A (if (["enumerate", "zip", "dict_itemiterator", "dict_reverseitemiterator", "odict_iterator", "itertools.zip_longest", "itertools.pairwise"].contains n && vs[0]? == some (rawInt _)) = true then _ else _) Q E s
           rw [if_neg (by intro h; rw [hn, Bool.false_and] at h; cases h)]
           exact wpAny_pure hQ))
def Itl (K : PySem.W.Frag) (a : Addr) : It :=
 ⟨fun i H => ∃ xs x, SqL K H a xs ∧ xs[i]? = some x, fun i H x H' => H' = H ∧ ∀ xs, SqL K H a xs → xs[i]? = some x, fun i H => ∃ xs, SqL K H a xs ∧ xs.length ≤ i⟩
def Itt (K : PySem.W.Frag) (a : Addr) : It :=
 ⟨fun i H => ∃ xs x, SqT K H a xs ∧ xs[i]? = some x, fun i H x H' => H' = H ∧ ∀ xs, SqT K H a xs → xs[i]? = some x, fun i H => ∃ xs, SqT K H a xs ∧ xs.length ≤ i⟩
def Itr (lo : Int) (n : Nat) : It := ⟨fun i _ => i < n, fun i H x H' => H' = H ∧ x = .int (lo + i), fun i _ => n ≤ i⟩
theorem turn_list {P : Program} {w : World} {K : PySem.W.Frag} {tg : Expr} (a it : Addr) : Turn P w K tg (Itl K a) [it] it (fun i h => h.IsListIter it a i) where
 mem := by simp
 obj := fun i h st b hb => by
  have e : b = it := by simpa using hb
  subst e
  obtain ⟨o, e, c, d⟩ := st
  exact ⟨o, e, fun v z => by rw [d] at z; cases z⟩
 keep := fun i h h' st k => st.at fun o e => k it (by simp) o e
 item := by
  intro X hP hw hK hc i pins s σ H E I hf st hg
  subst hP hw hK
  obtain ⟨xs, x, hq, hx⟩ := hg
  obtain ⟨its, rv, p, hz⟩ := I.list hq
  obtain ⟨u, hu, ru⟩ := rv.get hx
  obtain ⟨f0, f1, f2, f3, f4, f5⟩ := hf it (by simp)
  refine wpAny_pyNext_list_item st p.isList (x := u) (by simpa using hu) fun h' st' sb => ?_
  have I1 : Inv X pins σ H { s with heap := h' } := I.turned (t' := s.toks) (fun b o hb e => (sb.2 b hb).trans e) f0 f1 f3 f4 f5
  obtain ⟨o, e, c, d⟩ := id st'
  exact ⟨u, rfl, go_of (s := { s with heap := h' }) e c d (by decide) ⟨x, H, I1, ru, ⟨rfl, fun ys hy => by rw [I.list_inj hy hq]; exact hx⟩, st', fun b hb => (hf b hb).1⟩⟩
 done := by
  intro X hP hw hK hc i pins s σ H E I hf st hg
  subst hP hw hK
  obtain ⟨xs, hq, hx⟩ := hg
  obtain ⟨its, rv, p, hz⟩ := I.list hq
  obtain ⟨f0, f1, f2, f3, f4, f5⟩ := hf it (by simp)
  have hl := rv.length
  exact wpAny_pyNext_list_end (I.ok.hd hc) st p.isList (by simp; omega) fun h' eb => ⟨rfl, I.turned (t' := s.toks) (fun b o hb e => eb b o hb e) f0 f1 f3 f4 f5⟩
 self := fun _ _ _ _ _ st h => wpAny_pyIter_listiter st h
theorem turn_tuple {P : Program} {w : World} {K : PySem.W.Frag} {tg : Expr} (a it : Addr) : Turn P w K tg (Itt K a) [it] it (fun i h => h.IsTupleIter it a i) where
 mem := by simp
 obj := fun i h st b hb => by
  have e : b = it := by simpa using hb
  subst e
  obtain ⟨o, e, c, d⟩ := st
  exact ⟨o, e, fun v z => by rw [d] at z; cases z⟩
 keep := fun i h h' st k => st.at fun o e => k it (by simp) o e
 item := by
  intro X hP hw hK hc i pins s σ H E I hf st hg
  subst hP hw hK
  obtain ⟨xs, x, hq, hx⟩ := hg
  obtain ⟨its, rv, p, hz⟩ := I.tuple hq
  obtain ⟨u, hu, ru⟩ := rv.get hx
  obtain ⟨f0, f1, f2, f3, f4, f5⟩ := hf it (by simp)
  refine wpAny_pyNext_tuple_item st (show s.heap.IsTuple a its.toArray from p) (x := u) (by simpa using hu) fun h' st' sb => ?_
  have I1 : Inv X pins σ H { s with heap := h' } := I.turned (t' := s.toks) (fun b o hb e => (sb.2 b hb).trans e) f0 f1 f3 f4 f5
  obtain ⟨o, e, c, d⟩ := id st'
  exact ⟨u, rfl, go_of (s := { s with heap := h' }) e c d (by decide) ⟨x, H, I1, ru, ⟨rfl, fun ys hy => by rw [I.tuple_inj hy hq]; exact hx⟩, st', fun b hb => (hf b hb).1⟩⟩
 done := by
  intro X hP hw hK hc i pins s σ H E I hf st hg
  subst hP hw hK
  obtain ⟨xs, hq, hx⟩ := hg
  obtain ⟨its, rv, p, hz⟩ := I.tuple hq
  obtain ⟨f0, f1, f2, f3, f4, f5⟩ := hf it (by simp)
  have hl := rv.length
  exact wpAny_pyNext_tuple_end (I.ok.hd hc) st (show s.heap.IsTuple a its.toArray from p) (by simp; omega) fun h' eb => ⟨rfl, I.turned (t' := s.toks) (fun b o hb e => eb b o hb e) f0 f1 f3 f4 f5⟩
 self := fun _ _ _ _ _ st h => wpAny_pyIter_tupleiter st h
theorem turn_range {P : Program} {w : World} {K : PySem.W.Frag} {tg : Expr} (it : Addr) (lo : Int) (n : Nat) : Turn P w K tg (Itr lo n) [it] it (fun i h => IsRangeIter h it (lo + (i : Nat) * 1) ((n : Int) - (i : Nat)) 1) where
 mem := by simp
 obj := fun i h st b hb => by
  have e : b = it := by simpa using hb
  subst e
  exact ⟨_, st, fun v z => by
   have z' : Data.fields _ = Data.cell v := z
   cases z'⟩
 keep := fun i h h' st k => k it (by simp) _ st
 item := by
  intro X hP hw hK hc i pins s σ H E I hf st hg
  subst hP hw hK
  obtain ⟨f0, f1, f2, f3, f4, f5⟩ := hf it (by simp)
  have W := Walks.range (prog := X.prog) (w := X.w) (I.ok.hd hc) it lo 1 n
  refine W.item i s _ _ hg st fun v h' tk hv st' kk => ?_
  obtain ⟨t, rfl⟩ := hv
  have I1 : Inv X pins σ H { s with heap := h', toks := tk } := I.turned (fun b o hb e => kk b o (by simpa using hb) e) f0 f1 f3 f4 f5
  refine ⟨_, rfl, go_of (s := { s with heap := h', toks := tk }) (n := "range_iterator") st' rfl rfl (by decide) ⟨.int (lo + i), H, I1, ⟨t, ?_⟩, ⟨rfl, rfl⟩, st', fun b hb => (hf b hb).1⟩⟩
  rw [Int.mul_one]
 done := by
  intro X hP hw hK hc i pins s σ H E I hf st hg
  subst hP hw hK
  obtain ⟨f0, f1, f2, f3, f4, f5⟩ := hf it (by simp)
  exact wpAny_pyNext_range_end (I.ok.hd hc) st (by have : n ≤ i := hg; omega) fun h' eb => ⟨rfl, I.turned (t' := s.toks) (fun b o hb e => eb b o hb e) f0 f1 f3 f4 f5⟩
 self := fun _ _ _ _ _ st h => wpAny_pyIter_rangeiter st h
section
variable {X : Cx} {tg : Expr}
def iList (K : PySem.W.Frag) (tl : TE) : TI := fun σ H R => tl σ H fun x H1 => ∃ a, x = .ref a ∧ (∃ xs, SqL K H1 a xs) ∧ R (Itl K a) H1
def iTup (K : PySem.W.Frag) (tl : TE) : TI := fun σ H R => tl σ H fun x H1 => ∃ a, x = .ref a ∧ (∃ xs, SqT K H1 a xs) ∧ R (Itt K a) H1
theorem pi_list {l : Expr} {tl : TE} (hl : PE X l tl) : PI X tg l (iList X.K tl) := by
 intro pins s σ H R I h
 refine thn (hl pins s σ H _ I h) fun v s1 ⟨x, H1, I1, r1, q1⟩ => ?_
 obtain ⟨a, e, ⟨xs, hq⟩, q⟩ := q1
 subst e
 cases r1
 obtain ⟨its, rv, p, hz⟩ := I1.list hq
 refine wpAny_pyIter_list p.isList ?_
 refine ⟨s1.heap.objs.size, [s1.heap.objs.size], _, _, H1, rfl, I1.kept (t' := s1.toks) fun b o e => Heap.get?_push_of_some _ e, turn_list a _, ⟨_, Heap.get?_push_size _ rfl, rfl, rfl⟩, fun b hb => ?_, q⟩
 have e : b = s1.heap.objs.size := by simpa using hb
 subst e
 exact I1.fpOk (Nat.le_refl _) (I1.hok.fresh (Nat.le_refl _))
theorem pi_tup {l : Expr} {tl : TE} (hl : PE X l tl) : PI X tg l (iTup X.K tl) := by
 intro pins s σ H R I h
 refine thn (hl pins s σ H _ I h) fun v s1 ⟨x, H1, I1, r1, q1⟩ => ?_
 obtain ⟨a, e, ⟨xs, hq⟩, q⟩ := q1
 subst e
 cases r1
 obtain ⟨its, rv, p, hz⟩ := I1.tuple hq
 refine wpAny_pyIter_tuple (show s1.heap.IsTuple a its.toArray from p) ?_
 refine ⟨s1.heap.objs.size, [s1.heap.objs.size], _, _, H1, rfl, I1.kept (t' := s1.toks) fun b o e => Heap.get?_push_of_some _ e, turn_tuple a _, ⟨_, Heap.get?_push_size _ rfl, rfl, rfl⟩, fun b hb => ?_, q⟩
 have e : b = s1.heap.objs.size := by simpa using hb
 subst e
 exact I1.fpOk (Nat.le_refl _) (I1.hok.fresh (Nat.le_refl _))
theorem range_it {pins : List (Addr × Obj)} {σ : St} {H : Hp} {s : Shared} {R : It → Hp → Prop} {E : Value → Shared → Prop} {lo hi : Int} {t u v : Tok} {tk : Nat} (I : Inv X pins σ H s) (h1 : -(2 ^ 62) ≤ lo) (h2 : lo < 2 ^ 62) (h3 : -(2 ^ 62) ≤ hi) (h4 : hi < 2 ^ 62)
  (q : R (Itr lo (hi - lo).toNat) H) : wpAny (model X.prog X.w) X.A (pyIter (.ref s.heap.objs.size)) (PIE X pins σ tg R) E { s with heap := s.heap.push { cls := .type "range", data := .fields #[.int lo t, .int hi u, .int 1 v] }, toks := tk } := by
 refine wpAny_pyIter_range (IsRange.new ..) (small_one h1 h2 h3 h4) ?_
 have I1 : Inv X pins σ H { s with heap := s.heap.push { cls := .type "range", data := .fields #[.int lo t, .int hi u, .int 1 v] }, toks := tk } := I.kept fun b o e => Heap.get?_push_of_some _ e
 refine ⟨(s.heap.push { cls := .type "range", data := .fields #[.int lo t, .int hi u, .int 1 v] }).objs.size, [(s.heap.push { cls := .type "range", data := .fields #[.int lo t, .int hi u, .int 1 v] }).objs.size], _, _, H, rfl,
  I1.kept (t' := tk) fun b o e => Heap.get?_push_of_some _ e, turn_range _ lo (hi - lo).toNat, ?_, fun b hb => ?_, q⟩
 ·have e1 : lo + ((0 : Nat) : Int) * 1 = lo := by simp
  have e2 : (((hi - lo).toNat : Nat) : Int) - ((0 : Nat) : Int) = Builtin.Range.rangeSize lo hi 1 := by rw [rangeSize_one]; split <;> omega
  show IsRangeIter _ _ (lo + ((0 : Nat) : Int) * 1) ((((hi - lo).toNat : Nat) : Int) - ((0 : Nat) : Int)) 1
  rw [e1, e2]
  exact Heap.get?_push_size _ rfl
 ·have e : b = (s.heap.push { cls := .type "range", data := .fields #[.int lo t, .int hi u, .int 1 v] }).objs.size := by simpa using hb
  subst e
  exact I1.fpOk (Nat.le_refl _) (I1.hok.fresh (Nat.le_refl _))
def iRng1 (ta : TA) : TI := fun σ H R => ta σ H fun vs H1 => ∃ j : Int, vs = [.int j] ∧ -(2 ^ 62) ≤ j ∧ j < 2 ^ 62 ∧ R (Itr 0 j.toNat) H1
theorem pi_range1 {a : Expr} {ta : TA} {p pos : Pos} (hg : Gl X "range") (hm : X.mg "range" = none) (ha : PA X [a] ta) (hs : starEach [a] X.env = [(false, eval a X.env)] := by rfl) : PI X tg (.Call (.Name "range" p) [a] [] pos) (iRng1 ta) := by
 intro pins s σ H R I h
 refine Call_ (ld_blt I hg hm boot_range (PyProof.Rows.callWith_type1 (thn (ha pos pins s σ H _ I h) fun us s1 ⟨vs, H1, I1, r1, q1⟩ => ?_) hs rfl))
 obtain ⟨j, e, q1, q2, q⟩ := q1
 subst e
 cases r1 with
 | cons r rr =>
  cases rr
  obtain ⟨t, rfl⟩ := r
  exact call_range_1 (range_it I1 (by omega) (by omega) q1 q2 (by simpa using q))
def tFor (wi : TI) (g : TG) (tb : TS) : TS := fun D σ H => wi σ H fun J H1 => ∃ W : Nat → Nat → St → Hp → Prop, (∃ m, W 0 m σ H1) ∧ ∀ i m σ H, W i m σ H →
 (J.stop i H ∧ D.nx σ H) ∨ (J.go i H ∧ ∃ N : St → Hp → Prop, (∀ σ' H', N σ' H' → ∃ m', m' < m ∧ W (i + 1) m' σ' H') ∧ ∀ x H', J.yld i H x H' → g x σ H' fun σ2 H2 => tb { D with nx := N, ct := N, bk := D.nx } σ2 H2)
def pinsAt (fp : List Addr) (h : Heap) : List (Addr × Obj) := fp.filterMap fun b => (h.get? b).map fun o => (b, o)
theorem mem_pinsAt {fp : List Addr} {h : Heap} {b : Addr} {o : Obj} (hb : b ∈ fp) (e : h.get? b = some o) : (b, o) ∈ pinsAt fp h := List.mem_filterMap.mpr ⟨b, hb, by rw [e]; rfl⟩
theorem of_pinsAt {fp : List Addr} {h : Heap} {p : Addr × Obj} (hp : p ∈ pinsAt fp h) : p.1 ∈ fp ∧ h.get? p.1 = some p.2 := by
 obtain ⟨b, hb, e⟩ := List.mem_filterMap.mp hp
 cases q : h.get? b with
 | none => rw [q] at e; cases e
 | some o =>
  rw [q] at e
  have e' : (b, o) = p := Option.some.inj e
  subst e'
  exact ⟨hb, q⟩
theorem Inv.pinned {pins : List (Addr × Obj)} {σ : St} {H : Hp} {s : Shared} {fp : List Addr} (I : Inv X pins σ H s) (hf : ∀ b ∈ fp, FpOk X pins H b) (ho : ∀ b ∈ fp, ∃ o, s.heap.get? b = some o ∧ ∀ v, o.data ≠ .cell v) : Inv X (pins ++ pinsAt fp s.heap) σ H s :=
 I.pins_of fun p hp => (List.mem_append.mp hp).elim (fun z => I.pin p (List.mem_append_right _ z)) fun z => by
  obtain ⟨hb, e⟩ := of_pinsAt z
  obtain ⟨f0, f1, f2, _⟩ := hf p.1 hb
  obtain ⟨o, e', d⟩ := ho p.1 hb
  rw [e] at e'; cases e'
  exact ⟨e, f0, f1, f2, d⟩
theorem Inv.unpinned {pins pl : List (Addr × Obj)} {σ : St} {H : Hp} {s : Shared} (I : Inv X (pins ++ pl) σ H s) : Inv X pins σ H s := I.pins_of fun p hp => I.pin p (List.mem_append_right _ (List.mem_append_left _ hp))
theorem ps_for {iter : Expr} {body : List Stmt} {wi : TI} {g : TG} {tb : TS} {pos : Pos} (hp : PassesOwn (model X.prog X.w) X.A X.env X.xe) (hc : X.calm = true) (hi : PI X tg iter wi) (hg : PG X tg g) (hb : PSs X body tb)
  (hs : ∀ x, foldedSetIterable iter X.env x = pure x := by intro _; rfl) : PS X (.For tg iter body [] pos) (tFor wi g tb) := by
 intro pins s σ H D I h
 refine wpAny_For (thn (hi pins s σ H _ I h) fun v s1 h1 => thn h1 fun itv s2 h2 => ?_) hs
 obtain ⟨it, fp, tn, J, H2, e, I2, T, st2, f2, W, ⟨m0, w0⟩, turn⟩ := h2
 subst e
 -- what stays true of the iterator's objects through the loop
 have stat : ∀ {H' : Hp}, (∀ b ∈ fp, H' b = none) → ∀ b ∈ fp, FpOk X pins H' b := fun hn b hb => ⟨hn b hb, (f2 b hb).2⟩
 refine codeAny_forLoop_any (fun n s' => ∃ i σ' H', Inv X pins σ' H' s' ∧ tn i s'.heap ∧ (∀ b ∈ fp, H' b = none) ∧ W i n σ' H') ?_ m0 ⟨0, σ, H2, I2, st2, fun b hb => (f2 b hb).1, w0⟩
 rintro n s3 ⟨i, σ3, H3, I3, st3, fr3, w3⟩
 rcases turn i n σ3 H3 w3 with ⟨stop, qn⟩ | ⟨go, N, hN, step⟩
 ·refine wpAny_passesOwn hp (thn (T.done X rfl rfl rfl hc i pins s3 σ3 H3 X.xe I3 (stat fr3) st3 stop) fun r s4 ⟨hr, I4⟩ => ?_)
  subst hr
  exact wpAny_execs_nil ⟨σ3, H3, I4, qn⟩
 ·refine wpAny_passesOwn hp (thn (T.item X rfl rfl rfl hc i pins s3 σ3 H3 X.xe I3 (stat fr3) st3 go) fun r s4 ⟨u, hr, h4⟩ => ?_)
  subst hr
  refine wpAny_passesOwn hp (thn h4 fun _ s5 ⟨x, H5, I5, r5, y5, st5, fr5⟩ => ?_)
  have I5' := I5.pinned (stat fr5) (T.obj _ _ st5)
  refine wpAny_passesOwn hp (thn (hg _ s5 σ3 H5 x u _ I5' r5 (step x H5 y5)) fun _ s6 ⟨σ6, H6, I6, q6⟩ => ?_)
  refine wpAny_passesOwn hp (thn (hb _ s6 σ6 H6 _ I6 q6) fun f s7 q7 => ?_)
  have again : ∀ {σ7 : St} {H7 : Hp}, Inv X (pins ++ pinsAt fp s5.heap) σ7 H7 s7 → N σ7 H7 → ∃ m, m < n ∧ ∃ i σ' H', Inv X pins σ' H' s7 ∧ tn i s7.heap ∧ (∀ b ∈ fp, H' b = none) ∧ W i m σ' H' := fun {σ7 H7} I7 n7 => by
   obtain ⟨m', hm, w7⟩ := hN σ7 H7 n7
   refine ⟨m', hm, i + 1, σ7, H7, I7.unpinned, T.keep _ _ _ st5 fun b hb o e => (I7.pin (b, o) (List.mem_append_right _ (List.mem_append_right _ (mem_pinsAt hb e)))).1, fun b hb => ?_, w7⟩
   obtain ⟨o, e, d⟩ := T.obj _ _ st5 b hb
   exact (I7.pin (b, o) (List.mem_append_right _ (List.mem_append_right _ (mem_pinsAt hb e)))).2.1
  cases f with
  | next => obtain ⟨σ7, H7, I7, n7⟩ := q7; exact again I7 n7
  | cont => obtain ⟨σ7, H7, I7, n7⟩ := q7; exact again I7 n7
  | brk => obtain ⟨σ7, H7, I7, q7⟩ := q7; exact ⟨σ7, H7, I7.unpinned, q7⟩
  | ret v => obtain ⟨x7, σ7, H7, I7, r7, q7⟩ := q7; exact ⟨x7, σ7, H7, I7.unpinned, r7, q7⟩
end
theorem for_list {K : PySem.W.Frag} {a : Addr} {xs : List V} {g : TG} {tb : TS} {D : Ends} {σ : St} {H : Hp} (Pv : Nat → St → Hp → Prop) (h0 : Pv 0 σ H) (hl : ∀ i σ H, i ≤ xs.length → Pv i σ H → SqL K H a xs)
  (hs : ∀ i x σ H, xs[i]? = some x → Pv i σ H → g x σ H fun σ2 H2 => tb { D with nx := Pv (i + 1), ct := Pv (i + 1), bk := D.nx } σ2 H2) (hd : ∀ σ H, Pv xs.length σ H → D.nx σ H) :
  ∃ W : Nat → Nat → St → Hp → Prop, (∃ m, W 0 m σ H) ∧ ∀ i m σ H, W i m σ H →
   ((Itl K a).stop i H ∧ D.nx σ H) ∨ ((Itl K a).go i H ∧ ∃ N : St → Hp → Prop, (∀ σ' H', N σ' H' → ∃ m', m' < m ∧ W (i + 1) m' σ' H') ∧ ∀ x H', (Itl K a).yld i H x H' → g x σ H' fun σ2 H2 => tb { D with nx := N, ct := N, bk := D.nx } σ2 H2) := by
 refine ⟨fun i m σ H => m = xs.length - i ∧ i ≤ xs.length ∧ Pv i σ H, ⟨xs.length, by simp, Nat.zero_le _, h0⟩, ?_⟩
 rintro i m σ H ⟨rfl, hi, p⟩
 have q := hl i σ H hi p
 by_cases hlt : i < xs.length
 ·refine .inr ⟨⟨xs, xs[i], q, by simp [hlt]⟩, Pv (i + 1), fun σ' H' p' => ⟨xs.length - (i + 1), by omega, rfl, hlt, p'⟩, fun x H' y => ?_⟩
  obtain ⟨e, y⟩ := y
  subst e
  exact hs i x σ _ (y xs q) p
 ·have e : i = xs.length := by omega
  subst e
  exact .inl ⟨⟨xs, q, Nat.le_refl _⟩, hd σ H p⟩
theorem for_range {lo : Int} {n : Nat} {g : TG} {tb : TS} {D : Ends} {σ : St} {H : Hp} (Pv : Nat → St → Hp → Prop) (h0 : Pv 0 σ H)
  (hs : ∀ i σ H, i < n → Pv i σ H → g (.int (lo + i)) σ H fun σ2 H2 => tb { D with nx := Pv (i + 1), ct := Pv (i + 1), bk := D.nx } σ2 H2) (hd : ∀ σ H, Pv n σ H → D.nx σ H) :
  ∃ W : Nat → Nat → St → Hp → Prop, (∃ m, W 0 m σ H) ∧ ∀ i m σ H, W i m σ H →
   ((Itr lo n).stop i H ∧ D.nx σ H) ∨ ((Itr lo n).go i H ∧ ∃ N : St → Hp → Prop, (∀ σ' H', N σ' H' → ∃ m', m' < m ∧ W (i + 1) m' σ' H') ∧ ∀ x H', (Itr lo n).yld i H x H' → g x σ H' fun σ2 H2 => tb { D with nx := N, ct := N, bk := D.nx } σ2 H2) := by
 refine ⟨fun i m σ H => m = n - i ∧ i ≤ n ∧ Pv i σ H, ⟨n, by simp, Nat.zero_le _, h0⟩, ?_⟩
 rintro i m σ H ⟨rfl, hi, p⟩
 by_cases hlt : i < n
 ·refine .inr ⟨hlt, Pv (i + 1), fun σ' H' p' => ⟨n - (i + 1), by omega, rfl, hlt, p'⟩, fun x H' y => ?_⟩
  obtain ⟨e, y⟩ := y
  subst e y
  exact hs i σ _ hlt p
 ·have e : i = n := by omega
  subst e
  exact .inl ⟨Nat.le_refl _, hd σ H p⟩
abbrev R2 := V → V → Hp → VK → Prop
def OpR (X : Cx) (f : Value → Value → Sem Value) (r : R2) : Prop :=
 ∀ (pins : List (Addr × Obj)) (s : Shared) (σ : St) (H : Hp) (x y : V) (v u : Value) (Q : VK), Inv X pins σ H s → RelV x v → RelV y u → r x y H Q →
  wpAny (model X.prog X.w) X.A (f v u) (EP X pins σ Q) X.xe s
def UnR (X : Cx) (f : Value → Sem Value) (r : V → Hp → VK → Prop) : Prop :=
 ∀ (pins : List (Addr × Obj)) (s : Shared) (σ : St) (H : Hp) (x : V) (v : Value) (Q : VK), Inv X pins σ H s → RelV x v → r x H Q →
  wpAny (model X.prog X.w) X.A (f v) (EP X pins σ Q) X.xe s
def CallR (X : Cx) (f : Value) (r : List V → Hp → VK → Prop) : Prop :=
 ∀ (pins : List (Addr × Obj)) (s : Shared) (σ : St) (H : Hp) (xs : List V) (us : List Value) (Q : VK), Inv X pins σ H s → Vals xs us → r xs H Q →
  wpAny (model X.prog X.w) X.A (call f us) (EP X pins σ Q) X.xe s
def tOp (r : R2) (ta tb : TE) : TE := fun σ H Q => ta σ H fun x H1 => tb σ H1 fun y H2 => r x y H2 Q
def tUn (r : V → Hp → VK → Prop) (ta : TE) : TE := fun σ H Q => ta σ H fun x H1 => r x H1 Q
def rI (C : Int → Int → Prop) (g : Int → Int → V) : R2 := fun x y H Q => ∃ i j, x = .int i ∧ y = .int j ∧ C i j ∧ Q (g i j) H
def rI0 (g : Int → Int → V) : R2 := fun x y H Q => ∃ i j, x = .int i ∧ y = .int j ∧ Q (g i j) H
def rU (g : Int → V) : V → Hp → VK → Prop := fun x H Q => ∃ i, x = .int i ∧ Q (g i) H
section
variable {X : Cx} {a b c : Expr} {ta tb tc : TE} {pos : Pos}
theorem binT (ha : PE X a ta) (hb : PE X b tb) {pins : List (Addr × Obj)} {s : Shared} {σ : St} {H : Hp} {R : V → V → Hp → Prop} (I : Inv X pins σ H s)
  (h : ta σ H fun x H1 => tb σ H1 fun y H2 => R x y H2) {Q : Value → Shared → Prop} {f : Value → Value → Sem Value}
  (hf : ∀ v u s2 x y H2, Inv X pins σ H2 s2 → RelV x v → RelV y u → R x y H2 → wpAny (model X.prog X.w) X.A (f v u) Q X.xe s2) :
  wpAny (model X.prog X.w) X.A (eval a X.env) (fun v s₁ => wpAny (model X.prog X.w) X.A (eval b X.env) (fun u s₂ => wpAny (model X.prog X.w) X.A (f v u) Q X.xe s₂) X.xe s₁) X.xe s := by
 refine thn (ha pins s σ H _ I h) fun v s1 ⟨x, H1, I1, r1, q1⟩ => ?_
 refine thn (hb pins s1 σ H1 _ I1 q1) fun u s2 ⟨y, H2, I2, r2, q2⟩ => ?_
 exact hf v u s2 x y H2 I2 r1 r2 q2
theorem pe_op {op : Operator} {r : R2} (ho : OpR X (binaryOp op) r) (ha : PE X a ta) (hb : PE X b tb) : PE X (.BinOp a op b pos) (tOp r ta tb) := by
 intro pins s σ H Q I h
 exact wpAny_BinOp (binT ha hb I h fun v u s2 x y H2 I2 rx ry q => ho pins s2 σ H2 x y v u Q I2 rx ry q)
theorem pe_un {op : UnaryOp} {r : V → Hp → VK → Prop} (ho : UnR X (unaryOp op) r) (ha : PE X a ta) : PE X (.UnaryOp op a pos) (tUn r ta) := by
 intro pins s σ H Q I h
 exact UnaryOp_ (thn (ha pins s σ H _ I h) fun v s1 ⟨x, H1, I1, r1, q1⟩ => ho pins s1 σ H1 x v Q I1 r1 q1)
theorem opI {f : Value → Value → Sem Value} {C : Int → Int → Prop} {g : Int → Int → Int}
  (rule : ∀ (i j : Int) (t u : Tok) (s : Shared) (Q : Value → Shared → Prop) (E : Value → Shared → Prop), C i j → Q (.int (g i j) s.toks) { s with toks := s.toks + 1 } → wpAny (model X.prog X.w) X.A (f (.int i t) (.int j u)) Q E s) :
  OpR X f (rI C fun i j => .int (g i j)) := by
 intro pins s σ H x y v u Q I rx ry h
 obtain ⟨i, j, rfl, rfl, hc, q⟩ := h
 obtain ⟨t, rfl⟩ := rx
 obtain ⟨t', rfl⟩ := ry
 exact rule i j t t' s _ _ hc ⟨.int (g i j), H, I.tok _, ⟨_, rfl⟩, q⟩
theorem opI0 {f : Value → Value → Sem Value} {g : Int → Int → Int}
  (rule : ∀ (i j : Int) (t u : Tok) (s : Shared) (Q : Value → Shared → Prop) (E : Value → Shared → Prop), Q (.int (g i j) s.toks) { s with toks := s.toks + 1 } → wpAny (model X.prog X.w) X.A (f (.int i t) (.int j u)) Q E s) :
  OpR X f (rI0 fun i j => .int (g i j)) := by
 intro pins s σ H x y v u Q I rx ry h
 obtain ⟨i, j, rfl, rfl, q⟩ := h
 obtain ⟨t, rfl⟩ := rx
 obtain ⟨t', rfl⟩ := ry
 exact rule i j t t' s _ _ ⟨.int (g i j), H, I.tok _, ⟨_, rfl⟩, q⟩
theorem opB0 {f : Value → Value → Sem Value} {g : Int → Int → Bool}
  (rule : ∀ (i j : Int) (t u : Tok) (s : Shared) (Q : Value → Shared → Prop) (E : Value → Shared → Prop), Q (.bool (g i j)) s → wpAny (model X.prog X.w) X.A (f (.int i t) (.int j u)) Q E s) :
  OpR X f (rI0 fun i j => .bl (g i j)) := by
 intro pins s σ H x y v u Q I rx ry h
 obtain ⟨i, j, rfl, rfl, q⟩ := h
 obtain ⟨t, rfl⟩ := rx
 obtain ⟨t', rfl⟩ := ry
 exact rule i j t t' s _ _ ⟨.bl (g i j), H, I, rfl, q⟩
def CDiv (i j : Int) : Prop := 0 < j ∧ j < 1073741824
def CPow (i j : Int) : Prop := 0 ≤ j ∧ j ≤ 1000000 ∧ i.natAbs < 2 ^ 64
def CMul (i j : Int) : Prop := (-(2 ^ 64) < i ∧ i < 2 ^ 64) ∨ (-(2 ^ 64) < j ∧ j < 2 ^ 64)
theorem CMul.ok {i j : Int} (h : CMul i j) : IntMulOk i j := by
 rcases h with ⟨h1, h2⟩ | ⟨h1, h2⟩
 ·exact .of_left (intBits_le_64 h1 h2)
 ·exact .of_right (intBits_le_64 h1 h2)
theorem op_add : OpR X (binaryOp .Add) (rI0 fun i j => .int (i + j)) := opI0 fun _ _ _ _ _ _ _ q => add_int q
theorem op_sub : OpR X (binaryOp .Sub) (rI0 fun i j => .int (i - j)) := opI0 fun _ _ _ _ _ _ _ q => sub_int q
theorem op_mul : OpR X (binaryOp .Mult) (rI CMul fun i j => .int (i * j)) := opI fun _ _ _ _ _ _ _ hc q => mul_int q hc.ok
theorem op_fdiv : OpR X (binaryOp .FloorDiv) (rI CDiv fun i j => .int (i / j)) := opI fun i j _ _ _ _ _ hc q => by
 have h1 : (0 : Int) < j := hc.1
 have h2 : j < 1073741824 := hc.2
 exact floordiv_int (by omega) (by rw [Int.fdiv_eq_ediv_of_nonneg i (by omega)]; exact q) (.inl (PyProof.noPylong_small (by omega)))
theorem op_mod : OpR X (binaryOp .Mod) (rI (fun _ j => 0 < j) fun i j => .int (i % j)) := opI fun i j _ _ _ _ _ hc q => by
 have h1 : (0 : Int) < j := hc
 exact mod_int' (by omega) (by rw [Int.fmod_eq_emod_of_nonneg i (by omega)]; exact q)
theorem op_pow : OpR X (binaryOp .Pow) (rI CPow fun i j => .int (i ^ j.toNat)) := opI fun _ _ _ _ _ _ _ hc q => pow_int_small hc.1 hc.2.1 hc.2.2 q
theorem unI {f : Value → Sem Value} {g : Int → Int}
  (rule : ∀ (i : Int) (t : Tok) (s : Shared) (Q : Value → Shared → Prop) (E : Value → Shared → Prop), Q (.int (g i) s.toks) { s with toks := s.toks + 1 } → wpAny (model X.prog X.w) X.A (f (.int i t)) Q E s) :
  UnR X f (rU fun i => .int (g i)) := by
 intro pins s σ H x v Q I rx h
 obtain ⟨i, rfl, q⟩ := h
 obtain ⟨t, rfl⟩ := rx
 exact rule i t s _ _ ⟨.int (g i), H, I.tok _, ⟨_, rfl⟩, q⟩
theorem un_neg : UnR X (unaryOp .USub) (rU fun i => .int (-i)) := unI fun _ _ _ _ _ q => neg_int q
end
def scal : V → V → Bool
 | .non, .non => true | .non, .int _ => true | .int _, .non => true | .non, .bl _ => true | .bl _, .non => true | .non, .str _ => true | .str _, .non => true
 | .int _, .int _ => true | .bl _, .bl _ => true | .str _, .str _ => true | .byt _, .byt _ => true
 | .int _, .str _ => true | .str _, .int _ => true | .bl _, .str _ => true | .str _, .bl _ => true
 | _, _ => false
def rEq : R2 := fun x y H Q => scal x y = true ∧ Q (.bl (decide (x = y))) H
def rNe : R2 := fun x y H Q => scal x y = true ∧ Q (.bl (!decide (x = y))) H
theorem dec_int {i j : Int} : decide (V.int i = V.int j) = (i == j) := by
 rw [Bool.eq_iff_iff]
 simp
theorem dec_bl {i j : Bool} : decide (V.bl i = V.bl j) = (i == j) := by
 rw [Bool.eq_iff_iff]
 simp
theorem dec_str {i j : Str} : decide (V.str i = V.str j) = (i == j) := by
 rw [Bool.eq_iff_iff]
 simp
theorem dec_byt {i j : Array UInt8} : decide (V.byt i = V.byt j) = (i.toList == j.toList) := by
 rw [Bool.eq_iff_iff]
 cases i
 cases j
 simp
section
variable {X : Cx} {a b c : Expr} {ta tb tc : TE} {pos : Pos}
theorem fin_bl {pins : List (Addr × Obj)} {σ : St} {H : Hp} {s : Shared} {Q : VK} {k k' : Bool} (I : Inv X pins σ H s) (q : Q (.bl k) H) (e : k = k') : EP X pins σ Q (.bool k') s := by
 subst e
 exact ⟨.bl k, H, I, rfl, q⟩
theorem op_eq : OpR X (compareOp .Eq) rEq := by
 intro pins s σ H x y v u Q I rx ry h
 obtain ⟨hs, q⟩ := h
 cases x with
 | non =>
  cases rx
  cases y with
  | non => cases ry; exact PySem.EqNone.eq_none_none (fin_bl I q (by simp))
  | bl j => cases ry; exact PySem.EqNone.eq_none_bool (fin_bl I q (by simp))
  | int j => obtain ⟨t', rfl⟩ := ry; exact PySem.EqNone.eq_none_int (fin_bl I q (by simp))
  | str j => obtain ⟨t', rfl⟩ := ry; exact PySem.EqNone.eq_none_str (fin_bl I q (by simp))
  | _ => exact absurd (show false = true from hs) Bool.false_ne_true
 | bl i =>
  cases rx
  cases y with
  | non => cases ry; exact PySem.EqNone.eq_bool_none (fin_bl I q (by simp))
  | bl j => cases ry; exact eq_bool (fin_bl I q dec_bl)
  | str j => obtain ⟨t', rfl⟩ := ry; exact PySem.EqMixed.eq_bool_str (fin_bl I q (by simp))
  | _ => exact absurd (show false = true from hs) Bool.false_ne_true
 | int i =>
  obtain ⟨t, rfl⟩ := rx
  cases y with
  | non => cases ry; exact PySem.EqNone.eq_int_none (fin_bl I q (by simp))
  | int j => obtain ⟨t', rfl⟩ := ry; exact eq_int (fin_bl I q dec_int)
  | str j => obtain ⟨t', rfl⟩ := ry; exact PySem.EqMixed.eq_int_str (fin_bl I q (by simp))
  | _ => exact absurd (show false = true from hs) Bool.false_ne_true
 | str i =>
  obtain ⟨t, rfl⟩ := rx
  cases y with
  | non => cases ry; exact PySem.EqNone.eq_str_none (fin_bl I q (by simp))
  | bl j => cases ry; exact PySem.EqMixed.eq_str_bool (fin_bl I q (by simp))
  | int j => obtain ⟨t', rfl⟩ := ry; exact PySem.EqMixed.eq_str_int (fin_bl I q (by simp))
  | str j => obtain ⟨t', rfl⟩ := ry; exact eq_str (fin_bl I q dec_str)
  | _ => exact absurd (show false = true from hs) Bool.false_ne_true
 | byt i =>
  obtain ⟨t, rfl⟩ := rx
  cases y with
  | byt j => obtain ⟨t', rfl⟩ := ry; exact PySem.W.eq_bytes (fin_bl I q dec_byt)
  | _ => exact absurd (show false = true from hs) Bool.false_ne_true
 | _ => cases y <;> exact absurd (show false = true from hs) Bool.false_ne_true
theorem op_ne : OpR X (compareOp .NotEq) rNe := by
 intro pins s σ H x y v u Q I rx ry h
 obtain ⟨hs, q⟩ := h
 cases x with
 | non =>
  cases rx
  cases y with
  | non => cases ry; exact PySem.EqNone.ne_none_none (fin_bl I q (by simp))
  | bl j => cases ry; exact PySem.EqNone.ne_none_bool (fin_bl I q (by simp))
  | int j => obtain ⟨t', rfl⟩ := ry; exact PySem.EqNone.ne_none_int (fin_bl I q (by simp))
  | str j => obtain ⟨t', rfl⟩ := ry; exact PySem.EqNone.ne_none_str (fin_bl I q (by simp))
  | _ => exact absurd (show false = true from hs) Bool.false_ne_true
 | bl i =>
  cases rx
  cases y with
  | non => cases ry; exact PySem.EqNone.ne_bool_none (fin_bl I q (by simp))
  | bl j => cases ry; exact ne_bool (fin_bl I q (congrArg not dec_bl))
  | str j => obtain ⟨t', rfl⟩ := ry; exact PySem.EqMixed.ne_bool_str (fin_bl I q (by simp))
  | _ => exact absurd (show false = true from hs) Bool.false_ne_true
 | int i =>
  obtain ⟨t, rfl⟩ := rx
  cases y with
  | non => cases ry; exact PySem.EqNone.ne_int_none (fin_bl I q (by simp))
  | int j => obtain ⟨t', rfl⟩ := ry; exact ne_int (fin_bl I q (congrArg not dec_int))
  | str j => obtain ⟨t', rfl⟩ := ry; exact PySem.EqMixed.ne_int_str (fin_bl I q (by simp))
  | _ => exact absurd (show false = true from hs) Bool.false_ne_true
 | str i =>
  obtain ⟨t, rfl⟩ := rx
  cases y with
  | non => cases ry; exact PySem.EqNone.ne_str_none (fin_bl I q (by simp))
  | bl j => cases ry; exact PySem.EqMixed.ne_str_bool (fin_bl I q (by simp))
  | int j => obtain ⟨t', rfl⟩ := ry; exact PySem.EqMixed.ne_str_int (fin_bl I q (by simp))
  | str j => obtain ⟨t', rfl⟩ := ry; exact ne_str (fin_bl I q (congrArg not dec_str))
  | _ => exact absurd (show false = true from hs) Bool.false_ne_true
 | byt i =>
  obtain ⟨t, rfl⟩ := rx
  cases y with
  | byt j => obtain ⟨t', rfl⟩ := ry; exact PySem.W.ne_bytes (fin_bl I q (congrArg not dec_byt))
  | _ => exact absurd (show false = true from hs) Bool.false_ne_true
 | _ => cases y <;> exact absurd (show false = true from hs) Bool.false_ne_true
theorem op_lt : OpR X (compareOp .Lt) (rI0 fun i j => .bl (decide (i < j))) := opB0 fun _ _ _ _ _ _ _ q => lt_int q
theorem op_le : OpR X (compareOp .LtE) (rI0 fun i j => .bl (decide (i ≤ j))) := opB0 fun _ _ _ _ _ _ _ q => le_int q
theorem op_gt : OpR X (compareOp .Gt) (rI0 fun i j => .bl (decide (j < i))) := opB0 fun _ _ _ _ _ _ _ q => gt_int q
theorem op_ge : OpR X (compareOp .GtE) (rI0 fun i j => .bl (decide (j ≤ i))) := opB0 fun _ _ _ _ _ _ _ q => ge_int q
theorem nomark (b : Expr) {op : CmpOp} (h : op ≠ .In := by decide) (h2 : op ≠ .NotIn := by decide) : behindInMarks op b = false := by
 have e1 : (op == CmpOp.In) = false := by cases op <;> first | rfl | exact absurd rfl h
 have e2 : (op == CmpOp.NotIn) = false := by cases op <;> first | rfl | exact absurd rfl h2
 cases b <;> simp [behindInMarks, e1, e2]
theorem pe_cmpR {op : CmpOp} {r : R2} (ho : OpR X (compareOp op) r) (ha : PE X a ta) (hb : PE X b tb) (hm : behindInMarks op b = false) : PE X (.Compare a [op] [b] pos) (tOp r ta tb) := by
 intro pins s σ H Q I h
 exact wpAny_Compare1 (binT ha hb I h fun v u s2 x y H2 I2 rx ry q => ho pins s2 σ H2 x y v u Q I2 rx ry q) hm
def tTest (t : TE) : TT := fun σ H Q => t σ H fun x H' => ∃ k, x = .bl k ∧ Q k H'
theorem pt_cmpR {op : CmpOp} {r : R2} (ho : OpR X (compareOp op) r) (ha : PE X a ta) (hb : PE X b tb) (hm : behindInMarks op b = false) : PT X (.Compare a [op] [b] pos) (tTest (tOp r ta tb)) := by
 intro pins s σ H Q I h
 refine wpAny_isTrue_Compare1 (thn (ha pins s σ H _ I h) fun v s1 ⟨x, H1, I1, r1, q1⟩ => thn (hb pins s1 σ H1 _ I1 q1) fun u s2 ⟨y, H2, I2, r2, q2⟩ =>
  thn (ho pins s2 σ H2 x y v u _ I2 r1 r2 q2) fun c s3 ⟨z, H3, I3, r3, k, e, q3⟩ => ?_) hm
 subst e
 cases r3
 exact wpAny_truthy_bool ⟨H3, I3, q3⟩
def tChain (r r' : R2) (ta tb tc : TE) : TE := fun σ H Q => ta σ H fun x H1 => tb σ H1 fun y H2 => r x y H2 fun z H3 => ∃ k, z = .bl k ∧
 (if k = true then tc σ H3 fun w' H4 => r' y w' H4 Q else Q (.bl false) H3)
theorem pt_chain {op op' : CmpOp} {r r' : R2} (ho : OpR X (compareOp op) r) (ho' : OpR X (compareOp op') r') (ha : PE X a ta) (hb : PE X b tb) (hc : PE X c tc)
  (hm : lastMarks [op, op'] [b, c] = false := by with_unfolding_all rfl) : PT X (.Compare a [op, op'] [b, c] pos) (tTest (tChain r r' ta tb tc)) := by
 intro pins s σ H Q I h
 refine isTrue_chain (thn (ha pins s σ H _ I h) fun v s1 ⟨x, H1, I1, r1, q1⟩ => test_link (thn (hb pins s1 σ H1 _ I1 q1) fun u s2 ⟨y, H2, I2, r2, q2⟩ =>
  thn (ho pins s2 σ H2 x y v u _ I2 r1 r2 q2) fun d s3 ⟨z, H3, I3, r3, k, e, q3⟩ => ?_)) hm
 subst e
 cases r3
 refine wpAny_truthy_bool ?_
 cases k with
 | false =>
  obtain ⟨k', e', q'⟩ := q3
  cases e'
  exact ite_ff ⟨H3, I3, q'⟩
 | true =>
  refine ite_tt (test_last (thn (hc pins s3 σ H3 _ I3 q3) fun w' s4 ⟨z', H4, I4, r4, q4⟩ => thn (ho' pins s4 σ H4 y z' u w' _ I4 r2 r4 q4) fun d' s5 ⟨z2, H5, I5, r5, k2, e2, q5⟩ => ?_))
  subst e2
  cases r5
  exact wpAny_truthy_bool ⟨H5, I5, q5⟩
theorem line63 : (sizeLine : Nat) < 2 ^ 63 := by rw [sizeLine_eq]; decide
theorem vals1 {x : V} {us : List Value} (r : Vals [x] us) : ∃ u, us = [u] ∧ RelV x u := by
 cases r with
 | cons r1 r2 => cases r2; exact ⟨_, rfl, r1⟩
theorem vals2 {x y : V} {us : List Value} (r : Vals [x, y] us) : ∃ u w', us = [u, w'] ∧ RelV x u ∧ RelV y w' := by
 cases r with
 | cons r1 r2 =>
  cases r2 with
  | cons r3 r4 => cases r4; exact ⟨_, _, rfl, r1, r3⟩
theorem call_max2 (hc : X.calm = true) : CallR X (.builtin "max") (fun xs H Q => ∃ i j, xs = [.int i, .int j] ∧ Q (.int (if j > i then j else i)) H) := by
 intro pins s σ H xs us Q I r h
 obtain ⟨i, j, rfl, q⟩ := h
 obtain ⟨u, w', rfl, ⟨t, rfl⟩, ⟨t', rfl⟩⟩ := vals2 r
 refine max_two_ints (I.ok.hd hc) fun h' tk k => ⟨_, H, I.kept k, ?_, q⟩
 by_cases hj : j > i
 ·rw [if_pos hj, if_pos hj]; exact ⟨_, rfl⟩
 ·rw [if_neg hj, if_neg hj]; exact ⟨_, rfl⟩
theorem call_min2 (hc : X.calm = true) : CallR X (.builtin "min") (fun xs H Q => ∃ i j, xs = [.int i, .int j] ∧ Q (.int (if j < i then j else i)) H) := by
 intro pins s σ H xs us Q I r h
 obtain ⟨i, j, rfl, q⟩ := h
 obtain ⟨u, w', rfl, ⟨t, rfl⟩, ⟨t', rfl⟩⟩ := vals2 r
 refine min_two_ints (I.ok.hd hc) fun h' tk k => ⟨_, H, I.kept k, ?_, q⟩
 by_cases hj : j < i
 ·rw [if_pos hj, if_pos hj]; exact ⟨_, rfl⟩
 ·rw [if_neg hj, if_neg hj]; exact ⟨_, rfl⟩
theorem call_int1 : CallR X (.type "int") (fun xs H Q => (∃ i, xs = [.int i] ∧ Q (.int i) H) ∨ ∃ k, xs = [.bl k] ∧ Q (.int (if k then 1 else 0)) H) := by
 intro pins s σ H xs us Q I r h
 rcases h with ⟨i, rfl, q⟩ | ⟨k, rfl, q⟩
 ·obtain ⟨u, rfl, t, rfl⟩ := vals1 r
  exact call_int_int ⟨.int i, H, I, ⟨_, rfl⟩, q⟩
 ·obtain ⟨u, rfl, r1⟩ := vals1 r
  cases r1
  exact call_int_bool ⟨.int (if k then 1 else 0), H, I.tok _, ⟨_, rfl⟩, q⟩
end
structure ObjM (h : Heap) (x dx C : Addr) (mA : Str → Option Value) : Prop where
 obj : h.get? x = some (PySem.W.instObj C dx)
 ns : h.Ns1 dx mA
 ne : dx ≠ x
theorem lookIn_ns {h : Heap} {dx : Addr} {mA : Str → Option Value} (n : h.Ns1 dx mA) : ∃ od, h.get? dx = some od ∧ ∀ name, PySem.W.lookIn name od = some (mA name) := by
 obtain ⟨o, es, ep, ho, hd, hk, _, hm⟩ := n
 refine ⟨o, ho, fun name => ?_⟩
 have e := hm name
 unfold nsFind findBy at e
 rw [← Array.find?_toList] at e
 unfold PySem.W.lookIn
 rw [hd]
 dsimp only
 split
 ·rename_i y q
  rw [q] at e
  exact congrArg some e
 ·rename_i q
  rw [q] at e
  have a : es.toList.any (·.refKey) = false := by
   rw [List.any_eq_false]
   intro y hy
   obtain ⟨z, t, hkey⟩ := hk y (Array.mem_toList_iff.mp hy)
   simp [DictEntry.refKey, hkey]
  have a' : ¬ es.toList.any (·.refKey) = true := by rw [a]; exact Bool.false_ne_true
  rw [if_neg a']
  exact congrArg some e
theorem ObjM.look {h : Heap} {x dx C : Addr} {mA : Str → Option Value} (I : ObjM h x dx C mA) : ∃ od, PySem.W.InstAt h x (PySem.W.instObj C dx) C (some od) ∧ ∀ name, PySem.W.lookIn name od = some (mA name) :=
 let ⟨od, ho, hl⟩ := lookIn_ns I.ns
 ⟨od, ⟨I.obj, rfl, rfl, ho⟩, hl⟩
section
variable {prog : Program} {w : World} {A : Around} {E : Value → Shared → Prop} {s : Shared} {K : PySem.W.Frag} {x dx C f : Addr} {mA : Str → Option Value} {name : Str} {v : Value}
end
theorem RelO.some_of {v : V} {o : Option Value} (r : RelO (some v) o) : ∃ u, o = some u ∧ RelV v u := by
 cases o with
 | none => exact (show False from r).elim
 | some u => exact ⟨u, rfl, r⟩
section
variable {P : Program} {w : World} {H H' : Hp} {h h' : Heap} {a C dx : Addr} {fs fs' : List (Str × V)}
theorem ins_get (hok : HOk P w H h) (e : H a = some (.ins C dx fs)) : ∃ mA, ObjM h a dx C mA ∧ (∀ f, RelO (fs.lookup f) (mA f)) ∧ PySem.Within mA (fs.map (·.1)) ∧ fs.length ≤ 1000 ∧ H dx = some (.own a) := by
 obtain ⟨d, z, ne, ob, mA, n, r, q⟩ := (show ObjOk P w H h a (.ins C dx fs) from hok a _ e)
 exact ⟨mA, ⟨ob, n, ne⟩, r, q, z, d⟩
end
structure Cls (K : PySem.W.Frag) (C : Addr) : Prop where
 pg : PySem.W.plainGet K C Str.empty = true
 hd : PySem.W.hasDictIn K C = true
 po : PySem.W.plainOver K C = true
 sa : PySem.W.findIn K (.ref C) "__setattr__" = some (some (.builtin "object.__setattr__"))
theorem Cls.get {K : PySem.W.Frag} {C : Addr} (c : Cls K C) (f : Str) : PySem.W.plainGet K C f = true := c.pg
structure Con (K : PySem.W.Frag) (C : Addr) (f : Str) (v : V) (u : Value) : Prop where
 at_ : PySem.W.findIn K (.ref C) f = some (some u)
 rel : RelV v u
 get : PySem.W.specialIn K u "__get__" = some none
 cp : PySem.W.copiedNames.contains f = false
structure Meth (K : PySem.W.Frag) (C : Addr) (m : Str) (f : Addr) : Prop where
 at_ : PySem.W.findIn K (.ref C) m = some (some (.ref f))
 fn : PySem.W.isFn K (.ref f) = true
 kp : PySem.W.keepIn K (.ref f) = true
section
variable {X : Cx} {pins : List (Addr × Obj)} {σ : St} {H : Hp} {s : Shared} {a C dx : Addr} {fs : List (Str × V)} {f : Str} {v : V} {A : Around} {E : Value → Shared → Prop}
end
section
variable {X : Cx} {o e value : Expr} {f : Str} {pos pos' tpos : Pos} {ta tv : TE}
end
section
variable {X : Cx} {pins : List (Addr × Obj)} {σ : St} {H : Hp} {s : Shared} {A : Around} {E : Value → Shared → Prop} {Q : Value → Shared → Prop} {c : Value} {b : Bool}
inductive TyOf (K : PySem.W.Frag) (H : Hp) : V → Value → Prop where
 | non : TyOf K H .non (.type "NoneType")
 | bl (x : Bool) : TyOf K H (.bl x) (.type "bool")
 | int (i : Int) : TyOf K H (.int i) (.type "int")
 | str (x : Str) : TyOf K H (.str x) (.type "str")
 | flt (x : UInt64) : TyOf K H (.flt x) (.type "float")
 | lst {a : Addr} {xs : List V} (e : H a = some (.lst xs)) : TyOf K H (.ref a) (.type "list")
 | frz {a : Addr} {o : Obj} {xs : List V} (e : H a = some (.frz o (.lst xs))) : TyOf K H (.ref a) (.type "list")
 | tup {a : Addr} {xs : List V} (e : H a = some (.tup xs)) : TyOf K H (.ref a) (.type "tuple")
 | dK {a : Addr} {kvs : List (Key × V)} (e : H a = some (.dK kvs)) : TyOf K H (.ref a) (.type "dict")
 | dT {a : Addr} {kvs : List (List Key × V)} (e : H a = some (.dT kvs)) : TyOf K H (.ref a) (.type "dict")
 | ins {a C dx : Addr} {fs : List (Str × V)} (e : H a = some (.ins C dx fs)) (cl : Cls K C) (ha : PySem.W.findIn K (.ref C) "__class__" = some (some (.builtin "object.__class__")))
   (hn : PySem.W.specialIn K (.builtin "object.__class__") "__get__" = some (some (.builtin "getset_descriptor.__get__"))) (htk : PySem.W.takesIn K (.builtin "object.__class__") = some true)
   (hm : PySem.W.mroIn K C (.type "object") = some true) : TyOf K H (.ref a) (.ref C)
theorem isinst_ok {x : V} {u t : Value} (I : Inv X pins σ H s) (rx : RelV x u) (ty : TyOf X.K H x t) (e : PySem.W.kitOne X.K t c = some b) (h : ∀ tk, Q (.bool b) { s with toks := tk }) :
  wpAny (model X.prog X.w) A (call (.builtin "isinstance") [u, c]) Q E s := by
 cases ty with
 | non => cases (show u = Value.none from rx); exact PySem.W.kia_one PySem.W.kitx_none I.kIn True.intro e (fun z => nomatch z) h
 | bl y => cases (show u = Value.bool y from rx); exact PySem.W.kia_one PySem.W.kitx_bool I.kIn True.intro e (fun z => nomatch z) h
 | int i => obtain ⟨t, q⟩ := (show ∃ t, u = Value.int i t from rx); cases q; exact PySem.W.kia_one PySem.W.kitx_int I.kIn True.intro e (fun z => nomatch z) h
 | str y => obtain ⟨t, q⟩ := (show ∃ t, u = Value.str y t from rx); cases q; exact PySem.W.kia_one PySem.W.kitx_str I.kIn True.intro e (fun z => nomatch z) h
 | flt y => obtain ⟨t, q⟩ := (show ∃ t, u = Value.float y t from rx); cases q; exact PySem.W.kia_one PySem.W.kitx_float I.kIn True.intro e (fun z => nomatch z) h
 | @lst a xs ea =>
  cases (show u = Value.ref a from rx)
  obtain ⟨_, _, n, _, h1⟩ := (show ObjOk X.prog X.w H s.heap a (.lst xs) from I.hok a _ ea)
  exact PySem.W.kia_one PySem.W.kitx_list I.kIn ⟨_, h1, rfl⟩ e (fun z => nomatch z) h
 | @frz a ob xs ea =>
  cases (show u = Value.ref a from rx)
  obtain ⟨_, _, _, n, _, h1⟩ := (show ObjOk X.prog X.w H s.heap a (.frz ob (.lst xs)) from I.hok a _ ea)
  exact PySem.W.kia_one PySem.W.kitx_list I.kIn ⟨_, h1, rfl⟩ e (fun z => nomatch z) h
 | @tup a xs ea =>
  cases (show u = Value.ref a from rx)
  obtain ⟨_, _, _, p⟩ := (show ObjOk X.prog X.w H s.heap a (.tup xs) from I.hok a _ ea)
  obtain ⟨o, h1, h2, _⟩ := p
  exact PySem.W.kia_one PySem.W.kitx_tuple I.kIn ⟨o, h1, h2⟩ e (fun z => nomatch z) h
 | @dK a kvs ea =>
  cases (show u = Value.ref a from rx)
  obtain ⟨_, _, vs, _, p⟩ := (show ObjOk X.prog X.w H s.heap a (.dK kvs) from I.hok a _ ea)
  obtain ⟨o, es, ep, h1, h2, _⟩ := p
  exact PySem.W.kia_one PySem.W.kitx_dict I.kIn ⟨o, h1, h2.1⟩ e (fun z => nomatch z) h
 | @dT a kvs ea =>
  cases (show u = Value.ref a from rx)
  obtain ⟨_, _, xs, _, o, es, ep, h1, h2, _⟩ := (show ObjOk X.prog X.w H s.heap a (.dT kvs) from I.hok a _ ea)
  exact PySem.W.kia_one PySem.W.kitx_dict I.kIn ⟨o, h1, h2.1⟩ e (fun z => nomatch z) h
 | @ins a C dx fs ea cl ha hn htk hm =>
  cases (show u = Value.ref a from rx)
  obtain ⟨mA, O, _⟩ := ins_get I.hok ea
  obtain ⟨od, J, _⟩ := O.look
  exact PySem.W.kia_one (PySem.W.kitx_own (cl.get _) cl.hd ha hn htk hm) I.kIn J e (fun z => nomatch z) h
end
structure Room (k : Nat) (A : Around) : Prop where
 hd : A.handled = none
 dp : A.depth + 3 * k + 5 < recursionLimit
 un : A.units + 16 * k + 200 < cLine
 gd : A.guards = some []
theorem Room.mono {j k : Nat} {A : Around} (r : Room k A) (h : j ≤ k) : Room j A := ⟨r.hd, by have := r.dp; omega, by have := r.un; omega, r.gd⟩
theorem Room.deeper {k : Nat} {A : Around} (r : Room (k + 1) A) (env : Env) : Room k (A.deeper env) :=
 ⟨r.hd, by have := r.dp; show A.depth + 1 + 3 * k + 5 < _; omega, by have := r.un; show A.units + 3 + 16 * k + 200 < _; omega, r.gd⟩
theorem Room.depth {k : Nat} {A : Around} (r : Room k A) : A.depth < recursionLimit := by have := r.dp; omega
theorem Room.units {k : Nat} {A : Around} (r : Room k A) : A.units + 64 < cLine := by have := r.un; omega
def tNil : TA := fun _ H Q => Q [] H
def tCons (ta : TE) (tr : TA) : TA := fun σ H Q => ta σ H fun x H1 => tr σ H1 fun xs H2 => Q (x :: xs) H2
section
variable {X : Cx} {e : Expr} {es : List Expr} {te : TE} {t : TA} {pos : Pos}
theorem pa_nil : PA X [] tNil := fun _ _ _ _ H Q I h => Calls.spliced_nil ⟨[], H, I, .nil, h⟩
theorem pa_cons (ha : PE X e te) (hr : PA X es t) (hs : starEach (e :: es) X.env = (false, eval e X.env) :: starEach es X.env := by rfl) : PA X (e :: es) (tCons te t) := by
 intro pos pins s σ H Q I h
 rw [hs]
 show wpAny _ _ (spliced ((false, eval e X.env) :: backTo pos (starEach es X.env))) _ _ s
 refine Calls.spliced_cons (thn (ha pins s σ H _ I h) fun u s1 ⟨x, H1, I1, r1, q1⟩ => ?_)
 exact thn (hr pos pins s1 σ H1 _ I1 q1) fun us s2 ⟨xs, H2, I2, r2, q2⟩ => ⟨x :: xs, H2, I2, .cons r1 r2, q2⟩
def tTup (t : TA) : TE := fun σ H Q => t σ H fun xs H1 => xs.length ≤ sizeLine ∧ ∀ p, H1 p = none → Q (.ref p) (upd H1 p (.tup xs))
def tLst (t : TA) : TE := fun σ H Q => t σ H fun xs H1 => xs.length ≤ sizeLine ∧ ∀ p, H1 p = none → Q (.ref p) (upd H1 p (.lst xs))
theorem pe_tup {x1} (h : PA X es t) : PE X (.Tuple es x1 pos) (tTup t) := by
 intro pins s σ H Q I hq
 refine wpAny_Tuple_spliced (thn (h pos pins s σ H _ I hq) fun us s1 ⟨xs, H1, I1, r, z, q⟩ => ⟨by rw [← r.length]; exact z, ?_⟩)
 have hf : H1 s1.heap.objs.size = none := I1.hok.fresh (Nat.le_refl _)
 refine ⟨.ref s1.heap.objs.size, upd H1 s1.heap.objs.size (.tup xs), I1.laid (t' := s1.toks) (fun b u e => Heap.get?_push_of_some _ e) (Nat.le_refl _) ?_, rfl, q _ hf⟩
 exact ⟨z, us, r, ⟨_, Heap.get?_push_size _ rfl, rfl, _, rfl⟩⟩
theorem pe_lst (h : PA X es t) : PE X (.List es pos) (tLst t) := by
 intro pins s σ H Q I hq
 refine wpAny_List_spliced (thn (h pos pins s σ H _ I hq) fun us s1 ⟨xs, H1, I1, r, z, q⟩ => ⟨by rw [← r.length]; exact z, ?_⟩)
 have hf : H1 s1.heap.objs.size = none := I1.hok.fresh (Nat.le_refl _)
 refine ⟨.ref s1.heap.objs.size, upd H1 s1.heap.objs.size (.lst xs), I1.laid (t' := s1.toks) (fun b u e => Heap.get?_push_of_some _ e) (Nat.le_refl _) ?_, rfl, q _ hf⟩
 exact ⟨z, us, 0, r, Heap.get?_push_size _ rfl⟩
end
abbrev Sp := List V → Hp → VK → XK → Prop
abbrev CXT := List Env → Hp → Shared → XK → Value → Shared → Prop
structure Env0 (P : Program) (w : World) (K : PySem.W.Frag) (mg : Str → Option Value) (base : Heap) (A : Around) (outer : List Env) (s : Shared) (H : Hp) : Prop where
 frames : A.frames = some outer
 mod : Mod K mg base
 bs : ∀ b o, base.get? b = some o → s.heap.get? b = some o ∧ H b = none
 bsz : base.objs.size ≤ s.heap.objs.size
 funs : s.heap.FunFrames base outer
 frf : ∀ b ∈ frs outer, H b = none
 hok : HOk P w H s.heap
 bare : AllBare s.gens
def CE (outer : List Env) (P : Program) (w : World) (H : Hp) (s : Shared) (Q : VK) (u : Value) (s' : Shared) : Prop :=
 ∃ v H', s'.os = s.os ∧ AllBare s'.gens ∧ Un (frs outer) [] H H' s.heap s'.heap ∧ HOk P w H' s'.heap ∧ RelV v u ∧ Q v H'
def CR (CX : CXT) (outer : List Env) (P : Program) (w : World) (H : Hp) (s : Shared) (Q : VK) (E : XK) (r : Result) (s' : Shared) : Prop :=
 match r with
 | .ok (.ret u) => CE outer P w H s Q u s'
 | .ok _ => False
 | .error e => CX outer H s E e s'
structure FnOk (P : Program) (w : World) (K : PySem.W.Frag) (mg : Str → Option Value) (base : Heap) (CX : CXT) (k : Nat) (f : Addr) (fd : FuncData) (ps : List Str) (sp : Sp) : Prop where
 len : ∀ vs H Q E, sp vs H Q E → vs.length = ps.length
 run : ∀ (A : Around) (outer : List Env) (s : Shared) (H : Hp) (args : Args) (us : List Value) (vs : List V) (Q : VK) (E : XK), Room k A → Env0 P w K mg base A outer s H → BindsTo s fd args (ps.zip us) → Vals vs us → sp vs H Q E →
  codeAny (model P w) A (.call (.ref f) args) (CR CX outer P w H s Q E) s
section
variable {X : Cx} {pins : List (Addr × Obj)} {σ : St} {H : Hp} {s s' : Shared}
theorem Inv.env0 (I : Inv X pins σ H s) : Env0 X.prog X.w X.K X.mg X.base X.A X.stack s H :=
 ⟨I.ok.frames, I.ok.mod, I.bs, Nat.le_trans I.ok.bsz I.sz, I.stack, I.stkFree, I.hok, I.bare⟩
theorem Inv.after {Q : VK} {u : Value} (I : Inv X pins σ H s) (h : CE X.stack X.prog X.w H s Q u s') : EP X pins σ Q u s' := by
 obtain ⟨v, H', os, bare, un, hok, r, q⟩ := h
 obtain ⟨hh, g, d, t, os'⟩ := s'
 obtain rfl : os' = s.os := os
 exact ⟨v, H', I.call (h' := hh) (g' := g) (d' := d) (t' := t) (ch := []) un hok bare (fun b z => absurd z (by simp)), r, q⟩
end
def tCall (sp : Sp) (dvs : List V) (E : XK) (t : TA) : TE := fun σ H Q => t σ H fun vs H1 => sp (vs ++ dvs) H1 Q E
def Binds (K : PySem.W.Frag) (fd : FuncData) (ps : List Str) (ds : List Value) : Prop :=
 ∀ (s : Shared) (us : List Value), K.In s.heap → (us ++ ds).length = ps.length → BindsTo s fd ⟨us, []⟩ (ps.zip (us ++ ds))
theorem Binds.all {K : PySem.W.Frag} {fd : FuncData} {ps : List Str} (h : ∀ us : List Value, us.length = ps.length → bindArgs fd ⟨us, []⟩ = pure (ps.zip us)) : Binds K fd ps [] := fun s us _ hl => by
 rw [List.append_nil] at hl ⊢
 exact .of_eq (h us hl)
def Passes (CX : CXT) (X : Cx) (E : XK) : Prop := ∀ (pins : List (Addr × Obj)) (σ : St) (H : Hp) (s : Shared) (e : Value) (s' : Shared), Inv X pins σ H s → CX X.stack H s E e s' → X.xe e s'
section
variable {X : Cx} {CX : CXT} {k : Nat} {f C : Addr} {fd : FuncData} {ps : List Str} {sp : Sp} {dvs : List V} {ds : List Value} {E : XK} {x m : Str} {p pos apos : Pos} {e o : Expr} {es : List Expr} {ta : TE} {t : TA}
theorem run_fn {pins : List (Addr × Obj)} {σ : St} {H : Hp} {s : Shared} {Q : VK} {us : List Value} {vs : List V} (F : FnOk X.prog X.w X.K X.mg X.base CX k f fd ps sp) (hr : Room k X.A) (hb : Binds X.K fd ps ds) (hd : Vals dvs ds) (hx : Passes CX X E)
  (I : Inv X pins σ H s) (r : Vals vs us) (h : sp (vs ++ dvs) H Q E) : wpAny (model X.prog X.w) X.A (call (.ref f) us) (EP X pins σ Q) X.xe s := by
 have r2 : Vals (vs ++ dvs) (us ++ ds) := r.append hd
 have hl : (us ++ ds).length = ps.length := by rw [← r2.length]; exact F.len _ _ _ _ h
 refine wpAny_call (codeAny_mono (F.run X.A X.stack s H ⟨us, []⟩ (us ++ ds) (vs ++ dvs) Q E hr I.env0 (hb s us I.kIn hl) r2 h) fun r s' hq => ?_)
 cases r with
 | error e => exact hx pins σ H s e s' I hq
 | ok fl =>
  cases fl with
  | ret u => exact I.after hq
  | next => exact False.elim hq
  | brk => exact False.elim hq
  | cont => exact False.elim hq
theorem pe_call (F : FnOk X.prog X.w X.K X.mg X.base CX k f fd ps sp) (hr : Room k X.A) (hg : Gl X x) (hm : X.mg x = some (.ref f)) (hk : PySem.W.keepIn X.K (.ref f) = true) (hb : Binds X.K fd ps ds) (hd : Vals dvs ds) (hx : Passes CX X E)
  (ha : PA X (e :: es) t) (hdb : (x == ("__debug__" : Str)) = false := by decide) (he : starEach (e :: es) X.env = (false, eval e X.env) :: starEach es X.env := by rfl) (hpl : (backTo pos (starEach es X.env)).any (·.1) = false := by rfl) :
  PE X (.Call (.Name x p) (e :: es) [] pos) (tCall sp dvs E t) := by
 intro pins s σ H Q I h
 refine wpAny_Call_Name_kw (ld_glob I hg hm ?_ hdb)
 refine PySem.W.callWith_K (h₀ := X.base) I.ok.mod.kin hk (thn (ha pos pins s σ H _ I h) fun us s1 ⟨vs, H1, I1, r, q⟩ => ⟨I1.kIn, ?_⟩) he hpl
 exact run_fn F hr hb hd hx I1 r q
structure Mk (K : PySem.W.Frag) (C f : Addr) : Prop where
 makes : PySem.W.makesIn K C = true
 init : PySem.W.findIn K (.ref C) "__init__" = some (some (.ref f))
 fn : PySem.W.isFn K (.ref f) = true
 kp : PySem.W.keepIn K (.ref C) = true
end
section
variable {X : Cx} {CX : CXT} {k : Nat} {f C : Addr} {fd : FuncData} {ps ks : List Str} {sp : Sp} {E : XK} {x m : Str} {p pos apos kpos : Pos} {e o : Expr} {es : List Expr} {kws : List Keyword} {te ta : TE} {t tk : TA} {nm : Option Str}
structure KBinds (K : PySem.W.Frag) (fd : FuncData) (ps ks : List Str) (g : List Value → List Value → List Value) (gV : List V → List V → List V) : Prop where
 to : ∀ (s : Shared) (us ws : List Value), K.In s.heap → (g us ws).length = ps.length → BindsTo s fd ⟨us, ks.zip ws⟩ (ps.zip (g us ws))
 rel : ∀ {vs : List V} {us : List Value} {zs : List V} {ws : List Value}, Vals vs us → Vals zs ws → Vals (gV vs zs) (g us ws)
variable {g : List Value → List Value → List Value} {gV : List V → List V → List V}
end
structure FnScope (N P : List Str) (sc : Scope) : Prop where
 kind : sc.kind = .function
 co : sc.isCoroutine = false
 gen : sc.isGenerator = false
 nd : N.Nodup
 pre : N.take P.length = P
 par : ∀ x ∈ P, sc.names.lookup x = some .local ∨ sc.names.lookup x = some .cell
 nofree : ∀ y ∈ sc.names, y.2 ≠ .free
theorem bindL_out {kindOf : Str → Option NameKind} {x : Str} : ∀ {binds : List (Str × Value)} {m : Str → Option Value}, (∀ v, (x, v) ∉ binds) → bindL kindOf binds m x = m x
 | [], _, _ => rfl
 | (n, v) :: r, m, h => by
  unfold bindL
  rw [bindL_out fun w hw => h w (List.mem_cons_of_mem _ hw)]
  split
  ·have : x ≠ n := by rintro rfl; exact h v List.mem_cons_self
   simp [this]
  ·rfl
theorem bindC_out {kindOf : Str → Option NameKind} {x : Str} : ∀ {binds : List (Str × Value)} {m : Str → Option Value}, (∀ v, (x, v) ∉ binds) → bindC kindOf binds m x = m x
 | [], _, _ => rfl
 | (n, v) :: r, m, h => by
  unfold bindC
  rw [bindC_out fun w hw => h w (List.mem_cons_of_mem _ hw)]
  split
  ·rfl
  ·have : x ≠ n := by rintro rfl; exact h v List.mem_cons_self
   simp [this]
theorem bindL_get {kindOf : Str → Option NameKind} {x : Str} {v : Value} : ∀ {P : List Str} {vs : List Value} {i : Nat} {m : Str → Option Value}, P.Nodup → P[i]? = some x → vs[i]? = some v → kindOf x = some .local →
  bindL kindOf (P.zip vs) m x = some v
 | [], _, _, _, _, h, _, _ => by simp at h
 | _ :: _, [], _, _, _, _, h, _ => by simp at h
 | p :: P, w :: vs, 0, m, nd, h1, h2, hk => by
  simp at h1 h2; subst h1; subst h2
  show bindL kindOf ((p, w) :: P.zip vs) m p = _
  unfold bindL
  rw [bindL_out fun v hv => (List.nodup_cons.mp nd).1 (List.of_mem_zip hv).1, if_pos hk]
  simp
 | p :: P, w :: vs, i + 1, m, nd, h1, h2, hk => by
  show bindL kindOf ((p, w) :: P.zip vs) m x = _
  unfold bindL
  exact bindL_get (i := i) (List.nodup_cons.mp nd).2 (by simpa using h1) (by simpa using h2) hk
theorem bindC_get {kindOf : Str → Option NameKind} {x : Str} {v : Value} : ∀ {P : List Str} {vs : List Value} {i : Nat} {m : Str → Option Value}, P.Nodup → P[i]? = some x → vs[i]? = some v → kindOf x ≠ some .local →
  bindC kindOf (P.zip vs) m x = some v
 | [], _, _, _, _, h, _, _ => by simp at h
 | _ :: _, [], _, _, _, _, h, _ => by simp at h
 | p :: P, w :: vs, 0, m, nd, h1, h2, hk => by
  simp at h1 h2; subst h1; subst h2
  show bindC kindOf ((p, w) :: P.zip vs) m p = _
  unfold bindC
  rw [bindC_out fun v hv => (List.nodup_cons.mp nd).1 (List.of_mem_zip hv).1, if_neg hk]
  simp
 | p :: P, w :: vs, i + 1, m, nd, h1, h2, hk => by
  show bindC kindOf ((p, w) :: P.zip vs) m x = _
  unfold bindC
  exact bindC_get (i := i) (List.nodup_cons.mp nd).2 (by simpa using h1) (by simpa using h2) hk
def start (N : List Str) (vs : List V) : St := vs.map some ++ List.replicate (N.length - vs.length) none
def cxOf (CX : CXT) (P : Program) (w : World) (K : PySem.W.Frag) (mg : Str → Option Value) (base : Heap) (N : List Str) (qual : Str) (scope : Scope) (f : Addr) (cd : Value) (A : Around) (outer : List Env) (s : Shared) (H : Hp) (E : XK) : Cx where
 prog := P
 w := w
 K := K
 mg := mg
 base := base
 A := A.deeper (envOfC qual scope s.heap.objs.size f cd)
 N := N
 s₀ := s
 H₀ := H
 env := envOfC qual scope s.heap.objs.size f cd
 outer := outer
 stack := envOfC qual scope s.heap.objs.size f cd :: outer
 ex := []
 calm := true
 fn := fun _ => true
 pn := []
 xe := fun e s' => wpAny (model P w) (A.deeper (envOfC qual scope s.heap.objs.size f cd)) (leaving (envOfC qual scope s.heap.objs.size f cd) e) (fun _ s'' => CX outer H s E e s'') (fun e' s'' => CX outer H s E e' s'') s'
theorem cell_has {sc : Scope} {n : Nat} {x : Str} (h : sc.names.lookup x = some .cell) : ∃ c, (cellsFrom n sc.names []).lookup x = some c := by
 have q := PySem.W.cellsFrom_some sc.names n [] (.inl h)
 exact Option.isSome_iff_exists.mp q
theorem inv_start {CX : CXT} {P : Program} {w : World} {K : PySem.W.Frag} {mg : Str → Option Value} {base : Heap} {N ps : List Str} {qual : Str} {scope : Scope} {f : Addr} {cd : Value} {A : Around} {outer : List Env} {s s1 : Shared} {H : Hp} {E : XK} {us : List Value} {vs : List V}
  (S : FnScope N ps scope) (hd : A.handled = none) (e0 : Env0 P w K mg base A outer s H) (hl : vs.length = ps.length) (r : Vals vs us)
  (x : InCallC s s.heap.objs.size (bindL (envOfC qual scope s.heap.objs.size f cd).kindOf (ps.zip us) fun _ => none) (cellsFrom (s.heap.objs.size + 1) scope.names []) (bindC (envOfC qual scope s.heap.objs.size f cd).kindOf (ps.zip us) fun _ => none) s1) :
  Inv (cxOf CX P w K mg base N qual scope f cd A outer s H E) [] (start N vs) H s1 := by
 have hpl : ps.length ≤ N.length := by have := congrArg List.length S.pre; rw [List.length_take] at this; omega
 obtain ⟨h1, tk, rfl, hk⟩ := x.done
 have noA : ∀ b : Addr, b ∉ (cxOf CX P w K mg base N qual scope f cd A outer s H E).ex := fun b z => absurd (show b ∈ ([] : List Addr) from z) (by simp)
 refine ⟨⟨e0.mod, S.kind, rfl, rfl, Nat.le_refl _, fun y z c h1 h2 => ?_, fun y hy => ?_, fun y c _ h => ?_, fun _ => hd, Around.frames_deeper e0.frames, .inr ⟨rfl, rfl⟩, fun b z => absurd z (noA b), e0.bs, e0.bsz, fun b _ _ => noA b, fun b z => absurd z (noA b), e0.funs, e0.frf⟩,
  rfl, e0.bare, Un.kept hk, ⟨_, x.toInCall.ns, fun i y v h1 h2 h3 => ?_⟩, fun y c h => ⟨_, x.cell y c h⟩, e0.hok.fresh (Nat.le_refl _), fun y c h => ?_, fun p hp => absurd (show p ∈ ([] : List (Addr × Obj)) from hp) (by simp), e0.hok.kept hk, ?_⟩
 ·exact name_of_addr x.apart (PySem.mem_of_lookup h1) (PySem.mem_of_lookup h2)
 ·have hy : scope.names.lookup y = some .cell ∨ scope.names.lookup y = some .free := hy
  rcases hy with hy | hy
  ·exact cell_has hy
  ·exact absurd rfl (S.nofree _ (PySem.mem_of_lookup hy))
 ·exact Nat.le_of_lt (x.above y c (PySem.mem_of_lookup h))
 ·have hi : i < vs.length := by
   unfold start at h2
   by_cases hi : i < vs.length
   ·exact hi
   ·rw [List.getElem?_append_right (by simpa using hi)] at h2
    rw [List.getElem?_replicate] at h2
    split at h2 <;> cases h2
  have ha : vs[i]? = some v := by
   unfold start at h2
   rw [List.getElem?_append_left (by simpa using hi), List.getElem?_map] at h2
   cases e : vs[i]? with
   | none => rw [e] at h2; cases h2
   | some a => rw [e] at h2; cases h2; rfl
  obtain ⟨u, hu, rv⟩ := r.get ha
  have hp : ps[i]? = some y := by
   rw [← S.pre, List.getElem?_take_of_lt (by omega)]; exact h1
  have ndP : ps.Nodup := by rw [← S.pre]; exact S.nd.sublist (List.take_sublist _ _)
  refine ⟨u, rv, ?_⟩
  rcases S.par y (List.mem_of_getElem? hp) with k | k
  ·exact .inl ⟨k, bindL_get ndP hp hu k⟩
  ·obtain ⟨c, e⟩ := cell_has (n := s.heap.objs.size + 1) k
   refine .inr ⟨.inl k, c, e, ?_⟩
   have q := x.cell y c e
   rw [bindC_get ndP hp hu (by show scope.names.lookup y ≠ _; rw [k]; decide)] at q
   exact q
 ·exact e0.hok.fresh (Nat.le_of_lt (x.above y c (PySem.mem_of_lookup h)))
 ·unfold start
  show _ = N.length
  rw [List.length_append, List.length_map, List.length_replicate]
  omega
theorem fn_of {CX : CXT} {P : Program} {w : World} {K : PySem.W.Frag} {mg : Str → Option Value} {base : Heap} {k : Nat} {f : Addr} {name qual : Str} {params : Arguments} {body : List Stmt} {scope : Scope} {dV kV doc pm cdv ct oc : Value} {an od : Option Addr}
  {osl : Array (Option Value)} {N ps : List Str} {sp : Sp} (lk : K.lookup f = some ⟨oc, od, .func (PySem.W.fnOf name qual params body scope dV kV doc pm an cdv ct), osl⟩) (hcd : PySem.W.codeIn K cdv qual = true) (S : FnScope N ps scope)
  (len : ∀ vs H Q E, sp vs H Q E → vs.length = ps.length)
  (hbody : ∀ (A : Around) (outer : List Env) (s : Shared) (H : Hp) (vs : List V) (Q : VK) (E : XK), Room k (A.deeper (envOfC qual scope s.heap.objs.size f cdv)) → sp vs H Q E →
   ∃ t, PSs (cxOf CX P w K mg base N qual scope f cdv A outer s H E) body t ∧ t { nx := fun _ H' => Q .non H', rt := Q } (start N vs) H) :
  FnOk P w K mg base CX (k + 1) f (PySem.W.fnOf name qual params body scope dV kV doc pm an cdv ct) ps sp := by
 refine ⟨len, fun A outer s H args us vs Q E hr e0 hb r hsp => ?_⟩
 have hl := len _ _ _ _ hsp
 have KX : K.In s.heap := e0.mod.kin.keeps fun b o e => (e0.bs b o e).1
 have lim : s.heap.NoLimit := e0.mod.nolimit.keeps fun b o e => (e0.bs b o e).1
 have hkind : ∀ y ∈ ps.zip us, scope.names.lookup y.1 = some .local ∨ (scope.names.lookup y.1 = some .cell ∧ ((cellsFrom (s.heap.objs.size + 1) scope.names []).lookup y.1).isSome = true) := fun ⟨n, v⟩ hy => by
  rcases S.par n (List.of_mem_zip hy).1 with q | q
  ·exact .inl q
  ·exact .inr ⟨q, PySem.W.cellsFrom_some _ _ _ (.inl q)⟩
 refine codeAny_call_function hr.depth (KX _ _ lk) rfl S.co S.gen rfl (PySem.W.codeRec_of KX hcd) (hb _ _ _ _ ?_)
 refine wpAny_newFunctionEnv_cells S.kind hkind fun env he s1 x => ?_
 subst he
 refine ⟨lim.keeps x.toInCall.keep, codeAny_func ?_⟩
 obtain ⟨t, ht, hq⟩ := hbody A outer s H vs Q E (hr.deeper _) hsp
 have I : Inv (cxOf CX P w K mg base N qual scope f cdv A outer s H E) [] (start N vs) H s1 := inv_start S hr.hd e0 hl r x
 refine wpAny_mono (ht [] s1 (start N vs) H _ I hq) (fun fl s' hs => ?_) fun e s' hs => hs
 have fin : ∀ {σ' : St} {H' : Hp} {v : V} {u : Value}, Inv (cxOf CX P w K mg base N qual scope f cdv A outer s H E) [] σ' H' s' → RelV v u → Q v H' → CE outer P w H s Q u s' :=
  fun {σ' H' v u} J rv q => ⟨v, H', J.os, J.bare, J.base, J.hok, rv, q⟩
 cases fl with
 | ret u =>
  obtain ⟨v, σ', H', J, rv, q⟩ := hs
  exact fin J rv q
 | next =>
  obtain ⟨σ', H', J, q⟩ := hs
  exact fin (v := V.non) (u := Value.none) J rfl q
 | brk =>
  obtain ⟨_, _, _, q⟩ := hs
  exact False.elim q
 | cont =>
  obtain ⟨_, _, _, q⟩ := hs
  exact False.elim q
section
variable {X : Cx} {x : Str} {p pos : Pos} {e : Expr} {es : List Expr} {t : TA} {id T : String} {r : List V → Hp → VK → Prop}
def tCB (r : List V → Hp → VK → Prop) (t : TA) : TE := fun σ H Q => t σ H fun vs H1 => r vs H1 Q
theorem pe_callB (hc : CallR X (.builtin id) r) (hg : Gl X x) (hm : X.mg x = none) (hv : bootBuiltins x = some (.builtin id)) (ha : PA X (e :: es) t) (hn : x ≠ "__name__" := by decide) (hdb : (x == ("__debug__" : Str)) = false := by decide)
  (he : starEach (e :: es) X.env = (false, eval e X.env) :: starEach es X.env := by rfl) (hpl : (backTo pos (starEach es X.env)).any (·.1) = false := by rfl) : PE X (.Call (.Name x p) (e :: es) [] pos) (tCB r t) := by
 intro pins s σ H Q I h
 refine wpAny_Call_Name_kw (ld_blt I hg hm hv ?_ hn hdb)
 exact PyProof.Rows.callWith_builtin1 (thn (ha pos pins s σ H _ I h) fun us s1 ⟨vs, H1, I1, r1, q1⟩ => hc pins s1 σ H1 vs us Q I1 r1 q1) he hpl
theorem pe_callTy (hc : CallR X (.type T) r) (hg : Gl X x) (hm : X.mg x = none) (hv : bootBuiltins x = some (.type T)) (ha : PA X (e :: es) t) (hn : x ≠ "__name__" := by decide) (hdb : (x == ("__debug__" : Str)) = false := by decide)
  (he : starEach (e :: es) X.env = (false, eval e X.env) :: starEach es X.env := by rfl) (hpl : (backTo pos (starEach es X.env)).any (·.1) = false := by rfl) : PE X (.Call (.Name x p) (e :: es) [] pos) (tCB r t) := by
 intro pins s σ H Q I h
 refine wpAny_Call_Name_kw (ld_blt I hg hm hv ?_ hn hdb)
 exact PyProof.Rows.callWith_type1 (thn (ha pos pins s σ H _ I h) fun us s1 ⟨vs, H1, I1, r1, q1⟩ => hc pins s1 σ H1 vs us Q I1 r1 q1) he hpl
end
end L2
namespace HT
open PySem PyProof.Rows
section
open PySem.SeqAt
open PySem.AutoSeq1 (wpAny_loadPart')
open PySem.MeetsSeq PySem.MeetsSeq2 PySem.MeetsSeq3
end
section
variable {prog : Program} {w : World} {A : Around} {E : Value → Shared → Prop} {s : Shared}
theorem cat_tup {t b : Addr} {vs ws : List Value} {Q : Value → Shared → Prop} (ht : IsTup s.heap t vs.toArray) (hb : IsTup s.heap b ws.toArray) (hv : vs ≠ [])
  (h1 : ws = [] → Q (.ref t) s) (h2 : ws ≠ [] → Q (.ref s.heap.objs.size) { s with heap := s.heap.push { cls := .type "tuple", data := .seq (vs ++ ws).toArray } })
  (hsz : vs.length + ws.length ≤ sizeLine) : wpAny (model prog w) A (binaryOp .Add (.ref t) (.ref b)) Q E s := by
 obtain ⟨⟨cls, dd, data, sl⟩, ho, hc, n, hd⟩ := id ht
 obtain ⟨⟨cls2, dd2, data2, sl2⟩, ho2, hc2, n2, hd2⟩ := id hb
 simp only at hc hd hc2 hd2
 subst hc hd hc2 hd2
 have e : vs.toArray ++ ws.toArray = (vs ++ ws).toArray := by simp
 by_cases hw : ws = []
 ·exact concat_meets ⟨_, ho, rfl⟩ ⟨_, ho2, rfl⟩ noFill_tuple_add seq_tuple_add PySem.F.slot_tuple_add PySem.F.entry_tuple_add (PySem.F.args_tuple_add_2 _ _)
   (tuple_addW1 t b vs.toArray ws.toArray n n2 dd dd2 sl sl2 (by simpa using hv) (by simp [hw])) ⟨ho, ho2, h1 hw⟩
 ·refine concat_meets ⟨_, ho, rfl⟩ ⟨_, ho2, rfl⟩ noFill_tuple_add seq_tuple_add PySem.F.slot_tuple_add PySem.F.entry_tuple_add (PySem.F.args_tuple_add_2 _ _)
   (tuple_addW2 t b vs.toArray ws.toArray n n2 dd dd2 sl sl2 (by simpa using hv) (by simpa using hw) (by rw [List.size_toArray, List.size_toArray]; exact hsz)) ⟨ho, ho2, ?_⟩
  rw [e]
  exact h2 hw
def sIx (n d : Nat) : Option Int → Nat
 | none => d
 | some v => if v < 0 then (v + (n : Int)).toNat else min v.toNat n
theorem sIx_none (n d : Nat) : sIx n d none = d := rfl
theorem sIx_nat (n d k : Nat) : sIx n d (some (k : Int)) = min k n := by
 show (if (k : Int) < 0 then ((k : Int) + (n : Int)).toNat else min (k : Int).toNat n) = min k n
 rw [if_neg (by omega), Int.toNat_natCast]
end
end HT
namespace L2
open PySem PySem.Spec PyProof.Rows
abbrev TO := St → Hp → (Option Int → Hp → Prop) → Prop
def PO (X : Cx) (e : Option Expr) (t : TO) : Prop :=
 ∀ (pins : List (Addr × Obj)) (s : Shared) (σ : St) (H : Hp) (Q : Option Int → Hp → Prop), Inv X pins σ H s → t σ H Q →
  wpAny (model X.prog X.w) X.A (evalPart e X.env) (fun u s' => ∃ o H', Inv X pins σ H' s' ∧ IsPart u o ∧ Q o H') X.xe s
def tNoPart : TO := fun _ H Q => Q none H
def tPart (t : TE) : TO := fun σ H Q => t σ H fun x H1 => ∃ i, x = .int i ∧ Q (some i) H1
section
variable {X : Cx} {e : Expr} {te : TE} {lo hi : Option Expr} {tl th : TO} {pos p2 : Pos}
theorem po_none : PO X none tNoPart := by
 intro pins s σ H Q I h
 rw [evalPart_none]
 exact wpAny_pure ⟨none, H, I, .none, h⟩
theorem po_some (h : PE X e te) : PO X (some e) (tPart te) := by
 intro pins s σ H Q I hw
 rw [evalPart_some]
 refine thn (h pins s σ H _ I hw) fun u s1 ⟨x, H1, I1, r1, q1⟩ => ?_
 obtain ⟨i, rfl, q⟩ := q1
 obtain ⟨t, rfl⟩ := r1
 exact ⟨some i, H1, I1, .int i t, q⟩
def SlR (X : Cx) (r : V → Option Int → Option Int → Hp → VK → Prop) : Prop :=
 ∀ (pins : List (Addr × Obj)) (s : Shared) (σ : St) (H : Hp) (x : V) (v vl vu : Value) (lo hi : Option Int) (sl : Addr) (Q : VK), Inv X pins σ H s → RelV x v → s.heap.IsSliceOf sl vl vu .none → IsPart vl lo → IsPart vu hi → r x lo hi H Q →
  ∃ T id, typeLookup (.type T) "__getitem__" = pure (some (.builtin id)) ∧ s.TypeIs v T ∧ wpAny (model X.prog X.w) X.A (getItem v (.ref sl)) (EP X pins σ Q) X.xe s
def tSl (r : V → Option Int → Option Int → Hp → VK → Prop) (te : TE) (tl th : TO) : TE := fun σ H Q => te σ H fun x H1 => tl σ H1 fun l H2 => th σ H2 fun u H3 => r x l u H3 Q
theorem pe_slice {r : V → Option Int → Option Int → Hp → VK → Prop} (hr : SlR X r) (he : PE X e te) (hl : PO X lo tl) (hu : PO X hi th) : PE X (.Subscript e (.Slice lo hi none p2) pos) (tSl r te tl th) := by
 intro pins s σ H Q I h
 refine Subscript_ (thn (he pins s σ H _ I h) fun v s1 ⟨x, H1, I1, r1, q1⟩ => ?_)
 refine wpAny_Slice (thn (hl pins s1 σ H1 _ I1 q1) fun vl s2 ⟨l, H2, I2, pl, q2⟩ => thn (hu pins s2 σ H2 _ I2 q2) fun vu s3 ⟨u, H3, I3, pu, q3⟩ => ?_)
 rw [evalPart_none]
 refine wpAny_pure ?_
 have I4 : Inv X pins σ H3 { s3 with heap := s3.heap.push { cls := .type "slice", data := .fields #[vl, vu, .none] } } := I3.kept (t' := s3.toks) fun b ob q => Heap.get?_push_of_some _ q
 obtain ⟨T, id, hT, ht, hg⟩ := hr pins { s3 with heap := s3.heap.push { cls := .type "slice", data := .fields #[vl, vu, .none] } } σ H3 x v vl vu l u s3.heap.objs.size Q I4 r1 (Heap.IsSliceOf.new ..) pl pu q3
 show wpAny (model X.prog X.w) X.A (subscriptTail e (.Slice lo hi none p2) v (.ref s3.heap.objs.size)) (EP X pins σ Q) X.xe { s3 with heap := s3.heap.push { cls := .type "slice", data := .fields #[vl, vu, .none] } }
 exact tail_any (ops := [.ref s3.heap.objs.size, v]) ht hT hg (by with_unfolding_all rfl)
def cutV (xs : List V) (lo hi : Option Int) : List V := (xs.drop (HT.sIx xs.length 0 lo)).take (HT.sIx xs.length xs.length hi - HT.sIx xs.length 0 lo)
theorem cutV_length (xs : List V) (lo hi : Option Int) : (cutV xs lo hi).length ≤ xs.length := by
 unfold cutV
 rw [List.length_take, List.length_drop]
 omega
def rCatT (K : PySem.W.Frag) : R2 := fun x y H Q => ∃ a b xs ys, x = .ref a ∧ y = .ref b ∧ SqT K H a xs ∧ SqT K H b ys ∧ xs ≠ [] ∧ xs.length + ys.length ≤ sizeLine ∧
 (ys = [] → Q (.ref a) H) ∧ (ys ≠ [] → ∀ p, H p = none → Q (.ref p) (upd H p (.tup (xs ++ ys))))
theorem Vals.nil_iff {xs : List V} {us : List Value} (r : Vals xs us) : us = [] ↔ xs = [] := by
 cases r with
 | nil => simp
 | cons _ _ => simp
theorem op_catT : OpR X (binaryOp .Add) (rCatT X.K) := by
 intro pins s σ H x y v u Q I rx ry h
 obtain ⟨a, b, xs, ys, rfl, rfl, ha, hb, hx, hz, q1, q2⟩ := h
 cases rx
 cases ry
 obtain ⟨its, r1, p1, _⟩ := I.tuple ha
 obtain ⟨its2, r2, p2, _⟩ := I.tuple hb
 refine HT.cat_tup p1 p2 (fun z => hx (r1.nil_iff.mp z)) (fun z => ⟨.ref a, H, I, rfl, q1 (r2.nil_iff.mp z)⟩) (fun z => ?_) (by rw [← r1.length, ← r2.length]; exact hz)
 refine ⟨.ref s.heap.objs.size, _, I.laid (t' := s.toks) (o := .tup (xs ++ ys)) (fun b ob q => Heap.get?_push_of_some _ q) (Nat.le_refl _) ?_, rfl, q2 (fun w => z (r2.nil_iff.mpr w)) _ (I.hok.fresh (Nat.le_refl _))⟩
 exact ⟨by rw [List.length_append]; exact hz, _, r1.append r2, IsTup.new _ _⟩
end
def ixN (n : Nat) (i : Int) : Option Nat := if 0 ≤ i then (if i < n then some i.toNat else none) else if -(n : Int) ≤ i then some (i + n).toNat else none
def atI {α : Type} (xs : List α) (i : Int) : Option α := (ixN xs.length i).bind fun j => xs[j]?
theorem ixN_seq {n : Nat} {i : Int} {j : Nat} (h : ixN n i = some j) : seqIndex? i n = some j ∧ j < n ∧ -(n : Int) ≤ i ∧ i < n := by
 unfold ixN at h
 by_cases h0 : 0 ≤ i
 ·rw [if_pos h0] at h
  by_cases h1 : i < n
  ·rw [if_pos h1] at h
   have e : i.toNat = j := Option.some.inj h
   exact ⟨by rw [seqIndex_of h0 h1, e], by omega, by omega, h1⟩
  ·rw [if_neg h1] at h; cases h
 ·rw [if_neg h0] at h
  by_cases h1 : -(n : Int) ≤ i
  ·rw [if_pos h1] at h
   have e : (i + n).toNat = j := Option.some.inj h
   exact ⟨by rw [seqIndex_neg (by omega) h1, e], by omega, h1, by omega⟩
  ·rw [if_neg h1] at h; cases h
theorem atI_get {α : Type} {xs : List α} {i : Int} {v : α} (h : atI xs i = some v) : ∃ j, seqIndex? i xs.length = some j ∧ xs[j]? = some v ∧ j < xs.length ∧ -(xs.length : Int) ≤ i ∧ i < xs.length := by
 unfold atI at h
 cases e : ixN xs.length i with
 | none => rw [e] at h; cases h
 | some j =>
  rw [e] at h
  obtain ⟨h1, h2, h3, h4⟩ := ixN_seq e
  exact ⟨j, h1, h, h2, h3, h4⟩
theorem atI_nat {α : Type} {xs : List α} {j : Nat} {v : α} (h : xs[j]? = some v) : atI xs (j : Int) = some v := by
 have hj : j < xs.length := (List.getElem?_eq_some_iff.mp h).1
 have e : ixN xs.length (j : Int) = some j := by
  unfold ixN
  rw [if_pos (by omega), if_pos (by omega)]; simp
 unfold atI; rw [e]; exact h
def PlainIx (b : Expr) : Prop := ∀ o i, subscripted b false o i = operate [o, i] (getItem o i)
def IxR (X : Cx) (r : R2) : Prop :=
 ∀ (value slice : Expr) (pins : List (Addr × Obj)) (s : Shared) (σ : St) (H : Hp) (x y : V) (v u : Value) (Q : VK), Inv X pins σ H s → RelV x v → RelV y u → r x y H Q →
  subscripted slice false v u = operate [v, u] (getItem v u) → wpAny (model X.prog X.w) X.A (subscriptTail value slice v u) (EP X pins σ Q) X.xe s
def MtR (X : Cx) (id : String) (r : V → List V → Hp → VK → Prop) : Prop :=
 ∀ (pins : List (Addr × Obj)) (s : Shared) (σ : St) (H : Hp) (x : V) (xs : List V) (v : Value) (us : List Value) (Q : VK), Inv X pins σ H s → RelV x v → Vals xs us → r x xs H Q →
  wpAny (model X.prog X.w) X.A (call (.builtin id) (v :: us)) (EP X pins σ Q) X.xe s
section
variable {X : Cx} {a b : Expr} {ta tb : TE} {pos : Pos}
theorem IxR.or {r r' : R2} (h : IxR X r) (h' : IxR X r') : IxR X (fun x y H Q => r x y H Q ∨ r' x y H Q) := by
 intro value slice pins s σ H x y v u Q I rx ry q hs
 rcases q with q | q
 ·exact h value slice pins s σ H x y v u Q I rx ry q hs
 ·exact h' value slice pins s σ H x y v u Q I rx ry q hs
theorem pe_ix {r : R2} (hr : IxR X r) (ha : PE X a ta) (hb : PE X b tb) (hs : PlainIx b) : PE X (.Subscript a b pos) (tOp r ta tb) := by
 intro pins s σ H Q I h
 exact Subscript_ (binT ha hb I h fun v u s2 x y H2 I2 rx ry q => hr a b pins s2 σ H2 x y v u Q I2 rx ry q (hs _ _))
def rIxL (K : PySem.W.Frag) : R2 := fun x y H Q => ∃ p xs i v, x = .ref p ∧ y = .int i ∧ SqL K H p xs ∧ atI xs i = some v ∧ Q v H
def rIxT (K : PySem.W.Frag) : R2 := fun x y H Q => ∃ p xs i v, x = .ref p ∧ y = .int i ∧ SqT K H p xs ∧ atI xs i = some v ∧ Q v H
def rIxS : R2 := fun x y H Q => ∃ z i c, x = .str z ∧ y = .int i ∧ z.length ≤ sizeLine ∧ atI z.cps.toList i = some c ∧ Q (.str ⟨#[c]⟩) H
theorem ix_list : IxR X (rIxL X.K) := by
 intro value slice pins s σ H x y v u Q I rx ry h hs
 obtain ⟨p, xs, i, z, rfl, rfl, hq, he, q⟩ := h
 cases rx
 obtain ⟨t, rfl⟩ := ry
 obtain ⟨its, r, pl, hz⟩ := I.list hq
 obtain ⟨j, h1, h2, h3, h4, h5⟩ := atI_get he
 obtain ⟨w, ew, rw'⟩ := r.get h2
 have hl := r.length
 have hn := line63
 have fin : EP X pins σ Q w s := ⟨z, H, I, rw', q⟩
 by_cases h0 : 0 ≤ i
 ·have hj : i.toNat = j := by
   rw [seqIndex_of h0 h5] at h1
   exact Option.some.inj h1
  exact item_listR pl.isList h0 (by omega) (by rw [hj]; simpa using ew) fin hs
 ·have hj : (i + (its.toArray.size : Int)).toNat = j := by
   rw [seqIndex_neg (by omega) h4] at h1
   rw [List.size_toArray, ← hl]
   exact Option.some.inj h1
  exact subscriptTail_builtinR (x := w) pl.isList.typeIs slot_list_getitem.lookup
   (wpAny_getItem_list_neg (Q := fun r s' => r = w ∧ EP X pins σ Q r s') pl.isList (by omega) (by rw [List.size_toArray] <;> omega) (by omega) (by rw [hj]; simpa using ew) ⟨rfl, fin⟩) hs
theorem ix_tup : IxR X (rIxT X.K) := by
 intro value slice pins s σ H x y v u Q I rx ry h hs
 obtain ⟨p, xs, i, z, rfl, rfl, hq, he, q⟩ := h
 cases rx
 obtain ⟨t, rfl⟩ := ry
 obtain ⟨its, r, pl, hz⟩ := I.tuple hq
 obtain ⟨j, h1, h2, h3, h4, h5⟩ := atI_get he
 obtain ⟨w, ew, rw'⟩ := r.get h2
 have hl := r.length
 have hn := line63
 have fin : EP X pins σ Q w s := ⟨z, H, I, rw', q⟩
 exact subscriptTail_builtinR (x := w) pl.typeIs slot_tuple_getitem.lookup
  (getItem_tuple (j := j) (Q := fun r s' => r = w ∧ EP X pins σ Q r s') pl (by omega) (by omega) (by rw [List.size_toArray, ← hl]; exact h1) (by simpa using ew) ⟨rfl, fin⟩) hs
theorem ix_str : IxR X rIxS := by
 intro value slice pins s σ H x y v u Q I rx ry h hs
 obtain ⟨z, i, c, rfl, rfl, hz, he, q⟩ := h
 obtain ⟨t, rfl⟩ := rx
 obtain ⟨t', rfl⟩ := ry
 obtain ⟨j, h1, h2, h3, h4, h5⟩ := atI_get he
 have hl : z.cps.toList.length = z.length := by simp [Str.length]
 rw [hl] at h1 h4 h5
 have hn := line63
 exact tail_any (typeIs_str s z t) slot_str_getitem.lookup (getItem_str (c := c) (by
  have e1 : decide (i < -(2 ^ 63 : Int)) = false := decide_eq_false (by omega)
  have e2 : decide (i ≥ 2 ^ 63) = false := decide_eq_false (by omega)
  rw [e1, e2, Bool.or_false]) (by rw [h1]; simpa using h2) ⟨.str ⟨#[c]⟩, H, I.tok _, ⟨_, rfl⟩, q⟩) hs
def rIx (K : PySem.W.Frag) : R2 := fun x y H Q => rIxL K x y H Q ∨ rIxT K x y H Q ∨ rIxS x y H Q
theorem ix_seq : IxR X (rIx X.K) := ix_list.or (ix_tup.or ix_str)
theorem mapSeq_set (its : List Value) (n j : Nat) (u : Value) : Obj.mapSeq (·.setIfInBounds j u) { cls := .type "list", data := .seq its.toArray n } = { cls := .type "list", data := .seq (its.set j u).toArray n } := by
 simp [Obj.mapSeq]
theorem Inv.lst {pins : List (Addr × Obj)} {σ : St} {H : Hp} {s : Shared} {p : Addr} {xs : List V} (I : Inv X pins σ H s) (h : H p = some (.lst xs)) :
  ∃ (its : List Value) (n : Nat), Vals xs its ∧ s.heap.get? p = some { cls := .type "list", data := .seq its.toArray n } ∧ xs.length ≤ sizeLine := by
 obtain ⟨z, its, n, r, e⟩ := I.hok p _ h
 exact ⟨its, n, r, e, z⟩
theorem Inv.lstUpd {pins : List (Addr × Obj)} {σ : St} {H : Hp} {s : Shared} {p : Addr} {xs ys : List V} {its its' : List Value} {n n' : Nat} {f : Obj → Obj} (I : Inv X pins σ H s) (h : H p = some (.lst xs))
  (ho : s.heap.get? p = some { cls := .type "list", data := .seq its.toArray n }) (hf : f { cls := .type "list", data := .seq its.toArray n } = { cls := .type "list", data := .seq its'.toArray n' }) (r : Vals ys its') (hz : ys.length ≤ sizeLine) (t : Nat) :
  Inv X pins σ (upd H p (.lst ys)) { s with heap := s.heap.update p f, toks := t } := by
 have e : (s.heap.update p f).get? p = some { cls := .type "list", data := .seq its'.toArray n' } := by
  rw [Heap.get?_update_self f ho (by rw [hf] <;> rfl), hf]
 refine I.write (x := p) (e := p) (by rw [h]; trivial) (.inl rfl) (fun b u hb q => (Heap.get?_update_other _ _ (Ne.symm hb)).trans q) ⟨_, e⟩ ?_
 exact ⟨hz, its', n', r, e⟩
def rSetL : V → V → V → Hp → (Hp → Prop) → Prop := fun o i v H Q => ∃ p xs k j, o = .ref p ∧ i = .int k ∧ H p = some (.lst xs) ∧ ixN xs.length k = some j ∧ Q (upd H p (.lst (xs.set j v)))
theorem set_list : PSet X rSetL := by
 intro pins s σ H o i v ov iv u Q I ro ri rv h
 obtain ⟨p, xs, k, j, rfl, rfl, hp, hj, q⟩ := h
 cases ro
 obtain ⟨t, rfl⟩ := ri
 obtain ⟨its, n, r, ho, hz⟩ := I.lst hp
 obtain ⟨h1, h2, h3, h4⟩ := ixN_seq hj
 have hl := r.length
 have hn := line63
 have I' : Inv X pins σ (upd H p (.lst (xs.set j v))) { s with heap := s.heap.update p (Obj.mapSeq (·.setIfInBounds j u)) } :=
  I.lstUpd hp ho (mapSeq_set its n j u) (r.set rv j) (by rw [List.length_set]; exact hz) s.toks
 by_cases h0 : 0 ≤ k
 ·have hk : k.toNat = j := by
   rw [seqIndex_of h0 h4] at h1
   exact Option.some.inj h1
  exact PySem.W.ki_setAt ho h0 (by omega) (by rw [List.size_toArray, ← hl]; exact h4) (by rw [hk]; exact ⟨_, I', q⟩)
 ·have hk : (k + (its.toArray.size : Int)).toNat = j := by
   rw [seqIndex_neg (by omega) h3] at h1
   rw [List.size_toArray, ← hl]
   exact Option.some.inj h1
  exact PySem.W.ki_setBack ho (by omega) (by rw [List.size_toArray, ← hl]; exact h3) (by omega) (by rw [hk]; exact ⟨_, I', q⟩)
theorem slice_bounds (lo hi : Option Int) (n : Nat) : (sliceBounds lo hi none n).1 = ((HT.sIx n 0 lo : Nat) : Int) ∧ (sliceBounds lo hi none n).2.1 = ((HT.sIx n n hi : Nat) : Int) ∧ (sliceBounds lo hi none n).2.2 = 1 := by
 refine ⟨?_, ?_, rfl⟩
 ·cases lo with
  | none => simp [sliceBounds, HT.sIx]
  | some i =>
   simp only [sliceBounds, HT.sIx, Option.getD_none, show (1 : Int) > 0 by decide, if_true]
   by_cases h : i < 0
   ·simp only [h, if_true] <;> omega
   ·simp only [h, if_false] <;> omega
 ·cases hi with
  | none => simp [sliceBounds, HT.sIx]
  | some i =>
   simp only [sliceBounds, HT.sIx, Option.getD_none, show (1 : Int) > 0 by decide, if_true]
   by_cases h : i < 0
   ·simp only [h, if_true] <;> omega
   ·simp only [h, if_false] <;> omega
theorem slicePick_cut (its : List Value) (lo hi : Option Int) : slicePick its.toArray lo hi none = ((its.drop (HT.sIx its.length 0 lo)).take (HT.sIx its.length its.length hi - HT.sIx its.length 0 lo)).toArray := by
 obtain ⟨h1, h2, h3⟩ := slice_bounds lo hi its.toArray.size
 unfold slicePick
 rw [h1, h2, h3]
 simp only [sliceRange_one, pick_run, List.size_toArray] <;> rfl
def rSlL (K : PySem.W.Frag) : V → Option Int → Option Int → Hp → VK → Prop := fun x lo hi H Q => ∃ a xs, x = .ref a ∧ SqL K H a xs ∧ ∀ p, H p = none → Q (.ref p) (upd H p (.lst (cutV xs lo hi)))
theorem sl_list : SlR X (rSlL X.K) := by
 intro pins s σ H x v vl vu lo hi sl Q I rx hs pl pu h
 obtain ⟨a, xs, rfl, hx, q⟩ := h
 cases rx
 obtain ⟨its, r, ht, hz⟩ := I.list hx
 have hlen := r.length
 refine ⟨"list", _, slot_list_getitem.lookup, ht.isList.typeIs, ?_⟩
 refine wpAny_getItem_list_slice ht.isList hs pl pu .none (by simp) ?_ (by rw [List.size_toArray] <;> omega)
 rw [slicePick_cut, ← hlen]
 refine ⟨.ref s.heap.objs.size, _, I.laid (t' := s.toks) (o := .lst (cutV xs lo hi)) (fun b ob q => Heap.get?_push_of_some _ q) (Nat.le_refl _) ?_, rfl, q _ (I.hok.fresh (Nat.le_refl _))⟩
 exact ⟨Nat.le_trans (cutV_length xs lo hi) hz, _, 0, (r.drop (HT.sIx xs.length 0 lo)).take (HT.sIx xs.length xs.length hi - HT.sIx xs.length 0 lo), Heap.get?_push_size _ rfl⟩
def flatV : V → Bool
 | .non => true
 | .bl _ => true
 | .int _ => true
 | .str _ => true
 | _ => false
def eqV : V → V → Bool
 | .non, .non => true
 | .bl a, .bl b => a == b
 | .bl a, .int b => (if a then 1 else 0) == b
 | .int a, .bl b => a == (if b then 1 else 0)
 | .int a, .int b => a == b
 | .str a, .str b => a == b
 | _, _ => false
theorem eqAt_V {A : Around} {s : Shared} {y x : V} {u v : Value} (ry : RelV y u) (rx : RelV x v) (fy : flatV y = true) (fx : flatV x = true) : SeqAt.EqAt A s u v (eqV y x) := by
 cases y with
 | non =>
  cases ry
  cases x with
  | non => cases rx; exact SeqAt.EqAt.same _
  | bl b => cases rx; exact SeqAt.EqAt.none_bool b
  | int b => obtain ⟨t, rfl⟩ := rx; exact SeqAt.EqAt.none_int b t
  | str b => obtain ⟨t, rfl⟩ := rx; exact SeqAt.EqAt.none_str b t
  | _ => exact absurd (show false = true from fx) Bool.false_ne_true
 | bl a =>
  cases ry
  cases x with
  | non => cases rx; exact SeqAt.EqAt.bool_none a
  | bl b => cases rx; exact SeqAt.EqAt.bool_bool a b
  | int b => obtain ⟨t, rfl⟩ := rx; exact SeqAt.EqAt.bool_int a b t
  | str b => obtain ⟨t, rfl⟩ := rx; exact SeqAt.EqAt.bool_str a b t
  | _ => exact absurd (show false = true from fx) Bool.false_ne_true
 | int a =>
  obtain ⟨t', rfl⟩ := ry
  cases x with
  | non => cases rx; exact SeqAt.EqAt.int_none a t'
  | bl b => cases rx; exact SeqAt.EqAt.int_bool a t' b
  | int b => obtain ⟨t, rfl⟩ := rx; exact SeqAt.EqAt.int_int a t' b t
  | str b => obtain ⟨t, rfl⟩ := rx; exact SeqAt.EqAt.int_str a t' b t
  | _ => exact absurd (show false = true from fx) Bool.false_ne_true
 | str a =>
  obtain ⟨t', rfl⟩ := ry
  cases x with
  | non => cases rx; exact SeqAt.EqAt.str_none a t'
  | bl b => cases rx; exact SeqAt.EqAt.str_bool a t' b
  | int b => obtain ⟨t, rfl⟩ := rx; exact SeqAt.EqAt.str_int a t' b t
  | str b => obtain ⟨t, rfl⟩ := rx; exact SeqAt.EqAt.str_str a t' b t
  | _ => exact absurd (show false = true from fx) Bool.false_ne_true
 | _ => exact absurd (show false = true from fy) Bool.false_ne_true
def eqU (x : V) (u : Value) : Bool := match u with
 | .none => eqV .non x
 | .bool b => eqV (.bl b) x
 | .int i _ => eqV (.int i) x
 | .str z _ => eqV (.str z) x
 | _ => false
theorem eqU_of {x y : V} {u : Value} (r : RelV y u) (f : flatV y = true) : eqU x u = eqV y x := by
 cases y with
 | non => cases r; rfl
 | bl b => cases r; rfl
 | int i => obtain ⟨t, rfl⟩ := r; rfl
 | str z => obtain ⟨t, rfl⟩ := r; rfl
 | _ => exact absurd (show false = true from f) Bool.false_ne_true
theorem any_eqU {x : V} : ∀ {xs : List V} {us : List Value}, Vals xs us → xs.all flatV = true → us.any (eqU x) = xs.any fun y => eqV y x
 | _, _, .nil, _ => rfl
 | y :: xs, u :: us, .cons r t, f => by
  rw [List.all_cons, Bool.and_eq_true] at f
  rw [List.any_cons, List.any_cons, eqU_of r f.1, any_eqU t f.2]
theorem mem_eqAt {A : Around} {s : Shared} {x : V} {v : Value} (rx : RelV x v) (fx : flatV x = true) : ∀ {xs : List V} {us : List Value}, Vals xs us → xs.all flatV = true → ∀ u ∈ us, SeqAt.EqAt A s u v (eqU x u)
 | _, _, .nil, _ => fun u hu => by cases hu
 | y :: xs, u :: us, .cons r t, f => fun u' hu => by
  rw [List.all_cons, Bool.and_eq_true] at f
  rcases List.mem_cons.mp hu with rfl | hu
  ·rw [eqU_of r f.1]; exact eqAt_V r rx f.1 fx
  ·exact mem_eqAt rx fx t f.2 u' hu
def inV (x : V) (xs : List V) : Bool := xs.any fun y => eqV y x
def rIn (K : PySem.W.Frag) (neg : Bool) : R2 := fun x y H Q => ∃ p xs, y = .ref p ∧ (SqL K H p xs ∨ SqT K H p xs) ∧ flatV x = true ∧ xs.all flatV = true ∧ Q (.bl (if neg then !inV x xs else inV x xs)) H
theorem op_notIn_seq : OpR X (compareOp .NotIn) (rIn X.K true) := by
 intro pins s σ H x y v u Q I rx ry h
 obtain ⟨p, xs, rfl, hq, fx, fs, q⟩ := h
 cases ry
 rcases hq with hq | hq
 ·obtain ⟨its, r, pl, hz⟩ := I.list hq
  refine SeqAt.notIn_listAt (eqU x) pl.isList (fun w hw => mem_eqAt rx fx r fs w (by simpa using hw)) ⟨.bl _, H, I, rfl, ?_⟩
  rw [show its.toArray.any (eqU x) = its.any (eqU x) by simp, any_eqU r fs]
  exact q
 ·obtain ⟨its, r, pl, hz⟩ := I.tuple hq
  refine SeqAt.notIn_tupleAt (eqU x) pl (fun w hw => mem_eqAt rx fx r fs w (by simpa using hw)) ⟨.bl _, H, I, rfl, ?_⟩
  rw [show its.toArray.any (eqU x) = its.any (eqU x) by simp, any_eqU r fs]
  exact q
theorem call_len_seq : CallR X (.builtin "len") (fun xs H Q => ∃ p ys, xs = [.ref p] ∧ (SqL X.K H p ys ∨ SqT X.K H p ys) ∧ Q (.int ys.length) H) := by
 intro pins s σ H xs us Q I r h
 obtain ⟨p, ys, rfl, hq, q⟩ := h
 obtain ⟨u, rfl, rx⟩ := vals1 r
 cases rx
 have hn := line63
 rcases hq with hq | hq
 ·obtain ⟨its, r', pl, hz⟩ := I.list hq
  have hlen := r'.length
  exact Calls.call_len_list pl.isList (by simp only [List.size_toArray] <;> omega) ⟨.int ys.length, H, I.tok _, ⟨s.toks + 1, by rw [List.size_toArray, hlen]⟩, q⟩
 ·obtain ⟨its, r', pl, hz⟩ := I.tuple hq
  have hlen := r'.length
  exact len_tuple pl (by simp only [List.size_toArray] <;> omega) ⟨.int ys.length, H, I.tok _, ⟨s.toks + 1, by rw [List.size_toArray, hlen]⟩, q⟩
theorem call_list_of : CallR X (.type "list") (fun xs H Q => ∃ p ys, xs = [.ref p] ∧ (SqL X.K H p ys ∨ SqT X.K H p ys) ∧ ∀ l, H l = none → Q (.ref l) (upd H l (.lst ys))) := by
 intro pins s σ H xs us Q I r h
 obtain ⟨p, ys, rfl, hq, q⟩ := h
 obtain ⟨u, rfl, rx⟩ := vals1 r
 cases rx
 have fin : ∀ (its : List Value), Vals ys its → ys.length ≤ sizeLine → ∀ (h' : Heap) (c' : Nat), (∀ b o', s.heap.get? b = some o' → h'.get? b = some o') →
   h'.get? s.heap.objs.size = some { cls := .type "list", dict := none, data := .seq its.toArray c', slots := #[] } → EP X pins σ Q (.ref s.heap.objs.size) { s with heap := h' } := fun its r' hz h' c' kp e =>
  ⟨.ref s.heap.objs.size, _, I.laid (t' := s.toks) kp (Nat.le_refl _) (show ObjOk X.prog X.w _ h' _ (.lst ys) from ⟨hz, its, c', r', e⟩), rfl, q _ (I.hok.fresh (Nat.le_refl _))⟩
 rcases hq with hq | hq
 ·obtain ⟨its, r', pl, hz⟩ := I.list hq
  have hlen := r'.length
  obtain ⟨o, ho, hc, n, hd⟩ := pl.isList
  exact call_list_seq p (.inl rfl) ho hc hd (fun h' c' kp e => fin its r' hz h' c' kp e) (by simp only [List.size_toArray] <;> omega)
 ·obtain ⟨its, r', pl, hz⟩ := I.tuple hq
  have hlen := r'.length
  obtain ⟨o, ho, hc, n, hd⟩ := pl
  exact call_list_seq p (.inr rfl) ho hc hd (fun h' c' kp e => fin its r' hz h' c' kp e) (by simp only [List.size_toArray] <;> omega)
theorem call_tuple_of : CallR X (.type "tuple") (fun xs H Q => ∃ p ys, xs = [.ref p] ∧ ((SqL X.K H p ys ∧ ∀ l, H l = none → Q (.ref l) (upd H l (.tup ys))) ∨ (SqT X.K H p ys ∧ Q (.ref p) H))) := by
 intro pins s σ H xs us Q I r h
 obtain ⟨p, ys, rfl, h⟩ := h
 obtain ⟨u, rfl, rx⟩ := vals1 r
 cases rx
 rcases h with ⟨hq, q⟩ | ⟨hq, q⟩
 ·obtain ⟨its, r', pl, hz⟩ := I.list hq
  have hlen := r'.length
  refine call_tuple_list pl.isList (fun h' kp => ?_) (by simp only [List.size_toArray] <;> omega)
  have I1 : Inv X pins σ H { s with heap := h' } := I.kept (t' := s.toks) kp
  have I2 : Inv X pins σ (upd H h'.objs.size (.tup ys)) { s with heap := h'.push { cls := .type "tuple", data := .seq its.toArray } } :=
   I1.laid (t' := s.toks) (fun b o e => Heap.get?_push_of_some _ e) (Nat.le_refl _) (show ObjOk X.prog X.w _ _ _ (.tup ys) from ⟨hz, its, r', IsTup.new _ _⟩)
  exact ⟨.ref h'.objs.size, _, I2, rfl, q _ (I1.hok.fresh (Nat.le_refl _))⟩
 ·obtain ⟨its, r', pl, hz⟩ := I.tuple hq
  exact call_tuple_same pl ⟨.ref p, H, I, rfl, q⟩
def tyV (K : PySem.W.Frag) (T : String) (x : V) (H : Hp) : Prop := match x with
 | .str _ => T = "str"
 | .int _ => T = "int"
 | .ref p => (T = "list" ∧ ∃ xs, SqL K H p xs) ∨ (T = "tuple" ∧ ∃ o, K.lookup p = some o ∧ o.cls = .type "tuple" ∧ o.dict = none) ∨
   (T = "dict" ∧ ((∃ kvs, H p = some (.dK kvs)) ∨ ∃ kvs, H p = some (.dT kvs))) ∨ (T = "set" ∧ ∃ S n, H p = some (.set S n))
 | _ => False
theorem tyV_is {pins : List (Addr × Obj)} {σ : St} {H : Hp} {s : Shared} {T : String} {x : V} {v : Value} (I : Inv X pins σ H s) (r : RelV x v) (ty : tyV X.K T x H) :
  s.TypeIs v T ∧ ∀ a, v = .ref a → ∃ ob, s.heap.get? a = some ob ∧ ob.dict = none := by
 cases x with
 | str z =>
  obtain ⟨t, rfl⟩ := r
  cases (show T = "str" from ty)
  exact ⟨typeIs_str s z t, fun _ e => nomatch e⟩
 | int i =>
  obtain ⟨t, rfl⟩ := r
  cases (show T = "int" from ty)
  exact ⟨typeIs_int s i t, fun _ e => nomatch e⟩
 | ref p =>
  cases r
  rcases ty with ⟨rfl, xs, hq⟩ | ⟨rfl, o, hk, hc, hd⟩ | ⟨rfl, hk⟩ | ⟨rfl, S, n, hk⟩
  ·obtain ⟨its, _, pl, _⟩ := I.list hq
   refine ⟨pl.isList.typeIs, fun a e => ?_⟩
   cases e
   obtain ⟨o, n, e, c, hd, _⟩ := pl
   exact ⟨o, e, hd⟩
  ·refine ⟨⟨o, I.kIn p o hk, hc⟩, fun a e => ?_⟩
   cases e
   exact ⟨o, I.kIn _ o hk, hd⟩
  ·have z : ∃ o, s.heap.get? p = some o ∧ o.ExactDict := by
    rcases hk with ⟨kvs, hk⟩ | ⟨kvs, hk⟩
    ·obtain ⟨_, _, _, _, o, _, _, e, ex, _⟩ := I.hok p _ hk
     exact ⟨o, e, ex⟩
    ·obtain ⟨_, _, _, _, o, _, _, e, ex, _⟩ := I.hok p _ hk
     exact ⟨o, e, ex⟩
   obtain ⟨o, e, ex⟩ := z
   refine ⟨⟨o, e, ex.1⟩, fun a e2 => ?_⟩
   cases e2
   exact ⟨o, e, ex.2.1⟩
  ·obtain ⟨o, _, _, _, e, ex, _⟩ := I.hok p _ hk
   refine ⟨⟨o, e, ex.1⟩, fun a e2 => ?_⟩
   cases e2
   exact ⟨o, e, ex.2.1⟩
 | _ => exact False.elim ty
def tBM0 (K : PySem.W.Frag) (T : String) (r : V → List V → Hp → VK → Prop) (to : TE) : TE := fun σ H Q => to σ H fun x H1 => tyV K T x H1 ∧ r x [] H1 Q
def tBM (K : PySem.W.Frag) (T : String) (r : V → List V → Hp → VK → Prop) (to : TE) (t : TA) : TE := fun σ H Q => to σ H fun x H1 => tyV K T x H1 ∧ t σ H1 fun xs H2 => r x xs H2 Q
variable {o e : Expr} {es : List Expr} {to : TE} {t : TA} {name : Str} {apos cpos : Pos} {T id : String} {r : V → List V → Hp → VK → Prop}
theorem pe_bm0 (pa : PlainAttrs T) (slot : Slot T name id) (hty : typeOf (.builtin id) = pure (.type "method_descriptor")) (hm : MtR X id r) (ho : PE X o to)
  (hbase : attributeBase o name X.env (eval o X.env) = eval o X.env := by rfl) (hline : (apos.endLine == cpos.line) = true := by rfl) : PE X (.Call (.Attribute o name apos) [] [] cpos) (tBM0 X.K T r to) := by
 intro pins s σ H Q I h
 refine wpAny_Call_method0_late hbase hline (thn (ho pins s σ H _ I h) fun v s1 ⟨x, H1, I1, r1, ty, q1⟩ => ?_)
 obtain ⟨h1, h2⟩ := tyV_is I1 r1 ty
 exact ⟨T, id, pa, slot, hty, h1, h2, Calls.callWith_builtin rfl (PySem.evalArgs_none (hm pins s1 σ H1 x [] v [] Q I1 r1 .nil q1))⟩
theorem pe_bm (pa : PlainAttrs T) (slot : Slot T name id) (hty : typeOf (.builtin id) = pure (.type "method_descriptor")) (hm : MtR X id r) (ho : PE X o to) (ha : PA X (e :: es) t)
  (hbase : attributeBase o name X.env (eval o X.env) = eval o X.env := by rfl)
  (hfew : ((backTo cpos (starEach (e :: es) X.env)).all (fun x => !x.1) && (backToKw cpos (keywordEach [] X.env)).all (fun x => x.1.isSome)
   && decide ((e :: es).length + ([] : List Keyword).length + (if ([] : List Keyword).isEmpty then 0 else 1) < 30)) = true := by rfl)
  (hline : (apos.endLine == cpos.line) = true := by rfl) (hs : starEach (e :: es) X.env = (false, eval e X.env) :: starEach es X.env := by rfl) (hplain : (backTo cpos (starEach es X.env)).any (·.1) = false := by rfl) :
  PE X (.Call (.Attribute o name apos) (e :: es) [] cpos) (tBM X.K T r to t) := by
 intro pins s σ H Q I h
 refine wpAny_Call_method_late hbase hfew hline rfl (thn (ho pins s σ H _ I h) fun v s1 ⟨x, H1, I1, r1, ty, q1⟩ => ?_)
 obtain ⟨h1, h2⟩ := tyV_is I1 r1 ty
 refine ⟨T, id, pa, slot, hty, h1, h2, ?_⟩
 have hA := ha cpos pins s1 σ H1 _ I1 q1
 rw [hs] at hA ⊢
 refine Calls.callWith_builtin (by show (false || (backTo cpos (starEach es X.env)).any (·.1)) = false; rw [hplain] <;> rfl) (Calls.evalArgs_plain ?_)
 exact thn hA fun us s2 ⟨vs, H2, I2, r2, q2⟩ => hm pins s2 σ H2 x vs v us Q I2 r1 r2 q2
/- xs.append(e), list.index on a module's tuple .. are MtR facts of 06m -/
end
def MtM (X : Cx) (id : String) (r : V → List V → Hp → VK → Prop) : Prop :=
 ∀ (pins : List (Addr × Obj)) (s : Shared) (σ : St) (H : Hp) (x : V) (xs : List V) (v : Value) (us : List Value) (Q : VK), Inv X pins σ H s → RelV x v → Vals xs us → r x xs H Q →
  wpAny (model X.prog X.w) X.A (call (.builtin id) (v :: us)) (EP X pins σ Q) X.xe s
theorem Vals.one : ∀ {x : V} {us : List Value}, Vals [x] us → ∃ u, us = [u] ∧ RelV x u
 | _, _, .cons r .nil => ⟨_, rfl, r⟩
theorem Vals.two : ∀ {x y : V} {us : List Value}, Vals [x, y] us → ∃ u v, us = [u, v] ∧ RelV x u ∧ RelV y v
 | _, _, _, .cons r (.cons q .nil) => ⟨_, _, rfl, r, q⟩
theorem Vals.zero : ∀ {us : List Value}, Vals [] us → us = []
 | _, .nil => rfl
theorem Vals.dropLast {xs : List V} {us : List Value} (h : Vals xs us) : Vals xs.dropLast us.dropLast := by
 induction h with
 | nil => exact .nil
 | cons r t ih =>
  cases t with
  | nil => exact .nil
  | cons q t' => exact .cons r ih
theorem Vals.eraseIdx : ∀ {xs : List V} {us : List Value} (i : Nat), Vals xs us → Vals (xs.eraseIdx i) (us.eraseIdx i)
 | _, _, _, .nil => .nil
 | _, _, 0, .cons _ t => t
 | _, _, i + 1, .cons r t => .cons r (Vals.eraseIdx i t)
theorem Vals.rep {xs : List V} {us : List Value} (h : Vals xs us) : ∀ k : Nat, Vals (List.replicate k xs).flatten (List.replicate k us).flatten
 | 0 => .nil
 | k + 1 => by
  rw [List.replicate_succ, List.replicate_succ, List.flatten_cons, List.flatten_cons]
  exact Vals.append h (Vals.rep h k)
theorem erase_last {α : Type} (l : List α) : l.eraseIdx (l.length - 1) = l.dropLast := by
 induction l with
 | nil => rfl
 | cons a r ih =>
  cases r with
  | nil => rfl
  | cons b r =>
   have e : (a :: b :: r).length - 1 = ((b :: r).length - 1) + 1 := by
    have h1 : (a :: b :: r).length = r.length + 2 := rfl
    have h2 : (b :: r).length = r.length + 1 := rfl
    omega
   rw [e, List.eraseIdx_cons_succ, ih]
   all_goals rfl
theorem len_erase {α : Type} : ∀ (l : List α) (i : Nat), (l.eraseIdx i).length ≤ l.length
 | [], _ => Nat.le_refl _
 | _ :: _, 0 => Nat.le_succ _
 | _ :: r, i + 1 => Nat.succ_le_succ (len_erase r i)
theorem foldl_rep (its : List Value) : ∀ (k : Nat) (acc : List Value),
  List.foldl (fun x1 x2 => x1 ++ x2) acc.toArray (List.replicate k its.toArray) = (acc ++ (List.replicate k its).flatten).toArray
 | 0, acc => by simp
 | k + 1, acc => by
  have e : acc.toArray ++ its.toArray = (acc ++ its).toArray := by simp
  have e2 : (acc ++ its) ++ (List.replicate k its).flatten = acc ++ (List.replicate (k + 1) its).flatten := by
   rw [List.replicate_succ, List.flatten_cons, List.append_assoc]
  rw [← e2, ← foldl_rep its k (acc ++ its), ← e, List.replicate_succ, List.foldl_cons]
section
variable {X : Cx} {pins : List (Addr × Obj)} {σ : St} {H : Hp} {s : Shared} {l b : Addr} {xs ys zs : List V}
theorem Inv.lset {its its' : List Value} {n : Nat} {f : Array Value → Array Value} {t' : Nat} (I : Inv X pins σ H s) (hH : H l = some (.lst xs))
  (e : s.heap.get? l = some { cls := .type "list", data := .seq its.toArray n }) (hf : f its.toArray = its'.toArray) (hv : Vals ys its') (hz : ys.length ≤ sizeLine) :
  Inv X pins σ (upd H l (.lst ys)) { s with heap := s.heap.update l (Obj.mapSeq f), toks := t' } := by
 have q := PySem.IsL.update e f
 rw [hf] at q
 refine I.write (x := l) (e := l) (by rw [hH]; exact trivial) (.inl rfl) (fun b' u hb hu => (Heap.get?_update_other s.heap (Obj.mapSeq f) (Ne.symm hb)).trans hu) ⟨_, q⟩ ?_
 exact ⟨hz, its', _, hv, q⟩
theorem Inv.lnew {its : List Value} {t' : Nat} (I : Inv X pins σ H s) (hv : Vals ys its) (hz : ys.length ≤ sizeLine) :
  Inv X pins σ (upd H s.heap.objs.size (.lst ys)) { s with heap := s.heap.push { cls := .type "list", data := .seq its.toArray }, toks := t' } :=
 I.laid (fun _ _ q => Heap.get?_push_of_some _ q) (Nat.le_refl _) ⟨hz, its, 0, hv, Heap.get?_push_size _ rfl⟩
theorem Inv.fresh (I : Inv X pins σ H s) : H s.heap.objs.size = none := I.hok.fresh (Nat.le_refl _)
theorem Inv.lstM (I : Inv X pins σ H s) (hH : H l = some (.lst xs)) : xs.length ≤ sizeLine ∧ ∃ (its : List Value) (n : Nat), Vals xs its ∧ xs.length = its.length ∧ s.heap.get? l = some { cls := .type "list", data := .seq its.toArray n } := by
 obtain ⟨z, its, n, r, e⟩ := I.hok l _ hH
 exact ⟨z, its, n, r, r.length, e⟩
theorem notLongL {n : Nat} (h : n ≤ sizeLine) : Builtin.List.listTooLong n = false := by
 unfold Builtin.List.listTooLong
 exact decide_eq_false (by omega)
end
section
variable {X : Cx}
def rAppend : V → List V → Hp → VK → Prop := fun x vs H Q => ∃ l xs y, x = .ref l ∧ vs = [y] ∧ H l = some (.lst xs) ∧ xs.length < sizeLine ∧ Q .non (upd H l (.lst (xs ++ [y])))
theorem mt_append : MtM X "list.append" rAppend := by
 intro pins s σ H x vs v us Q I rx rv h
 obtain ⟨l, xs, y, rfl, rfl, hH, hz, q⟩ := h
 cases rx
 obtain ⟨u, rfl, ru⟩ := rv.one
 obtain ⟨z, its, n, r, hl, e⟩ := I.lstM hH
 refine call_meets F.slot_list_append ⟨_, e, rfl⟩ F.entry_list_append (F.args_list_append_2 _ _) (PySem.list_append l its.toArray n u (by rw [List.size_toArray]; omega)) ⟨e, ?_⟩
 refine ⟨.non, _, I.lset (its' := its ++ [u]) hH e (by simp) (r.append (.cons ru .nil)) ?_, rfl, q⟩
 rw [List.length_append, List.length_singleton]
 omega
def rExtend : V → List V → Hp → VK → Prop := fun x vs H Q => ∃ l b xs zs, x = .ref l ∧ vs = [.ref b] ∧ H l = some (.lst xs) ∧ H b = some (.lst zs) ∧ xs.length + zs.length ≤ sizeLine ∧ Q .non (upd H l (.lst (xs ++ zs)))
theorem mt_extend : MtM X "list.extend" rExtend := by
 intro pins s σ H x vs v us Q I rx rv h
 obtain ⟨l, b, xs, zs, rfl, rfl, hH, hB, hz, q⟩ := h
 cases rx
 obtain ⟨u, rfl, ru⟩ := rv.one
 cases ru
 obtain ⟨z, its, n, r, hl, e⟩ := I.lstM hH
 obtain ⟨z2, its2, n2, r2, hl2, e2⟩ := I.lstM hB
 have hsz : its.toArray.size + its2.toArray.size ≤ sizeLine := by rw [List.size_toArray, List.size_toArray]; omega
 have hlong : ¬ (!its.toArray.isEmpty && Builtin.List.listTooLong (its.toArray.size + its2.toArray.size)) = true := by
  rw [notLongL hsz, Bool.and_false]
  exact Bool.false_ne_true
 refine call_meets F.slot_list_extend ⟨_, e, rfl⟩ F.entry_list_extend (F.args_list_extend_2 _ _)
  (AutoSeq1.list_extend_list_list_0 l its.toArray n b its2.toArray n2 hlong (by rw [List.size_toArray]; omega) (by omega)) ⟨e, e2, ?_⟩
 refine ⟨.non, _, I.lset (its' := its ++ its2) hH e (by simp) (r.append r2) ?_, rfl, q⟩
 rw [List.length_append]
 omega
def rPop : V → List V → Hp → VK → Prop := fun x vs H Q => ∃ l xs y, x = .ref l ∧ vs = [] ∧ H l = some (.lst xs) ∧ xs[xs.length - 1]? = some y ∧ Q y (upd H l (.lst xs.dropLast))
theorem mt_pop : MtM X "list.pop" rPop := by
 intro pins s σ H x vs v us Q I rx rv h
 obtain ⟨l, xs, y, rfl, rfl, hH, hy, q⟩ := h
 cases rx
 have hus := rv.zero
 subst hus
 obtain ⟨z, its, n, r, hl, e⟩ := I.lstM hH
 obtain ⟨u, hu, ru⟩ := r.get hy
 have hy' : its.toArray[its.toArray.size - 1]? = some u := by
  show its.toArray[its.length - 1]? = some u
  rw [← Array.getElem?_toList, ← hl]
  exact hu
 refine call_meets F.slot_list_pop ⟨_, e, rfl⟩ F.entry_list_pop (F.args_list_pop_1 _) (MeetsSeq.list_pop_last l its.toArray n u hy' (by rw [List.size_toArray]; omega)) ⟨e, ?_⟩
 refine ⟨y, _, I.lset (its' := its.dropLast) hH e ?_ r.dropLast ?_, ru, q⟩
 ·show its.toArray.eraseIdxIfInBounds (its.toArray.size - 1) = its.dropLast.toArray
  rw [List.size_toArray, List.eraseIdxIfInBounds_toArray, erase_last]
 ·rw [List.length_dropLast]
  omega
def rPopAt : V → List V → Hp → VK → Prop := fun x vs H Q => ∃ l xs i k y, x = .ref l ∧ vs = [.int i] ∧ H l = some (.lst xs) ∧ -(2 ^ 63) ≤ i ∧ i < 2 ^ 63 ∧ seqIndex? i xs.length = some k ∧ xs[k]? = some y ∧ Q y (upd H l (.lst (xs.eraseIdx k)))
theorem mt_popAt : MtM X "list.pop" rPopAt := by
 intro pins s σ H x vs v us Q I rx rv h
 obtain ⟨l, xs, i, k, y, rfl, rfl, hH, h1, h2, hk, hy, q⟩ := h
 cases rx
 obtain ⟨u, rfl, ru⟩ := rv.one
 obtain ⟨t, rfl⟩ := ru
 obtain ⟨z, its, n, r, hl, e⟩ := I.lstM hH
 obtain ⟨w, hw, rw'⟩ := r.get hy
 refine call_meets F.slot_list_pop ⟨_, e, rfl⟩ F.entry_list_pop (F.args_list_pop_2 _ _)
  (MeetsSeq.list_pop_at l its.toArray n i t k w (fitsIndex_both h1 h2) (by rw [List.size_toArray, ← hl]; exact hk) (by rw [← Array.getElem?_toList]; exact hw) (by rw [List.size_toArray]; omega)) ⟨e, ?_⟩
 refine ⟨y, _, I.lset (its' := its.eraseIdx k) hH e ?_ (r.eraseIdx k) ?_, rw', q⟩
 ·show its.toArray.eraseIdxIfInBounds k = (its.eraseIdx k).toArray
  rw [List.eraseIdxIfInBounds_toArray]
 ·have := len_erase xs k
  omega
def rCat : R2 := fun x y H Q => ∃ l b xs zs, x = .ref l ∧ y = .ref b ∧ H l = some (.lst xs) ∧ H b = some (.lst zs) ∧ xs.length + zs.length ≤ sizeLine ∧ ∀ p, H p = none → Q (.ref p) (upd H p (.lst (xs ++ zs)))
theorem op_cat : OpR X (binaryOp .Add) rCat := by
 intro pins s σ H x y v u Q I rx ry h
 obtain ⟨l, b, xs, zs, rfl, rfl, hH, hB, hz, q⟩ := h
 cases rx
 cases ry
 obtain ⟨z, its, n, r, hl, e⟩ := I.lstM hH
 obtain ⟨z2, its2, n2, r2, hl2, e2⟩ := I.lstM hB
 refine PySem.P.add_list e e2 ?_ (by rw [List.size_toArray, List.size_toArray]; omega)
 have ea : its.toArray ++ its2.toArray = (its ++ its2).toArray := by simp
 rw [ea]
 exact ⟨.ref _, _, I.lnew (t' := s.toks) (r.append r2) (by rw [List.length_append]; omega), rfl, q _ I.fresh⟩
def rRep : R2 := fun x y H Q => ∃ l k xs, x = .ref l ∧ y = .int k ∧ H l = some (.lst xs) ∧ -(2 ^ 63) ≤ k ∧ k < 2 ^ 63 ∧ xs.length * k.toNat ≤ sizeLine ∧
 ∀ p, H p = none → Q (.ref p) (upd H p (.lst (List.replicate k.toNat xs).flatten))
theorem len_rep {α : Type} (xs : List α) (k : Nat) : (List.replicate k xs).flatten.length = k * xs.length := by
 induction k with
 | zero => simp
 | succ k ih => rw [List.replicate_succ, List.flatten_cons, List.length_append, ih, Nat.succ_mul, Nat.add_comm]
theorem op_rep : OpR X (binaryOp .Mult) rRep := by
 intro pins s σ H x y v u Q I rx ry h
 obtain ⟨l, k, xs, rfl, rfl, hH, h1, h2, hz, q⟩ := h
 cases rx
 obtain ⟨t, rfl⟩ := ry
 obtain ⟨z, its, n, r, hl, e⟩ := I.lstM hH
 have hlen : its.toArray.size * k.toNat ≤ sizeLine := by rw [List.size_toArray, ← hl]; exact hz
 have hcap : ¬ its.toArray.size * k.toNat > (2 ^ 63 - 1) / 8 := by
  have : (sizeLine : Nat) ≤ (2 ^ 63 - 1) / 8 := by decide
  omega
 have hfit : ¬ (!Builtin.List.listFitsIndex k) = true := by
  rw [fitsIndex_both h1 h2]
  exact Bool.false_ne_true
 have hlong : ¬ Builtin.List.listTooLong (its.toArray.size * k.toNat) = true := by
  rw [notLongL hlen]
  exact Bool.false_ne_true
 have hnew : List.foldl (fun x1 x2 => x1 ++ x2) #[] (List.replicate (if its.toArray.isEmpty = true then 0 else k.toNat) its.toArray) = (List.replicate k.toNat its).flatten.toArray := by
  have f0 : ∀ m : Nat, List.foldl (fun x1 x2 => x1 ++ x2) #[] (List.replicate m its.toArray) = (List.replicate m its).flatten.toArray := fun m => by
   have := foldl_rep its m []
   rw [List.nil_append] at this
   exact this
  rw [f0]
  cases its with
  | nil => simp
  | cons a r' => rw [if_neg (by simp)]
 refine wpAny_binaryOp_repeat_ref (T := "list") (U := "int") (by decide) ⟨_, e, rfl⟩ (fun s' => typeIs_int s' k t) noFill_list_mul F.fills_int_mul F.slot_int_rmul repeat_list F.slot_int_index.lookup
  (call_meets F.slot_int_rmul (typeIs_int s k t) F.entry_int_rmul (F.args_int_rmul_2 _ _) (int___rmul___int_list k t l its.toArray n)
   ⟨e, rfl, ⟨_, e, rfl⟩, call_meets F.slot_list_mul ⟨_, e, rfl⟩ F.entry_list_mul (F.args_list_mul_2 _ _) (AutoListH.list___mul___list_int_3 l its.toArray n k t hfit hcap hlong) ⟨e, ?_⟩⟩)
 rw [hnew]
 exact ⟨.ref _, _, I.lnew (t' := s.toks) (r.rep k.toNat) (by rw [len_rep, Nat.mul_comm]; exact hz), rfl, q _ I.fresh⟩
end
section
variable {prog : Program} {w : World} {A : Around} {E : Value → Shared → Prop} {s : Shared}
end
section
variable {X : Cx}
end
end L2
namespace Att
open PySem PySem.W PySem.Calls PyProof.Rows
theorem ints_of_wellAll {P : Params} {h : Heap} : ∀ (ns : List Int) (vs : List Value), WellAll P h vs (ns.map WData.int) → IntsAre vs ns := by
 intro ns
 induction ns with
 | nil =>
  intro vs w
  rw [List.map_nil] at w
  cases w
  exact .nil
 | cons n ns ih =>
  intro vs w
  rw [List.map_cons] at w
  cases w with
  | cons a b =>
   cases a
   exact .cons _ _ (ih _ b)
theorem script_of {l : OpenLaw} {n : Nat} (hn : l.most = some n) {P : Params} {h : Heap} {args : List WData} {vals : List Value}
  (hpre : l.row.toRowW.claim.pre args = true) (hwl : WellAll P h vals args) :
  ∃ a vs ns, vals = [Value.ref a] ∧ args = [WData.list (ns.map WData.int)] ∧ h.get? a = some { cls := .type "list", data := .seq vs.toArray } ∧ IntsAre vs ns ∧ ns.length ≤ n := by
 have hsh : WShape.hasAll [] args [.list .int] = true := (pre_splitW hpre).1
 have hc : l.pre.holds [] { args := args } = true := (pre_splitW hpre).2
 obtain ⟨d, r, rfl, h1, h2⟩ := hasAllW_cons hsh
 obtain rfl := hasAllW_nil h2
 obtain ⟨xs, rfl, h3⟩ := hasW_list h1
 obtain ⟨ns, rfl⟩ := items_int h3
 have hlen : ns.length ≤ n := by
  unfold OpenLaw.pre at hc
  have h4 : (WTm.not (.lt (.lit (.int (n : Int))) (.len (.arg 0)))).holds [] { args := [.list (ns.map .int)] } = true := by
   have h4 := (holds_andW hc).1
   rw [hn] at h4
   exact h4
  have h5 := condW_of h4 (w_not (w_lt w_lit (w_len_list (w_arg rfl))))
  rw [List.length_map] at h5
  refine Nat.le_of_not_lt fun q => ?_
  have q' : (n : Int) < ((ns.length : Nat) : Int) := by omega
  first
   | (rw [decide_eq_true q'] at h5; exact absurd h5 (by decide))
   | (simp at h5; omega)
 cases hwl with
 | cons w1 w2 =>
  cases w2
  cases w1 with
  | list ho hall => exact ⟨_, _, ns, rfl, rfl, ho, ints_of_wellAll ns _ hall, hlen⟩
theorem post_true (l : OpenLaw) (args : List WData) : l.row.toRowW.claim.post args (.bool true) args = true :=
 postW_of (r := l.row.toRowW) (X := (true == true))
  (show WShape.has [] (.bool true) .bool = true by first | rfl | decide | simp [WShape.has, WShape.arms, WShape.armsAll])
  (show (WTm.eq .res (.lit (.bool true))).value [] { args := args, res := some (.bool true), after := args } = some (.bool (true == true)) from w_eq_bool (w_res rfl) w_lit) rfl
theorem attach_call {l : OpenLaw} {n : Nat} {q : Program} {loose : List Str} {XP : (Str → Option Value) → Heap → Prop} {YP : World → Heap → Prop} {d : DefRec}
  (hn : l.most = some n) (hdf : d.params.defaults = [])
  (call : ∀ (w : World) (s₀ s₁ : Shared) (mg mb : Str → Option Value) (fa : Addr) (o : Obj) (pm cd doc : Value) (a : Addr) (vs : List Value) (ns : List Int),
   Ground q loose [] XP w s₀ mg mb s₁.heap → YP w s₁.heap →
   s₁.heap.get? fa = some o → o.data = .func (docDef d.name d.params d.body d.scope pm cd doc) → s₁.heap.CodeRec cd d.name → mg d.name = some (.ref fa) →
   s₁.heap.get? a = some { cls := .type "list", data := .seq vs.toArray } → IntsAre vs ns → ns.length ≤ n → s₁.gens = #[] →
   codeAny (model l.prog w) callerA (.call (.ref fa) ⟨[.ref a], []⟩) (fun r s' => r = .ok (.ret (.bool true)) ∧ OldK s₁.heap s'.heap ∧ s'.os = s₁.os ∧ AllBare s'.gens) s₁) :
  WalkO q loose XP YP l.row.toRowW d [] (fun f vs => PySem.call f vs) := by
 intro w s₀ s₁ mg mb G Y fa o pm cd doc dV kV ho hd hcd hD hmg hg args vals as hpre hlay hrd hwl hlo
 obtain rfl : dV = .none := Dflts.none hD hdf
 obtain rfl : kV = .none := Dflts.noKw hD
 obtain ⟨a, vs, ns, rfl, rfl, hobj, hints, hlen⟩ := script_of hn hpre hwl
 refine enter_call (codeAny_mono (call w s₀ s₁ mg mb fa o pm cd doc a vs ns G Y ho (fd_plain hd) hcd hmg hobj hints hlen hg) fun r s' hq => ?_)
 obtain ⟨rfl, h2, h3, h4⟩ := hq
 exact ⟨.inl ⟨.bool true, .bool true, [], rfl, fun _ => rfl, .bool true, post_true l _, fun _ => ⟨List.Pairwise.nil, fun _ hm => (nomatch hm)⟩⟩, h2, h3, h4⟩
section
variable {prog : Program} {w : World} {A : Around} {E : Value → Shared → Prop} {s : Shared} {K : Frag}
end
end Att
namespace L2
open PySem PySem.Spec PyProof.Rows
theorem vals_ints : ∀ {vs : List Value} {ns : List Int}, IntsAre vs ns → Vals (ns.map V.int) vs
 | _, _, .nil => .nil
 | _, _, .cons n t h => .cons ⟨t, rfl⟩ (vals_ints h)
def Only (H : Hp) : Prop := ∀ b, H b = none ∨ ∃ o xs, H b = some (.frz o (.lst xs))
theorem law_call {P : Program} {w : World} {K : PySem.W.Frag} {mg mb : Str → Option Value} {CX : CXT} {k : Nat} {fa a : Addr} {fd : FuncData} {x : Str} {sp : Sp} {s₁ : Shared} {vs : List Value} {ns : List Int}
  (KX : K.In s₁.heap) (hns : s₁.heap.Ns mainGlobals mg) (hb : s₁.heap.Ns builtinsNs mb) (hbb : ∀ x : Str, x ≠ "__name__" → mb x = bootBuiltins x) (hlim : s₁.heap.NoLimit) (hg : s₁.gens = #[])
  (ha : s₁.heap.get? a = some { cls := .type "list", data := .seq vs.toArray }) (hi : IntsAre vs ns) (hl : ns.length ≤ sizeLine) (hr : Room k callerA)
  (F : ∀ base : Heap, K.In base → base.Ns mainGlobals mg → FnOk P w K mg base CX k fa fd [x] sp) (hbind : ∀ (s : Shared) (u : Value), BindsTo s fd ⟨[u], []⟩ [(x, u)])
  (hsp : ∀ H : Hp, Only H → SqL K H a (ns.map V.int) → sp [.ref a] H (fun v _ => v = .bl true) fun _ _ _ => False)
  (hCX : ∀ H e s', CX [] H s₁ (fun _ _ _ => False) e s' → False) :
  codeAny (model P w) callerA (.call (.ref fa) ⟨[.ref a], []⟩) (fun r s' => r = .ok (.ret (.bool true)) ∧ OldK s₁.heap s'.heap ∧ s'.os = s₁.os ∧ AllBare s'.gens) s₁ := by
 have rv := vals_ints hi
 have lenV := hi.length
 -- from an abstract heap in which nothing but the script may be tracked
 have core : ∀ H : Hp, Only H → SqL K H a (ns.map V.int) → HOk P w H s₁.heap → (∀ b, H b ≠ none → b = a) → (H a ≠ none → K.lookup a = none) →
   codeAny (model P w) callerA (.call (.ref fa) ⟨[.ref a], []⟩) (fun r s' => r = .ok (.ret (.bool true)) ∧ OldK s₁.heap s'.heap ∧ s'.os = s₁.os ∧ AllBare s'.gens) s₁ := by
  intro H hO hS hok hA hK
  have base_of : ∀ {b : Addr} {o : Obj}, s₁.heap.get? b = some o → H b = none → (hidT s₁.heap H).get? b = some o := fun e n => hidT_get e n
  have noA : ∀ {b : Addr} {o : Obj} {es : Array DictEntry} {ep : Nat}, s₁.heap.get? b = some o → o.data = .dict es ep → H b = none := fun {b o es ep} e d => by
   cases q : H b with
   | none => rfl
   | some u =>
    have e' : b = a := hA b (by rw [q]; simp)
    subst e'
    rw [ha] at e; cases e
    have d' : Data.seq vs.toArray _ = Data.dict es ep := d
    cases d'
  have nsK : ∀ {b : Addr} {m : Str → Option Value}, s₁.heap.Ns b m → (hidT s₁.heap H).Ns b m := fun {b m} ⟨o, es, ep, e, d, r⟩ => ⟨o, es, ep, base_of e (noA e d), d, r⟩
  have hKb : K.In (hidT s₁.heap H) := fun b o e => base_of (KX b o e) (by
   cases q : H b with
   | none => rfl
   | some u =>
    have e' : b = a := hA b (by rw [q]; simp)
    subst e'
    rw [hK (by rw [q]; simp)] at e; cases e)
  have hM : Mod K mg (hidT s₁.heap H) := ⟨hKb, nsK hns, ⟨mb, nsK hb, hbb⟩, let ⟨mc, h1, h2⟩ := hlim; ⟨mc, nsK h1, h2⟩⟩
  have e0 : Env0 P w K mg (hidT s₁.heap H) callerA [] s₁ H := ⟨rfl, hM, fun b o e => of_hidT e, Nat.le_of_eq (hidT_size _ _), trivial, fun b hb => absurd (show b ∈ ([] : List Addr) from hb) (by simp), hok, .of_eq hg⟩
  refine codeAny_mono ((F _ hKb (nsK hns)).run callerA [] s₁ H ⟨[.ref a], []⟩ [.ref a] [.ref a] _ _ hr e0 (hbind s₁ (.ref a)) (.cons rfl .nil) (hsp H hO hS)) fun r s' h => ?_
  cases r with
  | error e => exact (hCX H e s' h).elim
  | ok fl =>
   cases fl with
   | next => exact False.elim h
   | brk => exact False.elim h
   | cont => exact False.elim h
   | ret u =>
    obtain ⟨v, H', os, bare, un, hok', r', q⟩ := h
    have q' : v = .bl true := q
    subst q'
    obtain rfl : u = Value.bool true := r'
    refine ⟨rfl, OldK.of_keep fun b o e => ?_, os, bare⟩
    cases q : H b with
    | none => exact un.keep b o e q (by intro z; exact absurd (show b ∈ ([] : List Addr) from z) (by simp)) (by simp)
    | some u =>
     rcases hO b with z | ⟨ob, xs, z⟩
     ·rw [q] at z; cases z
     ·have z2 := un.frzs b ob _ z
      obtain ⟨e1, _⟩ := hok b _ z
      obtain ⟨e2, _⟩ := hok' b _ z2
      rw [e] at e1; cases e1
      exact e2
 cases hk : K.lookup a with
 | some o =>
  -- the script is one of the module's own objects
  have e := KX a o hk
  rw [ha] at e
  cases e
  refine core (fun _ => none) (fun _ => .inl rfl) (.inr ⟨_, vs.toArray, _, hk, rfl, rfl, rfl, by rw [List.size_toArray, lenV]; exact hl, by simpa using rv⟩) (fun b u z => by have z' : (none : Option HO) = some u := z; cases z') (fun b z => absurd rfl z) fun z => absurd rfl z
 | none =>
  refine core (fun b => if b = a then some (.frz { cls := .type "list", data := .seq vs.toArray } (.lst (ns.map V.int))) else none) (fun b => ?_) (.inl (.inr ⟨{ cls := .type "list", data := .seq vs.toArray }, if_pos rfl⟩)) (fun b u z => ?_) (fun b z => ?_) fun _ => hk
  ·by_cases hb : b = a
   ·exact .inr ⟨_, _, if_pos hb⟩
   ·exact .inl (if_neg hb)
  ·by_cases hb : b = a
   ·have z' := (if_pos hb).symm.trans z
    cases z'
    subst hb
    exact ⟨ha, by rw [List.length_map]; exact hl, vs, _, rv, ha⟩
   ·have z' := (if_neg hb).symm.trans z
    cases z'
  ·by_cases hb : b = a
   ·exact hb
   ·exact absurd (if_neg hb) z
abbrev KOf {K : PySem.W.Frag} {h : Heap} (_ : K.In h) : PySem.W.Frag := K
theorem walk_of {l : PySem.W.OpenLaw} {n k : Nat} {q : Program} {loose : List Str} {XP : (Str → Option Value) → Heap → Prop} {YP : World → Heap → Prop} {d : DefRec} {K : Params → PySem.W.Frag} {CX : World → CXT} {sp : World → Sp} {x : Str}
  (hn : l.most = some n) (hn2 : n ≤ sizeLine) (hdf : d.params.defaults = []) (hr : Room k callerA)
  (hY : ∀ (w : World) (h : Heap), YP w h → (K w.params).In h)
  (F : ∀ (w : World) (mg : Str → Option Value) (fa : Addr) (h : Heap), (K w.params).In h → h.Ns mainGlobals mg → mg d.name = some (.ref fa) →
   ∃ fd : FuncData, (∀ (s : Shared) (u : Value), BindsTo s fd ⟨[u], []⟩ [(x, u)]) ∧
    ∀ base : Heap, (K w.params).In base → base.Ns mainGlobals mg → FnOk l.prog w (K w.params) mg base (CX w) k fa fd [x] (sp w))
  (hsp : ∀ (w : World) (H : Hp) (a : Addr) (ns : List Int), ns.length ≤ n → Only H → SqL (K w.params) H a (ns.map V.int) → sp w [.ref a] H (fun v _ => v = .bl true) fun _ _ _ => False)
  (hCX : ∀ (w : World) (H : Hp) (s : Shared) (e : Value) (s' : Shared), CX w [] H s (fun _ _ _ => False) e s' → False) :
  PySem.W.WalkO q loose XP YP l.row.toRowW d [] (fun f vs => PySem.call f vs) := by
 refine Att.attach_call hn hdf fun w s₀ s₁ mg mb fa o pm cd doc a vs ns G Y ho hd hcd hmg hobj hints hlen hg => ?_
 have KX := hY w _ Y
 obtain ⟨fd, hb, hF⟩ := F w mg fa _ KX G.T.g hmg
 exact law_call KX G.T.g G.T.b G.T.builtins G.T.nolimit hg hobj hints (Nat.le_trans hlen hn2) hr hF hb (fun H hO hS => hsp w H a ns hlen hO hS) fun H e s' => hCX w H s₁ e s'
end L2
/- THE LAST THEOREM (shape; LID, My.* are yours):
   My.Adr: a structure of the addresses that your layer names (classes, functions); My.Txt K t: a structure (Prop) of the equations over K;
   My.txt_mk : {K} {implicit addresses ..} (e1 : nsIn K mainGlobals "law" = some (some (.ref f))) (e2 : K.lookup f = some ⟨oc, od, .func (fnOf "law" "law" params body scope dV kV doc pm an cdv ct), sl⟩) (e3 : codeIn K cdv "law" = true) .. : ∃ t, My.Txt K t
set_option maxRecDepth 100000 in
set_option maxHeartbeats 0 in
theorem PySem.Challenge.cw_LID_holds : PySem.Challenge.rw_LID.Holds := by
 w_on; o_law; k_head; (case hw => w_witness2)
 k_fill
 refine L2.walk_of (l := PySem.Challenge.rw_LID) (n := 63) (k := 40) (x := "script") (CX := fun w => ..) (sp := fun _ => My.sp_law) rfl (by decide) rfl ⟨rfl, by decide, by decide⟩ (fun w h Y => PySem.W.kIn_of Y) ?F ?S ?C
 case F =>
  intro w mg fa h KX G hmg
  have T : ∃ t, My.Txt (L2.KOf KX) t := by
   dsimp only [L2.KOf]                          -- K must stand as «<heap const> w.params» for k_is
   refine' My.txt_mk ?e1 ?e2 ?e3 ..
   (case e1 => PySem.W.k_is)                    -- in the order: a name -> its address -> its object -> its parts
   (case e2 => PySem.W.k_is)
   ..
  obtain ⟨t, T⟩ := T
  have e0 := hmg.symm.trans (PySem.W.mg_of KX G T.law)
  cases e0                                       -- fa is the law's own address
  exact ⟨_, fun s u => .of_eq rfl, fun base kb nb => My.law_fn T kb nb⟩     -- if «.of_eq rfl» comes too early: refine' ⟨_, ?b, fun base kb nb => My.law_fn T kb nb⟩; exact fun s u => .of_eq rfl
 case S => exact fun w H a ns hl hO hS => ..
 case C => exact ..
(the tactic k_is has no namespace: write k_is) -/
namespace L2
open PySem PySem.Spec PyProof.Rows
def defArgs (s : Stmt) : Arguments := match s with
 | .FunctionDef _ a _ _ _ _ _ _ _ _ => a
 | _ => { posonlyargs := [], args := [], vararg := none, kwonlyargs := [], kw_defaults := [], kwarg := none, defaults := [] }
def defBody (s : Stmt) : List Stmt := match s with
 | .FunctionDef _ _ b _ _ _ _ _ _ _ => b
 | _ => []
def defScope (s : Stmt) : Scope := match s with
 | .FunctionDef _ _ _ _ _ _ sc _ _ _ => sc
 | _ => { kind := .function, names := [], isGenerator := false, isCoroutine := false }
abbrev CX0 : CXT := fun _ _ _ _ _ _ => False
abbrev E0 : XK := fun _ _ _ => False
theorem pass0 {X : Cx} : Passes CX0 X E0 := fun _ _ _ _ _ _ _ h => h.elim
structure Fun (K : PySem.W.Frag) (x qual : Str) (st : Stmt) (f : Addr) (fd : FuncData) : Prop where
 ex : ∃ (oc : Value) (od : Option Addr) (kV doc pm : Value) (an : Option Addr) (cdv ct : Value) (osl : Array (Option Value)),
  fd = PySem.W.fnOf x qual (defArgs st) (defBody st) (defScope st) .none kV doc pm an cdv ct ∧ K.lookup f = some ⟨oc, od, .func fd, osl⟩ ∧ PySem.W.codeIn K cdv qual = true
 kp : PySem.W.keepIn K (.ref f) = true
section
variable {P : Program} {w : World} {K : PySem.W.Frag} {mg : Str → Option Value} {base : Heap}
theorem Fun.ok {x qual : Str} {st : Stmt} {f : Addr} {fd : FuncData} {N ps : List Str} {k : Nat} {sp : Sp} (F : Fun K x qual st f fd) (S : FnScope N ps (defScope st)) (len : ∀ vs H Q E, sp vs H Q E → vs.length = ps.length)
  (hbody : ∀ (cdv : Value) (A : Around) (outer : List Env) (s : Shared) (H : Hp) (vs : List V) (Q : VK) (E : XK), Room k (A.deeper (envOfC qual (defScope st) s.heap.objs.size f cdv)) → sp vs H Q E →
   ∃ t, PSs (cxOf CX0 P w K mg base N qual (defScope st) f cdv A outer s H E).nox (defBody st) t ∧ t { nx := fun _ H' => Q .non H', rt := Q } (start N vs) H) : FnOk P w K mg base CX0 (k + 1) f fd ps sp := by
 obtain ⟨oc, od, kV, doc, pm, an, cdv, ct, osl, rfl, lk, hcd⟩ := F.ex
 refine fn_of lk hcd S len fun A outer s H vs Q E hr hsp => ?_
 obtain ⟨t, h, q⟩ := hbody cdv A outer s H vs Q E hr hsp
 exact ⟨t, h.nox, q⟩
theorem Fun.binds {x qual : Str} {st : Stmt} {f : Addr} {fd : FuncData} {ps : List Str} (F : Fun K x qual st f fd)
  (h : ∀ (kV doc pm : Value) (an : Option Addr) (cdv ct : Value) (us : List Value), us.length = ps.length → bindArgs (PySem.W.fnOf x qual (defArgs st) (defBody st) (defScope st) .none kV doc pm an cdv ct) ⟨us, []⟩ = pure (ps.zip us)) : Binds K fd ps [] := by
 obtain ⟨oc, od, kV, doc, pm, an, cdv, ct, osl, rfl, lk, hcd⟩ := F.ex
 exact .all (h kV doc pm an cdv ct)
theorem fun_mk {x qual : Str} {st : Stmt} {f : Addr} {oc : Value} {od an : Option Addr} {osl : Array (Option Value)} {kV doc pm cdv ct : Value} (l : K.lookup f = some ⟨oc, od, .func (PySem.W.fnOf x qual (defArgs st) (defBody st) (defScope st) .none kV doc pm an cdv ct), osl⟩)
  (c : PySem.W.codeIn K cdv qual = true) (k : PySem.W.keepIn K (.ref f) = true) : Fun K x qual st f (PySem.W.fnOf x qual (defArgs st) (defBody st) (defScope st) .none kV doc pm an cdv ct) := ⟨⟨oc, od, kV, doc, pm, an, cdv, ct, osl, rfl, l, c⟩, k⟩
end
theorem hu_of {A : Around} {k : Nat} (hr : Room k A) : A.units + 1 < cLine := Nat.lt_of_le_of_lt (Nat.add_le_add_left (by decide : 1 ≤ 64) _) hr.units
theorem small1000 {n : Nat} (h : n ≤ 1000) : n < sizeLine := Nat.lt_of_le_of_lt h (by decide)
section
variable {X : Cx}
end
theorem iteF {A B : Prop} (h : B) : if false = true then A else B := by
 rw [if_neg Bool.false_ne_true]
 exact h
theorem iteT {A B : Prop} (h : A) : if true = true then A else B := by
 rw [if_pos rfl]
 exact h
theorem iteNS {c A B : Prop} [Decidable c] (hc : c) (h : B) : if (!decide c) = true then A else B := by
 rw [decide_eq_true hc]
 exact iteF h
def Same (H H' : Hp) : Prop := ∀ b o, H b = some o → H' b = some o
theorem Same.refl (H : Hp) : Same H H := fun _ _ h => h
theorem Same.trans {H H1 H2 : Hp} (a : Same H H1) (b : Same H1 H2) : Same H H2 := fun c o h => b c o (a c o h)
theorem Same.free {H H' : Hp} (e : Same H H') {l : Addr} (h : H' l = Option.none) : H l = Option.none := by
 cases q : H l with
 | none => rfl
 | some o =>
  rw [e l o q] at h
  cases h
section
variable {P : Program} {w : World} {A : Around} {R : Result → Shared → Prop} {s : Shared}
theorem comp_loop {elt tgt iter : Expr} {ifs : List Expr} {scope : Scope} {pos : Pos} {it acc : Value} {env : Env} (J : Nat → Shared → Prop)
  (turn : ∀ n s, J n s → wpAny (model P w) A (pyNext it) (fun r c₁ => match r with
   | none => R (.ok .next) c₁
   | some v => wpAny (model P w) A (letOwnedTupleGo tgt it v) (fun _ d₁ => wpAny (model P w) A (assign tgt env v) (fun _ c₂ =>
     wpAny (model P w) A (forIn ifs true fun c r => if r = true then do let ok ← isTrue c env (eval c env); pure (ForInStep.yield ok) else pure (ForInStep.yield r)) (fun ok c₃ =>
      if ok = true then wpAny (model P w) A (eval elt env) (fun x c₄ =>
       wpAny (model P w) A (call (.builtin "list.append") [acc, x]) (fun _ c₅ => ∃ m, m < n ∧ J m c₅) (notedBy (model P w) A env fun e s' => R (.error e) s') c₄) (notedBy (model P w) A env fun e s' => R (.error e) s') c₃
      else ∃ m, m < n ∧ J m c₃) (notedBy (model P w) A env fun e s' => R (.error e) s') c₂) (notedBy (model P w) A env fun e s' => R (.error e) s') d₁) (notedBy (model P w) A env fun e s' => R (.error e) s') c₁) (notedBy (model P w) A env fun e s' => R (.error e) s') s)
  (n : Nat) (hn : J n s) :
  codeAny (model P w) A (.compLoop (.ListComp elt [⟨tgt, iter, ifs, 0⟩] scope pos) 0 it acc env) R s := by
 refine codeAny_loop rfl J (fun n s hJ => ?_) n hn
 show wpAny _ A ((compTurn (.ListComp elt [⟨tgt, iter, ifs, 0⟩] scope pos) 0 it acc env).onRaise (fun x => do noteFrame x env; theTreesLotGoes x)) _ _ s
 refine wpAny_noted ?_
 rw [compTurn_list]
 refine wpAny_bind (wpAny_standAt (wpAny_bind (wpAny_mono (turn n s hJ) (fun r c₁ e₁ => ?_) fun _ _ z => z)))
 cases r with
 | none => exact wpAny_pure e₁
 | some v =>
  refine wpAny_bind (wpAny_mono e₁ (fun _ d₁ f₁ => ?_) fun _ _ z => z)
  refine wpAny_bind (wpAny_mono f₁ (fun _ c₂ e₂ => wpAny_bind (wpAny_mono e₂ (fun ok c₃ e₃ => ?_) fun _ _ z => z)) fun _ _ z => z)
  cases ok with
  | false => exact wpAny_pure ⟨rfl, e₃⟩
  | true =>
   exact wpAny_bind (wpAny_bind (wpAny_mono e₃ (fun x c₄ e₄ => wpAny_bind (wpAny_mono e₄ (fun _ c₅ e₅ => wpAny_pure (wpAny_pure ⟨rfl, e₅⟩)) fun _ _ z => z)) fun _ _ z => z))
end
def cloF (env : Env) : List (Str × NameKind) → List (Str × Addr) → List (Str × Addr)
 | [], acc => acc
 | (n, k) :: r, acc => if k = .free then cloF env r ((n, (env.cells.lookup n).getD 0) :: acc) else cloF env r acc
theorem closure_go {env : Env} : ∀ (names : List (Str × NameKind)) (acc : List (Str × Addr)), (∀ x ∈ names, x.2 = .free → ∃ c, env.cells.lookup x.1 = some c) →
  (forIn names acc (fun (x : Str × NameKind) (cs : List (Str × Addr)) => (if (x.2 == NameKind.free) = true then do let a ← cellOf env x.1; pure (ForInStep.yield ((x.1, a) :: cs)) else pure (ForInStep.yield cs) : Sem (ForInStep (List (Str × Addr))))) : Sem (List (Str × Addr))) = pure (cloF env names acc)
 | [], acc, _ => by simp [cloF]
 | (n, k) :: r, acc, h => by
  have ih := fun acc => closure_go (env := env) r acc fun x hx => h x (List.mem_cons_of_mem _ hx)
  rw [List.forIn_cons]
  by_cases hk : k = .free
  ·subst hk
   obtain ⟨c, hc⟩ := h (n, .free) List.mem_cons_self rfl
   have hc' : env.cells.lookup n = some c := hc
   have e : cellOf env n = pure c := by unfold cellOf; rw [hc']
   simp only [cloF, if_true, hc', Option.getD_some, beq_self_eq_true, e, pure_bind]
   exact ih _
  ·have hb : (k == NameKind.free) = false := by simpa using hk
   simp only [cloF, hk, if_false, hb, Bool.false_eq_true, pure_bind]
   exact ih _
theorem closure_eq {env : Env} {scope : Scope} (h : ∀ x ∈ scope.names, x.2 = .free → ∃ c, env.cells.lookup x.1 = some c) : closureFor scope env = pure (cloF env scope.names []) := by
 rw [← closure_go scope.names [] h]
 unfold closureFor
 simp only [bind_pure]
theorem cloF_lookup {env : Env} {y : Str} : ∀ (names : List (Str × NameKind)) (acc : List (Str × Addr)), (cloF env names acc).lookup y = if (y, NameKind.free) ∈ names then some ((env.cells.lookup y).getD 0) else acc.lookup y
 | [], acc => by simp [cloF]
 | (n, k) :: r, acc => by
  unfold cloF
  by_cases hk : k = .free
  ·subst hk
   rw [if_pos rfl, cloF_lookup r]
   by_cases hy : y = n
   ·subst hy
    simp [List.lookup_cons]
   ·have hb : (y == n) = false := by simpa using hy
    simp [List.lookup_cons, hb, hy]
  ·rw [if_neg hk, cloF_lookup r]
   have : ¬ ((y, NameKind.free) = (n, k)) := by
    intro e
    exact hk (Prod.mk.inj e).2.symm
   simp [this]
structure CScope (o sc : Scope) (TN F : List Str) : Prop where
 okind : o.kind = .function
 kind : sc.kind = .function
 nocell : ∀ y ∈ sc.names, y.2 ≠ .cell
 names : ∀ y ∈ sc.names, y.2 = .local → sc.names.lookup y.1 = some .local
 fr : ∀ y ∈ sc.names, y.2 = .free → o.names.lookup y.1 = some .cell ∧ sc.names.lookup y.1 = some .free
 ff : ∀ y ∈ F, (y, NameKind.free) ∈ sc.names
theorem relabel_free {env : Env} {y : Str} (hk : env.scope.kind = .function) (hc : env.kindOf y = some .cell) : ∀ {names : List (Str × NameKind)}, names.lookup y = some .free →
  (names.map fun (n, k) => if (k == NameKind.free && env.scope.kind == .function && env.kindOf n == some .cell) then (n, NameKind.cell) else (n, k)).lookup y = some .cell
 | [], h => by simp at h
 | (n, k) :: r, h => by
  have ih := @relabel_free env y hk hc r
  show List.lookup y ((if (k == NameKind.free && env.scope.kind == .function && env.kindOf n == some .cell) = true then (n, NameKind.cell) else (n, k)) :: _) = _
  cases hx : y == n with
  | true =>
   rw [List.lookup_cons, hx] at h
   cases h
   have e : y = n := by simpa using hx
   subst e
   rw [if_pos (by simp [hk, hc])]
   simp [List.lookup_cons]
  | false =>
   rw [List.lookup_cons, hx] at h
   by_cases hc' : (k == NameKind.free && env.scope.kind == .function && env.kindOf n == some .cell) = true
   ·rw [if_pos hc']; simp only [List.lookup_cons, hx]; exact ih h
   ·rw [if_neg hc']; simp only [List.lookup_cons, hx]; exact ih h
theorem relabel_from {env : Env} {y : Str} : ∀ {names : List (Str × NameKind)}, (∀ z ∈ names, z.2 ≠ .cell) →
    ((names.map fun (n, k) => if (k == NameKind.free && env.scope.kind == .function && env.kindOf n == some .cell) then (n, NameKind.cell) else (n, k)).lookup y = some .cell ∨
     (names.map fun (n, k) => if (k == NameKind.free && env.scope.kind == .function && env.kindOf n == some .cell) then (n, NameKind.cell) else (n, k)).lookup y = some .free) → (y, NameKind.free) ∈ names
  | [], _, h => by simp at h
  | (n, k) :: r, hn, h => by
    have ih := @relabel_from env y r fun z hz => hn z (List.mem_cons_of_mem _ hz)
    have h' : List.lookup y ((if (k == NameKind.free && env.scope.kind == .function && env.kindOf n == some .cell) = true then (n, NameKind.cell) else (n, k)) :: (r.map fun (n, k) => if (k == NameKind.free && env.scope.kind == .function && env.kindOf n == some .cell) then (n, NameKind.cell) else (n, k))) = some .cell ∨
      List.lookup y ((if (k == NameKind.free && env.scope.kind == .function && env.kindOf n == some .cell) = true then (n, NameKind.cell) else (n, k)) :: (r.map fun (n, k) => if (k == NameKind.free && env.scope.kind == .function && env.kindOf n == some .cell) then (n, NameKind.cell) else (n, k))) = some .free := h
    clear h
    cases hx : y == n with
    | true =>
      have e : y = n := by simpa using hx
      subst e
      by_cases hc' : (k == NameKind.free && env.scope.kind == .function && env.kindOf y == some .cell) = true
      · have hk : k = .free := by
          have := (Bool.and_eq_true _ _ ▸ (Bool.and_eq_true _ _ ▸ hc').1).1
          simpa using this
        subst hk
        exact List.mem_cons_self
      · rw [if_neg hc'] at h'
        simp only [List.lookup_cons, beq_self_eq_true] at h'
        rcases h' with h' | h'
        · cases h'
          exact absurd rfl (hn _ List.mem_cons_self)
        · cases h'
          exact List.mem_cons_self
    | false =>
      by_cases hc' : (k == NameKind.free && env.scope.kind == .function && env.kindOf n == some .cell) = true
      · rw [if_pos hc'] at h'; simp only [List.lookup_cons, hx] at h'; exact List.mem_cons_of_mem _ (ih h')
      · rw [if_neg hc'] at h'; simp only [List.lookup_cons, hx] at h'; exact List.mem_cons_of_mem _ (ih h')
def cxC (X : Cx) (N : List Str) (sc : Scope) (cl : List (Str × Addr)) (C : Addr) (fp : List Addr) (s₃ : Shared) (H₃ : Hp) (xe : Value → Shared → Prop) : Cx :=
 { X with N := N, s₀ := s₃, H₀ := H₃, env := compEnvC sc cl C X.env, outer := X.stack, ex := fp, fn := fun _ => false, pn := [], xe := xe }
def sub (ix : List Nat) (σ : St) : St := ix.map fun i => (σ[i]?).join
theorem inv_comp {X : Cx} {pins : List (Addr × Obj)} {σ : St} {H : Hp} {s : Shared} {sc : Scope} {TN F : List Str} {ix : List Nat} {fp : List Addr} {h4 : Heap} {tk : Nat} {m : Str → Option Value} {xe : Value → Shared → Prop}
  (S : CScope X.env.scope sc TN F) (hix : ix.map (fun i => X.N[i]?) = F.map some) (I : Inv X pins σ H s) (hf : ∀ b ∈ fp, FpOk X pins H b) (ho : ∀ b ∈ fp, ∃ o, s.heap.get? b = some o)
  (hk : ∀ b o, s.heap.get? b = some o → h4.get? b = some o) (hn : h4.Ns s.heap.objs.size m) :
  Inv (cxC X (TN ++ F) sc (cloF X.env sc.names []) s.heap.objs.size fp s H xe) [] (List.replicate TN.length none ++ sub ix σ) H { s with heap := h4, toks := tk } := by
 have cl : ∀ x c, (cloF X.env sc.names []).lookup x = some c → X.env.cells.lookup x = some c := fun x c e => by
  rw [cloF_lookup] at e
  by_cases hx : (x, NameKind.free) ∈ sc.names
  ·rw [if_pos hx] at e
   obtain ⟨c', hc'⟩ := I.ok.has x (.inl (S.fr _ hx rfl).1)
   rw [hc'] at e ⊢
   exact e
  ·rw [if_neg hx] at e
   cases e
 have cl' : ∀ x, (x, NameKind.free) ∈ sc.names → (cloF X.env sc.names []).lookup x = X.env.cells.lookup x := fun x hx => by
  rw [cloF_lookup, if_pos hx]
  obtain ⟨c', hc'⟩ := I.ok.has x (.inl (S.fr _ hx rfl).1)
  rw [hc']
  rfl
 have hlen : ix.length = F.length := by
  have := congrArg List.length hix
  simpa using this
 refine ⟨⟨I.ok.mod, S.kind, I.ok.glob, I.ok.blt, Nat.le_refl _, fun x y c h1 h2 => I.ok.inj x y c (cl x c h1) (cl y c h2), fun x hx => ?_, fun x c z => (nomatch z), I.ok.hd, I.ok.frames, .inl rfl, fun b hb => ⟨?_, fun x c e => (hf b hb).2.2.2.2.1 x c (cl x c e)⟩,
  I.bs, Nat.le_trans I.ok.bsz I.sz, fun b o e hb => ?_, fun b hb hfs => ?_, I.stack, I.stkFree⟩, rfl, I.bare, Un.kept hk, ⟨m, hn, fun i x v h1 h2 h3 => ?_⟩, fun x c e => ?_, I.hok.fresh (Nat.le_refl _), fun x c e => I.freeC x c (cl x c e), fun p hp => absurd (show p ∈ ([] : List (Addr × Obj)) from hp) (by simp), I.hok.kept hk, ?_⟩
 ·have hx' : (x, NameKind.free) ∈ sc.names := relabel_from (env := X.env) S.nocell hx
  obtain ⟨c, hc⟩ := I.ok.has x (.inl (S.fr _ hx' rfl).1)
  exact ⟨c, (cl' x hx').trans hc⟩
 ·obtain ⟨o, e⟩ := ho b hb
  exact Nat.ne_of_lt (Heap.lt_size e)
 ·rcases (hf b hb).2.2.2.1 with z | z
  ·exact I.ok.noex b o e z
  ·exact absurd (Nat.lt_of_lt_of_le (Heap.lt_size e) (Nat.le_trans I.ok.bsz z)) (Nat.lt_irrefl _)
 ·rcases List.mem_cons.mp (I.stkSub b hfs) with z | z
  ·exact (hf b hb).2.1 z
  ·exact (hf b hb).2.2.1 z
 ·have hi : TN.length ≤ i := by
   apply Nat.le_of_not_lt
   intro hlt
   rw [List.getElem?_append_left (by simpa using hlt), List.getElem?_replicate] at h2
   split at h2 <;> cases h2
  rw [List.getElem?_append_right (by simpa using hi), List.length_replicate] at h2
  have h1' : F[i - TN.length]? = some x := by
   have : (TN ++ F)[i]? = some x := h1
   rw [List.getElem?_append_right hi] at this
   exact this
  have e3 := congrArg (fun l => l[i - TN.length]?) hix
  simp only [List.getElem?_map, h1', Option.map_some] at e3
  unfold sub at h2
  rw [List.getElem?_map] at h2
  cases ej : ix[i - TN.length]? with
  | none => rw [ej] at h2; cases h2
  | some k =>
   rw [ej] at h2 e3
   have h2' : (σ[k]?).join = some v := Option.some.inj h2
   have e3' : X.N[k]? = some x := Option.some.inj e3
   have hσ : σ[k]? = some (some v) := by
    cases e : σ[k]? with
    | none => rw [e] at h2'; cases h2'
    | some q =>
     rw [e] at h2'
     have : q = some v := h2'
     rw [this]
   have hfr := S.ff x (List.mem_of_getElem? h1')
   have hcell := (S.fr _ hfr rfl).1
   obtain ⟨m0, hn0, hl0⟩ := I.loc
   obtain ⟨u, r, l⟩ := hl0 k x v e3' hσ (.inr (.inl hcell))
   refine ⟨u, r, ?_⟩
   rcases l with ⟨l1, _⟩ | ⟨_, c, hc, o, ho', hd⟩
   ·have l1' : X.env.scope.names.lookup x = some .local := l1
    rw [hcell] at l1'
    cases l1'
   ·exact .inr ⟨.inl (relabel_free (env := X.env) S.okind hcell (S.fr _ hfr rfl).2), c, (cl' x hfr).trans hc, o, hk c o ho', hd⟩
 ·obtain ⟨v, o, ho', hd⟩ := I.cell x c (cl x c e)
  exact ⟨v, o, hk c o ho', hd⟩
 ·show _ = (TN ++ F).length
  rw [List.length_append, List.length_append, List.length_replicate]
  unfold sub
  rw [List.length_map, hlen]
def PTs (X : Cx) (ifs : List Expr) (tc : TT) : Prop :=
 ∀ (pins : List (Addr × Obj)) (s : Shared) (σ : St) (H : Hp) (Q : Bool → Hp → Prop), Inv X pins σ H s → tc σ H Q →
  wpAny (model X.prog X.w) X.A (forIn ifs true fun c r => if r = true then do let ok ← isTrue c X.env (eval c X.env); pure (ForInStep.yield ok) else pure (ForInStep.yield r)) (TP X pins σ Q) X.xe s
def tAll : TT := fun _ H Q => Q true H
theorem pts_nil {X : Cx} : PTs X [] tAll := fun _ _ _ H _ I h => wpAny_tests_nil ⟨H, I, h⟩
theorem pts_one {X : Cx} {c : Expr} {tc : TT} (hc : PT X c tc) : PTs X [c] tc := fun pins s σ H Q I h => wpAny_tests_one (hc pins s σ H Q I h)
def CGo (J : It) (D : Addr) (g : TG) (tc : TT) (te : TE) (Q : VK) (σ : St) (H : Hp) : Prop :=
 ∃ W : Nat → Nat → St → List V → Hp → Prop, (∃ m, W 0 m σ [] (upd H D (.lst []))) ∧ ∀ i m τ ys H, W i m τ ys H → H D = some (.lst ys) ∧
  ((J.stop i H ∧ Q (.ref D) H) ∨ (J.go i H ∧ ∀ v H', J.yld i H v H' → g v τ H' fun τ2 H2 => tc τ2 H2 fun b H3 =>
   if b = true then te τ2 H3 fun y H4 => H4 D = some (.lst ys) ∧ ys.length < sizeLine ∧ ∃ m', m' < m ∧ W (i + 1) m' τ2 (ys ++ [y]) (upd H4 D (.lst (ys ++ [y])))
   else ∃ m', m' < m ∧ W (i + 1) m' τ2 ys H3))
def tComp (wi : TI) (n : Nat) (ix : List Nat) (g : TG) (tc : TT) (te : TE) : TE := fun σ H Q => wi σ H fun J H1 => ∀ D, H1 D = none → CGo J D g tc te Q (List.replicate n none ++ sub ix σ) H1
theorem append_ok {X : Cx} {pins : List (Addr × Obj)} {σ : St} {H : Hp} {s : Shared} {D : Addr} {ys : List V} {y : V} {u : Value} {Q : Value → Shared → Prop} {E : Value → Shared → Prop} (I : Inv X pins σ H s) (hD : H D = some (.lst ys)) (hz : ys.length < sizeLine) (r : RelV y u)
  (h : ∀ s', Inv X pins σ (upd H D (.lst (ys ++ [y]))) s' → Q .none s') : wpAny (model X.prog X.w) X.A (call (.builtin "list.append") [.ref D, u]) Q E s := by
 obtain ⟨z, its, n, rr, hl, e⟩ := I.lstM hD
 refine call_meets F.slot_list_append ⟨_, e, rfl⟩ F.entry_list_append (F.args_list_append_2 _ _) (PySem.list_append D its.toArray n u (by rw [List.size_toArray]; omega)) ⟨e, ?_⟩
 refine h _ (I.lset (its' := its ++ [u]) hD e (by simp) (rr.append (.cons r .nil)) ?_)
 rw [List.length_append, List.length_singleton]
 omega
theorem comp_block {X : Cx} {pins : List (Addr × Obj)} {σ : St} {H : Hp} {s : Shared} {sc : Scope} {TN F : List Str} {ix : List Nat} {elt tg iter : Expr} {ifs : List Expr} {pos : Pos} {g : TG} {tc : TT} {te : TE} {J : It} {fp : List Addr} {it : Addr} {tn : Nat → Heap → Prop} {Q : VK}
  {RR : Value → Addr → Result → Shared → Prop} {E : Value → Shared → Prop}
  (S : CScope X.env.scope sc TN F) (hix : ix.map (fun i => X.N[i]?) = F.map some) (hc : X.calm = true) (I : Inv X pins σ H s) (T : Turn X.prog X.w X.K tg J fp it tn) (st : tn 0 s.heap) (hf : ∀ b ∈ fp, FpOk X pins H b)
  (hg : ∀ cl C fp s3 H3 xe, PG (cxC X (TN ++ F) sc cl C fp s3 H3 xe) tg g) (ht : ∀ cl C fp s3 H3 xe, PTs (cxC X (TN ++ F) sc cl C fp s3 H3 xe) ifs tc) (he : ∀ cl C fp s3 H3 xe, PE (cxC X (TN ++ F) sc cl C fp s3 H3 xe) elt te)
  (hW : ∀ D, H D = none → CGo J D g tc te Q (List.replicate TN.length none ++ sub ix σ) H)
  (fin : ∀ D C H' s', Inv X pins σ H' s' → (∃ m, s'.heap.Ns C m) → H' C = none → C ≠ X.env.locals → X.s₀.heap.objs.size ≤ C → (∀ x c, X.env.cells.lookup x = some c → c ≠ C) → (∀ p ∈ X.pn ++ pins, p.1 ≠ C) → Q (.ref D) H' → RR (.ref D) C (.ok .next) s') :
  wpAny (model X.prog X.w) X.A (newList []) (fun acc s₃ => wpAny (model X.prog X.w) X.A (newFunctionEnv sc X.env.globals (cloF X.env sc.names []) [] X.env.qual none .none (some X.env)) (fun cenv s₄ =>
   codeAny (model X.prog X.w) X.A (.compStart (.ListComp elt [⟨tg, iter, ifs, 0⟩] sc pos) 0 (.ref it) acc { cenv with scope := relabel sc X.env }) (RR acc cenv.locals) s₄) E s₃) E s := by
 have hfo : ∀ b ∈ fp, ∃ o, s.heap.get? b = some o := fun b hb => let ⟨o, e, _⟩ := T.obj 0 _ st b hb; ⟨o, e⟩
 refine wpAny_newObj_type ?_
 obtain ⟨W, ⟨m0, w0⟩, go⟩ := hW s.heap.objs.size I.fresh
 have I3 : Inv X pins σ (upd H s.heap.objs.size (.lst [])) { s with heap := s.heap.push { cls := .type "list", data := .seq ([] : List Value).toArray } } := I.lnew (its := []) (ys := []) (t' := s.toks) .nil (Nat.zero_le _)
 generalize hs3 : ({ s with heap := s.heap.push { cls := .type "list", data := .seq ([] : List Value).toArray } } : Shared) = s3 at I3
 have hk3 : ∀ b o, s.heap.get? b = some o → s3.heap.get? b = some o := fun b o e => by
  rw [← hs3]
  exact Heap.get?_push_of_some _ e
 have hf3 : ∀ b ∈ fp, FpOk X pins (upd H s.heap.objs.size (.lst [])) b := fun b hb => by
  obtain ⟨o, e⟩ := hfo b hb
  exact ⟨by rw [upd_ne (Nat.ne_of_lt (Heap.lt_size e))]; exact (hf b hb).1, (hf b hb).2⟩
 have st3 : tn 0 s3.heap := T.keep 0 _ _ st fun b hb o e => hk3 b o e
 show wpAny _ _ _ _ _ s3
 refine wpAny_newFunctionEnv S.nocell (by intro y hy; simp at hy) (fun h4 hn4 hsb => ?_) S.kind
 have hk4 : ∀ b o, s3.heap.get? b = some o → h4.get? b = some o := fun b o e => (hsb.2 b (Nat.ne_of_lt (Heap.lt_size e))).trans (Heap.get?_push_of_some _ e)
 generalize hR : RR (.ref s.heap.objs.size) s3.heap.objs.size = R
 have loop : ∀ s4 : Shared, s4 = { s3 with heap := h4, toks := s3.toks + ([] : List (Str × Value)).length } →
   codeAny (model X.prog X.w) X.A (.compLoop (.ListComp elt [⟨tg, iter, ifs, 0⟩] sc pos) 0 (.ref it) (.ref s.heap.objs.size) (compEnvC sc (cloF X.env sc.names []) s3.heap.objs.size X.env)) R s4 := by
  rintro s4 rfl
  let X' : Cx := cxC X (TN ++ F) sc (cloF X.env sc.names []) s3.heap.objs.size fp s3 (upd H s.heap.objs.size (.lst [])) (notedBy (model X.prog X.w) X.A (compEnvC sc (cloF X.env sc.names []) s3.heap.objs.size X.env) fun e s' => R (.error e) s')
  have I4 : Inv X' [] (List.replicate TN.length none ++ sub ix σ) (upd H s.heap.objs.size (.lst [])) { s3 with heap := h4, toks := s3.toks + ([] : List (Str × Value)).length } :=
   inv_comp S hix I3 hf3 (fun b hb => let ⟨o, e⟩ := hfo b hb; ⟨o, hk3 b o e⟩) hk4 hn4
  have fpx : ∀ {H' : Hp}, (∀ b ∈ fp, H' b = none) → ∀ b ∈ fp, FpOk X' [] H' b := fun {H'} hn b hb => by
   refine ⟨hn b hb, (I4.ok.exf b hb).1, fun z => I4.ok.exfs b hb z, .inl hb, fun x c e => (I4.ok.exf b hb).2 x c e, fun p hp => absurd (show p ∈ ([] : List (Addr × Obj)) from hp) (by simp)⟩
  refine comp_loop (fun n s' => ∃ i τ ys H', Inv X' [] τ H' s' ∧ tn i s'.heap ∧ (∀ b ∈ fp, H' b = none) ∧ W i n τ ys H') ?_ m0 ⟨0, _, [], _, I4, T.keep 0 _ _ st3 fun b hb o e => hk4 b o e, fun b hb => (hf3 b hb).1, w0⟩
  rintro n s5 ⟨i, τ, ys, H5, I5, st5, fr5, w5⟩
  obtain ⟨hD, hgo⟩ := go i n τ ys H5 w5
  rcases hgo with ⟨stop, q⟩ | ⟨hgo, step⟩
  ·refine thn (T.done X' rfl rfl rfl hc i [] s5 τ H5 X'.xe I5 (fpx fr5) st5 stop) fun r s6 ⟨hr, I6⟩ => ?_
   subst hr
   show R (.ok .next) s6
   rw [← hR]
   have J6 : Inv X pins σ H5 s6 := I3.call' (ch := fp) I6.os I6.base I6.hok I6.bare fun b hb => ⟨(hf3 b hb).2.2.2.1, (hf3 b hb).2.1, (hf3 b hb).2.2.2.2.1, (hf3 b hb).2.2.2.2.2⟩
   refine fin s.heap.objs.size s3.heap.objs.size H5 s6 J6 (let ⟨m, hn, _⟩ := I6.loc; ⟨m, hn⟩) I6.free (Nat.ne_of_gt I3.lt) I3.sz (fun x c e z => ?_) (fun p hp z => ?_) q
   ·obtain ⟨v, o, ho, _⟩ := I3.cell x c e
    exact absurd (Heap.lt_size ho) (by rw [z]; exact Nat.lt_irrefl _)
   ·exact absurd (Heap.lt_size (I3.pin p hp).1) (by rw [z]; exact Nat.lt_irrefl _)
  ·refine thn (T.item X' rfl rfl rfl hc i [] s5 τ H5 X'.xe I5 (fpx fr5) st5 hgo) fun r s6 ⟨u, hr, h6⟩ => ?_
   subst hr
   refine thn h6 fun _ s7 ⟨v, H7, I7, r7, y7, st7, fr7⟩ => ?_
   have I7' := I7.pinned (fpx fr7) (T.obj _ _ st7)
   refine thn (hg _ _ _ _ _ _ _ s7 τ H7 v u _ I7' r7 (step v H7 y7)) fun _ s8 ⟨τ8, H8, I8, q8⟩ => ?_
   refine thn (ht _ _ _ _ _ _ _ s8 τ8 H8 _ I8 q8) fun ok s9 ⟨H9, I9, q9⟩ => ?_
   have again : ∀ {ys' : List V} {H' : Hp} {s' : Shared}, Inv X' ([] ++ pinsAt fp s7.heap) τ8 H' s' → (∃ m', m' < n ∧ W (i + 1) m' τ8 ys' H') → ∃ m, m < n ∧ ∃ i τ ys H'', Inv X' [] τ H'' s' ∧ tn i s'.heap ∧ (∀ b ∈ fp, H'' b = none) ∧ W i m τ ys H'' := fun {ys' H' s'} I' ⟨m', hm, w'⟩ => by
    refine ⟨m', hm, i + 1, τ8, ys', H', I'.unpinned, T.keep _ _ _ st7 fun b hb o e => (I'.pin (b, o) (List.mem_append_right _ (List.mem_append_right _ (mem_pinsAt hb e)))).1, fun b hb => ?_, w'⟩
    obtain ⟨o, e, d⟩ := T.obj _ _ st7 b hb
    exact (I'.pin (b, o) (List.mem_append_right _ (List.mem_append_right _ (mem_pinsAt hb e)))).2.1
   cases ok with
   | false =>
    exact again I9 q9
   | true =>
    refine thn (he _ _ _ _ _ _ _ s9 τ8 H9 _ I9 q9) fun x s10 ⟨y, H10, I10, r10, hD10, hz10, q10⟩ => ?_
    exact append_ok (X := X') I10 hD10 hz10 r10 fun s11 I11 => again I11 q10
 subst hR
 exact codeAny_compStart_list (loop _ rfl) (T.self X.A 0 _ _ _ (T.keep 0 _ _ st3 fun b hb o e => hk4 b o e) (loop _ rfl))
section
variable {X : Cx} {sc : Scope} {TN F : List Str} {ix : List Nat} {elt tg iter : Expr} {ifs : List Expr} {pos : Pos} {g : TG} {tc : TT} {te : TE} {wi : TI}
theorem closure_of (S : CScope X.env.scope sc TN F) {pins : List (Addr × Obj)} {σ : St} {H : Hp} {s : Shared} (I : Inv X pins σ H s) : closureFor sc X.env = pure (cloF X.env sc.names []) :=
 closure_eq fun x hx hk => I.ok.has x.1 (.inl (S.fr x hx hk).1)
theorem pe_comp (S : CScope X.env.scope sc TN F) (hix : ix.map (fun i => X.N[i]?) = F.map some) (hc : X.calm = true) (hi : PI X tg iter wi)
  (hg : ∀ cl C fp s3 H3 xe, PG (cxC X (TN ++ F) sc cl C fp s3 H3 xe) tg g) (ht : ∀ cl C fp s3 H3 xe, PTs (cxC X (TN ++ F) sc cl C fp s3 H3 xe) ifs tc) (he : ∀ cl C fp s3 H3 xe, PE (cxC X (TN ++ F) sc cl C fp s3 H3 xe) elt te)
  (hs : ∀ x, foldedSetIterable iter X.env x = pure x := by intro _; rfl) : PE X (.ListComp elt [⟨tg, iter, ifs, 0⟩] sc pos) (tComp wi TN.length ix g tc te) := by
 intro pins s σ H Q I h
 rw [eval_ListComp]
 refine wpAny_comprehension_free (use := none) rfl hs (closure_of S I) S.kind S.names (thn (hi pins s σ H _ I h) fun v s1 h1 => thn h1 fun itv s2 h2 => ?_)
 obtain ⟨it, fp, tn, J, H2, e, I2, T, st2, f2, q2⟩ := h2
 subst e
 refine comp_block (RR := fun acc C => compPost (model X.prog X.w) X.A X.xe none (EP X pins σ Q) acc C) S hix hc I2 T st2 f2 hg ht he q2 fun D C H' s' I' hn hC1 hC2 hC3 hC4 hC5 q => ?_
 obtain ⟨m, hn⟩ := hn
 exact ⟨m, hn, fun h' hs' => ⟨.ref D, H', I'.turned (t' := s'.toks) (fun b o hb e => (hs'.2 b hb).trans e) hC1 hC2 (.inr hC3) hC4 hC5, rfl, q⟩⟩
theorem ps_setC {i : Nat} {y : Str} {py spos : Pos} (hN : X.N.Nodup) (hiy : X.N[i]? = some y) (hy : X.env.scope.names.lookup y = some .local) (S : CScope X.env.scope sc TN F) (hix : ix.map (fun i => X.N[i]?) = F.map some) (hc : X.calm = true) (hi : PI X tg iter wi)
  (hg : ∀ cl C fp s3 H3 xe, PG (cxC X (TN ++ F) sc cl C fp s3 H3 xe) tg g) (ht : ∀ cl C fp s3 H3 xe, PTs (cxC X (TN ++ F) sc cl C fp s3 H3 xe) ifs tc) (he : ∀ cl C fp s3 H3 xe, PE (cxC X (TN ++ F) sc cl C fp s3 H3 xe) elt te)
  (hsw : swapsWith (.ListComp elt [⟨tg, iter, ifs, 0⟩] sc pos) (some (.Name y py)) spos.line X.env = pure true := by rfl)
  (hs : ∀ x, foldedSetIterable iter X.env x = pure x := by intro _; rfl) : PS X (.Assign [.Name y py] (.ListComp elt [⟨tg, iter, ifs, 0⟩] sc pos) spos) (tAsg (tComp wi TN.length ix g tc te) (gName i)) := by
 intro pins s σ H D I h
 rw [exec_Assign_Name_used _ _ _ _ hsw]; refine wpAny_bind (wpAny_standAt (wpAny_bind ?_))
 show wpAny _ X.A (do let _ ← comprehension (.ListComp elt [⟨tg, iter, ifs, 0⟩] sc pos) sc X.env _ (newList []) false (eval iter X.env) (some (assign (.Name y py) X.env))) _ _ s
 refine wpAny_bind (wpAny_mono (wpAny_comprehension_free (use := some (assign (.Name y py) X.env)) (Q := fun _ s' => SP X pins D .next s') rfl hs (closure_of S I) S.kind S.names
  (thn (hi pins s σ H _ I h) fun v s1 h1 => thn h1 fun itv s2 h2 => ?_)) (fun _ s' hq => wpAny_pure (wpAny_pure hq)) fun _ _ e => e)
 obtain ⟨it, fp, tn, J, H2, e, I2, T, st2, f2, q2⟩ := h2
 subst e
 refine comp_block (RR := fun acc C => compPost (model X.prog X.w) X.A X.xe (some (assign (.Name y py) X.env)) (fun _ s' => SP X pins D .next s') acc C) S hix hc I2 T st2 f2 hg ht he q2 fun Dl C H' s' I' hn hC1 hC2 hC3 hC4 hC5 q => ?_
 obtain ⟨m, hn⟩ := hn
 show wpAny _ X.A (assign (.Name y py) X.env (.ref Dl)) _ _ _
 refine wpAny_assign_Name (store_ok2 I' hN hiy (.inl hy) (show RelV (.ref Dl) (.ref Dl) from rfl) (fun s'' I'' ⟨a, hsb, ha⟩ => ?_) (.inr hy))
 have haC : C ≠ a := by
  rcases ha with z | z
  ·rw [z]; exact hC2
  ·exact fun z' => hC4 y a z z'.symm
 refine ⟨m, hn.sameBut hsb haC, fun h' hs' => ?_⟩
 exact ⟨_, H', I''.turned (t' := s''.toks) (fun b o hb e => (hs'.2 b hb).trans e) hC1 hC2 (.inr hC3) hC4 hC5, q⟩
end
def seqAt (H : Hp) (p : Addr) : Option (List V) := match H p with
 | some (.lst xs) => some xs
 | some (.tup xs) => some xs
 | _ => none
def dAt (H : Hp) (x y : V) : Option V := match x, y with
 | .ref p, .int i => (seqAt H p).bind fun xs => atI xs i
 | _, _ => none
def rIxd : R2 := fun x y H Q => ∃ v, dAt H x y = some v ∧ Q v H
section
variable {X : Cx}
theorem ix_d : IxR X rIxd := by
 intro value slice pins s σ H x y v u Q I rx ry h hs
 refine ix_seq value slice pins s σ H x y v u Q I rx ry ?_ hs
 obtain ⟨z, e, q⟩ := h
 unfold dAt at e
 split at e
 case h_2 => cases e
 case h_1 p i =>
  unfold seqAt at e
  split at e
  case h_1 xs hp => exact .inl ⟨_, xs, _, z, rfl, rfl, SqL.of hp, e, q⟩
  case h_2 xs hp => exact .inr (.inl ⟨_, xs, _, z, rfl, rfl, SqT.of hp, e, q⟩)
  case h_3 => cases e
def dSet (H : Hp) (o i v : V) : Option Hp := match o, i with
 | .ref p, .int k => match H p with
  | some (.lst xs) => (ixN xs.length k).map fun j => upd H p (.lst (xs.set j v))
  | _ => none
 | _, _ => none
def rSetd : V → V → V → Hp → (Hp → Prop) → Prop := fun o i v H Q => ∃ H', dSet H o i v = some H' ∧ Q H'
theorem set_d : PSet X rSetd := by
 intro pins s σ H o i v ov iv u Q I ro ri rv h
 refine set_list pins s σ H o i v ov iv u Q I ro ri rv ?_
 obtain ⟨H', e, q⟩ := h
 unfold dSet at e
 split at e
 case h_2 => cases e
 case h_1 p k =>
  split at e
  case h_2 => cases e
  case h_1 xs hp =>
   cases ej : ixN xs.length k with
   | none => rw [ej] at e; cases e
   | some j =>
    rw [ej] at e
    cases e
    exact ⟨p, xs, k, j, rfl, rfl, hp, ej, q⟩
end
section
variable {σ : St} {H : Hp} {Q : VK} {D : Ends} {t u : TS} {te ta tb : TE} {tr : TA} {g : TG} {r : R2} {x y v : V} {c : TT} {QB : Bool → Hp → Prop} {QL : List V → Hp → Prop} {QG : St → Hp → Prop} {n : Nat}
theorem w_seq (h : t { D with nx := u D } σ H) : tSeq t u D σ H := h
theorem w_next (h : D.nx σ H) : tNext D σ H := h
theorem w_asg (h : te σ H fun x H1 => g x σ H1 D.nx) : tAsg te g D σ H := h
theorem w_gname {i : Nat} (h : QG (σ.set i (some v)) H) : gName i v σ H QG := h
theorem w_op (h : ta σ H fun x H1 => tb σ H1 fun y H2 => r x y H2 Q) : tOp r ta tb σ H Q := h
theorem w_var {i : Nat} (e : σ[i]? = some (some v)) (h : Q v H) : tVar i σ H Q := ⟨v, e, h⟩
theorem w_c (h : Q v H) : tC v σ H Q := h
theorem w_rI0 {k : Int → Int → V} {i j : Int} (h : Q (k i j) H) : rI0 k (.int i) (.int j) H Q := ⟨i, j, rfl, rfl, h⟩
theorem w_rI {C : Int → Int → Prop} {k : Int → Int → V} {i j : Int} (hc : C i j) (h : Q (k i j) H) : rI C k (.int i) (.int j) H Q := ⟨i, j, rfl, rfl, hc, h⟩
theorem w_ifs {b : TS} (h : c σ H fun b' H1 => if b' = true then t D σ H1 else b D σ H1) : tIfS c t b D σ H := h
theorem w_test (h : te σ H fun x H' => ∃ k, x = .bl k ∧ QB k H') : tTest te σ H QB := h
theorem w_tb (h : te σ H fun x H' => ∃ k, x = .bl k ∧ QB k H') : tB te σ H QB := h
theorem w_bl {b : Bool} {P : Bool → Prop} (h : P b) : ∃ k, V.bl b = .bl k ∧ P k := ⟨b, rfl, h⟩
theorem w_not (h : c σ H fun b H1 => QB (!b) H1) : tNot c σ H QB := h
theorem w_ret (h : te σ H D.rt) : tRet te D σ H := h
theorem w_nil (h : QL [] H) : tNil σ H QL := h
theorem w_cons (h : te σ H fun x H1 => tr σ H1 fun xs H2 => QL (x :: xs) H2) : tCons te tr σ H QL := h
theorem w_lst (h : tr σ H fun xs H1 => xs.length ≤ sizeLine ∧ ∀ p, H1 p = none → Q (.ref p) (upd H1 p (.lst xs))) : tLst tr σ H Q := h
theorem w_tup (h : tr σ H fun xs H1 => xs.length ≤ sizeLine ∧ ∀ p, H1 p = none → Q (.ref p) (upd H1 p (.tup xs))) : tTup tr σ H Q := h
theorem w_cb {r : List V → Hp → VK → Prop} (h : tr σ H fun vs H1 => r vs H1 Q) : tCB r tr σ H Q := h
theorem w_call {sp : Sp} {dvs : List V} {E : XK} (h : tr σ H fun vs H1 => sp (vs ++ dvs) H1 Q E) : tCall sp dvs E tr σ H Q := h
theorem w_gsub {to ti : TE} {ts : TSet} (h : to σ H fun o H1 => ti σ H1 fun i H2 => ts o i v H2 fun H3 => QG σ H3) : gSub to ti ts v σ H QG := h
theorem w_ixL {p : Addr} {xs : List V} {i : Int} (hp : H p = some (.lst xs)) (e : atI xs i = some v) (h : Q v H) : rIxd (.ref p) (.int i) H Q := ⟨v, by simp only [dAt, seqAt, hp, Option.bind_some, e], h⟩
theorem w_ixT {p : Addr} {xs : List V} {i : Int} (hp : H p = some (.tup xs)) (e : atI xs i = some v) (h : Q v H) : rIxd (.ref p) (.int i) H Q := ⟨v, by simp only [dAt, seqAt, hp, Option.bind_some, e], h⟩
theorem w_set {p : Addr} {xs : List V} {i : Int} {j : Nat} {QH : Hp → Prop} (hp : H p = some (.lst xs)) (e : ixN xs.length i = some j) (h : QH (upd H p (.lst (xs.set j v)))) : rSetd (.ref p) (.int i) v H QH :=
 ⟨_, by simp only [dSet, hp, e, Option.map_some], h⟩
theorem w_and {c d : TT} (h : c σ H fun b H1 => if b = true then d σ H1 QB else QB false H1) : tAnd c d σ H QB := h
theorem w_or {c d : TT} (h : c σ H fun b H1 => if b = true then QB true H1 else d σ H1 QB) : tOr c d σ H QB := h
theorem iteD {p A B : Prop} [Decidable p] (h1 : p → A) (h2 : ¬ p → B) : if decide p = true then A else B := by
 by_cases h : p
 ·rw [decide_eq_true h, if_pos rfl]
  exact h1 h
 ·rw [decide_eq_false h, if_neg Bool.false_ne_true]
  exact h2 h
theorem iteDN {p A B : Prop} [Decidable p] (h1 : ¬ p → A) (h2 : p → B) : if (!decide p) = true then A else B := by
 by_cases h : p
 ·rw [decide_eq_true h]
  exact iteF (h2 h)
 ·rw [decide_eq_false h]
  exact iteT (h1 h)
end
def Has (P : Program) (w : World) (K : PySem.W.Frag) (mg : Str → Option Value) (base : Heap) (k : Nat) (x : Str) (ps : List Str) (sp : Sp) : Prop :=
 ∃ f fd, FnOk P w K mg base CX0 k f fd ps sp ∧ mg x = some (.ref f) ∧ PySem.W.keepIn K (.ref f) = true ∧ Binds K fd ps []
theorem pe_fn {X : Cx} {k j : Nat} {x : Str} {ps : List Str} {sp : Sp} {e : Expr} {es : List Expr} {t : TA} {p pos : Pos} (h : Has X.prog X.w X.K X.mg X.base k x ps sp) (hr : Room j X.A) (hkj : k ≤ j) (ha : PA X (e :: es) t) (hg : Gl X x := by rfl)
  (hdb : (x == ("__debug__" : Str)) = false := by decide) (he : starEach (e :: es) X.env = (false, eval e X.env) :: starEach es X.env := by rfl) (hpl : (backTo pos (starEach es X.env)).any (·.1) = false := by rfl) :
  PE X (.Call (.Name x p) (e :: es) [] pos) (tCall sp [] E0 t) := by
 obtain ⟨f, fd, F, hm, hk, hb⟩ := h
 exact pe_call F (hr.mono hkj) hg hm hk hb .nil pass0 ha hdb he hpl
section
variable {lo : Int} {n : Nat} {D : Addr} {te : TE} {tc : TT} {Q : VK} {ρ : St} {H : Hp}
theorem cgo_range (Pv : Nat → List V → Hp → Prop) (h0 : Pv 0 [] (upd H D (.lst [])))
  (hs : ∀ i ys H', i < n → Pv i ys H' → H' D = some (.lst ys) → ∀ (R : V → Hp → Prop) (S : Hp → Prop), (∀ y H4, H4 D = some (.lst ys) → ys.length < sizeLine → Pv (i + 1) (ys ++ [y]) (upd H4 D (.lst (ys ++ [y]))) → R y H4) → (∀ H3, H3 D = some (.lst ys) → Pv (i + 1) ys H3 → S H3) →
   tc (some (.int (lo + i)) :: ρ) H' fun b H3 => if b = true then te (some (.int (lo + i)) :: ρ) H3 R else S H3)
  (hd : ∀ ys H', Pv n ys H' → H' D = some (.lst ys) → Q (.ref D) H') : CGo (Itr lo n) D (gName 0) tc te Q (none :: ρ) H := by
 refine ⟨fun i m τ ys H' => m = n - i ∧ i ≤ n ∧ (∃ tv, τ = tv :: ρ) ∧ Pv i ys H' ∧ H' D = some (.lst ys), ⟨n, by omega, Nat.zero_le _, ⟨_, rfl⟩, h0, upd_same⟩, ?_⟩
 rintro i m τ ys H' ⟨rfl, hi, ⟨tv, rfl⟩, hp, hD⟩
 refine ⟨hD, ?_⟩
 by_cases hlt : i < n
 ·refine .inr ⟨hlt, ?_⟩
  rintro v H'' ⟨rfl, rfl⟩
  show tc (some (.int (lo + i)) :: ρ) _ _
  exact hs i ys _ hlt hp hD _ _ (fun y H4 a b c => ⟨a, b, n - (i + 1), by omega, rfl, hlt, ⟨_, rfl⟩, c, upd_same⟩) fun H3 a c => ⟨n - (i + 1), by omega, rfl, hlt, ⟨_, rfl⟩, c, a⟩
 ·have e : i = n := by omega
  subst e
  exact .inl ⟨Nat.le_refl _, hd ys _ hp hD⟩
theorem cgo_tup {K : PySem.W.Frag} {a : Addr} {xs : List V} (Pv : Nat → List V → Hp → Prop) (h0 : Pv 0 [] (upd H D (.lst []))) (hl : ∀ i ys H', i ≤ xs.length → Pv i ys H' → SqT K H' a xs)
  (hs : ∀ i x ys H', xs[i]? = some x → Pv i ys H' → H' D = some (.lst ys) → ∀ (R : V → Hp → Prop) (S : Hp → Prop), (∀ y H4, H4 D = some (.lst ys) → ys.length < sizeLine → Pv (i + 1) (ys ++ [y]) (upd H4 D (.lst (ys ++ [y]))) → R y H4) → (∀ H3, H3 D = some (.lst ys) → Pv (i + 1) ys H3 → S H3) →
   tc (some x :: ρ) H' fun b H3 => if b = true then te (some x :: ρ) H3 R else S H3)
  (hd : ∀ ys H', Pv xs.length ys H' → H' D = some (.lst ys) → Q (.ref D) H') : CGo (Itt K a) D (gName 0) tc te Q (none :: ρ) H := by
 refine ⟨fun i m τ ys H' => m = xs.length - i ∧ i ≤ xs.length ∧ (∃ tv, τ = tv :: ρ) ∧ Pv i ys H' ∧ H' D = some (.lst ys), ⟨xs.length, by omega, Nat.zero_le _, ⟨_, rfl⟩, h0, upd_same⟩, ?_⟩
 rintro i m τ ys H' ⟨rfl, hi, ⟨tv, rfl⟩, hp, hD⟩
 refine ⟨hD, ?_⟩
 have sq := hl i ys H' hi hp
 by_cases hlt : i < xs.length
 ·refine .inr ⟨⟨xs, xs[i], sq, by simp [hlt]⟩, ?_⟩
  rintro v H'' ⟨rfl, hv⟩
  have hv' := hv xs sq
  show tc (some v :: ρ) _ _
  exact hs i v ys _ hv' hp hD _ _ (fun y H4 a b c => ⟨a, b, xs.length - (i + 1), by omega, rfl, hlt, ⟨_, rfl⟩, c, upd_same⟩) fun H3 a c => ⟨xs.length - (i + 1), by omega, rfl, hlt, ⟨_, rfl⟩, c, a⟩
 ·have e : i = xs.length := by omega
  subst e
  exact .inl ⟨⟨xs, sq, Nat.le_refl _⟩, hd ys _ hp hD⟩
end
theorem w_all {σ : St} {H : Hp} {Q : Bool → Hp → Prop} (h : Q true H) : tAll σ H Q := h
def relabelS (sc o : Scope) : Scope :=
 { sc with names := sc.names.map fun (n, k) => if (k == .free && o.kind == .function && o.names.lookup n == some .cell) then (n, .cell) else (n, k) }
instance {sc : Scope} {x : Str} : Decidable (Vis sc x) := by unfold Vis; infer_instance
structure BScope (o sc : Scope) (TN F G : List Str) : Prop extends CScope o sc TN F where
 nd : (TN ++ F).Nodup
 vis : ∀ x ∈ TN ++ F, Vis (relabelS sc o) x
 loc : ∀ x ∈ TN, (relabelS sc o).names.lookup x = some .local
 gl : ∀ x ∈ G, (relabelS sc o).names.lookup x = some .globalImplicit
section
variable {X : Cx} {sc : Scope} {TN F G : List Str} {cl : List (Str × Addr)} {C : Addr} {fp : List Addr} {s3 : Shared} {H3 : Hp} {xe : Value → Shared → Prop} {x : Str} {pos : Pos}
theorem pvb (S : BScope X.env.scope sc TN F G) (i : Nat) (hN : (TN ++ F)[i]? = some x := by rfl) (hd : (x == ("__debug__" : Str)) = false := by decide) (hcd : (x == ("__classdict__" : Str)) = false := by decide) : PE (cxC X (TN ++ F) sc cl C fp s3 H3 xe) (.Name x pos) (tVar i) :=
 pe_var hN (S.vis x (List.mem_of_getElem? hN)) hd hcd
theorem pgb (S : BScope X.env.scope sc TN F G) (i : Nat) (hN : (TN ++ F)[i]? = some x := by rfl) (hT : TN[i]? = some x := by rfl) : PG (cxC X (TN ++ F) sc cl C fp s3 H3 xe) (.Name x pos) (gName i) :=
 pg_name S.nd hN (.inl (S.loc x (List.mem_of_getElem? hT))) (.inr (S.loc x (List.mem_of_getElem? hT)))
theorem BScope.g (S : BScope X.env.scope sc TN F G) (i : Nat) (hG : G[i]? = some x := by rfl) : Gl (cxC X (TN ++ F) sc cl C fp s3 H3 xe) x := S.gl x (List.mem_of_getElem? hG)
end
def tVals (vs : List V) : TA := fun _ H Q => Q vs H
theorem w_vals {vs : List V} {σ : St} {H : Hp} {Q : List V → Hp → Prop} (h : Q vs H) : tVals vs σ H Q := h
instance {sc : Scope} {x : Str} : Decidable (Loc sc x) := by unfold Loc; infer_instance
structure Nm (N : List Str) (sc : Scope) : Prop where
 nd : N.Nodup
 loc : ∀ x ∈ N, Loc sc x
section
variable {X : Cx} {x : Str} {pos : Pos}
theorem Loc.vis {sc : Scope} (h : Loc sc x) : Vis sc x := h.elim .inl fun z => .inr (.inl z)
theorem pvd (M : Nm X.N X.env.scope) (i : Nat) (hN : X.N[i]? = some x := by rfl) (hd : (x == ("__debug__" : Str)) = false := by decide) (hcd : (x == ("__classdict__" : Str)) = false := by decide) : PE X (.Name x pos) (tVar i) :=
 pe_var hN (M.loc x (List.mem_of_getElem? hN)).vis hd hcd
theorem ps_setD {e : Expr} {te : TE} {pos' : Pos} (M : Nm X.N X.env.scope) (i : Nat) (he : PE X e te) (hi : X.N[i]? = some x := by rfl) (hs : swapsWith e (some (.Name x pos')) pos.line X.env = pure false := by rfl) (hf : X.fn x = true := by rfl) :
  PS X (.Assign [.Name x pos'] e pos) (tAsg te (gName i)) := ps_set M.nd hi (M.loc x (List.mem_of_getElem? hi)) he hs (.inl hf)
theorem pgd (M : Nm X.N X.env.scope) (i : Nat) (hi : X.N[i]? = some x := by rfl) (hf : X.fn x = true := by rfl) : PG X (.Name x pos) (gName i) := pg_name M.nd hi (M.loc x (List.mem_of_getElem? hi)) (.inl hf)
end
section
variable {X : Cx} {l rest : List Stmt} {st : Stmt} {t u : TS} {e e' : Expr} {te : TE}
end
section
variable {ta : TA} {tl : TE} {n : Nat} {ix : List Nat} {g : TG} {tc : TT} {te : TE} {σ : St} {H : Hp} {Q : VK}
theorem w_compR (h : ta σ H fun vs H1 => ∃ j : Int, vs = [.int j] ∧ -(2 ^ 62) ≤ j ∧ j < 2 ^ 62 ∧ ∀ D, H1 D = none → CGo (Itr 0 j.toNat) D g tc te Q (List.replicate n none ++ sub ix σ) H1) : tComp (iRng1 ta) n ix g tc te σ H Q := h
theorem w_compT {K : PySem.W.Frag} (h : tl σ H fun x H1 => ∃ a, x = .ref a ∧ (∃ xs, SqT K H1 a xs) ∧ ∀ D, H1 D = none → CGo (Itt K a) D g tc te Q (List.replicate n none ++ sub ix σ) H1) : tComp (iTup K tl) n ix g tc te σ H Q := h
end
def ForJ (J : It) (g : TG) (tb : TS) (D : Ends) (σ : St) (H1 : Hp) : Prop := ∃ W : Nat → Nat → St → Hp → Prop, (∃ m, W 0 m σ H1) ∧ ∀ i m σ H, W i m σ H →
 (J.stop i H ∧ D.nx σ H) ∨ (J.go i H ∧ ∃ N : St → Hp → Prop, (∀ σ' H', N σ' H' → ∃ m', m' < m ∧ W (i + 1) m' σ' H') ∧ ∀ x H', J.yld i H x H' → g x σ H' fun σ2 H2 => tb { D with nx := N, ct := N, bk := D.nx } σ2 H2)
theorem w_forR {ta : TA} {g : TG} {tb : TS} {D : Ends} {σ : St} {H : Hp} (h : ta σ H fun vs H1 => ∃ j : Int, vs = [.int j] ∧ -(2 ^ 62) ≤ j ∧ j < 2 ^ 62 ∧ ForJ (Itr 0 j.toNat) g tb D σ H1) : tFor (iRng1 ta) g tb D σ H := h
theorem w_forL {K : PySem.W.Frag} {tl : TE} {g : TG} {tb : TS} {D : Ends} {σ : St} {H : Hp} (h : tl σ H fun x H1 => ∃ a, x = .ref a ∧ (∃ xs, SqL K H1 a xs) ∧ ForJ (Itl K a) g tb D σ H1) : tFor (iList K tl) g tb D σ H := h
def isStar : Expr → Bool
 | .Starred .. => true
 | _ => false
theorem star1 {e : Expr} {es : List Expr} {env : Env} (h : isStar e = false) : starEach (e :: es) env = (false, eval e env) :: starEach es env := by
 cases e <;> first | rfl | cases h
theorem star_any {env : Env} {pos : Pos} : ∀ {es : List Expr}, es.all (fun e => !isStar e) = true → (backTo pos (starEach es env)).any (·.1) = false
 | [], _ => rfl
 | e :: es, h => by
  rw [List.all_cons, Bool.and_eq_true] at h; rw [star1 (by simpa using h.1)]
  cases es with
  | nil => rfl
  | cons a r =>
   have ih := star_any (env := env) (pos := pos) (es := a :: r) h.2
   rw [star1 (by simpa using (by simpa using h.2 : isStar a = false ∧ _).1)] at ih ⊢
   exact ih
section
variable {X : Cx} {e a : Expr} {es : List Expr} {te : TE} {t ta : TA} {x : Str} {p pos : Pos} {tg : Expr} {id T : String} {r : List V → Hp → VK → Prop}
theorem pa_c (ha : PE X e te) (hr : PA X es t) (h : isStar e = false := by rfl) : PA X (e :: es) (tCons te t) := pa_cons ha hr (star1 h)
theorem pi_r1 (hm : X.mg "range" = none) (ha : PA X [a] ta) (hg : Gl X "range" := by rfl) (h : isStar a = false := by rfl) : PI X tg (.Call (.Name "range" p) [a] [] pos) (iRng1 ta) := pi_range1 hg hm ha (star1 h)
theorem pe_cB (hc : CallR X (.builtin id) r) (hm : X.mg x = none) (hv : bootBuiltins x = some (.builtin id)) (ha : PA X (e :: es) t) (hg : Gl X x := by rfl) (h : isStar e = false := by rfl) (h2 : es.all (fun e => !isStar e) = true := by rfl) (hn : x ≠ "__name__" := by decide) (hdb : (x == ("__debug__" : Str)) = false := by decide) :
  PE X (.Call (.Name x p) (e :: es) [] pos) (tCB r t) := pe_callB hc hg hm hv ha hn hdb (star1 h) (star_any h2)
theorem pe_cT (hc : CallR X (.type T) r) (hm : X.mg x = none) (hv : bootBuiltins x = some (.type T)) (ha : PA X (e :: es) t) (hg : Gl X x := by rfl) (h : isStar e = false := by rfl) (h2 : es.all (fun e => !isStar e) = true := by rfl) (hn : x ≠ "__name__" := by decide) (hdb : (x == ("__debug__" : Str)) = false := by decide) :
  PE X (.Call (.Name x p) (e :: es) [] pos) (tCB r t) := pe_callTy hc hg hm hv ha hn hdb (star1 h) (star_any h2)
theorem pe_f {k j : Nat} {ps : List Str} {sp : Sp} (h : Has X.prog X.w X.K X.mg X.base k x ps sp) (hr : Room j X.A) (hkj : k ≤ j) (ha : PA X (e :: es) t) (hg : Gl X x := by rfl) (h1 : isStar e = false := by rfl) (h2 : es.all (fun e => !isStar e) = true := by rfl)
  (hdb : (x == ("__debug__" : Str)) = false := by decide) : PE X (.Call (.Name x p) (e :: es) [] pos) (tCall sp [] E0 t) := pe_fn h hr hkj ha hg hdb (star1 h1) (star_any h2)
end
end L2
namespace L2
theorem pa_1 {X : Cx} {e : PySem.Expr} {te : TE} (ha : PE X e te) (h : isStar e = false := by rfl) : PA X [e] (tCons te tNil) := pa_c ha pa_nil h
theorem pa_2 {X : Cx} {e e' : PySem.Expr} {te te' : TE} (ha : PE X e te) (hb : PE X e' te') (h : isStar e = false := by rfl) (h' : isStar e' = false := by rfl) : PA X [e, e'] (tCons te (tCons te' tNil)) := pa_c ha (pa_1 hb h') h
end L2
namespace L2
open PySem PySem.Spec PyProof.Rows
theorem w_drop {te : TE} {D : Ends} {σ : St} {H : Hp} (h : te σ H fun _ H1 => D.nx σ H1) : tDrop te D σ H := h
theorem w_bm {K : PySem.W.Frag} {T : String} {r : V → List V → Hp → VK → Prop} {to : TE} {t : TA} {σ : St} {H : Hp} {Q : VK} (h : to σ H fun x H1 => tyV K T x H1 ∧ t σ H1 fun xs H2 => r x xs H2 Q) : tBM K T r to t σ H Q := h
mutual
inductive RdV (H : Hp) : V → PyData → Prop
 | non : RdV H .non .none
 | bl (b : Bool) : RdV H (.bl b) (.bool b)
 | int (i : Int) : RdV H (.int i) (.int i)
 | str (x : Str) : RdV H (.str x) (.str x)
 | lst {p : Addr} {xs : List V} {ds : List PyData} : H p = some (.lst xs) → RdVs H xs ds → RdV H (.ref p) (.list ds)
 | tup {p : Addr} {xs : List V} {ds : List PyData} : H p = some (.tup xs) → RdVs H xs ds → RdV H (.ref p) (.tuple ds)
 | ftup {p : Addr} {o : Obj} {xs : List V} {ds : List PyData} : H p = some (.frz o (.tup xs)) → RdVs H xs ds → RdV H (.ref p) (.tuple ds)
inductive RdVs (H : Hp) : List V → List PyData → Prop
 | nil : RdVs H [] []
 | cons {v : V} {d : PyData} {vs : List V} {ds : List PyData} : RdV H v d → RdVs H vs ds → RdVs H (v :: vs) (d :: ds)
end
section
variable {X : Cx} {pins : List (Addr × Obj)} {σ : St} {H : Hp} {s : Shared}
mutual
theorem RdV.reads (I : Inv X pins σ H s) {v : V} {d : PyData} : RdV H v d → ∀ {u : Value}, RelV v u → ∃ as, Reads s.heap u d as
 | .non, u, r => by
  cases r
  exact ⟨[], .none⟩
 | .bl b, u, r => by
  cases r
  exact ⟨[], .bool b⟩
 | .int i, u, r => by
  obtain ⟨t, rfl⟩ := r
  exact ⟨[], .int i t⟩
 | .str x, u, r => by
  obtain ⟨t, rfl⟩ := r
  exact ⟨[], .str x t⟩
 | .lst (p := p) hp h, u, r => by
  cases r
  obtain ⟨its, n, rv, e, z⟩ := I.lst hp
  obtain ⟨as, q⟩ := RdVs.reads I h rv
  exact ⟨p :: as, .list e rfl rfl (by simpa using q)⟩
 | .tup (p := p) hp h, u, r => by
  cases r
  obtain ⟨z, its, rv, o, e, c, n, d⟩ := I.hok p _ hp
  obtain ⟨as, q⟩ := RdVs.reads I h rv
  exact ⟨as, .tuple e c d (by simpa using q)⟩
 | .ftup (p := p) hp h, u, r => by
  cases r
  obtain ⟨_, z, its, rv, o, e, c, n, d⟩ := I.hok p _ hp
  obtain ⟨as, q⟩ := RdVs.reads I h rv
  exact ⟨as, .tuple e c d (by simpa using q)⟩
theorem RdVs.reads (I : Inv X pins σ H s) {vs : List V} {ds : List PyData} : RdVs H vs ds → ∀ {us : List Value}, Vals vs us → ∃ as, ReadsAll s.heap us ds as
 | .nil, us, r => by
  cases r
  exact ⟨[], .nil⟩
 | .cons h hs, us, r => by
  cases r with
  | cons r1 r2 =>
   obtain ⟨as, q⟩ := RdV.reads I h r1
   obtain ⟨bs, q2⟩ := RdVs.reads I hs r2
   exact ⟨as ++ bs, .cons q q2⟩
end
end
theorem rdInts {H : Hp} : ∀ (ns : List Int), RdVs H (ns.map V.int) (ns.map PyData.int)
 | [] => .nil
 | n :: ns => .cons (.int n) (rdInts ns)
section
variable {X : Cx} {k : Nat}
def rEqD : R2 := fun x y H Q => ∃ dx dy, RdV H x dx ∧ RdV H y dy ∧ dx.canLay0 = true ∧ dy.canLay0 = true ∧ dx.depth ≤ 60 ∧ Q (.bl (PyData.eqv dx dy)) H
theorem op_eqD (hr : Room k X.A) : OpR X (compareOp .Eq) rEqD := by
 intro pins s σ H x y v u Q I rx ry h
 obtain ⟨dx, dy, hx, hy, cx, cy, hd, q⟩ := h
 obtain ⟨as, ra⟩ := hx.reads I rx
 obtain ⟨bs, rb⟩ := hy.reads I ry
 have := hr.units
 exact SeqAt.compareEq_reads ra rb cx cy (by omega) ⟨.bl _, H, I, rfl, q⟩
def rRepr : List V → Hp → VK → Prop := fun xs H Q => ∃ v d, xs = [v] ∧ RdV H v d ∧ d.showable = true ∧ d.hasDict = false ∧ d.depth ≤ 50 ∧ d.shown.length ≤ sizeLine ∧ Q (.str d.shown) H
theorem call_repr (hr : Room k X.A) : CallR X (.builtin "repr") rRepr := by
 intro pins s σ H xs us Q I r h
 obtain ⟨v, d, rfl, hv, h1, h2, h3, h4, q⟩ := h
 obtain ⟨u, rfl, ru⟩ := r.one
 have hu := hr.units
 cases hv with
 | non =>
  cases ru
  exact PySem.P.repr_of_none ⟨.str _, H, I.tok _, ⟨_, rfl⟩, q⟩
 | bl b =>
  cases ru
  exact PySem.P.repr_of_bool ⟨.str _, H, I.tok _, ⟨_, rfl⟩, q⟩
 | int i =>
  obtain ⟨t, rfl⟩ := ru
  exact PySem.P.repr_of_int (by simpa [PyData.showable] using h1) ⟨.str _, H, I.tok _, ⟨_, rfl⟩, q⟩
 | str x =>
  obtain ⟨t, rfl⟩ := ru
  exact PySem.P.repr_of_str ⟨.str _, H, I.tok _, ⟨_, rfl⟩, q⟩ h4
 | lst hp hs =>
  obtain ⟨as, ra⟩ := RdV.reads I (.lst hp hs) ru
  cases ru
  exact repr_of_reads' ra h1 (fun z => by rw [h2] at z; cases z) hr.gd (by omega) (fun _ _ e => e) (fun h' u tk hk => ⟨.str _, H, I.kept hk, ⟨_, rfl⟩, q⟩) h4
 | tup hp hs =>
  obtain ⟨as, ra⟩ := RdV.reads I (.tup hp hs) ru
  cases ru
  exact repr_of_reads' ra h1 (fun z => by rw [h2] at z; cases z) hr.gd (by omega) (fun _ _ e => e) (fun h' u tk hk => ⟨.str _, H, I.kept hk, ⟨_, rfl⟩, q⟩) h4
 | ftup hp hs =>
  obtain ⟨as, ra⟩ := RdV.reads I (.ftup hp hs) ru
  cases ru
  exact repr_of_reads' ra h1 (fun z => by rw [h2] at z; cases z) hr.gd (by omega) (fun _ _ e => e) (fun h' u tk hk => ⟨.str _, H, I.kept hk, ⟨_, rfl⟩, q⟩) h4
end
theorem eqv_ints : ∀ (ns ms : List Int), PyData.eqvAll (ns.map PyData.int) (ms.map PyData.int) = decide (ns = ms)
 | [], [] => by simp only [List.map_nil, PyData.eqvAll, decide_true]
 | [], m :: ms => by simp [PyData.eqvAll]
 | n :: ns, [] => by simp [PyData.eqvAll]
 | n :: ns, m :: ms => by
  simp only [List.map_cons, PyData.eqvAll, PyData.eqv, eqv_ints ns ms]
  by_cases h : n = m
  ·subst h; simp
  ·simp [h]
theorem lay_ints : ∀ (ns : List Int), PyData.canLayAll0 (ns.map PyData.int) = true
 | [] => rfl
 | n :: ns => by simp [PyData.canLayAll0, PyData.canLay0, lay_ints ns]
theorem depth_ints : ∀ (ns : List Int), PyData.depthAll (ns.map PyData.int) = 0
 | [] => rfl
 | n :: ns => by simp [PyData.depthAll, PyData.depth, depth_ints ns]
theorem w_eqL {H : Hp} {Q : VK} {p q : Addr} {ns ms : List Int} (hp : H p = some (.lst (ns.map V.int))) (hq : H q = some (.lst (ms.map V.int))) (h : Q (.bl (decide (ns = ms))) H) : rEqD (.ref p) (.ref q) H Q := by
 refine ⟨_, _, .lst hp (rdInts ns), .lst hq (rdInts ms), lay_ints ns, lay_ints ms, ?_, ?_⟩
 ·show PyData.depthAll _ + 1 ≤ 60
  rw [depth_ints]
  decide
 ·show Q (.bl (PyData.eqvAll _ _)) H
  rw [eqv_ints]
  exact h
section
variable {X : Cx}
theorem vals_of : ∀ {xs : List V} {us : List Value}, xs.length = us.length → (∀ (j : Nat) (x : V) (u : Value), xs[j]? = some x → us[j]? = some u → RelV x u) → Vals xs us
 | [], [], _, _ => .nil
 | [], v :: vs, h, _ => absurd h (by simp)
 | v :: vs, [], h, _ => absurd h (by simp)
 | x :: xs, u :: us, h, k => .cons (k 0 x u rfl rfl) (vals_of (by simpa using h) fun j y v e1 e2 => k (j + 1) y v (by simpa using e1) (by simpa using e2))
def rRange : List V → Hp → VK → Prop := fun xs H Q => ∃ j : Int, xs = [.int j] ∧ ∀ r, H r = none → Q (.ref r) (upd H r (.rng 0 j))
theorem call_rangeV : CallR X (.type "range") rRange := by
 intro pins s σ H xs us Q I r h
 obtain ⟨j, rfl, q⟩ := h
 obtain ⟨u, rfl, ru⟩ := r.one
 obtain ⟨t, rfl⟩ := ru
 refine call_range_1 ⟨.ref _, _, I.laid (fun b o e => Heap.get?_push_of_some _ e) (Nat.le_refl _) ?_, rfl, q _ I.fresh⟩
 exact ⟨_, _, _, Heap.get?_push_size _ rfl⟩
def rListR : List V → Hp → VK → Prop := fun xs H Q => ∃ (p : Addr) (n : Nat), xs = [.ref p] ∧ H p = some (.rng 0 (n : Int)) ∧ n ≤ 1000 ∧ ∀ l, H l = none → Q (.ref l) (upd H l (.lst ((List.range n).map fun (i : Nat) => V.int (i : Int))))
theorem call_listRng (hc : X.calm = true) : CallR X (.type "list") rListR := by
 intro pins s σ H xs us Q I r h
 obtain ⟨p, n, rfl, hp, hn, q⟩ := h
 obtain ⟨u, rfl, ru⟩ := r.one
 cases ru
 obtain ⟨t, u, v, e⟩ := I.hok p _ hp
 refine call_list_range (n := n) (I.ok.hd hc) e (small_one (by omega) (by omega) (by omega) (by omega)) (by rw [rangeSize_one]; split <;> omega) (by omega) fun h' tk acc' c' hk hS hacc => ?_
 refine ⟨.ref _, _, I.laid (t' := tk) hk (Nat.le_refl _) ?_, rfl, q _ I.fresh⟩
 obtain ⟨hsz, hit⟩ := hacc
 refine ⟨by rw [List.length_map, List.length_range]; exact Nat.le_of_lt (small1000 hn), acc'.toList, c', vals_of (by simp [hsz]) fun j x u ex eu => ?_, hS⟩
 have hj : j < n := by
  have := (List.getElem?_eq_some_iff.mp ex).1
  simpa using this
 rw [List.getElem?_map, List.getElem?_range hj] at ex
 have ex' : V.int (j : Int) = x := Option.some.inj ex
 subst ex'
 obtain ⟨t, ht⟩ := hit j u (by simpa using eu)
 exact ⟨t, by rw [ht]; congr 1; omega⟩
end
section
variable {X : Cx}
end
section
variable {prog : Program} {w : World} {A : Around} {E : Value → Shared → Prop} {s : Shared}
theorem nextT_item {j t : Addr} {i : Nat} {its : Array Value} {v : Value} {Q : Value → Shared → Prop} (J : s.heap.IsTupleIter j t i) (T : s.heap.IsTuple t its) (e : its[i]? = some v)
  (k : ∀ h', h'.IsTupleIter j t (i + 1) → Heap.SameBut j s.heap h' → Q v { s with heap := h' }) : wpAny (model prog w) A (Builtin.SmallTypes.nextOf (.ref j)) Q E s := by
 obtain ⟨o, ho, hc, hd⟩ := id J; obtain ⟨ot, hot, _, n, hdt⟩ := T
 unfold Builtin.SmallTypes.nextOf; refine wpAny_bind (wpAny_callSpecial?_slot (name := Str.ofString "__next__") J.typeIs F.slot_tuple_iterator_next (wpAny_call_entry F.slot_tuple_iterator_next J.typeIs F.entry_tuple_iterator_next ?_ (F.args_tuple_iterator_next_1 _)))
 show wpAny _ _ (field (.ref j) 0 >>= _) _ _ s; refine wpAny_bind (wpAny_field ho hd (x := .ref t) rfl ?_)
 show wpAny _ _ (if (Value.ref t == Value.none) = true then _ else _) _ _ s; rw [if_neg (show ¬ ((Value.ref t == Value.none) = true) from Bool.false_ne_true)]
 show wpAny _ _ (field (.ref j) 1 >>= _) _ _ s; refine wpAny_bind (wpAny_field ho hd (x := .int i 0) rfl ?_)
 show wpAny _ _ (seqItems? (.ref t) >>= _) _ _ s; refine wpAny_bind (wpAny_seqItems hot hdt ?_)
 simp only [Int.toNat_natCast, e]
 refine wpAny_bind (wpAny_setField ho hd (by simp) (wpAny_pure ⟨v, rfl, wpAny_pure (k _ ?_ (Heap.SameBut.update ..))⟩))
 exact ⟨_, Heap.get?_update_self _ ho (Obj.isFreed_of_fields (Obj.data_mapFields hd _)), (Obj.cls_mapFields ..).trans hc, by rw [Obj.data_mapFields hd]; simp [rawInt]⟩
theorem nextT_end {j t : Addr} {i : Nat} {its : Array Value} {Q : Value → Shared → Prop} (hh : A.handled = none) (J : s.heap.IsTupleIter j t i) (T : s.heap.IsTuple t its) (e : its[i]? = none)
  (k : ∀ h' x, Heap.ExtBut j s.heap h' → (∃ o, h'.get? x = some o ∧ o.cls = .type "StopIteration") → E (.ref x) { s with heap := h' }) : wpAny (model prog w) A (Builtin.SmallTypes.nextOf (.ref j)) Q E s := by
 obtain ⟨o, ho, hc, hd⟩ := id J; obtain ⟨ot, hot, _, n, hdt⟩ := T
 unfold Builtin.SmallTypes.nextOf; refine wpAny_bind (wpAny_callSpecial?_slot (name := Str.ofString "__next__") J.typeIs F.slot_tuple_iterator_next (wpAny_call_entry F.slot_tuple_iterator_next J.typeIs F.entry_tuple_iterator_next ?_ (F.args_tuple_iterator_next_1 _)))
 show wpAny _ _ (field (.ref j) 0 >>= _) _ _ s; refine wpAny_bind (wpAny_field ho hd (x := .ref t) rfl ?_)
 show wpAny _ _ (if (Value.ref t == Value.none) = true then _ else _) _ _ s; rw [if_neg (show ¬ ((Value.ref t == Value.none) = true) from Bool.false_ne_true)]
 show wpAny _ _ (field (.ref j) 1 >>= _) _ _ s; refine wpAny_bind (wpAny_field ho hd (x := .int i 0) rfl ?_)
 show wpAny _ _ (seqItems? (.ref t) >>= _) _ _ s; refine wpAny_bind (wpAny_seqItems hot hdt ?_)
 simp only [Int.toNat_natCast, e]; refine wpAny_bind (wpAny_rule (wpAny_bind (wpAny_setField ho hd (by simp) ?_)))
 show wpAny _ _ (newExc (.type "StopIteration") [] >>= _) _ _ _; refine wpAny_bind ?_; simp only [newExc, newTuple]
 refine wpAny_bind (wpAny_newObj_type ?_ (by size_fits)); refine wpAny_bind (m := firstArgMember _ _) (wpAny_of_eq (a := Value.none) (by first | rfl | (simp only [firstArgMember]; rfl)) ?_)
 refine wpAny_newObj_type ?_ (by size_fits); simp only [raiseNew]; refine wpAny_bind (wpAny_handled ?_)
 (first | rw [show A.in1.handled = none from hh] | rw [hh]); refine wpAny_bind (wpAny_pure (wpAny_throw ?_)); exact k _ _ (((Heap.SameBut.update ..).extBut.push _).push _) ⟨_, Heap.get?_push_size _ rfl, rfl⟩
end
section
variable {prog : Program} {w : World} {A : Around} {E : Value → Shared → Prop} {s : Shared}
end
section
variable {X : Cx} {pins : List (Addr × Obj)} {σ : St} {H : Hp} {s : Shared}
theorem Inv.turnNew {h' : Heap} {tk : Nat} {ch : List Addr} {T : Addr} {xs : List V} {vals : List Value} (I : Inv X pins σ H s) (hf : ∀ b ∈ ch, FpOk X pins H b) (k : ∀ b o, b ∉ ch → s.heap.get? b = some o → h'.get? b = some o) (ht : ∀ b ∈ ch, ∃ o, h'.get? b = some o)
  (hT : s.heap.objs.size ≤ T) (r : Vals xs vals) (hz : xs.length ≤ sizeLine) (hv : h'.IsTuple T vals.toArray) : Inv X pins σ (upd H T (.tup xs)) { s with heap := h', toks := tk } := by
 have hn : H T = none := I.hok.fresh hT
 have nT : ∀ b o, s.heap.get? b = some o → b ≠ T := fun b o e z => absurd (Nat.lt_of_lt_of_le (Heap.lt_size e) (z ▸ hT)) (Nat.lt_irrefl _)
 have nc : ∀ b u, H b = some u → b ∉ ch := fun b u e z => by rw [(hf b z).1] at e; cases e
 refine I.step (g' := s.gens) (d' := s.drawn) (ch := ch) (fun b hb => ⟨(hf b hb).2.2.2.1, (hf b hb).2.1, (hf b hb).2.2.2.2.1, (hf b hb).2.2.2.2.2⟩) (fun b o _ _ hc e _ => k b o hc e) (fun b o _ _ hc e _ => ⟨o.slots, k b o hc e⟩)
  (fun b o _ e n => by rw [upd_ne (nT b o e)]; exact n) (fun b o hc e => ⟨o, k b o hc e⟩) (fun b ys e => by rw [upd_ne (ne_of_none e hn)]; exact e) (fun b o u e => by rw [upd_ne (ne_of_none e hn)]; exact e)
  (fun b ps e => ⟨#[], by rw [upd_ne (ne_of_none e hn), e]; simp⟩) (fun m hm => ?_) (fun b u e => ?_) I.bare
 ·obtain ⟨o, es, ep, ho, q⟩ := hm
  exact ⟨o, es, ep, k _ o (fun z => (hf _ z).2.1 rfl) ho, q⟩
 ·by_cases hb : b = T
  ·subst hb
   rw [upd_same] at e
   cases e
   exact ⟨hz, vals, r, hv⟩
  ·rw [upd_ne hb] at e
   refine (I.hok b u e).stay (fun c v hc q => k c v ?_ q) (fun c q => by rw [upd_ne (ne_of_none q hn)]; exact q) fun c ys q => by rw [upd_ne (ne_of_none q hn)]; exact q
   rcases hc with z | z
   ·rw [z]; exact nc b u e
   ·exact nc c _ z
theorem Inv.turnOnly {h' : Heap} {tk : Nat} {ch : List Addr} (I : Inv X pins σ H s) (hf : ∀ b ∈ ch, FpOk X pins H b) (k : ∀ b o, b ∉ ch → s.heap.get? b = some o → h'.get? b = some o) : Inv X pins σ H { s with heap := h', toks := tk } := by
 have nc : ∀ b u, H b = some u → b ∉ ch := fun b u e z => by rw [(hf b z).1] at e; cases e
 refine I.step (g' := s.gens) (d' := s.drawn) (ch := ch) (fun b hb => ⟨(hf b hb).2.2.2.1, (hf b hb).2.1, (hf b hb).2.2.2.2.1, (hf b hb).2.2.2.2.2⟩) (fun b o _ _ hc e _ => k b o hc e) (fun b o _ _ hc e _ => ⟨o.slots, k b o hc e⟩)
  (fun b o _ e n => n) (fun b o hc e => ⟨o, k b o hc e⟩) (fun b ys e => e) (fun b o u e => e) (fun b ps e => ⟨#[], by rw [e]; simp⟩) (fun m hm => ?_) (fun b u e => ?_) I.bare
 ·obtain ⟨o, es, ep, ho, q⟩ := hm
  exact ⟨o, es, ep, k _ o (fun z => (hf _ z).2.1 rfl) ho, q⟩
 ·refine (I.hok b u e).stay (fun c v hc q => k c v ?_ q) (fun c q => q) fun c ys q => q
  rcases hc with z | z
  ·rw [z]; exact nc b u e
  ·exact nc c _ z
end
section
variable {X : Cx} {es : List Expr} {kt : Nat} {pt : Pos}
end
section
variable {prog : Program} {w : World} {A : Around} {E : Value → Shared → Prop} {s : Shared}
theorem tupX {h h' : Heap} {t a : Addr} {its : Array Value} (T : h.IsTuple t its) (x : Heap.ExtBut a h h') (n : t ≠ a) : h'.IsTuple t its := let ⟨o, e, r⟩ := T; ⟨o, x t o n e, r⟩
theorem tupJ {h h' : Heap} {j t a : Addr} {i : Nat} (J : h.IsTupleIter j t i) (x : Heap.ExtBut a h h') (n : j ≠ a) : h'.IsTupleIter j t i := J.at fun o e => x j o n e
theorem zipT_item {z TI TO i1 i2 l1 l2 : Addr} {k1 k2 : Nat} {xs ys : Array Value} {x y a b : Value} {Q : Value → Shared → Prop} (D : ZipApart z TI TO i1 i2 l1 l2) (hz : IsZip s.heap z TI TO .none) (hTI : IsPair s.heap TI (.ref i1) (.ref i2)) (hTO : IsPair s.heap TO a b)
  (h1 : s.heap.IsTupleIter i1 l1 k1) (h2 : s.heap.IsTupleIter i2 l2 k2) (hl1 : s.heap.IsTuple l1 xs) (hl2 : s.heap.IsTuple l2 ys) (hx : xs[k1]? = some x) (hy : ys[k2]? = some y)
  (hQ : ∀ h', IsZip h' z TI TO (rawInt s.heap.objs.size) → IsPair h' TO x y → h'.IsTupleIter i1 l1 (k1 + 1) → h'.IsTupleIter i2 l2 (k2 + 1) → IsPair h' s.heap.objs.size x y →
   (∀ d o, d ≠ z → d ≠ TO → d ≠ i1 → d ≠ i2 → s.heap.get? d = some o → h'.get? d = some o) → Q (.ref s.heap.objs.size) { s with heap := h' }) :
  wpAny (model prog w) A (Builtin.«zip.__next__» ⟨[.ref z], []⟩) (fun f s' => ∃ v, f = .done (.ret v) ∧ Q v s') E s := by
 show wpAny _ _ (field (.ref z) 2 >>= _) _ _ _; refine wpAny_bind (wpAny_field hz rfl (x := .bool false) rfl ?_)
 show wpAny _ _ (field (.ref z) 3 >>= _) _ _ _; refine wpAny_bind (wpAny_field hz rfl (x := .ref TI) rfl ?_)
 refine wpAny_bind (wpAny_seqItems hTI rfl ?_); show wpAny _ _ (Builtin.SmallTypes.ownedTupleIsFree (.ref z) >>= _) _ _ _
 refine wpAny_bind ?_; unfold Builtin.SmallTypes.ownedTupleIsFree
 refine wpAny_bind (wpAny_field hz rfl (x := .none) rfl (wpAny_pure ?_)); simp only [if_true]
 refine wpAny_bind (wpAny_rule ?_); refine wpAny_bind (wpAny_field hz rfl (x := .ref TO) rfl ?_)
 refine wpAny_bind (wpAny_setField_rec hz (by simp) fun g1 zz1 s1 => ?_); replace zz1 : IsZip g1 z TI TO .ellipsis := zz1
 refine wpAny_bind ?_; simp only [List.zipIdx_cons, List.zipIdx_nil, List.forIn_cons, List.forIn_nil]
 refine wpAny_bind (wpAny_bind (wpAny_onRaise ?_)); show wpAny _ _ (Builtin.SmallTypes.nextOf (.ref i1) >>= _) _ _ _
 refine wpAny_bind (nextT_item (tupJ h1 s1.extBut D.i1z) (tupX hl1 s1.extBut D.l1z) hx fun g2 j2 s2 => wpAny_pure ?_)
 have o2 : IsPair g2 TO a b := s2.extBut _ _ D.TOi1 (s1.extBut _ _ D.TOz hTO)
 refine wpAny_bind (wpAny_seqItems o2 rfl ?_); refine wpAny_bind (wpAny_updateSeq_pair o2 fun g3 o3 s3 => ?_); replace o3 : IsPair g3 TO x b := o3
 refine wpAny_bind (wpAny_letGo (wpAny_pure ?_)); refine wpAny_bind (wpAny_bind (wpAny_onRaise ?_)); show wpAny _ _ (Builtin.SmallTypes.nextOf (.ref i2) >>= _) _ _ _
 refine wpAny_bind (nextT_item (tupJ (tupJ (tupJ h2 s1.extBut D.i2z) s2.extBut D.i12.symm) s3.extBut D.TOi2.symm) (tupX (tupX (tupX hl2 s1.extBut D.l2z) s2.extBut D.l2i1) s3.extBut D.l2TO) hy fun g4 j4 s4 => wpAny_pure ?_)
 have o4 : IsPair g4 TO x b := s4.extBut _ _ D.TOi2 o3
 refine wpAny_bind (wpAny_seqItems o4 rfl ?_); refine wpAny_bind (wpAny_updateSeq_pair o4 fun g5 o5 s5 => ?_); replace o5 : IsPair g5 TO x y := o5
 refine wpAny_bind (wpAny_letGo (wpAny_pure (wpAny_pure ?_))); refine wpAny_bind (wpAny_seqItems o5 rfl ?_); refine wpAny_bind (wpAny_newTuple ?_)
 have sz : g5.objs.size = s.heap.objs.size := by rw [s5.1, s4.1, s3.1, s2.1, s1.1]
 have z5 : IsZip g5 z TI TO .ellipsis := s5.extBut _ _ D.TOz.symm (s4.extBut _ _ D.i2z.symm (s3.extBut _ _ D.TOz.symm (s2.extBut _ _ D.i1z.symm zz1)))
 have k5 : ∀ c o, c ≠ z → c ≠ TO → c ≠ i1 → c ≠ i2 → s.heap.get? c = some o → g5.get? c = some o := fun c o c1 c2 c3 c4 q => s5.extBut _ _ c2 (s4.extBut _ _ c4 (s3.extBut _ _ c2 (s2.extBut _ _ c3 (s1.extBut _ _ c1 q))))
 have a5 : g5.IsTupleIter i1 l1 (k1 + 1) := tupJ (tupJ (tupJ j2 s3.extBut D.TOi1.symm) s4.extBut D.i12) s5.extBut D.TOi1.symm
 have b5 : g5.IsTupleIter i2 l2 (k2 + 1) := tupJ j4 s5.extBut D.TOi2.symm
 have zlt : z < g5.objs.size := Heap.lt_size z5
 show wpAny _ _ (Builtin.SmallTypes.ownedTupleHandOut (.ref z) (.ref g5.objs.size) >>= _) _ _ _; refine wpAny_bind ?_; unfold Builtin.SmallTypes.ownedTupleHandOut
 have z6 : IsZip (g5.push { cls := .type "tuple", data := .seq #[x, y] }) z TI TO .ellipsis := Heap.get?_push_of_some _ z5
 refine wpAny_bind (wpAny_setField_rec z6 (by simp) fun g7 z7 s7 => ?_); replace z7 : IsZip g7 z TI TO (rawInt g5.objs.size) := z7
 refine wpAny_setField_rec z7 (by simp) fun g8 z8 s8 => ?_; replace z8 : IsZip g8 z TI TO (rawInt g5.objs.size) := z8
 have up : ∀ c o, c ≠ z → g5.get? c = some o → g8.get? c = some o := fun c o c1 q => s8.extBut _ _ c1 (s7.extBut _ _ c1 (Heap.get?_push_of_some _ q))
 have t8 : IsPair g8 g5.objs.size x y := s8.extBut _ _ (Nat.ne_of_gt zlt) (s7.extBut _ _ (Nat.ne_of_gt zlt) (Heap.get?_push_size _ rfl))
 rw [sz] at z8 t8; refine wpAny_pure ⟨_, rfl, ?_⟩; show Q (.ref g5.objs.size) _; rw [sz]
 exact hQ g8 z8 (up _ _ D.TOz o5) (a5.at fun o q => up _ o D.i1z q) (b5.at fun o q => up _ o D.i2z q) t8 fun c o c1 c2 c3 c4 q => up c o c1 (k5 c o c1 c2 c3 c4 q)
theorem zipT_end {z TI TO i1 i2 l1 l2 : Addr} {k1 k2 : Nat} {xs ys : Array Value} {a b : Value} {Q : Fin → Shared → Prop} (hh : A.handled = none) (D : ZipApart z TI TO i1 i2 l1 l2) (hz : IsZip s.heap z TI TO .none) (hTI : IsPair s.heap TI (.ref i1) (.ref i2)) (hTO : IsPair s.heap TO a b)
  (h1 : s.heap.IsTupleIter i1 l1 k1) (h2 : s.heap.IsTupleIter i2 l2 k2) (hl1 : s.heap.IsTuple l1 xs) (hl2 : s.heap.IsTuple l2 ys) (hend : xs[k1]? = none ∨ ys[k2]? = none)
  (hE : ∀ h' e, (∀ d o, d ≠ z → d ≠ TO → d ≠ i1 → d ≠ i2 → s.heap.get? d = some o → h'.get? d = some o) → (∃ o, h'.get? e = some o ∧ o.cls = .type "StopIteration") → E (.ref e) { s with heap := h' }) : wpAny (model prog w) A (Builtin.«zip.__next__» ⟨[.ref z], []⟩) Q E s := by
 show wpAny _ _ (field (.ref z) 2 >>= _) _ _ _; refine wpAny_bind (wpAny_field hz rfl (x := .bool false) rfl ?_)
 show wpAny _ _ (field (.ref z) 3 >>= _) _ _ _; refine wpAny_bind (wpAny_field hz rfl (x := .ref TI) rfl ?_)
 refine wpAny_bind (wpAny_seqItems hTI rfl ?_); show wpAny _ _ (Builtin.SmallTypes.ownedTupleIsFree (.ref z) >>= _) _ _ _
 refine wpAny_bind ?_; unfold Builtin.SmallTypes.ownedTupleIsFree
 refine wpAny_bind (wpAny_field hz rfl (x := .none) rfl (wpAny_pure ?_)); simp only [if_true]
 refine wpAny_bind (wpAny_rule ?_); refine wpAny_bind (wpAny_field hz rfl (x := .ref TO) rfl ?_)
 refine wpAny_bind (wpAny_setField_rec hz (by simp) fun g1 zz1 s1 => ?_); replace zz1 : IsZip g1 z TI TO .ellipsis := zz1
 refine wpAny_bind ?_; simp only [List.zipIdx_cons, List.zipIdx_nil, List.forIn_cons, List.forIn_nil]
 refine wpAny_bind (wpAny_bind (wpAny_onRaise ?_)); show wpAny _ _ (Builtin.SmallTypes.nextOf (.ref i1) >>= _) _ _ _
 cases hx : xs[k1]? with
 | none =>
  refine wpAny_bind (nextT_end hh (tupJ h1 s1.extBut D.i1z) (tupX hl1 s1.extBut D.l1z) hx fun g2 e s2 he => ?_)
  obtain ⟨oe, hoe, hce⟩ := he; have z2 : IsZip g2 z TI TO .ellipsis := s2 _ _ D.i1z.symm zz1
  have ez : e ≠ z := fun q => by subst q; rw [z2] at hoe; cases hoe; simp at hce
  refine wpAny_setField_rec z2 (by simp) fun g3 _ s3 => hE g3 e (fun c o c1 _ c3 _ q => s3.extBut _ _ c1 (s2 _ _ c3 (s1.extBut _ _ c1 q))) ⟨oe, s3.extBut _ _ ez hoe, hce⟩
 | some x =>
  have hy : ys[k2]? = none := by rcases hend with q | q; rw [hx] at q; cases q; exact q
  refine wpAny_bind (nextT_item (tupJ h1 s1.extBut D.i1z) (tupX hl1 s1.extBut D.l1z) hx fun g2 j2 s2 => wpAny_pure ?_)
  have o2 : IsPair g2 TO a b := s2.extBut _ _ D.TOi1 (s1.extBut _ _ D.TOz hTO)
  refine wpAny_bind (wpAny_seqItems o2 rfl ?_); refine wpAny_bind (wpAny_updateSeq_pair o2 fun g3 o3 s3 => ?_); refine wpAny_bind (wpAny_letGo (wpAny_pure ?_))
  refine wpAny_bind (wpAny_bind (wpAny_onRaise ?_)); show wpAny _ _ (Builtin.SmallTypes.nextOf (.ref i2) >>= _) _ _ _
  refine wpAny_bind (nextT_end hh (tupJ (tupJ (tupJ h2 s1.extBut D.i2z) s2.extBut D.i12.symm) s3.extBut D.TOi2.symm) (tupX (tupX (tupX hl2 s1.extBut D.l2z) s2.extBut D.l2i1) s3.extBut D.l2TO) hy fun g4 e s4 he => ?_)
  obtain ⟨oe, hoe, hce⟩ := he; have z4 : IsZip g4 z TI TO .ellipsis := s4 _ _ D.i2z.symm (s3.extBut _ _ D.TOz.symm (s2.extBut _ _ D.i1z.symm zz1))
  have ez : e ≠ z := fun q => by subst q; rw [z4] at hoe; cases hoe; simp at hce
  refine wpAny_setField_rec z4 (by simp) fun g5 _ s5 => hE g5 e (fun c o c1 c2 c3 c4 q => s5.extBut _ _ c1 (s4 _ _ c4 (s3.extBut _ _ c2 (s2.extBut _ _ c3 (s1.extBut _ _ c1 q))))) ⟨oe, s5.extBut _ _ ez hoe, hce⟩
end
abbrev zpH1 (h : Heap) (a : Addr) : Heap := h.push { cls := .type "tuple_iterator", data := .fields #[.ref a, .int 0 0] }
abbrev zpH2 (h : Heap) (a b : Addr) : Heap := (zpH1 h a).push { cls := .type "tuple_iterator", data := .fields #[.ref b, .int 0 0] }
abbrev zpH3 (h : Heap) (a b : Addr) : Heap := (zpH2 h a b).push { cls := .type "tuple", data := .seq #[.ref h.objs.size, .ref (zpH1 h a).objs.size] }
abbrev zpH4 (h : Heap) (a b : Addr) : Heap := (zpH3 h a b).push { cls := .type "tuple", data := .seq #[.none, .none] }
abbrev zpH5 (h : Heap) (a b : Addr) : Heap := (zpH4 h a b).push { cls := .type "zip", data := .fields #[.none, .bool false, .bool false, .ref (zpH2 h a b).objs.size, .ref (zpH3 h a b).objs.size] }
theorem zp_new (a b : Addr) (xs ys : Array Value) : Meets (Builtin.«zip.__new__» ⟨[.type "zip", .ref a, .ref b], []⟩) (fun _ R s => s.heap.IsTuple a xs ∧ s.heap.IsTuple b ys ∧ R (.ok (.ret (.ref (zpH4 s.heap a b).objs.size))) { s with heap := zpH5 s.heap a b }) :=
 .of_wp fun prog w A R s h => by
  obtain ⟨hp, g, d, tk, os⟩ := s; obtain ⟨hA, hB, h⟩ := h; have hsub := sub_zip
  have tA : Heap.IsTuple (Shared.heap ⟨hp, g, d, tk, os⟩) a xs := hA
  have tB : Heap.IsTuple (Shared.heap ⟨hp.push { cls := .type "tuple_iterator", data := .fields #[.ref a, .int 0 0] }, g, d, tk, os⟩) b ys := let ⟨o, e, r⟩ := hB; ⟨o, Heap.get?_push_of_some _ e, r⟩
  wp_walk using wpAny_pyIter_tuple tA, wpAny_pyIter_tuple tB
  exact ⟨_, rfl, h⟩
section
variable {prog : Program} {w : World} {A : Around} {E : Value → Shared → Prop} {s : Shared}
theorem call_zp {a b : Addr} {xs ys : Array Value} {Q : Value → Shared → Prop} (hA : s.heap.IsTuple a xs) (hB : s.heap.IsTuple b ys)
  (k : ∀ h', IsZip h' (s.heap.objs.size + 4) (s.heap.objs.size + 2) (s.heap.objs.size + 3) .none → IsPair h' (s.heap.objs.size + 2) (.ref s.heap.objs.size) (.ref (s.heap.objs.size + 1)) → IsPair h' (s.heap.objs.size + 3) .none .none →
   h'.IsTupleIter s.heap.objs.size a 0 → h'.IsTupleIter (s.heap.objs.size + 1) b 0 → (∀ c o, s.heap.get? c = some o → h'.get? c = some o) → Q (.ref (s.heap.objs.size + 4)) { s with heap := h' }) :
  wpAny (model prog w) A (call (.type "zip") [.ref a, .ref b]) Q E s := by
 refine callType_new F.called_zip (by decide) (F.typeCall_zip_2 _ _) (F.newCall_zip_2 _ _) (fun obj => F.args_object_init_3 obj _ _) F.entry_zip_new (zp_new a b xs ys) ⟨hA, hB, ?_⟩
 have z1 : (zpH1 s.heap a).objs.size = s.heap.objs.size + 1 := Heap.size_push ..
 have z2 : (zpH2 s.heap a b).objs.size = s.heap.objs.size + 2 := by rw [Heap.size_push, z1]
 have z3 : (zpH3 s.heap a b).objs.size = s.heap.objs.size + 3 := by rw [Heap.size_push, z2]
 have z4 : (zpH4 s.heap a b).objs.size = s.heap.objs.size + 4 := by rw [Heap.size_push, z3]
 have g5 : (zpH5 s.heap a b).get? (zpH4 s.heap a b).objs.size = some _ := Heap.get?_push_size _ rfl
 have g4 : (zpH5 s.heap a b).get? (zpH3 s.heap a b).objs.size = some _ := Heap.get?_push_of_some _ (Heap.get?_push_size _ rfl)
 have g3 : (zpH5 s.heap a b).get? (zpH2 s.heap a b).objs.size = some _ := Heap.get?_push_of_some _ (Heap.get?_push_of_some _ (Heap.get?_push_size _ rfl))
 have g2 : (zpH5 s.heap a b).get? (zpH1 s.heap a).objs.size = some _ := Heap.get?_push_of_some _ (Heap.get?_push_of_some _ (Heap.get?_push_of_some _ (Heap.get?_push_size _ rfl)))
 have g1 : (zpH5 s.heap a b).get? s.heap.objs.size = some _ := Heap.get?_push_of_some _ (Heap.get?_push_of_some _ (Heap.get?_push_of_some _ (Heap.get?_push_of_some _ (Heap.get?_push_size _ rfl))))
 show _ ∧ _
 rw [z2, z3, z4] at g5; rw [z1, z2] at g3; rw [z3] at g4; rw [z1] at g2
 have kk : ∀ c o, s.heap.get? c = some o → (zpH5 s.heap a b).get? c = some o := fun c o q => Heap.get?_push_of_some _ (Heap.get?_push_of_some _ (Heap.get?_push_of_some _ (Heap.get?_push_of_some _ (Heap.get?_push_of_some _ q))))
 rw [z4]
 exact ⟨⟨_, g5, rfl⟩, k _ g5 g3 g4 ⟨_, g1, rfl, rfl⟩ ⟨_, g2, rfl, rfl⟩ kk⟩
end
def Itz (K : PySem.W.Frag) (a b : Addr) : It :=
 ⟨fun i H => ∃ xs ys x y, SqT K H a xs ∧ SqT K H b ys ∧ xs[i]? = some x ∧ ys[i]? = some y, fun i H v H' => ∃ p x y, v = .ref p ∧ H p = none ∧ H' = upd H p (.tup [x, y]) ∧ (∀ xs, SqT K H a xs → xs[i]? = some x) ∧ ∀ ys, SqT K H b ys → ys[i]? = some y,
  fun i H => ∃ xs ys, SqT K H a xs ∧ SqT K H b ys ∧ (xs.length ≤ i ∨ ys.length ≤ i)⟩
theorem turn_zp {P : Program} {w : World} {K : PySem.W.Frag} {es : List Expr} {kt : Nat} {pt : Pos} (a b z TI TO i1 i2 : Addr) (D : ZipApart z TI TO i1 i2 a b) :
  Turn P w K (.Tuple es kt pt) (Itz K a b) [z, TI, TO, i1, i2] z (fun i h => IsZip h z TI TO .none ∧ IsPair h TI (.ref i1) (.ref i2) ∧ (∃ u v, IsPair h TO u v) ∧ h.IsTupleIter i1 a i ∧ h.IsTupleIter i2 b i) where
 mem := by simp
 obj := fun i h st q hq => by
  obtain ⟨hz, hI, ⟨u, v, hO⟩, ⟨o1, e1, c1, d1⟩, ⟨o2, e2, c2, d2⟩⟩ := st
  simp only [List.mem_cons, List.not_mem_nil, or_false] at hq
  rcases hq with rfl | rfl | rfl | rfl | rfl
  ·exact ⟨_, hz, fun v y => by have y' : Data.fields _ = Data.cell v := y; cases y'⟩
  ·exact ⟨_, hI, fun v y => by have y' : Data.seq _ _ = Data.cell v := y; cases y'⟩
  ·exact ⟨_, hO, fun v y => by have y' : Data.seq _ _ = Data.cell v := y; cases y'⟩
  ·exact ⟨o1, e1, fun v y => by rw [d1] at y; cases y⟩
  ·exact ⟨o2, e2, fun v y => by rw [d2] at y; cases y⟩
 keep := fun i h h' st k => ⟨k z (by simp) _ st.1, k TI (by simp) _ st.2.1, let ⟨u, v, q⟩ := st.2.2.1; ⟨u, v, k TO (by simp) _ q⟩, st.2.2.2.1.at fun o x => k i1 (by simp) o x, st.2.2.2.2.at fun o x => k i2 (by simp) o x⟩
 item := by
  intro X hP hw hK hc i pins s σ H E I hf st hg
  subst hP hw hK
  obtain ⟨xs, ys, x, y, hqa, hqb, hx, hy⟩ := hg
  obtain ⟨ia, rva, pa, za⟩ := I.tuple hqa
  obtain ⟨ib, rvb, pb, zb⟩ := I.tuple hqb
  obtain ⟨u, hu, ru⟩ := rva.get hx
  obtain ⟨v, hv, rv⟩ := rvb.get hy
  obtain ⟨hz, hI, ⟨ou, ov, hO⟩, h1, h2⟩ := st
  have hT : s.TypeIs (.ref z) "zip" := ⟨_, hz, rfl⟩; unfold pyNext
  refine wpAny_bind (wpAny_attempt (wpAny_callSpecial?_slot (name := Str.ofString "__next__") hT F.slot_zip_next (wpAny_call_entry F.slot_zip_next hT F.entry_zip_next
   (zipT_item D hz hI hO h1 h2 pa pb (x := u) (y := v) (by simpa using hu) (by simpa using hv) fun h' z' o' a' b' t' k' => wpAny_pure ?_) (F.args_zip_next_1 _))))
  refine ⟨_, rfl, wpAny_letOwnedTupleGo_zip z' fun h'' z'' sb => ?_⟩
  have nz : s.heap.objs.size ≠ z := Nat.ne_of_gt (Heap.lt_size hz)
  have nTO : s.heap.objs.size ≠ TO := Nat.ne_of_gt (Heap.lt_size hO)
  have nTI : s.heap.objs.size ≠ TI := Nat.ne_of_gt (Heap.lt_size hI)
  have n1 : s.heap.objs.size ≠ i1 := by obtain ⟨o, e, _⟩ := h1; exact Nat.ne_of_gt (Heap.lt_size e)
  have n2 : s.heap.objs.size ≠ i2 := by obtain ⟨o, e, _⟩ := h2; exact Nat.ne_of_gt (Heap.lt_size e)
  have up : ∀ q o, q ≠ z → h'.get? q = some o → h''.get? q = some o := fun q o hq e => (sb.2 q hq).trans e
  have hI'' : IsPair h'' TI (.ref i1) (.ref i2) := up _ _ D.TIz (k' TI _ D.TIz D.TITO D.TIi1 D.TIi2 hI)
  have I2 : Inv X pins σ (upd H s.heap.objs.size (.tup [x, y])) { s with heap := h'', toks := s.toks } := I.turnNew (ch := [z, TI, TO, i1, i2]) hf (fun q o hq e => by
   simp only [List.mem_cons, List.not_mem_nil, or_false, not_or] at hq
   exact up q o hq.1 (k' q o hq.1 hq.2.2.1 hq.2.2.2.1 hq.2.2.2.2 e)) (fun q hq => by
   simp only [List.mem_cons, List.not_mem_nil, or_false] at hq
   rcases hq with rfl | rfl | rfl | rfl | rfl
   ·exact ⟨_, z''⟩
   ·exact ⟨_, hI''⟩
   ·exact ⟨_, up _ _ D.TOz o'⟩
   ·obtain ⟨o, e, _⟩ := a'; exact ⟨o, up _ o D.i1z e⟩
   ·obtain ⟨o, e, _⟩ := b'; exact ⟨o, up _ o D.i2z e⟩) (Nat.le_refl _) (vals := [u, v]) (.cons ru (.cons rv .nil)) (by show 2 ≤ sizeLine; decide) ⟨_, up _ _ nz t', rfl, _, rfl⟩
  refine ⟨.ref s.heap.objs.size, _, I2, rfl, ⟨_, x, y, rfl, I.fresh, rfl, fun zs hzs => by rw [I.tuple_inj hzs hqa]; exact hx, fun zs hzs => by rw [I.tuple_inj hzs hqb]; exact hy⟩,
   ⟨z'', hI'', ⟨_, _, up _ _ D.TOz o'⟩, a'.at fun o e => up _ o D.i1z e, b'.at fun o e => up _ o D.i2z e⟩, fun q hq => ?_⟩
  have hq0 := (hf q hq).1
  simp only [List.mem_cons, List.not_mem_nil, or_false] at hq
  rw [upd_ne]
  ·exact hq0
  ·rcases hq with rfl | rfl | rfl | rfl | rfl
   ·exact Ne.symm nz
   ·exact Ne.symm nTI
   ·exact Ne.symm nTO
   ·exact Ne.symm n1
   ·exact Ne.symm n2
 done := by
  intro X hP hw hK hc i pins s σ H E I hf st hg
  subst hP hw hK
  obtain ⟨xs, ys, hqa, hqb, hx⟩ := hg
  obtain ⟨ia, rva, pa, za⟩ := I.tuple hqa
  obtain ⟨ib, rvb, pb, zb⟩ := I.tuple hqb
  obtain ⟨hz, hI, ⟨ou, ov, hO⟩, h1, h2⟩ := st
  have la := rva.length
  have lb := rvb.length
  have hT : s.TypeIs (.ref z) "zip" := ⟨_, hz, rfl⟩; unfold pyNext
  refine wpAny_bind (wpAny_attempt (wpAny_callSpecial?_slot (name := Str.ofString "__next__") hT F.slot_zip_next (wpAny_call_entry F.slot_zip_next hT F.entry_zip_next
   (zipT_end (I.ok.hd hc) D hz hI hO h1 h2 pa pb (hx.elim (fun q => .inl (by simp; omega)) fun q => .inr (by simp; omega)) fun h' e k' he => ?_) (F.args_zip_next_1 _))))
  obtain ⟨o, ho, hcl⟩ := he
  refine wpAny_bind (wpAny_isInstance (T := "StopIteration") (b := true) ⟨o, ho, hcl⟩ isSubtype_stop ?_)
  refine wpAny_pure ⟨rfl, I.turnOnly (tk := s.toks) hf fun q o hq e => ?_⟩
  simp only [List.mem_cons, List.not_mem_nil, or_false, not_or] at hq
  exact k' q o hq.1 hq.2.2.1 hq.2.2.2.1 hq.2.2.2.2 e
 self := fun _ _ s _ _ st h => wpAny_pyIter_zip st.1 h
section
variable {X : Cx} {es : List Expr} {kt : Nat} {pt : Pos}
def iZp (K : PySem.W.Frag) (ta : TA) : TI := fun σ H R => ta σ H fun vs H1 => ∃ a b, vs = [.ref a, .ref b] ∧ (∃ xs, SqT K H1 a xs) ∧ (∃ ys, SqT K H1 b ys) ∧ R (Itz K a b) H1
theorem pi_zp {e e' : Expr} {ta : TA} {p pos : Pos} (hm : X.mg "zip" = none) (ha : PA X [e, e'] ta) (hg : Gl X "zip" := by rfl) (h : isStar e = false := by rfl) (h' : isStar e' = false := by rfl) : PI X (.Tuple es kt pt) (.Call (.Name "zip" p) [e, e'] [] pos) (iZp X.K ta) := by
 intro pins s σ H R I hh
 refine Call_ (ld_blt I hg hm boot_zip (PyProof.Rows.callWith_type1 (thn (ha pos pins s σ H _ I hh) fun us s1 ⟨vs, H1, I1, r1, q1⟩ => ?_) (star1 h) (star_any (by simp [h']))))
 obtain ⟨a, b, rfl, ⟨xs, hqa⟩, ⟨ys, hqb⟩, q⟩ := q1
 cases r1 with
 | cons ru r2 =>
  cases r2 with
  | cons rv r3 =>
   cases r3
   cases ru
   cases rv
   obtain ⟨ia, rva, pa, za⟩ := I1.tuple hqa
   obtain ⟨ib, rvb, pb, zb⟩ := I1.tuple hqb
   have la : a < s1.heap.objs.size := by obtain ⟨o, e, _⟩ := pa; exact Heap.lt_size e
   have lb : b < s1.heap.objs.size := by obtain ⟨o, e, _⟩ := pb; exact Heap.lt_size e
   refine call_zp (xs := ia.toArray) (ys := ib.toArray) pa pb fun g hz hI hO j1 j2 hk => wpAny_pyIter_zip hz ?_
   refine ⟨_, [s1.heap.objs.size + 4, s1.heap.objs.size + 2, s1.heap.objs.size + 3, s1.heap.objs.size, s1.heap.objs.size + 1], _, _, H1, rfl, I1.kept (t' := s1.toks) hk, turn_zp a b _ _ _ _ _ (zipApart_new la lb), ⟨hz, hI, ⟨_, _, hO⟩, j1, j2⟩, fun q hq => ?_, by assumption⟩
   have hq' : s1.heap.objs.size ≤ q := by
    simp only [List.mem_cons, List.not_mem_nil, or_false] at hq
    rcases hq with z | z | z | z | z <;> rw [z] <;> first | exact Nat.le_refl _ | exact Nat.le_add_right _ _
   exact I1.fpOk hq' (I1.hok.fresh hq')
end
def IsTri (h : Heap) (T : Addr) (a b c : Value) : Prop := h.get? T = some { cls := .type "tuple", data := .seq #[a, b, c] }
structure Apart3 (z TI TO i1 i2 i3 l1 l2 l3 : Addr) : Prop where
 nz : TI ≠ z ∧ TO ≠ z ∧ i1 ≠ z ∧ i2 ≠ z ∧ i3 ≠ z
 nI : TI ≠ TO ∧ TI ≠ i1 ∧ TI ≠ i2 ∧ TI ≠ i3
 nO : TO ≠ i1 ∧ TO ≠ i2 ∧ TO ≠ i3
 ni : i1 ≠ i2 ∧ i1 ≠ i3 ∧ i2 ≠ i3
 l1 : l1 ≠ z ∧ l1 ≠ TO ∧ l1 ≠ i1 ∧ l1 ≠ i2 ∧ l1 ≠ i3
 l2 : l2 ≠ z ∧ l2 ≠ TO ∧ l2 ≠ i1 ∧ l2 ≠ i2 ∧ l2 ≠ i3
 l3 : l3 ≠ z ∧ l3 ≠ TO ∧ l3 ≠ i1 ∧ l3 ≠ i2 ∧ l3 ≠ i3
section
variable {prog : Program} {w : World} {A : Around} {E : Value → Shared → Prop} {s : Shared}
theorem upSeq3 {T : Addr} {a b c x : Value} {k : Nat} {Q : Unit → Shared → Prop} (hT : IsTri s.heap T a b c)
  (h : ∀ h', h'.get? T = some { cls := .type "tuple", data := .seq ((#[a, b, c] : Array Value).setIfInBounds k x) } → Heap.SameBut T s.heap h' → Q () { s with heap := h' }) :
  wpAny (model prog w) A (updateSeq T (·.setIfInBounds k x)) Q E s := by
 refine wpAny_updateSeq hT rfl (h _ ?_ (Heap.SameBut.update ..)); rw [Heap.get?_update_self _ hT rfl]
 simp [Obj.mapSeq]
theorem zip3_item {z TI TO i1 i2 i3 l1 l2 l3 : Addr} {k1 k2 k3 : Nat} {xs ys zs : Array Value} {x y v a b c : Value} {Q : Value → Shared → Prop} (D : Apart3 z TI TO i1 i2 i3 l1 l2 l3) (hz : IsZip s.heap z TI TO .none) (hTI : IsTri s.heap TI (.ref i1) (.ref i2) (.ref i3)) (hTO : IsTri s.heap TO a b c)
  (h1 : s.heap.IsTupleIter i1 l1 k1) (h2 : s.heap.IsTupleIter i2 l2 k2) (h3 : s.heap.IsTupleIter i3 l3 k3) (hl1 : s.heap.IsTuple l1 xs) (hl2 : s.heap.IsTuple l2 ys) (hl3 : s.heap.IsTuple l3 zs) (hx : xs[k1]? = some x) (hy : ys[k2]? = some y) (hv : zs[k3]? = some v)
  (hQ : ∀ h', IsZip h' z TI TO (rawInt s.heap.objs.size) → IsTri h' TO x y v → h'.IsTupleIter i1 l1 (k1 + 1) → h'.IsTupleIter i2 l2 (k2 + 1) → h'.IsTupleIter i3 l3 (k3 + 1) → IsTri h' s.heap.objs.size x y v →
   (∀ d o, d ≠ z → d ≠ TO → d ≠ i1 → d ≠ i2 → d ≠ i3 → s.heap.get? d = some o → h'.get? d = some o) → Q (.ref s.heap.objs.size) { s with heap := h' }) :
  wpAny (model prog w) A (Builtin.«zip.__next__» ⟨[.ref z], []⟩) (fun f s' => ∃ v, f = .done (.ret v) ∧ Q v s') E s := by
 obtain ⟨⟨TIz, TOz, i1z, i2z, i3z⟩, ⟨TITO, TIi1, TIi2, TIi3⟩, ⟨TOi1, TOi2, TOi3⟩, ⟨i12, i13, i23⟩, ⟨l1z, l1TO, l1i1, l1i2, l1i3⟩, ⟨l2z, l2TO, l2i1, l2i2, l2i3⟩, ⟨l3z, l3TO, l3i1, l3i2, l3i3⟩⟩ := D
 show wpAny _ _ (field (.ref z) 2 >>= _) _ _ _; refine wpAny_bind (wpAny_field hz rfl (x := .bool false) rfl ?_)
 show wpAny _ _ (field (.ref z) 3 >>= _) _ _ _; refine wpAny_bind (wpAny_field hz rfl (x := .ref TI) rfl ?_)
 refine wpAny_bind (wpAny_seqItems hTI rfl ?_); show wpAny _ _ (Builtin.SmallTypes.ownedTupleIsFree (.ref z) >>= _) _ _ _
 refine wpAny_bind ?_; unfold Builtin.SmallTypes.ownedTupleIsFree
 refine wpAny_bind (wpAny_field hz rfl (x := .none) rfl (wpAny_pure ?_)); simp only [if_true]
 refine wpAny_bind (wpAny_rule ?_); refine wpAny_bind (wpAny_field hz rfl (x := .ref TO) rfl ?_)
 refine wpAny_bind (wpAny_setField_rec hz (by simp) fun g1 zz1 s1 => ?_); replace zz1 : IsZip g1 z TI TO .ellipsis := zz1
 refine wpAny_bind ?_; simp only [List.zipIdx_cons, List.zipIdx_nil, List.forIn_cons, List.forIn_nil]
 refine wpAny_bind (wpAny_bind (wpAny_onRaise ?_)); show wpAny _ _ (Builtin.SmallTypes.nextOf (.ref i1) >>= _) _ _ _
 refine wpAny_bind (nextT_item (tupJ h1 s1.extBut i1z) (tupX hl1 s1.extBut l1z) hx fun g2 j2 s2 => wpAny_pure ?_)
 have o2 : IsTri g2 TO a b c := s2.extBut _ _ TOi1 (s1.extBut _ _ TOz hTO)
 refine wpAny_bind (wpAny_seqItems o2 rfl ?_); refine wpAny_bind (upSeq3 o2 fun g3 o3 s3 => ?_); replace o3 : IsTri g3 TO x b c := o3
 refine wpAny_bind (wpAny_letGo (wpAny_pure ?_)); refine wpAny_bind (wpAny_bind (wpAny_onRaise ?_)); show wpAny _ _ (Builtin.SmallTypes.nextOf (.ref i2) >>= _) _ _ _
 refine wpAny_bind (nextT_item (tupJ (tupJ (tupJ h2 s1.extBut i2z) s2.extBut i12.symm) s3.extBut TOi2.symm) (tupX (tupX (tupX hl2 s1.extBut l2z) s2.extBut l2i1) s3.extBut l2TO) hy fun g4 j4 s4 => wpAny_pure ?_)
 have o4 : IsTri g4 TO x b c := s4.extBut _ _ TOi2 o3
 refine wpAny_bind (wpAny_seqItems o4 rfl ?_); refine wpAny_bind (upSeq3 o4 fun g5 o5 s5 => ?_); replace o5 : IsTri g5 TO x y c := o5
 refine wpAny_bind (wpAny_letGo (wpAny_pure ?_)); refine wpAny_bind (wpAny_bind (wpAny_onRaise ?_)); show wpAny _ _ (Builtin.SmallTypes.nextOf (.ref i3) >>= _) _ _ _
 refine wpAny_bind (nextT_item (tupJ (tupJ (tupJ (tupJ (tupJ h3 s1.extBut i3z) s2.extBut i13.symm) s3.extBut TOi3.symm) s4.extBut i23.symm) s5.extBut TOi3.symm) (tupX (tupX (tupX (tupX (tupX hl3 s1.extBut l3z) s2.extBut l3i1) s3.extBut l3TO) s4.extBut l3i2) s5.extBut l3TO) hv fun g6 j6 s6 => wpAny_pure ?_)
 have o6 : IsTri g6 TO x y c := s6.extBut _ _ TOi3 o5
 refine wpAny_bind (wpAny_seqItems o6 rfl ?_); refine wpAny_bind (upSeq3 o6 fun g7 o7 s7 => ?_); replace o7 : IsTri g7 TO x y v := o7
 refine wpAny_bind (wpAny_letGo (wpAny_pure (wpAny_pure ?_))); refine wpAny_bind (wpAny_seqItems o7 rfl ?_); refine wpAny_bind (wpAny_newTuple ?_)
 have sz : g7.objs.size = s.heap.objs.size := by rw [s7.1, s6.1, s5.1, s4.1, s3.1, s2.1, s1.1]
 have k7 : ∀ c o, c ≠ TO → c ≠ i1 → c ≠ i2 → c ≠ i3 → g1.get? c = some o → g7.get? c = some o := fun c o c2 c3 c4 c5 q => s7.extBut _ _ c2 (s6.extBut _ _ c5 (s5.extBut _ _ c2 (s4.extBut _ _ c4 (s3.extBut _ _ c2 (s2.extBut _ _ c3 q)))))
 have z7 : IsZip g7 z TI TO .ellipsis := k7 _ _ TOz.symm i1z.symm i2z.symm i3z.symm zz1
 have a7 : g7.IsTupleIter i1 l1 (k1 + 1) := tupJ (tupJ (tupJ (tupJ (tupJ j2 s3.extBut TOi1.symm) s4.extBut i12) s5.extBut TOi1.symm) s6.extBut i13) s7.extBut TOi1.symm
 have b7 : g7.IsTupleIter i2 l2 (k2 + 1) := tupJ (tupJ (tupJ j4 s5.extBut TOi2.symm) s6.extBut i23) s7.extBut TOi2.symm
 have c7 : g7.IsTupleIter i3 l3 (k3 + 1) := tupJ j6 s7.extBut TOi3.symm
 have zlt : z < g7.objs.size := Heap.lt_size z7
 show wpAny _ _ (Builtin.SmallTypes.ownedTupleHandOut (.ref z) (.ref g7.objs.size) >>= _) _ _ _; refine wpAny_bind ?_; unfold Builtin.SmallTypes.ownedTupleHandOut
 have z8 : IsZip (g7.push { cls := .type "tuple", data := .seq #[x, y, v] }) z TI TO .ellipsis := Heap.get?_push_of_some _ z7
 refine wpAny_bind (wpAny_setField_rec z8 (by simp) fun g9 z9 s9 => ?_); replace z9 : IsZip g9 z TI TO (rawInt g7.objs.size) := z9
 refine wpAny_setField_rec z9 (by simp) fun gA zA sA => ?_; replace zA : IsZip gA z TI TO (rawInt g7.objs.size) := zA
 have up : ∀ c o, c ≠ z → g7.get? c = some o → gA.get? c = some o := fun c o c1 q => sA.extBut _ _ c1 (s9.extBut _ _ c1 (Heap.get?_push_of_some _ q))
 have tA : IsTri gA g7.objs.size x y v := sA.extBut _ _ (Nat.ne_of_gt zlt) (s9.extBut _ _ (Nat.ne_of_gt zlt) (Heap.get?_push_size _ rfl))
 rw [sz] at zA tA; refine wpAny_pure ⟨_, rfl, ?_⟩; show Q (.ref g7.objs.size) _; rw [sz]
 exact hQ gA zA (up _ _ TOz o7) (a7.at fun o q => up _ o i1z q) (b7.at fun o q => up _ o i2z q) (c7.at fun o q => up _ o i3z q) tA fun c o c1 c2 c3 c4 c5 q => up c o c1 (k7 c o c2 c3 c4 c5 (s1.extBut _ _ c1 q))
theorem zip3_end {z TI TO i1 i2 i3 l1 l2 l3 : Addr} {k1 : Nat} {xs : Array Value} {a b c : Value} {Q : Fin → Shared → Prop} (hh : A.handled = none) (D : Apart3 z TI TO i1 i2 i3 l1 l2 l3) (hz : IsZip s.heap z TI TO .none) (hTI : IsTri s.heap TI (.ref i1) (.ref i2) (.ref i3)) (hTO : IsTri s.heap TO a b c)
  (h1 : s.heap.IsTupleIter i1 l1 k1) (hl1 : s.heap.IsTuple l1 xs) (hx : xs[k1]? = none)
  (hE : ∀ h' e, (∀ d o, d ≠ z → d ≠ TO → d ≠ i1 → d ≠ i2 → d ≠ i3 → s.heap.get? d = some o → h'.get? d = some o) → (∃ o, h'.get? e = some o ∧ o.cls = .type "StopIteration") → E (.ref e) { s with heap := h' }) : wpAny (model prog w) A (Builtin.«zip.__next__» ⟨[.ref z], []⟩) Q E s := by
 obtain ⟨⟨TIz, TOz, i1z, i2z, i3z⟩, ⟨TITO, TIi1, TIi2, TIi3⟩, ⟨TOi1, TOi2, TOi3⟩, ⟨i12, i13, i23⟩, ⟨l1z, l1TO, l1i1, l1i2, l1i3⟩, _, _⟩ := D
 show wpAny _ _ (field (.ref z) 2 >>= _) _ _ _; refine wpAny_bind (wpAny_field hz rfl (x := .bool false) rfl ?_)
 show wpAny _ _ (field (.ref z) 3 >>= _) _ _ _; refine wpAny_bind (wpAny_field hz rfl (x := .ref TI) rfl ?_)
 refine wpAny_bind (wpAny_seqItems hTI rfl ?_); show wpAny _ _ (Builtin.SmallTypes.ownedTupleIsFree (.ref z) >>= _) _ _ _
 refine wpAny_bind ?_; unfold Builtin.SmallTypes.ownedTupleIsFree
 refine wpAny_bind (wpAny_field hz rfl (x := .none) rfl (wpAny_pure ?_)); simp only [if_true]
 refine wpAny_bind (wpAny_rule ?_); refine wpAny_bind (wpAny_field hz rfl (x := .ref TO) rfl ?_)
 refine wpAny_bind (wpAny_setField_rec hz (by simp) fun g1 zz1 s1 => ?_); replace zz1 : IsZip g1 z TI TO .ellipsis := zz1
 refine wpAny_bind ?_; simp only [List.zipIdx_cons, List.zipIdx_nil, List.forIn_cons, List.forIn_nil]
 refine wpAny_bind (wpAny_bind (wpAny_onRaise ?_)); show wpAny _ _ (Builtin.SmallTypes.nextOf (.ref i1) >>= _) _ _ _
 refine wpAny_bind (nextT_end hh (tupJ h1 s1.extBut i1z) (tupX hl1 s1.extBut l1z) hx fun g2 e s2 he => ?_)
 obtain ⟨oe, hoe, hce⟩ := he; have z2 : IsZip g2 z TI TO .ellipsis := s2 _ _ i1z.symm zz1
 have ez : e ≠ z := fun q => by subst q; rw [z2] at hoe; cases hoe; simp at hce
 refine wpAny_setField_rec z2 (by simp) fun g3 _ s3 => hE g3 e (fun c o c1 _ c3 _ _ q => s3.extBut _ _ c1 (s2 _ _ c3 (s1.extBut _ _ c1 q))) ⟨oe, s3.extBut _ _ ez hoe, hce⟩
end
theorem tyC3 (a b c : Value) : checkTypeCall "zip" ⟨[a, b, c], []⟩ = pure () := by kernel_rfl
theorem nwC3 (a b c : Value) : checkBuiltinCall "zip.__new__" ⟨[.type "zip", a, b, c], []⟩ = pure () := by kernel_rfl
abbrev ztH1 (h : Heap) (a : Addr) : Heap := h.push { cls := .type "tuple_iterator", data := .fields #[.ref a, .int 0 0] }
abbrev ztH2 (h : Heap) (a b : Addr) : Heap := (ztH1 h a).push { cls := .type "tuple_iterator", data := .fields #[.ref b, .int 0 0] }
abbrev ztH3 (h : Heap) (a b c : Addr) : Heap := (ztH2 h a b).push { cls := .type "tuple_iterator", data := .fields #[.ref c, .int 0 0] }
abbrev ztH4 (h : Heap) (a b c : Addr) : Heap := (ztH3 h a b c).push { cls := .type "tuple", data := .seq #[.ref h.objs.size, .ref (ztH1 h a).objs.size, .ref (ztH2 h a b).objs.size] }
abbrev ztH5 (h : Heap) (a b c : Addr) : Heap := (ztH4 h a b c).push { cls := .type "tuple", data := .seq #[.none, .none, .none] }
abbrev ztH6 (h : Heap) (a b c : Addr) : Heap := (ztH5 h a b c).push { cls := .type "zip", data := .fields #[.none, .bool false, .bool false, .ref (ztH3 h a b c).objs.size, .ref (ztH4 h a b c).objs.size] }
set_option maxHeartbeats 8000000 in
theorem zt_new (a b c : Addr) (xs ys zs : Array Value) : Meets (Builtin.«zip.__new__» ⟨[.type "zip", .ref a, .ref b, .ref c], []⟩) (fun _ R s => s.heap.IsTuple a xs ∧ s.heap.IsTuple b ys ∧ s.heap.IsTuple c zs ∧ R (.ok (.ret (.ref (ztH5 s.heap a b c).objs.size))) { s with heap := ztH6 s.heap a b c }) :=
 .of_wp fun prog w A R s h => by
  obtain ⟨hp, g, d, tk, os⟩ := s; obtain ⟨hA, hB, hC, h⟩ := h; have hsub := sub_zip
  have tA : Heap.IsTuple (Shared.heap ⟨hp, g, d, tk, os⟩) a xs := hA
  have tB : Heap.IsTuple (Shared.heap ⟨ztH1 hp a, g, d, tk, os⟩) b ys := let ⟨o, e, r⟩ := hB; ⟨o, Heap.get?_push_of_some _ e, r⟩
  have tC : Heap.IsTuple (Shared.heap ⟨ztH2 hp a b, g, d, tk, os⟩) c zs := let ⟨o, e, r⟩ := hC; ⟨o, Heap.get?_push_of_some _ (Heap.get?_push_of_some _ e), r⟩
  wp_walk using wpAny_pyIter_tuple tA, wpAny_pyIter_tuple tB, wpAny_pyIter_tuple tC
  exact ⟨_, rfl, h⟩
section
variable {D : Addr} {te : TE} {tc : TT} {Q : VK} {ρ : St} {H : Hp}
theorem cgo_zip {K : PySem.W.Frag} {a b : Addr} {xs zs : List V} (hlen : xs.length = zs.length) (Pv : Nat → List V → Hp → Prop) (h0 : Pv 0 [] (upd H D (.lst []))) (hl : ∀ i ys H', i ≤ xs.length → Pv i ys H' → SqT K H' a xs ∧ SqT K H' b zs)
  (hs : ∀ i x z ys H' p, xs[i]? = some x → zs[i]? = some z → Pv i ys H' → H' D = some (.lst ys) → H' p = none → ∀ (R : V → Hp → Prop) (S : Hp → Prop), (∀ y H4, H4 D = some (.lst ys) → ys.length < sizeLine → Pv (i + 1) (ys ++ [y]) (upd H4 D (.lst (ys ++ [y]))) → R y H4) → (∀ H3, H3 D = some (.lst ys) → Pv (i + 1) ys H3 → S H3) →
   tc (some x :: some z :: ρ) (upd H' p (.tup [x, z])) fun b H3 => if b = true then te (some x :: some z :: ρ) H3 R else S H3)
  (hd : ∀ ys H', Pv xs.length ys H' → H' D = some (.lst ys) → Q (.ref D) H') : CGo (Itz K a b) D (gTup K 2 (gCons (gName 0) (gCons (gName 1) gNil))) tc te Q (none :: none :: ρ) H := by
 refine ⟨fun i m τ ys H' => m = xs.length - i ∧ i ≤ xs.length ∧ (∃ tv tw, τ = tv :: tw :: ρ) ∧ Pv i ys H' ∧ H' D = some (.lst ys), ⟨xs.length, by omega, Nat.zero_le _, ⟨_, _, rfl⟩, h0, upd_same⟩, ?_⟩
 rintro i m τ ys H' ⟨rfl, hi, ⟨tv, tw, rfl⟩, hp, hD⟩
 refine ⟨hD, ?_⟩
 obtain ⟨sq, sq'⟩ := hl i ys H' hi hp
 by_cases hlt : i < xs.length
 ·have hlt' : i < zs.length := by omega
  refine .inr ⟨⟨xs, zs, xs[i], zs[i], sq, sq', by simp [hlt], by simp [hlt']⟩, ?_⟩
  rintro v H'' ⟨p, x, z, rfl, hpn, rfl, hx, hz⟩
  have hx' := hx xs sq
  have hz' := hz zs sq'
  refine ⟨p, [x, z], rfl, SqT.of upd_same, rfl, x, [z], rfl, z, [], rfl, rfl, ?_⟩
  exact hs i x z ys _ p hx' hz' hp hD hpn _ _ (fun y H4 a b c => ⟨a, b, xs.length - (i + 1), by omega, rfl, hlt, ⟨_, _, rfl⟩, c, upd_same⟩) fun H3 a c => ⟨xs.length - (i + 1), by omega, rfl, hlt, ⟨_, _, rfl⟩, c, a⟩
 ·have e : i = xs.length := by omega
  subst e
  exact .inl ⟨⟨xs, zs, sq, sq', .inl (Nat.le_refl _)⟩, hd ys _ hp hD⟩
end
section
variable {ta : TA} {tl : TE} {n : Nat} {ix : List Nat} {g : TG} {tc : TT} {te : TE} {σ : St} {H : Hp} {Q : VK}
theorem w_compZ {K : PySem.W.Frag} (h : ta σ H fun vs H1 => ∃ a b, vs = [.ref a, .ref b] ∧ (∃ xs, SqT K H1 a xs) ∧ (∃ ys, SqT K H1 b ys) ∧ ∀ D, H1 D = none → CGo (Itz K a b) D g tc te Q (List.replicate n none ++ sub ix σ) H1) : tComp (iZp K ta) n ix g tc te σ H Q := h
theorem w_compL {K : PySem.W.Frag} (h : tl σ H fun x H1 => ∃ a, x = .ref a ∧ (∃ xs, SqL K H1 a xs) ∧ ∀ D, H1 D = none → CGo (Itl K a) D g tc te Q (List.replicate n none ++ sub ix σ) H1) : tComp (iList K tl) n ix g tc te σ H Q := h
end
section
variable {X : Cx}
def rIsI (K : PySem.W.Frag) : List V → Hp → VK → Prop := fun xs H Q => ∃ v n t b, xs = [v, .ty n] ∧ TyOf K H v t ∧ PySem.W.kitOne K t (.type n) = some b ∧ Q (.bl b) H
theorem call_isI : CallR X (.builtin "isinstance") (rIsI X.K) := by
 intro pins s σ H xs us Q I r h
 obtain ⟨v, n, t, b, rfl, ty, e, q⟩ := h
 cases r with
 | cons r1 r2 =>
  obtain ⟨u, rfl, ru⟩ := Vals.one r2
  cases ru
  exact isinst_ok I r1 ty e fun tk => ⟨.bl b, H, I.kept (t' := tk) fun _ _ e => e, rfl, q⟩
end
section
variable {σ : St} {H : Hp} {Q : VK} {te ta tb tc : TE} {r r' : R2} {tl th : TO}
theorem w_chain (h : ta σ H fun x H1 => tb σ H1 fun y H2 => r x y H2 fun z H3 => ∃ k, z = .bl k ∧ (if k = true then tc σ H3 fun w' H4 => r' y w' H4 Q else Q (.bl false) H3)) : tChain r r' ta tb tc σ H Q := h
theorem w_sl {r : V → Option Int → Option Int → Hp → VK → Prop} (h : te σ H fun x H1 => tl σ H1 fun l H2 => th σ H2 fun u H3 => r x l u H3 Q) : tSl r te tl th σ H Q := h
theorem w_nopart {QO : Option Int → Hp → Prop} (h : QO none H) : tNoPart σ H QO := h
theorem w_part {QO : Option Int → Hp → Prop} (h : te σ H fun x H1 => ∃ i, x = .int i ∧ QO (some i) H1) : tPart te σ H QO := h
end
theorem pgb_tup {X : Cx} {sc : Scope} {N : List Str} {cl : List (Str × Addr)} {C : Addr} {fp : List Addr} {s3 : Shared} {H3 : Hp} {xe : Value → Shared → Prop} {es : List Expr} {k n : Nat} {pos : Pos} {t : TGs} (hc : X.calm = true) (h : PGs (cxC X N sc cl C fp s3 H3 xe) es t)
  (hn : (assignEach es (cxC X N sc cl C fp s3 H3 xe).env).length = n := by rfl) (hst : (assignEach es (cxC X N sc cl C fp s3 H3 xe).env).findIdx? (·.1) = none := by rfl) : PG (cxC X N sc cl C fp s3 H3 xe) (.Tuple es k pos) (gTup X.K n t) := pg_tup (X := cxC X N sc cl C fp s3 H3 xe) hc h hn hst
theorem seq_post {t u : TS} {D : Ends} {σ : St} {H : Hp} (Post : St → Hp → Prop) (h2 : ∀ σ' H', Post σ' H' → u D σ' H') (h1 : (∀ σ' H', Post σ' H' → u D σ' H') → t { D with nx := u D } σ H) : tSeq t u D σ H := h1 h2
def constW : Expr → Option V
 | .Constant (.int n) _ _ => some (.int n)
 | .Constant (.str y) _ _ => some (.str y)
 | .UnaryOp .USub (.Constant (.int n) _ _) _ => some (.int (-n))
 | _ => none
def constsW : List Expr → Option (List V)
 | [] => some []
 | e :: r => match constW e, constsW r with
  | some v, some vs => some (v :: vs)
  | _, _ => none
theorem pa_constsW {X : Cx} : ∀ {es : List Expr} {vs : List V}, constsW es = some vs → PA X es (tVals vs)
 | [], vs, h => by
  cases h
  exact pa_nil
 | e :: r, vs, h => by
  unfold constsW at h
  split at h
  case h_2 => cases h
  case h_1 v vs' h1 h2 =>
   cases h
   have ih := pa_constsW (X := X) h2
   have go : ∀ {te : TE}, PE X e te → (starEach (e :: r) X.env = (false, eval e X.env) :: starEach r X.env) → (∀ σ H Q, Q v H → te σ H Q) → PA X (e :: r) (tVals (v :: vs')) := fun {te} he hs hq => by
    have q := pa_cons he ih hs
    intro pos pins s σ H Q I hh
    exact q pos pins s σ H Q I (hq σ H _ hh)
   unfold constW at h1
   split at h1
   case h_1 => cases h1; exact go pe_int rfl fun _ _ _ h => h
   case h_2 => cases h1; exact go pe_str rfl fun _ _ _ h => h
   case h_3 => cases h1; exact go (pe_un un_neg pe_int) rfl fun _ _ _ h => ⟨_, rfl, h⟩
   case h_4 => cases h1
theorem pe_lstW {X : Cx} {es : List Expr} {pos : Pos} {vs : List V} (h : constsW es = some vs) : PE X (.List es pos) (tLst (tVals vs)) := pe_lst (pa_constsW h)
theorem w_unI {σ : St} {H : Hp} {Q : VK} {g : Int → V} {ta : TE} (h : ta σ H fun x H1 => ∃ i, x = .int i ∧ Q (g i) H1) : tUn (rU g) ta σ H Q := h
end L2
namespace G2
open PySem L2
theorem md {i j : Int} (h : 0 < j) : 0 ≤ i % j ∧ i % j < j := ⟨Int.emod_nonneg _ (Int.ne_of_gt h), Int.emod_lt_of_pos _ h⟩
theorem mulL {i j : Int} (h1 : -4000000000 < i) (h2 : i < 4000000000) : CMul i j := .inl ⟨by omega, by omega⟩
theorem mulR {i j : Int} (h1 : -4000000000 < j) (h2 : j < 4000000000) : CMul i j := .inr ⟨by omega, by omega⟩
theorem ofI {r : Int} (h : 0 ≤ r) : ∃ n : Nat, r = (n : Int) := ⟨r.toNat, by omega⟩
structure TK (H H' : Hp) : Prop where
 t : ∀ q xs, H q = some (.tup xs) → H' q = some (.tup xs)
 f : ∀ q o u, H q = some (.frz o u) → H' q = some (.frz o u)
section
variable {p l : Addr} {H H' H'' : Hp} {o : HO}
theorem TK.trans (a : TK H H') (b : TK H' H'') : TK H H'' := ⟨fun q xs e => b.t q xs (a.t q xs e), fun q o u e => b.f q o u (a.f q o u e)⟩
theorem TK.new (h : H l = none) : TK H (upd H l o) := ⟨fun q xs e => by rw [upd_ne (ne_of_none e h)]; exact e, fun q ob u e => by rw [upd_ne (ne_of_none e h)]; exact e⟩
theorem TK.lst {ys : List V} (h : H l = some (.lst ys)) : TK H (upd H l o) := ⟨fun q xs e => by rw [upd_ne (ne_of e h (by intro z; cases z))]; exact e, fun q ob u e => by rw [upd_ne (ne_of e h (by intro z; cases z))]; exact e⟩
theorem TK.same (k : Same H H') : TK H H' := ⟨fun _ _ e => k _ _ e, fun _ _ _ e => k _ _ e⟩
end
theorem _root_.L2.Same.new {H H' : Hp} {l : Addr} {o : HO} (k : Same H H') (h : H' l = none) : Same H (upd H' l o) := fun b u e => by
 rw [upd_ne (ne_of_none (k b u e) h)]
 exact k b u e
theorem _root_.L2.Same.put {H H' : Hp} {l : Addr} {o : HO} (k : Same H H') (h : H l = none) : Same H (upd H' l o) := fun b u e => by
 rw [upd_ne (ne_of_none e h)]
 exact k b u e
def SqF (K : PySem.W.Frag) (H : Hp) (a : Addr) (xs : List V) : Prop :=
 (∃ o, H a = some (.frz o (.lst xs))) ∨ ∃ (o : Obj) (its : Array Value) (n : Nat), K.lookup a = some o ∧ o.cls = .type "list" ∧ o.dict = none ∧ o.data = .seq its n ∧ its.size ≤ sizeLine ∧ Vals xs its.toList
theorem SqF.sq {K : PySem.W.Frag} {H : Hp} {a : Addr} {xs : List V} : SqF K H a xs → SqL K H a xs
 | .inl ⟨o, e⟩ => .inl (.inr ⟨o, e⟩)
 | .inr h => .inr h
theorem SqF.of {K : PySem.W.Frag} {H : Hp} {a : Addr} {xs : List V} (O : Only H) : SqL K H a xs → SqF K H a xs
 | .inl (.inl e) => by
  rcases O a with z | ⟨o, ys, z⟩
  ·rw [e] at z; cases z
  ·rw [e] at z; cases z
 | .inl (.inr h) => .inl h
 | .inr h => .inr h
structure Tp (H : Hp) (p l : Addr) (ns : List Int) : Prop where
 ex : ∃ c e : Int, H p = some (.lst [.ref l, .int c, .int e])
 hl : H l = some (.lst (ns.map V.int))
 ne : p ≠ l
section
variable {p l a : Addr} {H H' : Hp} {o : HO} {ns : List Int}
end
theorem log_small {n : Nat} (h : n < 1000000000000000) : n.log2 < 1920 := by
 by_cases h0 : n = 0
 ·subst h0
  decide
 ·exact (Nat.log2_lt h0).mpr (Nat.lt_of_lt_of_le h (by decide +kernel))
def Sm (i : Int) : Prop := -1000000000000000 < i ∧ i < 1000000000000000
theorem show_ints : ∀ (ns : List Int), (∀ n ∈ ns, Sm n) → PyData.showableAll (ns.map PyData.int) = true
 | [], _ => rfl
 | n :: ns, h => by
  obtain ⟨h0, h1⟩ := h n List.mem_cons_self
  have hs : n.natAbs.log2 < 1920 := log_small (by omega)
  simp only [List.map_cons, PyData.showableAll, PyData.showable, decide_eq_true hs, show_ints ns fun m hm => h m (List.mem_cons_of_mem _ hm), Bool.and_self]
theorem nodict_ints : ∀ (ns : List Int), PyData.hasDictAll (ns.map PyData.int) = false
 | [] => rfl
 | n :: ns => by simp only [List.map_cons, PyData.hasDictAll, PyData.hasDict, nodict_ints ns, Bool.or_self]
theorem len_int {n : Int} (h : Sm n) : (PyData.shown (.int n)).length ≤ 16 := by
 obtain ⟨h0, h1⟩ := h
 have := int_text_length_le10 (a := n) (k := 15) (by decide) (by omega)
 show (Str.ofString (toString n)).length ≤ 16
 rw [ofString_length]
 exact this
theorem len_ints : ∀ (ns : List Int), (∀ n ∈ ns, Sm n) → ((PyData.shownAll (ns.map PyData.int)).map (·.length)).sum ≤ 16 * ns.length ∧ (PyData.shownAll (ns.map PyData.int)).length = ns.length
 | [], _ => ⟨Nat.le_refl _, rfl⟩
 | n :: ns, h => by
  obtain ⟨i1, i2⟩ := len_ints ns fun m hm => h m (List.mem_cons_of_mem _ hm)
  have e := len_int (h n List.mem_cons_self)
  simp only [List.map_cons, PyData.shownAll, List.sum_cons, List.length_cons]
  exact ⟨by omega, by omega⟩
theorem len_tup (ds : List PyData) : (PyData.shown (.tuple ds)).length ≤ ((PyData.shownAll ds).map (·.length)).sum + 2 * (PyData.shownAll ds).length + 3 := tupleText_len_le _
structure Shw (d : PyData) (n h : Nat) : Prop where
 s : d.showable = true
 nd : d.hasDict = false
 p : d.depth ≤ h
 l : d.shown.length ≤ n
theorem Shw.up {d : PyData} {n h m i : Nat} (x : Shw d n h) (h1 : n ≤ m) (h2 : h ≤ i) : Shw d m i := ⟨x.s, x.nd, Nat.le_trans x.p h2, Nat.le_trans x.l h1⟩
theorem Shw.ints {ns : List Int} (h : ∀ n ∈ ns, Sm n) : Shw (.tuple (ns.map PyData.int)) (18 * ns.length + 3) 1 := ⟨by
  simp only [PyData.showable]
  exact show_ints ns h, by
  simp only [PyData.hasDict]
  exact nodict_ints ns, by
  show PyData.depthAll _ + 1 ≤ 1
  rw [depth_ints]
  decide, by
  have h1 := len_tup (ns.map PyData.int)
  obtain ⟨h2, h3⟩ := len_ints ns h
  omega⟩
theorem w_shw {H : Hp} {Q : VK} {v : V} {d : PyData} {n h : Nat} (r : RdV H v d) (x : Shw d n h) (hn : n ≤ 100000) (hh : h ≤ 50) (q : Q (.str d.shown) H) : rRepr [v] H Q :=
 ⟨v, d, rfl, r, x.s, x.nd, Nat.le_trans x.p hh, Nat.le_trans x.l (Nat.le_trans hn (by decide : 100000 ≤ sizeLine)), q⟩
end G2
namespace L2
open PySem PySem.Spec PyProof.Rows
theorem w_gtup {K : PySem.W.Frag} {n : Nat} {t : TGs} {σ : St} {H : Hp} {Q : St → Hp → Prop} {a : Addr} {xs : List V} (h : H a = some (.tup xs)) (hn : xs.length = n) (q : t xs σ H Q) : gTup K n t (.ref a) σ H Q := ⟨a, xs, rfl, SqT.of h, hn, q⟩
end L2
namespace G2
open PySem L2
section
variable {D : Addr} {te : TE} {tc : TT} {Q : VK} {ρ : St} {H : Hp} {K : PySem.W.Frag} {a b : Addr}
theorem zip_map {xs ys : List Int} (g : Int → Int → Int) (ha : H a = some (.tup (xs.map V.int))) (hb : H b = some (.tup (ys.map V.int))) (hlen : xs.length = ys.length) (hn : xs.length ≤ 1000)
  (step : ∀ (i : Nat) (x y : Int) (H' : Hp), xs[i]? = some x → ys[i]? = some y → Same H H' → ∀ R : V → Hp → Prop, (∀ H'', Same H' H'' → R (.int (g x y)) H'') → te (some (.int x) :: some (.int y) :: ρ) H' R)
  (q : ∀ H', Same H H' → H' D = some (.lst ((List.zipWith g xs ys).map V.int)) → Q (.ref D) H') (hD : H D = none) : CGo (Itz K a b) D (gTup K 2 (gCons (gName 0) (gCons (gName 1) gNil))) tAll te Q (none :: none :: ρ) H := by
 refine cgo_zip (xs := xs.map V.int) (zs := ys.map V.int) (by simp [hlen]) (fun i zs H' => zs = ((List.zipWith g xs ys).take i).map V.int ∧ Same H H') ⟨rfl, Same.new (Same.refl H) hD⟩ (fun i zs H' _ ⟨_, k'⟩ => ⟨SqT.of (k' _ _ ha), SqT.of (k' _ _ hb)⟩) ?_ ?_
 ·rintro i x z zs H' p hx hz ⟨rfl, K'⟩ hDz hp R S kR _
  have hi1 : i < xs.length := by
   have := (List.getElem?_eq_some_iff.mp hx).1
   simpa using this
  have hi2 : i < ys.length := by omega
  have ex : x = .int xs[i] := by
   rw [List.getElem?_map, List.getElem?_eq_getElem hi1] at hx
   exact (Option.some.inj hx).symm
  have ez : z = .int ys[i] := by
   rw [List.getElem?_map, List.getElem?_eq_getElem hi2] at hz
   exact (Option.some.inj hz).symm
  subst ex ez
  refine w_all ?_
  refine iteT ?_
  have hD' : upd H' p (.tup [.int xs[i], .int ys[i]]) D = some (.lst (((List.zipWith g xs ys).take i).map V.int)) := by rw [upd_ne (ne_of_none hDz hp)]; exact hDz
  refine step i _ _ _ (by simp [hi1]) (by simp [hi2]) (K'.new hp) R fun H'' K'' => ?_
  refine kR _ _ (K'' _ _ hD') (by rw [List.length_map, List.length_take]; exact small1000 (by omega)) ⟨?_, ((K'.new hp).trans K'').put hD⟩
  have hz' : (List.zipWith g xs ys)[i]? = some (g xs[i] ys[i]) := by simp [List.getElem?_zipWith, hi1, hi2]
  rw [List.take_add_one, List.map_append, hz']
  rfl
 ·rintro zs H' ⟨rfl, K'⟩ hDz
  refine q H' K' ?_
  rw [hDz, List.take_of_length_le]
  simp
  omega
theorem tup_map {xs : List Int} (g : Int → Int) (ha : H a = some (.tup (xs.map V.int))) (hn : xs.length ≤ 1000)
  (step : ∀ (i : Nat) (x : Int) (H' : Hp), xs[i]? = some x → Same H H' → ∀ R : V → Hp → Prop, (∀ H'', Same H' H'' → R (.int (g x)) H'') → te (some (.int x) :: ρ) H' R)
  (q : ∀ H', Same H H' → H' D = some (.lst ((xs.map g).map V.int)) → Q (.ref D) H') (hD : H D = none) : CGo (Itt K a) D (gName 0) tAll te Q (none :: ρ) H := by
 refine cgo_tup (xs := xs.map V.int) (fun i zs H' => zs = ((xs.map g).take i).map V.int ∧ Same H H') ⟨rfl, Same.new (Same.refl H) hD⟩ (fun i zs H' _ ⟨_, k'⟩ => SqT.of (k' _ _ ha)) ?_ ?_
 ·rintro i x zs H' hx ⟨rfl, K'⟩ hDz R S kR _
  have hi1 : i < xs.length := by
   have := (List.getElem?_eq_some_iff.mp hx).1
   simpa using this
  have ex : x = .int xs[i] := by
   rw [List.getElem?_map, List.getElem?_eq_getElem hi1] at hx
   exact (Option.some.inj hx).symm
  subst ex
  refine w_all ?_
  refine iteT ?_
  refine step i _ _ (by simp [hi1]) K' R fun H'' K'' => ?_
  refine kR _ _ (K'' _ _ hDz) (by rw [List.length_map, List.length_take]; exact small1000 (by omega)) ⟨?_, (K'.trans K'').put hD⟩
  rw [List.take_add_one, List.map_append]
  simp [hi1]
 ·rintro zs H' ⟨rfl, K'⟩ hDz
  refine q H' K' ?_
  rw [hDz, List.take_of_length_le]
  simp
theorem rng_map {n : Nat} (g : Nat → Int) (hn : n ≤ 1000)
  (step : ∀ (i : Nat) (H' : Hp), i < n → Same H H' → ∀ R : V → Hp → Prop, (∀ H'', Same H' H'' → R (.int (g i)) H'') → te (some (.int (i : Int)) :: ρ) H' R)
  (q : ∀ H', Same H H' → H' D = some (.lst (((List.range n).map g).map V.int)) → Q (.ref D) H') (hD : H D = none) : CGo (Itr 0 n) D (gName 0) tAll te Q (none :: ρ) H := by
 refine cgo_range (fun i zs H' => zs = ((List.range i).map g).map V.int ∧ Same H H') ⟨rfl, Same.new (Same.refl H) hD⟩ ?_ ?_
 ·rintro i zs H' hi ⟨rfl, K'⟩ hDz R S kR _
  rw [Int.zero_add]
  refine w_all ?_
  refine iteT ?_
  refine step i _ hi K' R fun H'' K'' => ?_
  refine kR _ _ (K'' _ _ hDz) (by rw [List.length_map, List.length_map, List.length_range]; exact small1000 (by omega)) ⟨?_, (K'.trans K'').put hD⟩
  rw [List.range_succ, List.map_append, List.map_append]
  rfl
 ·rintro zs H' ⟨rfl, K'⟩ hDz
  exact q H' K' hDz
end
section
variable {X : Cx} {k : Nat}
def rNeD : R2 := fun x y H Q => ∃ dx dy, RdV H x dx ∧ RdV H y dy ∧ dx.canLay0 = true ∧ dy.canLay0 = true ∧ dx.depth ≤ 60 ∧ Q (.bl (!PyData.eqv dx dy)) H
theorem op_neD (hr : Room k X.A) : OpR X (compareOp .NotEq) rNeD := by
 intro pins s σ H x y v u Q I rx ry h
 obtain ⟨dx, dy, hx, hy, cx, cy, hd, q⟩ := h
 obtain ⟨as, ra⟩ := hx.reads I rx
 obtain ⟨bs, rb⟩ := hy.reads I ry
 have := hr.units
 exact SeqAt.compareNe_reads ra rb cx cy (by omega) ⟨.bl _, H, I, rfl, q⟩
end
structure Fm where
 ins : List Int
 sts : List Int
 plus : Int
structure FmOk (n m : Nat) (B : Int) (f : Fm) : Prop where
 li : f.ins.length = n
 ls : f.sts.length = m
 bi : ∀ x ∈ f.ins, -B ≤ x ∧ x ≤ B
 bs : ∀ x ∈ f.sts, -B ≤ x ∧ x ≤ B
 bp : -B ≤ f.plus ∧ f.plus ≤ B
end G2
namespace L2
open PySem PySem.Spec PyProof.Rows
theorem aoi4 (a b c d : Value) : argsOk "object.__init__" ⟨[a, b, c, d], []⟩ := by unfold argsOk; rw [signature?_of (id := "object.__init__") (n := ['_', '_', 't', 'i', 'n', 'i', '_', '_']) (o := ['t', 'c', 'e', 'j', 'b', 'o']) (by kernel_rfl) F.owner_object]; kernel_rfl
section
variable {prog : Program} {w : World} {A : Around} {E : Value → Shared → Prop} {s : Shared}
theorem call_zt {a b c : Addr} {xs ys zs : Array Value} {Q : Value → Shared → Prop} (hA : s.heap.IsTuple a xs) (hB : s.heap.IsTuple b ys) (hC : s.heap.IsTuple c zs)
  (k : ∀ h', IsZip h' (s.heap.objs.size + 5) (s.heap.objs.size + 3) (s.heap.objs.size + 4) .none → IsTri h' (s.heap.objs.size + 3) (.ref s.heap.objs.size) (.ref (s.heap.objs.size + 1)) (.ref (s.heap.objs.size + 2)) → IsTri h' (s.heap.objs.size + 4) .none .none .none →
   h'.IsTupleIter s.heap.objs.size a 0 → h'.IsTupleIter (s.heap.objs.size + 1) b 0 → h'.IsTupleIter (s.heap.objs.size + 2) c 0 → (∀ d o, s.heap.get? d = some o → h'.get? d = some o) → Q (.ref (s.heap.objs.size + 5)) { s with heap := h' }) :
  wpAny (model prog w) A (call (.type "zip") [.ref a, .ref b, .ref c]) Q E s := by
 refine callType_new F.called_zip (by decide) (tyC3 _ _ _) (nwC3 _ _ _) (fun obj => aoi4 obj _ _ _) F.entry_zip_new (zt_new a b c xs ys zs) ⟨hA, hB, hC, ?_⟩
 have z1 : (ztH1 s.heap a).objs.size = s.heap.objs.size + 1 := Heap.size_push ..
 have z2 : (ztH2 s.heap a b).objs.size = s.heap.objs.size + 2 := by rw [Heap.size_push, z1]
 have z3 : (ztH3 s.heap a b c).objs.size = s.heap.objs.size + 3 := by rw [Heap.size_push, z2]
 have z4 : (ztH4 s.heap a b c).objs.size = s.heap.objs.size + 4 := by rw [Heap.size_push, z3]
 have z5 : (ztH5 s.heap a b c).objs.size = s.heap.objs.size + 5 := by rw [Heap.size_push, z4]
 have p1 : ∀ {h : Heap} {o : Obj} {d : Addr} {u : Obj}, h.get? d = some u → (h.push o).get? d = some u := fun q => Heap.get?_push_of_some _ q
 have g6 : (ztH6 s.heap a b c).get? (ztH5 s.heap a b c).objs.size = some _ := Heap.get?_push_size _ rfl
 have g5 : (ztH6 s.heap a b c).get? (ztH4 s.heap a b c).objs.size = some _ := p1 (Heap.get?_push_size _ rfl)
 have g4 : (ztH6 s.heap a b c).get? (ztH3 s.heap a b c).objs.size = some _ := p1 (p1 (Heap.get?_push_size _ rfl))
 have g3 : (ztH6 s.heap a b c).get? (ztH2 s.heap a b).objs.size = some _ := p1 (p1 (p1 (Heap.get?_push_size _ rfl)))
 have g2 : (ztH6 s.heap a b c).get? (ztH1 s.heap a).objs.size = some _ := p1 (p1 (p1 (p1 (Heap.get?_push_size _ rfl))))
 have g1 : (ztH6 s.heap a b c).get? s.heap.objs.size = some _ := p1 (p1 (p1 (p1 (p1 (Heap.get?_push_size _ rfl)))))
 show _ ∧ _
 rw [z3, z4, z5] at g6; rw [z4] at g5; rw [z1, z2, z3] at g4; rw [z2] at g3; rw [z1] at g2
 have kk : ∀ d o, s.heap.get? d = some o → (ztH6 s.heap a b c).get? d = some o := fun d o q => p1 (p1 (p1 (p1 (p1 (p1 q)))))
 rw [z5]
 exact ⟨⟨_, g6, rfl⟩, k _ g6 g4 g5 ⟨_, g1, rfl, rfl⟩ ⟨_, g2, rfl, rfl⟩ ⟨_, g3, rfl, rfl⟩ kk⟩
end
def It3 (K : PySem.W.Frag) (a b c : Addr) : It :=
  ⟨fun i H => ∃ xs ys zs x y z, SqT K H a xs ∧ SqT K H b ys ∧ SqT K H c zs ∧ xs[i]? = some x ∧ ys[i]? = some y ∧ zs[i]? = some z,
   fun i H v H' => ∃ p x y z, v = .ref p ∧ H p = none ∧ H' = upd H p (.tup [x, y, z]) ∧ (∀ xs, SqT K H a xs → xs[i]? = some x) ∧ (∀ ys, SqT K H b ys → ys[i]? = some y) ∧ ∀ zs, SqT K H c zs → zs[i]? = some z,
   fun i H => ∃ xs, SqT K H a xs ∧ xs.length ≤ i⟩
theorem turn_zt {P : Program} {w : World} {K : PySem.W.Frag} {es : List Expr} {kt : Nat} {pt : Pos} (a b c z TI TO i1 i2 i3 : Addr) (D : Apart3 z TI TO i1 i2 i3 a b c) :
  Turn P w K (.Tuple es kt pt) (It3 K a b c) [z, TI, TO, i1, i2, i3] z (fun i h => IsZip h z TI TO .none ∧ IsTri h TI (.ref i1) (.ref i2) (.ref i3) ∧ (∃ u v t, IsTri h TO u v t) ∧ h.IsTupleIter i1 a i ∧ h.IsTupleIter i2 b i ∧ h.IsTupleIter i3 c i) where
 mem := by simp
 obj := fun i h st q hq => by
  obtain ⟨hz, hI, ⟨u, v, t, hO⟩, ⟨o1, e1, c1, d1⟩, ⟨o2, e2, c2, d2⟩, ⟨o3, e3, c3, d3⟩⟩ := st
  simp only [List.mem_cons, List.not_mem_nil, or_false] at hq
  rcases hq with rfl | rfl | rfl | rfl | rfl | rfl
  ·exact ⟨_, hz, fun v y => by have y' : Data.fields _ = Data.cell v := y; cases y'⟩
  ·exact ⟨_, hI, fun v y => by have y' : Data.seq _ _ = Data.cell v := y; cases y'⟩
  ·exact ⟨_, hO, fun v y => by have y' : Data.seq _ _ = Data.cell v := y; cases y'⟩
  ·exact ⟨o1, e1, fun v y => by rw [d1] at y; cases y⟩
  ·exact ⟨o2, e2, fun v y => by rw [d2] at y; cases y⟩
  ·exact ⟨o3, e3, fun v y => by rw [d3] at y; cases y⟩
 keep := fun i h h' st k => ⟨k z (by simp) _ st.1, k TI (by simp) _ st.2.1, let ⟨u, v, t, q⟩ := st.2.2.1; ⟨u, v, t, k TO (by simp) _ q⟩, st.2.2.2.1.at fun o x => k i1 (by simp) o x, st.2.2.2.2.1.at fun o x => k i2 (by simp) o x, st.2.2.2.2.2.at fun o x => k i3 (by simp) o x⟩
 item := by
  intro X hP hw hK hc i pins s σ H E I hf st hg
  subst hP hw hK
  obtain ⟨xs, ys, zs, x, y, t, hqa, hqb, hqc, hx, hy, ht⟩ := hg
  obtain ⟨ia, rva, pa, za⟩ := I.tuple hqa
  obtain ⟨ib, rvb, pb, zb⟩ := I.tuple hqb
  obtain ⟨ic, rvc, pc, zc⟩ := I.tuple hqc
  obtain ⟨u, hu, ru⟩ := rva.get hx
  obtain ⟨v, hv, rv⟩ := rvb.get hy
  obtain ⟨r, hr, rr⟩ := rvc.get ht
  obtain ⟨hz, hI, ⟨ou, ov, ow, hO⟩, h1, h2, h3⟩ := st
  obtain ⟨⟨TIz, TOz, i1z, i2z, i3z⟩, ⟨TITO, TIi1, TIi2, TIi3⟩, _⟩ := id D
  have hT : s.TypeIs (.ref z) "zip" := ⟨_, hz, rfl⟩; unfold pyNext
  refine wpAny_bind (wpAny_attempt (wpAny_callSpecial?_slot (name := Str.ofString "__next__") hT F.slot_zip_next (wpAny_call_entry F.slot_zip_next hT F.entry_zip_next
   (zip3_item D hz hI hO h1 h2 h3 pa pb pc (x := u) (y := v) (v := r) (by simpa using hu) (by simpa using hv) (by simpa using hr) fun h' z' o' a' b' c' t' k' => wpAny_pure ?_) (F.args_zip_next_1 _))))
  refine ⟨_, rfl, wpAny_letOwnedTupleGo_zip z' fun h'' z'' sb => ?_⟩
  have nz : s.heap.objs.size ≠ z := Nat.ne_of_gt (Heap.lt_size hz)
  have nTO : s.heap.objs.size ≠ TO := Nat.ne_of_gt (Heap.lt_size hO)
  have nTI : s.heap.objs.size ≠ TI := Nat.ne_of_gt (Heap.lt_size hI)
  have n1 : s.heap.objs.size ≠ i1 := by obtain ⟨o, e, _⟩ := h1; exact Nat.ne_of_gt (Heap.lt_size e)
  have n2 : s.heap.objs.size ≠ i2 := by obtain ⟨o, e, _⟩ := h2; exact Nat.ne_of_gt (Heap.lt_size e)
  have n3 : s.heap.objs.size ≠ i3 := by obtain ⟨o, e, _⟩ := h3; exact Nat.ne_of_gt (Heap.lt_size e)
  have up : ∀ q o, q ≠ z → h'.get? q = some o → h''.get? q = some o := fun q o hq e => (sb.2 q hq).trans e
  have hI'' : IsTri h'' TI (.ref i1) (.ref i2) (.ref i3) := up _ _ TIz (k' TI _ TIz TITO TIi1 TIi2 TIi3 hI)
  have I2 : Inv X pins σ (upd H s.heap.objs.size (.tup [x, y, t])) { s with heap := h'', toks := s.toks } := I.turnNew (ch := [z, TI, TO, i1, i2, i3]) hf (fun q o hq e => by
   simp only [List.mem_cons, List.not_mem_nil, or_false, not_or] at hq
   exact up q o hq.1 (k' q o hq.1 hq.2.2.1 hq.2.2.2.1 hq.2.2.2.2.1 hq.2.2.2.2.2 e)) (fun q hq => by
   simp only [List.mem_cons, List.not_mem_nil, or_false] at hq
   rcases hq with rfl | rfl | rfl | rfl | rfl | rfl
   ·exact ⟨_, z''⟩
   ·exact ⟨_, hI''⟩
   ·exact ⟨_, up _ _ TOz o'⟩
   ·obtain ⟨o, e, _⟩ := a'; exact ⟨o, up _ o i1z e⟩
   ·obtain ⟨o, e, _⟩ := b'; exact ⟨o, up _ o i2z e⟩
   ·obtain ⟨o, e, _⟩ := c'; exact ⟨o, up _ o i3z e⟩) (Nat.le_refl _) (vals := [u, v, r]) (.cons ru (.cons rv (.cons rr .nil))) (by show 3 ≤ sizeLine; decide) ⟨_, up _ _ nz t', rfl, _, rfl⟩
  refine ⟨.ref s.heap.objs.size, _, I2, rfl, ⟨_, x, y, t, rfl, I.fresh, rfl, fun ws hws => by rw [I.tuple_inj hws hqa]; exact hx, fun ws hws => by rw [I.tuple_inj hws hqb]; exact hy, fun ws hws => by rw [I.tuple_inj hws hqc]; exact ht⟩,
   ⟨z'', hI'', ⟨_, _, _, up _ _ TOz o'⟩, a'.at fun o e => up _ o i1z e, b'.at fun o e => up _ o i2z e, c'.at fun o e => up _ o i3z e⟩, fun q hq => ?_⟩
  have hq0 := (hf q hq).1
  simp only [List.mem_cons, List.not_mem_nil, or_false] at hq
  rw [upd_ne]
  ·exact hq0
  ·rcases hq with rfl | rfl | rfl | rfl | rfl | rfl
   ·exact Ne.symm nz
   ·exact Ne.symm nTI
   ·exact Ne.symm nTO
   ·exact Ne.symm n1
   ·exact Ne.symm n2
   ·exact Ne.symm n3
 done := by
  intro X hP hw hK hc i pins s σ H E I hf st hg
  subst hP hw hK
  obtain ⟨xs, hqa, hx⟩ := hg
  obtain ⟨ia, rva, pa, za⟩ := I.tuple hqa
  obtain ⟨hz, hI, ⟨ou, ov, ow, hO⟩, h1, h2, h3⟩ := st
  have la := rva.length
  have hT : s.TypeIs (.ref z) "zip" := ⟨_, hz, rfl⟩; unfold pyNext
  refine wpAny_bind (wpAny_attempt (wpAny_callSpecial?_slot (name := Str.ofString "__next__") hT F.slot_zip_next (wpAny_call_entry F.slot_zip_next hT F.entry_zip_next
   (zip3_end (I.ok.hd hc) D hz hI hO h1 pa (by simp; omega) fun h' e k' he => ?_) (F.args_zip_next_1 _))))
  obtain ⟨o, ho, hcl⟩ := he
  refine wpAny_bind (wpAny_isInstance (T := "StopIteration") (b := true) ⟨o, ho, hcl⟩ isSubtype_stop ?_)
  refine wpAny_pure ⟨rfl, I.turnOnly (tk := s.toks) hf fun q o hq e => ?_⟩
  simp only [List.mem_cons, List.not_mem_nil, or_false, not_or] at hq
  exact k' q o hq.1 hq.2.2.1 hq.2.2.2.1 hq.2.2.2.2.1 hq.2.2.2.2.2 e
 self := fun _ _ s _ _ st h => wpAny_pyIter_zip st.1 h
theorem apart3 {n a b c : Nat} (ha : a < n) (hb : b < n) (hc : c < n) : Apart3 (n + 5 : Nat) (n + 3 : Nat) (n + 4 : Nat) (n : Nat) (n + 1 : Nat) (n + 2 : Nat) a b c := by
 constructor <;> refine ⟨?_, ?_, ?_⟩ <;> (try refine ⟨?_, ?_⟩) <;> (try refine ⟨?_, ?_⟩) <;> (intro q; have q' : (_ : Nat) = _ := q; omega)
section
variable {X : Cx} {es : List Expr} {kt : Nat} {pt : Pos}
def iZt (K : PySem.W.Frag) (ta : TA) : TI := fun σ H R => ta σ H fun vs H1 => ∃ a b c, vs = [.ref a, .ref b, .ref c] ∧ (∃ xs, SqT K H1 a xs) ∧ (∃ ys, SqT K H1 b ys) ∧ (∃ zs, SqT K H1 c zs) ∧ R (It3 K a b c) H1
theorem pi_zt {e e' e'' : Expr} {ta : TA} {p pos : Pos} (hm : X.mg "zip" = none) (ha : PA X [e, e', e''] ta) (hg : Gl X "zip" := by rfl) (h : isStar e = false := by rfl) (h' : isStar e' = false := by rfl) (h'' : isStar e'' = false := by rfl) : PI X (.Tuple es kt pt) (.Call (.Name "zip" p) [e, e', e''] [] pos) (iZt X.K ta) := by
 intro pins s σ H R I hh
 refine Call_ (ld_blt I hg hm boot_zip (PyProof.Rows.callWith_type1 (thn (ha pos pins s σ H _ I hh) fun us s1 ⟨vs, H1, I1, r1, q1⟩ => ?_) (star1 h) (star_any (by simp [h', h'']))))
 obtain ⟨a, b, c, rfl, ⟨xs, hqa⟩, ⟨ys, hqb⟩, ⟨zs, hqc⟩, q⟩ := q1
 cases r1 with
 | cons ru r2 =>
  cases r2 with
  | cons rv r3 =>
   cases r3 with
   | cons rw' r4 =>
    cases r4
    cases ru
    cases rv
    cases rw'
    obtain ⟨ia, rva, pa, za⟩ := I1.tuple hqa
    obtain ⟨ib, rvb, pb, zb⟩ := I1.tuple hqb
    obtain ⟨ic, rvc, pc, zc⟩ := I1.tuple hqc
    have la : a < s1.heap.objs.size := by obtain ⟨o, e, _⟩ := pa; exact Heap.lt_size e
    have lb : b < s1.heap.objs.size := by obtain ⟨o, e, _⟩ := pb; exact Heap.lt_size e
    have lc : c < s1.heap.objs.size := by obtain ⟨o, e, _⟩ := pc; exact Heap.lt_size e
    refine call_zt (xs := ia.toArray) (ys := ib.toArray) (zs := ic.toArray) pa pb pc fun g hz hI hO j1 j2 j3 hk => wpAny_pyIter_zip hz ?_
    refine ⟨_, [s1.heap.objs.size + 5, s1.heap.objs.size + 3, s1.heap.objs.size + 4, s1.heap.objs.size, s1.heap.objs.size + 1, s1.heap.objs.size + 2], _, _, H1, rfl, I1.kept (t' := s1.toks) hk, turn_zt a b c _ _ _ _ _ _ (apart3 la lb lc), ⟨hz, hI, ⟨_, _, _, hO⟩, j1, j2, j3⟩, fun q hq => ?_, by assumption⟩
    have hq' : s1.heap.objs.size ≤ q := by
     simp only [List.mem_cons, List.not_mem_nil, or_false] at hq
     rcases hq with z | z | z | z | z | z <;> rw [z] <;> first | exact Nat.le_refl _ | exact Nat.le_add_right _ _
    exact I1.fpOk hq' (I1.hok.fresh hq')
end
theorem w_comp3 {K : PySem.W.Frag} {ta : TA} {n : Nat} {ix : List Nat} {g : TG} {tc : TT} {te : TE} {σ : St} {H : Hp} {Q : VK} (h : ta σ H fun vs H1 => ∃ a b c, vs = [.ref a, .ref b, .ref c] ∧ (∃ xs, SqT K H1 a xs) ∧ (∃ ys, SqT K H1 b ys) ∧ (∃ zs, SqT K H1 c zs) ∧ ∀ D, H1 D = none → CGo (It3 K a b c) D g tc te Q (List.replicate n none ++ sub ix σ) H1) : tComp (iZt K ta) n ix g tc te σ H Q := h
theorem zip3_map {D : Addr} {te : TE} {Q : VK} {ρ : St} {H : Hp} {K : PySem.W.Frag} {a b c : Addr} {xs ys zs : List Int} (g : Int → Int → Int → Int) (ha : H a = some (.tup (xs.map V.int))) (hb : H b = some (.tup (ys.map V.int))) (hc : H c = some (.tup (zs.map V.int))) (h1 : ys.length = xs.length) (h2 : zs.length = xs.length) (hn : xs.length ≤ 1000)
  (step : ∀ (x y z : Int) (H' : Hp), Same H H' → ∀ R : V → Hp → Prop, (∀ H'', Same H' H'' → R (.int (g x y z)) H'') → te (some (.int x) :: some (.int y) :: some (.int z) :: ρ) H' R)
  (q : ∀ H', Same H H' → H' D = some (.lst (((List.range xs.length).map fun i => g (xs.getD i 0) (ys.getD i 0) (zs.getD i 0)).map V.int)) → Q (.ref D) H') (hD : H D = none) : CGo (It3 K a b c) D (gTup K 3 (gCons (gName 0) (gCons (gName 1) (gCons (gName 2) gNil)))) tAll te Q (none :: none :: none :: ρ) H := by
 refine ⟨fun i m τ vs H' => m = xs.length - i ∧ i ≤ xs.length ∧ (∃ tv tw tx, τ = tv :: tw :: tx :: ρ) ∧ vs = ((List.range i).map fun i => g (xs.getD i 0) (ys.getD i 0) (zs.getD i 0)).map V.int ∧ Same H H' ∧ H' D = some (.lst vs), ⟨xs.length, by omega, Nat.zero_le _, ⟨_, _, _, rfl⟩, rfl, Same.new (Same.refl H) hD, upd_same⟩, ?_⟩
 rintro i m τ vs H' ⟨rfl, hi, ⟨tv, tw, tx, rfl⟩, rfl, K', hDz⟩
 refine ⟨hDz, ?_⟩
 have sa : SqT K H' a (xs.map V.int) := SqT.of (K' _ _ ha)
 have sb : SqT K H' b (ys.map V.int) := SqT.of (K' _ _ hb)
 have sc : SqT K H' c (zs.map V.int) := SqT.of (K' _ _ hc)
 by_cases hlt : i < xs.length
 ·have hy : i < ys.length := by omega
  have hz : i < zs.length := by omega
  refine .inr ⟨⟨_, _, _, .int xs[i], .int ys[i], .int zs[i], sa, sb, sc, by simp [hlt], by simp [hy], by simp [hz]⟩, ?_⟩
  rintro w' H'' ⟨p, x, y, z, rfl, hp, rfl, ex, ey, ez⟩
  have ex' := ex _ sa
  have ey' := ey _ sb
  have ez' := ez _ sc
  rw [List.getElem?_map, List.getElem?_eq_getElem hlt] at ex'
  rw [List.getElem?_map, List.getElem?_eq_getElem hy] at ey'
  rw [List.getElem?_map, List.getElem?_eq_getElem hz] at ez'
  cases ex'
  cases ey'
  cases ez'
  refine ⟨p, _, rfl, SqT.of upd_same, rfl, _, _, rfl, _, _, rfl, _, _, rfl, rfl, ?_⟩
  refine w_all ?_
  refine iteT ?_
  have hD' : upd H' p (.tup [.int xs[i], .int ys[i], .int zs[i]]) D = some (.lst (((List.range i).map fun i => g (xs.getD i 0) (ys.getD i 0) (zs.getD i 0)).map V.int)) := by rw [upd_ne (ne_of_none hDz hp)]; exact hDz
  refine step xs[i] ys[i] zs[i] _ (K'.new hp) _ fun H3 K3 => ⟨K3 _ _ hD', by rw [List.length_map, List.length_map, List.length_range]; exact small1000 (by omega), xs.length - (i + 1), by omega, rfl, hlt, ⟨_, _, _, rfl⟩, ?_, ((K'.new hp).trans K3).put hD, upd_same⟩
  rw [List.range_succ, List.map_append, List.map_append]
  simp [List.getD_eq_getElem?_getD, hlt, hy, hz]
 ·have e : i = xs.length := by omega
  subst e
  exact .inl ⟨⟨_, sa, by simp⟩, q H' K' hDz⟩
section
variable {X : Cx}
theorem bools_of : ∀ {bs : List Bool} {us : List Value}, Vals (bs.map V.bl) us → us = bs.map Value.bool
 | [], us, r => by
  cases r
  rfl
 | b :: bs, us, r => by
  cases r with
  | cons r1 r2 =>
   cases r1
   rw [bools_of r2]
   rfl
def rAll : List V → Hp → VK → Prop := fun xs H Q => ∃ (p : Addr) (bs : List Bool), xs = [.ref p] ∧ H p = some (.lst (bs.map V.bl)) ∧ Q (.bl (bs.all id)) H
theorem all_range (bs : List Bool) : (List.range bs.length).all (fun i => bs.getD i false) = bs.all id := by
 rw [Bool.eq_iff_iff, List.all_eq_true, List.all_eq_true]
 constructor
 ·intro h b hb
  obtain ⟨i, hi, rfl⟩ := List.getElem_of_mem hb
  have := h i (List.mem_range.mpr hi)
  simpa [List.getD_eq_getElem?_getD, hi] using this
 ·intro h i hi
  have hi' := List.mem_range.mp hi
  have := h bs[i] (List.getElem_mem hi')
  simpa [List.getD_eq_getElem?_getD, hi'] using this
theorem call_all (hc : X.calm = true) : CallR X (.builtin "all") rAll := by
 intro pins s σ H xs us Q I r h
 obtain ⟨p, bs, rfl, hp, q⟩ := h
 obtain ⟨u, rfl, ru⟩ := r.one
 cases ru
 obtain ⟨its, n, rv, e, z⟩ := I.lst hp
 have hits := bools_of rv
 subst hits
 have hl : s.heap.IsList p (bs.map Value.bool).toArray := ⟨_, e, rfl, n, rfl⟩
 refine call_all_walk (wpAny_pyIter_list hl ?_)
 refine ⟨_, _, _, _, _, _, fun i => bs.getD i false, rfl, Walks.list (A := X.A.in1) (I.ok.hd hc) _ p (Nat.ne_of_lt (Heap.lt_size e)) (bs.map Value.bool).toArray, ⟨⟨_, Heap.get?_push_size _ rfl, rfl, rfl⟩, hl.push _⟩, ?_, fun h' tk hk => ?_⟩
 ·intro i v s' Q' E' hv hQ'
  have hv' : (bs.map Value.bool)[i]? = some v := by simpa using hv
  rw [List.getElem?_map] at hv'
  cases eb : bs[i]? with
  | none => rw [eb] at hv'; cases hv'
  | some b =>
   rw [eb] at hv'
   cases hv'
   have : bs.getD i false = b := by rw [List.getD_eq_getElem?_getD, eb]; rfl
   refine wpAny_truthy_bool ?_
   dsimp only at hQ'
   rw [this] at hQ'
   exact hQ'
 ·have e1 : (List.range (bs.map Value.bool).toArray.size).all (fun i => bs.getD i false) = bs.all id := by simpa using all_range bs
  rw [e1]
  exact ⟨.bl _, H, I.kept (t' := tk) (old_kept (l := p) hk), rfl, q⟩
end
section
variable {X : Cx} {es : List Expr} {kt : Nat} {pt : Pos}
end
def isI (i : Int) : Value → Bool
 | .int a _ => a == i
 | _ => false
theorem map_erase (k : Nat) (xs : List Int) : (xs.map V.int).eraseIdx k = (xs.eraseIdx k).map V.int := by
 induction xs generalizing k with
 | nil => rfl
 | cons x xs ih => cases k with
  | zero => rfl
  | succ k => simp [ih]
section
variable {X : Cx}
end
theorem cgo_list {D : Addr} {tc : TT} {te : TE} {Q : VK} {ρ : St} {H : Hp} {K : PySem.W.Frag} {a : Addr} {xs : List V} (Pv : Nat → List V → Hp → Prop) (h0 : Pv 0 [] (upd H D (.lst []))) (hl : ∀ i ys H', i ≤ xs.length → Pv i ys H' → SqL K H' a xs)
  (hs : ∀ i x ys H', xs[i]? = some x → Pv i ys H' → H' D = some (.lst ys) → ∀ (R : V → Hp → Prop) (S : Hp → Prop), (∀ y H4, H4 D = some (.lst ys) → ys.length < sizeLine → Pv (i + 1) (ys ++ [y]) (upd H4 D (.lst (ys ++ [y]))) → R y H4) → (∀ H3, H3 D = some (.lst ys) → Pv (i + 1) ys H3 → S H3) →
   tc (some x :: ρ) H' fun b H3 => if b = true then te (some x :: ρ) H3 R else S H3)
  (hd : ∀ ys H', Pv xs.length ys H' → H' D = some (.lst ys) → Q (.ref D) H') : CGo (Itl K a) D (gName 0) tc te Q (none :: ρ) H := by
 refine ⟨fun i m τ ys H' => m = xs.length - i ∧ i ≤ xs.length ∧ (∃ tv, τ = tv :: ρ) ∧ Pv i ys H' ∧ H' D = some (.lst ys), ⟨xs.length, by omega, Nat.zero_le _, ⟨_, rfl⟩, h0, upd_same⟩, ?_⟩
 rintro i m τ ys H' ⟨rfl, hi, ⟨tv, rfl⟩, hp, hD⟩
 refine ⟨hD, ?_⟩
 have sq := hl i ys H' hi hp
 by_cases hlt : i < xs.length
 ·refine .inr ⟨⟨xs, xs[i], sq, by simp [hlt]⟩, ?_⟩
  rintro v H'' ⟨rfl, hv⟩
  have hv' := hv xs sq
  show tc (some v :: ρ) _ _
  exact hs i v ys _ hv' hp hD _ _ (fun y H4 a b c => ⟨a, b, xs.length - (i + 1), by omega, rfl, hlt, ⟨_, rfl⟩, c, upd_same⟩) fun H3 a c => ⟨xs.length - (i + 1), by omega, rfl, hlt, ⟨_, rfl⟩, c, a⟩
 ·have e : i = xs.length := by omega
  subst e
  exact .inl ⟨⟨xs, sq, Nat.le_refl _⟩, hd ys _ hp hD⟩
section
variable {X : Cx}
end
section
variable {X : Cx} {es : List Expr} {kt : Nat} {pt : Pos}
end
section
variable {D : Addr} {te : TE} {tc : TT} {Q : VK} {ρ : St} {H : Hp}
end
end L2
namespace G2
open PySem L2
theorem prs_mapL {α : Type} {as : List Addr} {xs : List α} (u v : α → V) (g : α → V) {D : Addr} {te : TE} {Q : VK} {ρ : St} {H : Hp} {K : PySem.W.Frag} {a : Addr} (ha : H a = some (.lst (as.map V.ref))) (hl : as.length = xs.length) (hn : xs.length ≤ 1000)
  (hx : ∀ (i : Nat) (q : Addr) (x : α), as[i]? = some q → xs[i]? = some x → H q = some (.tup [u x, v x]))
  (step : ∀ (i : Nat) (x : α) (H' : Hp), xs[i]? = some x → Same H H' → ∀ R : V → Hp → Prop, (∀ H'', Same H' H'' → R (g x) H'') → te (some (u x) :: some (v x) :: ρ) H' R)
  (q : ∀ H', Same H H' → H' D = some (.lst (xs.map g)) → Q (.ref D) H') (hD : H D = none) : CGo (Itl K a) D (gTup K 2 (gCons (gName 0) (gCons (gName 1) gNil))) tAll te Q (none :: none :: ρ) H := by
 refine ⟨fun i m τ ys H' => m = xs.length - i ∧ i ≤ xs.length ∧ (∃ tv tw, τ = tv :: tw :: ρ) ∧ ys = (xs.map g).take i ∧ Same H H' ∧ H' D = some (.lst ys), ⟨xs.length, by omega, Nat.zero_le _, ⟨_, _, rfl⟩, rfl, Same.new (Same.refl H) hD, upd_same⟩, ?_⟩
 rintro i m τ ys H' ⟨rfl, hi, ⟨tv, tw, rfl⟩, rfl, K', hDz⟩
 refine ⟨hDz, ?_⟩
 have sq : SqL K H' a (as.map V.ref) := SqL.of (K' _ _ ha)
 by_cases hlt : i < xs.length
 ·have hlt' : i < as.length := by omega
  refine .inr ⟨⟨_, .ref as[i], sq, by simp [hlt']⟩, ?_⟩
  rintro w' H'' ⟨rfl, hw⟩
  have hw' := hw _ sq
  rw [List.getElem?_map, List.getElem?_eq_getElem hlt'] at hw'
  cases hw'
  refine ⟨as[i], _, rfl, SqT.of (K' _ _ (hx i as[i] xs[i] (by simp [hlt']) (by simp [hlt]))), rfl, _, _, rfl, _, _, rfl, rfl, ?_⟩
  refine w_all ?_
  refine iteT ?_
  refine step i xs[i] _ (by simp [hlt]) K' _ fun H3 K3 => ⟨K3 _ _ hDz, by rw [List.length_take]; exact small1000 (by omega), xs.length - (i + 1), by omega, rfl, hlt, ⟨_, _, rfl⟩, ?_, (K'.trans K3).put hD, upd_same⟩
  rw [List.take_add_one]
  simp [hlt]
 ·have e : i = xs.length := by omega
  subst e
  refine .inl ⟨⟨_, sq, by simp [hl]⟩, q H' K' ?_⟩
  rw [hDz, List.take_of_length_le]
  simp
end G2
namespace L2
open PySem PySem.Spec PyProof.Rows
structure NScope (o sc : Scope) (TN F : List Str) : Prop where
 okind : o.kind = .function
 kind : sc.kind = .function
 names : ∀ y ∈ sc.names, y.2 = .local → sc.names.lookup y.1 = some .local
 clN : ∀ y ∈ sc.names, y.2 = .cell → sc.names.lookup y.1 = some .cell
 fr : ∀ y ∈ sc.names, y.2 = .free → o.names.lookup y.1 = some .cell ∧ sc.names.lookup y.1 = some .free
 ff : ∀ y ∈ F, (y, NameKind.free) ∈ sc.names
theorem cellsFrom_app : ∀ (names : List (Str × NameKind)) (n : Nat) (acc : List (Str × Addr)), cellsFrom n names acc = cellsFrom n names [] ++ acc
 | [], n, acc => by simp [cellsFrom]
 | (x, k) :: r, n, acc => by
  unfold cellsFrom
  split
  ·rw [cellsFrom_app r (n + 1) ((x, n) :: acc), cellsFrom_app r (n + 1) [(x, n)]]
   simp
  ·exact cellsFrom_app r n acc
theorem cellsFrom_name : ∀ (names : List (Str × NameKind)) (n : Nat) (acc : List (Str × Addr)) (x : Str) (c : Addr), (x, c) ∈ cellsFrom n names acc → (x, NameKind.cell) ∈ names ∨ (x, c) ∈ acc
 | [], n, acc, x, c, h => .inr h
 | (y, k) :: r, n, acc, x, c, h => by
  unfold cellsFrom at h
  split at h
  ·rename_i hk
   have hk' : k = .cell := by simpa using hk
   subst hk'
   rcases cellsFrom_name r (n + 1) ((y, n) :: acc) x c h with z | z
   ·exact .inl (List.mem_cons_of_mem _ z)
   ·rcases List.mem_cons.mp z with e | z
    ·cases e
     exact .inl List.mem_cons_self
    ·exact .inr z
  ·rcases cellsFrom_name r n acc x c h with z | z
   ·exact .inl (List.mem_cons_of_mem _ z)
   ·exact .inr z
def ownC (n : Nat) (sc : Scope) : List (Str × Addr) := cellsFrom (n + 1) sc.names []
def allC (env : Env) (n : Nat) (sc : Scope) : List (Str × Addr) := ownC n sc ++ cloF env sc.names []
theorem look_app {α : Type} {x : Str} {c : α} : ∀ {l r : List (Str × α)}, (l ++ r).lookup x = some c → l.lookup x = some c ∨ (l.lookup x = none ∧ r.lookup x = some c)
 | [], r, h => .inr ⟨rfl, h⟩
 | (y, d) :: l, r, h => by
  rw [List.cons_append, List.lookup_cons] at h
  rw [List.lookup_cons]
  cases e : x == y with
  | true => rw [e] at h; exact .inl h
  | false => rw [e] at h; exact look_app h
theorem look_l {α : Type} {x : Str} {c : α} : ∀ {l r : List (Str × α)}, l.lookup x = some c → (l ++ r).lookup x = some c
 | [], r, h => by cases h
 | (y, d) :: l, r, h => by
  rw [List.lookup_cons] at h
  rw [List.cons_append, List.lookup_cons]
  cases e : x == y with
  | true => rw [e] at h; exact h
  | false => rw [e] at h; exact look_l h
theorem look_r {α : Type} {x : Str} : ∀ {l r : List (Str × α)}, l.lookup x = none → (l ++ r).lookup x = r.lookup x
 | [], r, h => rfl
 | (y, d) :: l, r, h => by
  rw [List.lookup_cons] at h
  rw [List.cons_append, List.lookup_cons]
  cases e : x == y with
  | true => rw [e] at h; cases h
  | false => rw [e] at h; exact look_r h
theorem NScope.own {o sc : Scope} {TN F : List Str} (S : NScope o sc TN F) {n : Nat} {x : Str} {c : Addr} (h : (ownC n sc).lookup x = some c) : sc.names.lookup x = some .cell := by
 rcases cellsFrom_name sc.names (n + 1) [] x c (PySem.mem_of_lookup h) with z | z
 ·exact S.clN _ z rfl
 ·cases z
theorem NScope.notown {o sc : Scope} {TN F : List Str} (S : NScope o sc TN F) {n : Nat} {x : Str} (h : (x, NameKind.free) ∈ sc.names) : (ownC n sc).lookup x = none := by
 cases e : (ownC n sc).lookup x with
 | none => rfl
 | some c =>
  have h1 := S.own e
  rw [(S.fr _ h rfl).2] at h1
  cases h1
theorem relabel_from2 {env : Env} {y : Str} : ∀ {names : List (Str × NameKind)},
    ((names.map fun (n, k) => if (k == NameKind.free && env.scope.kind == .function && env.kindOf n == some .cell) then (n, NameKind.cell) else (n, k)).lookup y = some .cell ∨
     (names.map fun (n, k) => if (k == NameKind.free && env.scope.kind == .function && env.kindOf n == some .cell) then (n, NameKind.cell) else (n, k)).lookup y = some .free) → (y, NameKind.free) ∈ names ∨ (y, NameKind.cell) ∈ names
  | [], h => by simp at h
  | (n, k) :: r, h => by
    have ih := @relabel_from2 env y r
    have h' : List.lookup y ((if (k == NameKind.free && env.scope.kind == .function && env.kindOf n == some .cell) = true then (n, NameKind.cell) else (n, k)) :: (r.map fun (n, k) => if (k == NameKind.free && env.scope.kind == .function && env.kindOf n == some .cell) then (n, NameKind.cell) else (n, k))) = some .cell ∨
      List.lookup y ((if (k == NameKind.free && env.scope.kind == .function && env.kindOf n == some .cell) = true then (n, NameKind.cell) else (n, k)) :: (r.map fun (n, k) => if (k == NameKind.free && env.scope.kind == .function && env.kindOf n == some .cell) then (n, NameKind.cell) else (n, k))) = some .free := h
    clear h
    have more : ((y, NameKind.free) ∈ r ∨ (y, NameKind.cell) ∈ r) → (y, NameKind.free) ∈ (n, k) :: r ∨ (y, NameKind.cell) ∈ (n, k) :: r := fun z => z.elim (fun z => .inl (List.mem_cons_of_mem _ z)) fun z => .inr (List.mem_cons_of_mem _ z)
    cases hx : y == n with
    | true =>
      have e : y = n := by simpa using hx
      subst e
      by_cases hc' : (k == NameKind.free && env.scope.kind == .function && env.kindOf y == some .cell) = true
      · have hk : k = .free := by
          have := (Bool.and_eq_true _ _ ▸ (Bool.and_eq_true _ _ ▸ hc').1).1
          simpa using this
        subst hk
        exact .inl List.mem_cons_self
      · rw [if_neg hc'] at h'
        simp only [List.lookup_cons, beq_self_eq_true] at h'
        rcases h' with h' | h'
        · cases h'
          exact .inr List.mem_cons_self
        · cases h'
          exact .inl List.mem_cons_self
    | false =>
      by_cases hc' : (k == NameKind.free && env.scope.kind == .function && env.kindOf n == some .cell) = true
      · rw [if_pos hc'] at h'; simp only [List.lookup_cons, hx] at h'; exact more (ih h')
      · rw [if_neg hc'] at h'; simp only [List.lookup_cons, hx] at h'; exact more (ih h')
theorem newEnv_cells {M : Model} {A : Around} {E : Value → Shared → Prop} {s : Shared} {scope : Scope} {globals : Addr} {cl : List (Str × Addr)} {qual : Str} {env : Env} {Q : Env → Shared → Prop}
  (hQ : ∀ h', h'.Ns s.heap.objs.size (fun _ => none) → (∀ b o, s.heap.get? b = some o → h'.get? b = some o) → (∀ x c, (ownC s.heap.objs.size scope).lookup x = some c → h'.IsCell c none ∧ s.heap.objs.size < c) → ((ownC s.heap.objs.size scope).Pairwise fun x y => x.2 ≠ y.2) →
   Q { scope := scope, locals := s.heap.objs.size, globals := globals, cells := ownC s.heap.objs.size scope ++ cl, qual := qual, func := none, code := env.code, frame := env.frame, builtins := env.builtins } { s with heap := h' }) :
  wpAny M A (newFunctionEnv scope globals cl [] qual none .none (some env)) Q E s := by
 simp only [newFunctionEnv, Option.isSome_some, if_true]
 refine wpAny_bind (wpAny_alloc ?_)
 refine wpAny_bind (wpAny_layCells _ (fun name kind cells => by cases hkc : kind == NameKind.cell <;> simp [hkc]) _ _ _ _ ?_)
 have ok := cellsFrom_ok scope.names (s.heap.push { cls := .type "dict", data := .dict #[] }) (s.heap.objs.size + 1) [] ⟨fun _ _ hm => (nomatch hm), List.Pairwise.nil⟩ (by rw [Heap.size_push]; exact Nat.le_refl _)
 rw [Heap.size_push] at ok
 rw [show ({ s with heap := s.heap.push { cls := .type "dict", data := .dict #[] } } : Shared).heap.objs.size = s.heap.objs.size + 1 from Heap.size_push ..]
 rw [cellsFrom_app]
 refine wpAny_bind ?_
 rw [List.forIn_nil]
 refine wpAny_pure (wpAny_pure ?_)
 exact hQ _ ((Heap.Ns.new s.heap (.type "dict")).keeps (pushCells_keeps _ _)) (fun b o e => pushCells_keeps _ _ b o (Heap.get?_push_of_some _ e)) (fun x c hc => ⟨(ok.empty x c (PySem.mem_of_lookup hc)).1, (ok.empty x c (PySem.mem_of_lookup hc)).2⟩) ok.apart
def cxN (X : Cx) (N : List Str) (sc : Scope) (cl : List (Str × Addr)) (C : Addr) (fp : List Addr) (s₃ : Shared) (H₃ : Hp) (xe : Value → Shared → Prop) : Cx :=
 { X with N := N, s₀ := s₃, H₀ := H₃, env := compEnvC sc cl C X.env, outer := X.stack, ex := fp, fn := fun y => sc.names.lookup y == some .cell, pn := [], xe := xe }
theorem inv_compN {X : Cx} {pins : List (Addr × Obj)} {σ : St} {H : Hp} {s : Shared} {sc : Scope} {TN F : List Str} {ix : List Nat} {fp : List Addr} {h4 : Heap} {tk : Nat} {m : Str → Option Value} {xe : Value → Shared → Prop}
  (S : NScope X.env.scope sc TN F) (hix : ix.map (fun i => X.N[i]?) = F.map some) (I : Inv X pins σ H s) (hf : ∀ b ∈ fp, FpOk X pins H b) (ho : ∀ b ∈ fp, ∃ o, s.heap.get? b = some o)
  (hk : ∀ b o, s.heap.get? b = some o → h4.get? b = some o) (hn : h4.Ns s.heap.objs.size m) (hcl : ∀ x c, (ownC s.heap.objs.size sc).lookup x = some c → h4.IsCell c none ∧ s.heap.objs.size < c) (hap : (ownC s.heap.objs.size sc).Pairwise fun x y => x.2 ≠ y.2) :
  Inv (cxN X (TN ++ F) sc (allC X.env s.heap.objs.size sc) s.heap.objs.size fp s H xe) [] (List.replicate TN.length none ++ sub ix σ) H { s with heap := h4, toks := tk } := by
 have cl0 : ∀ x c, (cloF X.env sc.names []).lookup x = some c → X.env.cells.lookup x = some c := fun x c e => by
  rw [cloF_lookup] at e
  by_cases hx : (x, NameKind.free) ∈ sc.names
  ·rw [if_pos hx] at e
   obtain ⟨c', hc'⟩ := I.ok.has x (.inl (S.fr _ hx rfl).1)
   rw [hc'] at e ⊢
   exact e
  ·rw [if_neg hx] at e
   cases e
 have cl : ∀ x c, (allC X.env s.heap.objs.size sc).lookup x = some c → (ownC s.heap.objs.size sc).lookup x = some c ∨ X.env.cells.lookup x = some c := fun x c e => by
  rcases look_app e with z | ⟨_, z⟩
  ·exact .inl z
  ·exact .inr (cl0 x c z)
 have old : ∀ x c, X.env.cells.lookup x = some c → c < s.heap.objs.size := fun x c e => by
  obtain ⟨v, o, ho', _⟩ := I.cell x c e
  exact Heap.lt_size ho'
 have cl' : ∀ x, (x, NameKind.free) ∈ sc.names → (allC X.env s.heap.objs.size sc).lookup x = X.env.cells.lookup x := fun x hx => by
  unfold allC
  rw [look_r (S.notown hx), cloF_lookup, if_pos hx]
  obtain ⟨c', hc'⟩ := I.ok.has x (.inl (S.fr _ hx rfl).1)
  rw [hc']
  rfl
 have hlen : ix.length = F.length := by
  have := congrArg List.length hix
  simpa using this
 refine ⟨⟨I.ok.mod, S.kind, I.ok.glob, I.ok.blt, Nat.le_refl _, fun x y c h1 h2 => ?_, fun x hx => ?_, fun x c z h => ?_, I.ok.hd, I.ok.frames, .inl rfl, fun b hb => ⟨?_, fun x c e => ?_⟩,
  I.bs, Nat.le_trans I.ok.bsz I.sz, fun b o e hb => ?_, fun b hb hfs => ?_, I.stack, I.stkFree⟩, rfl, I.bare, Un.kept hk, ⟨m, hn, fun i x v h1 h2 h3 => ?_⟩, fun x c e => ?_, I.hok.fresh (Nat.le_refl _), fun x c e => ?_, fun p hp => absurd (show p ∈ ([] : List (Addr × Obj)) from hp) (by simp), I.hok.kept hk, ?_⟩
 ·rcases cl x c h1 with a | a <;> rcases cl y c h2 with b | b
  ·exact name_of_addr hap (PySem.mem_of_lookup a) (PySem.mem_of_lookup b)
  ·exact absurd (old y c b) (Nat.not_lt.mpr (Nat.le_of_lt (hcl x c a).2))
  ·exact absurd (old x c a) (Nat.not_lt.mpr (Nat.le_of_lt (hcl y c b).2))
  ·exact I.ok.inj x y c a b
 ·rcases relabel_from2 (env := X.env) hx with hx' | hx'
  ·obtain ⟨c, hc⟩ := I.ok.has x (.inl (S.fr _ hx' rfl).1)
   exact ⟨c, (cl' x hx').trans hc⟩
  ·obtain ⟨c, hc⟩ := cell_has (n := s.heap.objs.size + 1) (S.clN _ hx' rfl)
   exact ⟨c, look_l hc⟩
 ·have z' : sc.names.lookup x = some .cell := by simpa [cxN] using z
  obtain ⟨c', hc⟩ := cell_has (n := s.heap.objs.size + 1) z'
  have hc' : (allC X.env s.heap.objs.size sc).lookup x = some c' := look_l hc
  have h' : (allC X.env s.heap.objs.size sc).lookup x = some c := h
  have ec : c' = c := Option.some.inj (hc'.symm.trans h')
  rw [← ec]
  exact Nat.le_of_lt (hcl x c' hc).2
 ·obtain ⟨o, e⟩ := ho b hb
  exact Nat.ne_of_lt (Heap.lt_size e)
 ·rcases cl x c e with z | z
  ·obtain ⟨o, eb⟩ := ho b hb
   exact fun w => absurd (Heap.lt_size eb) (by rw [← w]; exact Nat.not_lt.mpr (Nat.le_of_lt (hcl x c z).2))
  ·exact (hf b hb).2.2.2.2.1 x c z
 ·rcases (hf b hb).2.2.2.1 with z | z
  ·exact I.ok.noex b o e z
  ·exact absurd (Nat.lt_of_lt_of_le (Heap.lt_size e) (Nat.le_trans I.ok.bsz z)) (Nat.lt_irrefl _)
 ·rcases List.mem_cons.mp (I.stkSub b hfs) with z | z
  ·exact (hf b hb).2.1 z
  ·exact (hf b hb).2.2.1 z
 ·have hi : TN.length ≤ i := by
   apply Nat.le_of_not_lt
   intro hlt
   rw [List.getElem?_append_left (by simpa using hlt), List.getElem?_replicate] at h2
   split at h2 <;> cases h2
  rw [List.getElem?_append_right (by simpa using hi), List.length_replicate] at h2
  have h1' : F[i - TN.length]? = some x := by
   have : (TN ++ F)[i]? = some x := h1
   rw [List.getElem?_append_right hi] at this
   exact this
  have e3 := congrArg (fun l => l[i - TN.length]?) hix
  simp only [List.getElem?_map, h1', Option.map_some] at e3
  unfold sub at h2
  rw [List.getElem?_map] at h2
  cases ej : ix[i - TN.length]? with
  | none => rw [ej] at h2; cases h2
  | some k =>
   rw [ej] at h2 e3
   have h2' : (σ[k]?).join = some v := Option.some.inj h2
   have e3' : X.N[k]? = some x := Option.some.inj e3
   have hσ : σ[k]? = some (some v) := by
    cases e : σ[k]? with
    | none => rw [e] at h2'; cases h2'
    | some q =>
     rw [e] at h2'
     have : q = some v := h2'
     rw [this]
   have hfr := S.ff x (List.mem_of_getElem? h1')
   have hcell := (S.fr _ hfr rfl).1
   obtain ⟨m0, hn0, hl0⟩ := I.loc
   obtain ⟨u, r, l⟩ := hl0 k x v e3' hσ (.inr (.inl hcell))
   refine ⟨u, r, ?_⟩
   rcases l with ⟨l1, _⟩ | ⟨_, c, hc, o, ho', hd⟩
   ·have l1' : X.env.scope.names.lookup x = some .local := l1
    rw [hcell] at l1'
    cases l1'
   ·exact .inr ⟨.inl (relabel_free (env := X.env) S.okind hcell (S.fr _ hfr rfl).2), c, (cl' x hfr).trans hc, o, hk c o ho', hd⟩
 ·rcases cl x c e with z | z
  ·exact ⟨_, (hcl x c z).1⟩
  ·obtain ⟨v, o, ho', hd⟩ := I.cell x c z
   exact ⟨v, o, hk c o ho', hd⟩
 ·rcases cl x c e with z | z
  ·exact I.hok.fresh (Nat.le_of_lt (hcl x c z).2)
  ·exact I.freeC x c z
 ·show _ = (TN ++ F).length
  rw [List.length_append, List.length_append, List.length_replicate]
  unfold sub
  rw [List.length_map, hlen]
theorem comp_blockN {X : Cx} {pins : List (Addr × Obj)} {σ : St} {H : Hp} {s : Shared} {sc : Scope} {TN F : List Str} {ix : List Nat} {elt tg iter : Expr} {ifs : List Expr} {pos : Pos} {g : TG} {tc : TT} {te : TE} {J : It} {fp : List Addr} {it : Addr} {tn : Nat → Heap → Prop} {Q : VK}
  {RR : Value → Addr → Result → Shared → Prop} {E : Value → Shared → Prop}
  (S : NScope X.env.scope sc TN F) (hix : ix.map (fun i => X.N[i]?) = F.map some) (hc : X.calm = true) (I : Inv X pins σ H s) (T : Turn X.prog X.w X.K tg J fp it tn) (st : tn 0 s.heap) (hf : ∀ b ∈ fp, FpOk X pins H b)
  (hg : ∀ cl C fp s3 H3 xe, PG (cxN X (TN ++ F) sc cl C fp s3 H3 xe) tg g) (ht : ∀ cl C fp s3 H3 xe, PTs (cxN X (TN ++ F) sc cl C fp s3 H3 xe) ifs tc) (he : ∀ cl C fp s3 H3 xe, PE (cxN X (TN ++ F) sc cl C fp s3 H3 xe) elt te)
  (hW : ∀ D, H D = none → CGo J D g tc te Q (List.replicate TN.length none ++ sub ix σ) H)
  (fin : ∀ D C H' s', Inv X pins σ H' s' → (∃ m, s'.heap.Ns C m) → H' C = none → C ≠ X.env.locals → X.s₀.heap.objs.size ≤ C → (∀ x c, X.env.cells.lookup x = some c → c ≠ C) → (∀ p ∈ X.pn ++ pins, p.1 ≠ C) → Q (.ref D) H' → RR (.ref D) C (.ok .next) s') :
  wpAny (model X.prog X.w) X.A (newList []) (fun acc s₃ => wpAny (model X.prog X.w) X.A (newFunctionEnv sc X.env.globals (cloF X.env sc.names []) [] X.env.qual none .none (some X.env)) (fun cenv s₄ =>
   codeAny (model X.prog X.w) X.A (.compStart (.ListComp elt [⟨tg, iter, ifs, 0⟩] sc pos) 0 (.ref it) acc { cenv with scope := relabel sc X.env }) (RR acc cenv.locals) s₄) E s₃) E s := by
 have hfo : ∀ b ∈ fp, ∃ o, s.heap.get? b = some o := fun b hb => let ⟨o, e, _⟩ := T.obj 0 _ st b hb; ⟨o, e⟩
 refine wpAny_newObj_type ?_
 obtain ⟨W, ⟨m0, w0⟩, go⟩ := hW s.heap.objs.size I.fresh
 have I3 : Inv X pins σ (upd H s.heap.objs.size (.lst [])) { s with heap := s.heap.push { cls := .type "list", data := .seq ([] : List Value).toArray } } := I.lnew (its := []) (ys := []) (t' := s.toks) .nil (Nat.zero_le _)
 generalize hs3 : ({ s with heap := s.heap.push { cls := .type "list", data := .seq ([] : List Value).toArray } } : Shared) = s3 at I3
 have hk3 : ∀ b o, s.heap.get? b = some o → s3.heap.get? b = some o := fun b o e => by
  rw [← hs3]
  exact Heap.get?_push_of_some _ e
 have hf3 : ∀ b ∈ fp, FpOk X pins (upd H s.heap.objs.size (.lst [])) b := fun b hb => by
  obtain ⟨o, e⟩ := hfo b hb
  exact ⟨by rw [upd_ne (Nat.ne_of_lt (Heap.lt_size e))]; exact (hf b hb).1, (hf b hb).2⟩
 have st3 : tn 0 s3.heap := T.keep 0 _ _ st fun b hb o e => hk3 b o e
 show wpAny _ _ _ _ _ s3
 refine newEnv_cells (fun h4 hn4 hk4 hcl4 hap4 => ?_)
 generalize hR : RR (.ref s.heap.objs.size) s3.heap.objs.size = R
 have loop : ∀ s4 : Shared, s4 = { s3 with heap := h4 } →
   codeAny (model X.prog X.w) X.A (.compLoop (.ListComp elt [⟨tg, iter, ifs, 0⟩] sc pos) 0 (.ref it) (.ref s.heap.objs.size) (compEnvC sc (allC X.env s3.heap.objs.size sc) s3.heap.objs.size X.env)) R s4 := by
  rintro s4 rfl
  let X' : Cx := cxN X (TN ++ F) sc (allC X.env s3.heap.objs.size sc) s3.heap.objs.size fp s3 (upd H s.heap.objs.size (.lst [])) (notedBy (model X.prog X.w) X.A (compEnvC sc (allC X.env s3.heap.objs.size sc) s3.heap.objs.size X.env) fun e s' => R (.error e) s')
  have I4 : Inv X' [] (List.replicate TN.length none ++ sub ix σ) (upd H s.heap.objs.size (.lst [])) { s3 with heap := h4 } :=
   inv_compN S hix I3 hf3 (fun b hb => let ⟨o, e⟩ := hfo b hb; ⟨o, hk3 b o e⟩) hk4 hn4 hcl4 hap4
  have fpx : ∀ {H' : Hp}, (∀ b ∈ fp, H' b = none) → ∀ b ∈ fp, FpOk X' [] H' b := fun {H'} hn b hb => by
   refine ⟨hn b hb, (I4.ok.exf b hb).1, fun z => I4.ok.exfs b hb z, .inl hb, fun x c e => (I4.ok.exf b hb).2 x c e, fun p hp => absurd (show p ∈ ([] : List (Addr × Obj)) from hp) (by simp)⟩
  refine comp_loop (fun n s' => ∃ i τ ys H', Inv X' [] τ H' s' ∧ tn i s'.heap ∧ (∀ b ∈ fp, H' b = none) ∧ W i n τ ys H') ?_ m0 ⟨0, _, [], _, I4, T.keep 0 _ _ st3 fun b hb o e => hk4 b o e, fun b hb => (hf3 b hb).1, w0⟩
  rintro n s5 ⟨i, τ, ys, H5, I5, st5, fr5, w5⟩
  obtain ⟨hD, hgo⟩ := go i n τ ys H5 w5
  rcases hgo with ⟨stop, q⟩ | ⟨hgo, step⟩
  ·refine thn (T.done X' rfl rfl rfl hc i [] s5 τ H5 X'.xe I5 (fpx fr5) st5 stop) fun r s6 ⟨hr, I6⟩ => ?_
   subst hr
   show R (.ok .next) s6
   rw [← hR]
   have J6 : Inv X pins σ H5 s6 := I3.call' (ch := fp) I6.os I6.base I6.hok I6.bare fun b hb => ⟨(hf3 b hb).2.2.2.1, (hf3 b hb).2.1, (hf3 b hb).2.2.2.2.1, (hf3 b hb).2.2.2.2.2⟩
   refine fin s.heap.objs.size s3.heap.objs.size H5 s6 J6 (let ⟨m, hn, _⟩ := I6.loc; ⟨m, hn⟩) I6.free (Nat.ne_of_gt I3.lt) I3.sz (fun x c e z => ?_) (fun p hp z => ?_) q
   ·obtain ⟨v, o, ho, _⟩ := I3.cell x c e
    exact absurd (Heap.lt_size ho) (by rw [z]; exact Nat.lt_irrefl _)
   ·exact absurd (Heap.lt_size (I3.pin p hp).1) (by rw [z]; exact Nat.lt_irrefl _)
  ·refine thn (T.item X' rfl rfl rfl hc i [] s5 τ H5 X'.xe I5 (fpx fr5) st5 hgo) fun r s6 ⟨u, hr, h6⟩ => ?_
   subst hr
   refine thn h6 fun _ s7 ⟨v, H7, I7, r7, y7, st7, fr7⟩ => ?_
   have I7' := I7.pinned (fpx fr7) (T.obj _ _ st7)
   refine thn (hg _ _ _ _ _ _ _ s7 τ H7 v u _ I7' r7 (step v H7 y7)) fun _ s8 ⟨τ8, H8, I8, q8⟩ => ?_
   refine thn (ht _ _ _ _ _ _ _ s8 τ8 H8 _ I8 q8) fun ok s9 ⟨H9, I9, q9⟩ => ?_
   have again : ∀ {ys' : List V} {H' : Hp} {s' : Shared}, Inv X' ([] ++ pinsAt fp s7.heap) τ8 H' s' → (∃ m', m' < n ∧ W (i + 1) m' τ8 ys' H') → ∃ m, m < n ∧ ∃ i τ ys H'', Inv X' [] τ H'' s' ∧ tn i s'.heap ∧ (∀ b ∈ fp, H'' b = none) ∧ W i m τ ys H'' := fun {ys' H' s'} I' ⟨m', hm, w'⟩ => by
    refine ⟨m', hm, i + 1, τ8, ys', H', I'.unpinned, T.keep _ _ _ st7 fun b hb o e => (I'.pin (b, o) (List.mem_append_right _ (List.mem_append_right _ (mem_pinsAt hb e)))).1, fun b hb => ?_, w'⟩
    obtain ⟨o, e, d⟩ := T.obj _ _ st7 b hb
    exact (I'.pin (b, o) (List.mem_append_right _ (List.mem_append_right _ (mem_pinsAt hb e)))).2.1
   cases ok with
   | false =>
    exact again I9 q9
   | true =>
    refine thn (he _ _ _ _ _ _ _ s9 τ8 H9 _ I9 q9) fun x s10 ⟨y, H10, I10, r10, hD10, hz10, q10⟩ => ?_
    exact append_ok (X := X') I10 hD10 hz10 r10 fun s11 I11 => again I11 q10
 subst hR
 exact codeAny_compStart_list (loop _ rfl) (T.self X.A 0 _ _ _ (T.keep 0 _ _ st3 fun b hb o e => hk4 b o e) (loop _ rfl))
section
variable {X : Cx} {sc : Scope} {TN F : List Str} {ix : List Nat} {elt tg iter : Expr} {ifs : List Expr} {pos : Pos} {g : TG} {tc : TT} {te : TE} {wi : TI}
theorem closure_ofN (S : NScope X.env.scope sc TN F) {pins : List (Addr × Obj)} {σ : St} {H : Hp} {s : Shared} (I : Inv X pins σ H s) : closureFor sc X.env = pure (cloF X.env sc.names []) :=
 closure_eq fun x hx hk => I.ok.has x.1 (.inl (S.fr x hx hk).1)
theorem pe_compN (S : NScope X.env.scope sc TN F) (hix : ix.map (fun i => X.N[i]?) = F.map some) (hc : X.calm = true) (hi : PI X tg iter wi)
  (hg : ∀ cl C fp s3 H3 xe, PG (cxN X (TN ++ F) sc cl C fp s3 H3 xe) tg g) (ht : ∀ cl C fp s3 H3 xe, PTs (cxN X (TN ++ F) sc cl C fp s3 H3 xe) ifs tc) (he : ∀ cl C fp s3 H3 xe, PE (cxN X (TN ++ F) sc cl C fp s3 H3 xe) elt te)
  (hs : ∀ x, foldedSetIterable iter X.env x = pure x := by intro _; rfl) : PE X (.ListComp elt [⟨tg, iter, ifs, 0⟩] sc pos) (tComp wi TN.length ix g tc te) := by
 intro pins s σ H Q I h
 rw [eval_ListComp]
 refine wpAny_comprehension_free (use := none) rfl hs (closure_ofN S I) S.kind S.names (thn (hi pins s σ H _ I h) fun v s1 h1 => thn h1 fun itv s2 h2 => ?_)
 obtain ⟨it, fp, tn, J, H2, e, I2, T, st2, f2, q2⟩ := h2
 subst e
 refine comp_blockN (RR := fun acc C => compPost (model X.prog X.w) X.A X.xe none (EP X pins σ Q) acc C) S hix hc I2 T st2 f2 hg ht he q2 fun D C H' s' I' hn hC1 hC2 hC3 hC4 hC5 q => ?_
 obtain ⟨m, hn⟩ := hn
 exact ⟨m, hn, fun h' hs' => ⟨.ref D, H', I'.turned (t' := s'.toks) (fun b o hb e => (hs'.2 b hb).trans e) hC1 hC2 (.inr hC3) hC4 hC5, rfl, q⟩⟩
end
structure NBScope (o sc : Scope) (TN F G : List Str) : Prop extends NScope o sc TN F where
 nd : (TN ++ F).Nodup
 vis : ∀ x ∈ TN ++ F, Vis (relabelS sc o) x
 loc : ∀ x ∈ TN, (relabelS sc o).names.lookup x = some .local ∨ ((relabelS sc o).names.lookup x = some .cell ∧ sc.names.lookup x = some .cell)
 gl : ∀ x ∈ G, (relabelS sc o).names.lookup x = some .globalImplicit
section
variable {X : Cx} {sc : Scope} {TN F G : List Str} {cl : List (Str × Addr)} {C : Addr} {fp : List Addr} {s3 : Shared} {H3 : Hp} {xe : Value → Shared → Prop} {x : Str} {pos : Pos}
theorem pvbN (S : NBScope X.env.scope sc TN F G) (i : Nat) (hN : (TN ++ F)[i]? = some x := by rfl) (hd : (x == ("__debug__" : Str)) = false := by decide) (hcd : (x == ("__classdict__" : Str)) = false := by decide) : PE (cxN X (TN ++ F) sc cl C fp s3 H3 xe) (.Name x pos) (tVar i) :=
 pe_var hN (S.vis x (List.mem_of_getElem? hN)) hd hcd
theorem pgbN (S : NBScope X.env.scope sc TN F G) (i : Nat) (hN : (TN ++ F)[i]? = some x := by rfl) (hT : TN[i]? = some x := by rfl) : PG (cxN X (TN ++ F) sc cl C fp s3 H3 xe) (.Name x pos) (gName i) := by
 rcases S.loc x (List.mem_of_getElem? hT) with z | ⟨z, z'⟩
 ·exact pg_name S.nd hN (.inl z) (.inr z)
 ·exact pg_name S.nd hN (.inr z) (.inl (by show (sc.names.lookup x == some .cell) = true; rw [z']; rfl))
theorem NBScope.g (S : NBScope X.env.scope sc TN F G) (i : Nat) (hG : G[i]? = some x := by rfl) : Gl (cxN X (TN ++ F) sc cl C fp s3 H3 xe) x := S.gl x (List.mem_of_getElem? hG)
end
end L2
namespace PySem
open Sem (wp)
open Builtin
open AutoSeq1 (wpAny_loadPart')
theorem noFill_tuple_mul : fillsNumberSlot (.type "tuple") "mul" = pure false :=
 fillsNumberSlot_seq (id := "tuple.__mul__") (r := some (.builtin "tuple.__rmul__")) F.slot_tuple_mul.lookup (by decide +kernel) F.slot_tuple_rmul.lookup (by decide +kernel)
theorem repeat_tuple : seqRepeat? (.type "tuple") = pure (some (.builtin "tuple.__mul__")) := by
 unfold seqRepeat?
 rw [seqSlot_of (T := "tuple") (name := "__mul__") (id := "tuple.__mul__") F.slot_tuple_mul.lookup (by decide +kernel), seqSlot_of (T := "tuple") (name := "__rmul__") (id := "tuple.__rmul__") F.slot_tuple_rmul.lookup (by decide +kernel)]
 rfl
theorem rmulW (a : Int) (t : Tok) (l : Addr) (items : Array Value) (n : Nat) (dd : Option Addr) (sl : Array (Option Value)) :
  Meets (Builtin.«int.__rmul__» ⟨[.int a t, .ref l], []⟩) (fun _ R s => s.heap.get? l = some { cls := .type "tuple", dict := dd, data := .seq items n, slots := sl } ∧ R (.ok (.ret Value.notImplemented)) s) :=
 .of_wp fun prog w A R s h => by obtain ⟨hp, g, d, tk, os⟩ := s; obtain ⟨hl, h⟩ := h; wp_walk; exact ⟨_, rfl, h⟩
theorem tuple_mulW1 (l : Addr) (items : Array Value) (n : Nat) (dd : Option Addr) (sl : Array (Option Value)) (u : Tok) :
  Meets (Builtin.«tuple.__mul__» ⟨[.ref l, .int 1 u], []⟩) (fun _ R s => s.heap.get? l = some { cls := .type "tuple", dict := dd, data := .seq items n, slots := sl } ∧ R (.ok (.ret (.ref l))) s) :=
 .of_wp fun prog w A R s h => by
  obtain ⟨hp, g, d, tk, os⟩ := s; obtain ⟨hl, h⟩ := h
  have f1 := AutoSeq1.idx_int
  wp_walk using wpAny_loadPart' hl
  exact ⟨_, rfl, h⟩
theorem tuple_mulW2 (l : Addr) (items : Array Value) (n : Nat) (dd : Option Addr) (sl : Array (Option Value)) (x : Int) (u : Tok) (c1 : (decide (x < -2 ^ 63) || decide (x ≥ 2 ^ 63)) = false) (c2 : (items.isEmpty || x == 1) = false) (c3 : (decide (x ≤ 0) || items.isEmpty) = false) (c4 : ¬ (items.size : Int) * x > (2 ^ 63 - 1) / 8) (c5 : Tuple.tupleTooMany ((items.size : Int) * x) = false) (hz : (List.foldl (fun x1 x2 => x1 ++ x2) #[] (List.replicate x.toNat items)).size ≤ sizeLine) :
  Meets (Builtin.«tuple.__mul__» ⟨[.ref l, .int x u], []⟩) (fun _ R s => s.heap.get? l = some { cls := .type "tuple", dict := dd, data := .seq items n, slots := sl } ∧ R (.ok (.ret (Value.ref s.heap.objs.size))) { s with heap := s.heap.push { cls := Value.type "tuple", data := Data.seq (List.foldl (fun x1 x2 => x1 ++ x2) #[] (List.replicate x.toNat items)) }, toks := s.toks }) :=
 .of_wp fun prog w A R s h => by
  obtain ⟨hp, g, d, tk, os⟩ := s; obtain ⟨hl, h⟩ := h
  have f1 := AutoSeq1.idx_int
  wp_walk using wpAny_loadPart' hl
  refine wpAny_ite_false (decide_eq_false (by rw [c1]; exact Bool.false_ne_true)) ?_
  wp_walk using wpAny_loadPart' hl
  refine wpAny_ite_false (decide_eq_false c4) ?_
  wp_walk using wpAny_loadPart' hl
  exact ⟨_, rfl, h⟩
end PySem
namespace L2
open PySem PySem.Spec PyProof.Rows
section
variable {X : Cx}
def rRepT : R2 := fun x y H Q => ∃ a k xs, x = .ref a ∧ y = .int k ∧ H a = some (.tup xs) ∧ xs ≠ [] ∧ 0 < k ∧ k ≤ 1000 ∧ xs.length * k.toNat ≤ 1000 ∧ (k = 1 → Q (.ref a) H) ∧
 (k ≠ 1 → ∀ p, H p = none → Q (.ref p) (upd H p (.tup (List.replicate k.toNat xs).flatten)))
theorem op_repT : OpR X (binaryOp .Mult) rRepT := by
 intro pins s σ H x y v u Q I rx ry h
 obtain ⟨a, k, xs, rfl, rfl, hH, hne, h0, h1, hz, q1, q2⟩ := h
 cases rx
 obtain ⟨t, rfl⟩ := ry
 obtain ⟨z, its, rv, ⟨cls, dd, data, sl⟩, e, c, n, d⟩ := I.hok a _ hH
 simp only at c d
 subst c d
 have hl : xs.length = its.length := rv.length
 have hits : its ≠ [] := fun z => hne (rv.nil_iff.mp z)
 by_cases hk : k = 1
 ·subst hk
  refine wpAny_binaryOp_repeat_ref (T := "tuple") (U := "int") (by decide) ⟨_, e, rfl⟩ (fun s' => typeIs_int s' 1 t) noFill_tuple_mul F.fills_int_mul F.slot_int_rmul repeat_tuple F.slot_int_index.lookup
   (call_meets F.slot_int_rmul (typeIs_int s 1 t) F.entry_int_rmul (F.args_int_rmul_2 _ _) (rmulW 1 t a its.toArray n dd sl)
    ⟨e, rfl, ⟨_, e, rfl⟩, call_meets F.slot_tuple_mul ⟨_, e, rfl⟩ F.entry_tuple_mul (F.args_tuple_mul_2 _ _) (tuple_mulW1 a its.toArray n dd sl t) ⟨e, ?_⟩⟩)
  exact ⟨.ref a, H, I, rfl, q1 rfl⟩
 ·have hnew : List.foldl (fun x1 x2 => x1 ++ x2) #[] (List.replicate k.toNat its.toArray) = (List.replicate k.toNat its).flatten.toArray := by
   have := foldl_rep its k.toNat []
   rw [List.nil_append] at this
   exact this
  have hsz : its.length * k.toNat ≤ 1000 := by rw [← hl]; exact hz
  have h10 : (1000 : Nat) ≤ sizeLine := by decide
  have hmul : ((its.toArray.size : Nat) : Int) * k ≤ 1000 := by
   rw [List.size_toArray]
   have : ((its.length : Nat) : Int) * k = ((its.length * k.toNat : Nat) : Int) := by
    rw [Int.natCast_mul, Int.toNat_of_nonneg (by omega)]
   omega
  have hlen : (List.replicate k.toNat its).flatten.length ≤ sizeLine := by
   rw [len_rep, Nat.mul_comm]
   omega
  refine wpAny_binaryOp_repeat_ref (T := "tuple") (U := "int") (by decide) ⟨_, e, rfl⟩ (fun s' => typeIs_int s' k t) noFill_tuple_mul F.fills_int_mul F.slot_int_rmul repeat_tuple F.slot_int_index.lookup
   (call_meets F.slot_int_rmul (typeIs_int s k t) F.entry_int_rmul (F.args_int_rmul_2 _ _) (rmulW k t a its.toArray n dd sl)
    ⟨e, rfl, ⟨_, e, rfl⟩, call_meets F.slot_tuple_mul ⟨_, e, rfl⟩ F.entry_tuple_mul (F.args_tuple_mul_2 _ _) (tuple_mulW2 a its.toArray n dd sl k t ?_ ?_ ?_ ?_ ?_ ?_) ⟨e, ?_⟩⟩)
  ·have a1 : ¬ k < -2 ^ 63 := by omega
   have a2 : ¬ k ≥ 2 ^ 63 := by omega
   rw [decide_eq_false a1, decide_eq_false a2]
   rfl
  ·simp [hits, hk]
  ·have a1 : ¬ k ≤ 0 := by omega
   simp [hits, a1]
  ·omega
  ·show decide (_ > (sizeLine : Int)) = false
   refine decide_eq_false ?_
   have : ((1000 : Nat) : Int) ≤ (sizeLine : Int) := Int.ofNat_le.mpr h10
   omega
  ·rw [hnew, List.size_toArray]
   exact hlen
  ·rw [hnew]
   refine ⟨.ref s.heap.objs.size, _, I.laid (t' := s.toks) (o := .tup (List.replicate k.toNat xs).flatten) (fun b ob q => Heap.get?_push_of_some _ q) (Nat.le_refl _) ?_, rfl, q2 hk _ (I.hok.fresh (Nat.le_refl _))⟩
   exact ⟨by rw [len_rep, hl, ← len_rep]; exact hlen, _, rv.rep k.toNat, IsTup.new _ _⟩
theorem iteNB {c A B : Prop} [Decidable c] (h1 : ¬ c → A) (h2 : c → B) : if (!decide c) = true then A else B := by
 by_cases hc : c
 ·rw [decide_eq_true hc]
  exact h2 hc
 ·rw [decide_eq_false hc]
  exact h1 hc
theorem rep_one (m : Nat) (c : Int) : (List.replicate m [V.int c]).flatten = (List.replicate m c).map V.int := by
 induction m with
 | zero => rfl
 | succ m ih => rw [List.replicate_succ, List.flatten_cons, ih, List.replicate_succ]; rfl
end
section
variable {prog : Program} {w : World} {A : Around} {E : Value → Shared → Prop} {s : Shared}
theorem lstX {h h' : Heap} {t a : Addr} {its : Array Value} (T : h.IsList t its) (x : Heap.ExtBut a h h') (n : t ≠ a) : h'.IsList t its := T.extBut x n
theorem lstJ {h h' : Heap} {j t a : Addr} {i : Nat} (J : h.IsListIter j t i) (x : Heap.ExtBut a h h') (n : j ≠ a) : h'.IsListIter j t i := J.at fun o e => x j o n e
theorem zipM_item {z TI TO i1 i2 l1 l2 : Addr} {k1 k2 : Nat} {xs ys : Array Value} {x y a b : Value} {Q : Value → Shared → Prop} (D : ZipApart z TI TO i1 i2 l1 l2) (hz : IsZip s.heap z TI TO .none) (hTI : IsPair s.heap TI (.ref i1) (.ref i2)) (hTO : IsPair s.heap TO a b)
  (h1 : s.heap.IsTupleIter i1 l1 k1) (h2 : s.heap.IsListIter i2 l2 k2) (hl1 : s.heap.IsTuple l1 xs) (hl2 : s.heap.IsList l2 ys) (hx : xs[k1]? = some x) (hy : ys[k2]? = some y)
  (hQ : ∀ h', IsZip h' z TI TO (rawInt s.heap.objs.size) → IsPair h' TO x y → h'.IsTupleIter i1 l1 (k1 + 1) → h'.IsListIter i2 l2 (k2 + 1) → IsPair h' s.heap.objs.size x y →
   (∀ d o, d ≠ z → d ≠ TO → d ≠ i1 → d ≠ i2 → s.heap.get? d = some o → h'.get? d = some o) → Q (.ref s.heap.objs.size) { s with heap := h' }) :
  wpAny (model prog w) A (Builtin.«zip.__next__» ⟨[.ref z], []⟩) (fun f s' => ∃ v, f = .done (.ret v) ∧ Q v s') E s := by
 show wpAny _ _ (field (.ref z) 2 >>= _) _ _ _; refine wpAny_bind (wpAny_field hz rfl (x := .bool false) rfl ?_)
 show wpAny _ _ (field (.ref z) 3 >>= _) _ _ _; refine wpAny_bind (wpAny_field hz rfl (x := .ref TI) rfl ?_)
 refine wpAny_bind (wpAny_seqItems hTI rfl ?_); show wpAny _ _ (Builtin.SmallTypes.ownedTupleIsFree (.ref z) >>= _) _ _ _
 refine wpAny_bind ?_; unfold Builtin.SmallTypes.ownedTupleIsFree
 refine wpAny_bind (wpAny_field hz rfl (x := .none) rfl (wpAny_pure ?_)); simp only [if_true]
 refine wpAny_bind (wpAny_rule ?_); refine wpAny_bind (wpAny_field hz rfl (x := .ref TO) rfl ?_)
 refine wpAny_bind (wpAny_setField_rec hz (by simp) fun g1 zz1 s1 => ?_); replace zz1 : IsZip g1 z TI TO .ellipsis := zz1
 refine wpAny_bind ?_; simp only [List.zipIdx_cons, List.zipIdx_nil, List.forIn_cons, List.forIn_nil]
 refine wpAny_bind (wpAny_bind (wpAny_onRaise ?_)); show wpAny _ _ (Builtin.SmallTypes.nextOf (.ref i1) >>= _) _ _ _
 refine wpAny_bind (nextT_item (tupJ h1 s1.extBut D.i1z) (tupX hl1 s1.extBut D.l1z) hx fun g2 j2 s2 => wpAny_pure ?_)
 have o2 : IsPair g2 TO a b := s2.extBut _ _ D.TOi1 (s1.extBut _ _ D.TOz hTO)
 refine wpAny_bind (wpAny_seqItems o2 rfl ?_); refine wpAny_bind (wpAny_updateSeq_pair o2 fun g3 o3 s3 => ?_); replace o3 : IsPair g3 TO x b := o3
 refine wpAny_bind (wpAny_letGo (wpAny_pure ?_)); refine wpAny_bind (wpAny_bind (wpAny_onRaise ?_)); show wpAny _ _ (Builtin.SmallTypes.nextOf (.ref i2) >>= _) _ _ _
 refine wpAny_bind (wpAny_nextOf_list_item (lstJ (lstJ (lstJ h2 s1.extBut D.i2z) s2.extBut D.i12.symm) s3.extBut D.TOi2.symm) (lstX (lstX (lstX hl2 s1.extBut D.l2z) s2.extBut D.l2i1) s3.extBut D.l2TO) hy fun g4 j4 s4 => wpAny_pure ?_)
 have o4 : IsPair g4 TO x b := s4.extBut _ _ D.TOi2 o3
 refine wpAny_bind (wpAny_seqItems o4 rfl ?_); refine wpAny_bind (wpAny_updateSeq_pair o4 fun g5 o5 s5 => ?_); replace o5 : IsPair g5 TO x y := o5
 refine wpAny_bind (wpAny_letGo (wpAny_pure (wpAny_pure ?_))); refine wpAny_bind (wpAny_seqItems o5 rfl ?_); refine wpAny_bind (wpAny_newTuple ?_)
 have sz : g5.objs.size = s.heap.objs.size := by rw [s5.1, s4.1, s3.1, s2.1, s1.1]
 have z5 : IsZip g5 z TI TO .ellipsis := s5.extBut _ _ D.TOz.symm (s4.extBut _ _ D.i2z.symm (s3.extBut _ _ D.TOz.symm (s2.extBut _ _ D.i1z.symm zz1)))
 have k5 : ∀ c o, c ≠ z → c ≠ TO → c ≠ i1 → c ≠ i2 → s.heap.get? c = some o → g5.get? c = some o := fun c o c1 c2 c3 c4 q => s5.extBut _ _ c2 (s4.extBut _ _ c4 (s3.extBut _ _ c2 (s2.extBut _ _ c3 (s1.extBut _ _ c1 q))))
 have a5 : g5.IsTupleIter i1 l1 (k1 + 1) := tupJ (tupJ (tupJ j2 s3.extBut D.TOi1.symm) s4.extBut D.i12) s5.extBut D.TOi1.symm
 have b5 : g5.IsListIter i2 l2 (k2 + 1) := lstJ j4 s5.extBut D.TOi2.symm
 have zlt : z < g5.objs.size := Heap.lt_size z5
 show wpAny _ _ (Builtin.SmallTypes.ownedTupleHandOut (.ref z) (.ref g5.objs.size) >>= _) _ _ _; refine wpAny_bind ?_; unfold Builtin.SmallTypes.ownedTupleHandOut
 have z6 : IsZip (g5.push { cls := .type "tuple", data := .seq #[x, y] }) z TI TO .ellipsis := Heap.get?_push_of_some _ z5
 refine wpAny_bind (wpAny_setField_rec z6 (by simp) fun g7 z7 s7 => ?_); replace z7 : IsZip g7 z TI TO (rawInt g5.objs.size) := z7
 refine wpAny_setField_rec z7 (by simp) fun g8 z8 s8 => ?_; replace z8 : IsZip g8 z TI TO (rawInt g5.objs.size) := z8
 have up : ∀ c o, c ≠ z → g5.get? c = some o → g8.get? c = some o := fun c o c1 q => s8.extBut _ _ c1 (s7.extBut _ _ c1 (Heap.get?_push_of_some _ q))
 have t8 : IsPair g8 g5.objs.size x y := s8.extBut _ _ (Nat.ne_of_gt zlt) (s7.extBut _ _ (Nat.ne_of_gt zlt) (Heap.get?_push_size _ rfl))
 rw [sz] at z8 t8; refine wpAny_pure ⟨_, rfl, ?_⟩; show Q (.ref g5.objs.size) _; rw [sz]
 exact hQ g8 z8 (up _ _ D.TOz o5) (a5.at fun o q => up _ o D.i1z q) (b5.at fun o q => up _ o D.i2z q) t8 fun c o c1 c2 c3 c4 q => up c o c1 (k5 c o c1 c2 c3 c4 q)
theorem zipM_end {z TI TO i1 i2 l1 l2 : Addr} {k1 k2 : Nat} {xs ys : Array Value} {a b : Value} {Q : Fin → Shared → Prop} (hh : A.handled = none) (D : ZipApart z TI TO i1 i2 l1 l2) (hz : IsZip s.heap z TI TO .none) (hTI : IsPair s.heap TI (.ref i1) (.ref i2)) (hTO : IsPair s.heap TO a b)
  (h1 : s.heap.IsTupleIter i1 l1 k1) (h2 : s.heap.IsListIter i2 l2 k2) (hl1 : s.heap.IsTuple l1 xs) (hl2 : s.heap.IsList l2 ys) (hend : xs[k1]? = none ∨ ys[k2]? = none)
  (hE : ∀ h' e, (∀ d o, d ≠ z → d ≠ TO → d ≠ i1 → d ≠ i2 → s.heap.get? d = some o → h'.get? d = some o) → (∃ o, h'.get? e = some o ∧ o.cls = .type "StopIteration") → E (.ref e) { s with heap := h' }) : wpAny (model prog w) A (Builtin.«zip.__next__» ⟨[.ref z], []⟩) Q E s := by
 show wpAny _ _ (field (.ref z) 2 >>= _) _ _ _; refine wpAny_bind (wpAny_field hz rfl (x := .bool false) rfl ?_)
 show wpAny _ _ (field (.ref z) 3 >>= _) _ _ _; refine wpAny_bind (wpAny_field hz rfl (x := .ref TI) rfl ?_)
 refine wpAny_bind (wpAny_seqItems hTI rfl ?_); show wpAny _ _ (Builtin.SmallTypes.ownedTupleIsFree (.ref z) >>= _) _ _ _
 refine wpAny_bind ?_; unfold Builtin.SmallTypes.ownedTupleIsFree
 refine wpAny_bind (wpAny_field hz rfl (x := .none) rfl (wpAny_pure ?_)); simp only [if_true]
 refine wpAny_bind (wpAny_rule ?_); refine wpAny_bind (wpAny_field hz rfl (x := .ref TO) rfl ?_)
 refine wpAny_bind (wpAny_setField_rec hz (by simp) fun g1 zz1 s1 => ?_); replace zz1 : IsZip g1 z TI TO .ellipsis := zz1
 refine wpAny_bind ?_; simp only [List.zipIdx_cons, List.zipIdx_nil, List.forIn_cons, List.forIn_nil]
 refine wpAny_bind (wpAny_bind (wpAny_onRaise ?_)); show wpAny _ _ (Builtin.SmallTypes.nextOf (.ref i1) >>= _) _ _ _
 cases hx : xs[k1]? with
 | none =>
  refine wpAny_bind (nextT_end hh (tupJ h1 s1.extBut D.i1z) (tupX hl1 s1.extBut D.l1z) hx fun g2 e s2 he => ?_)
  obtain ⟨oe, hoe, hce⟩ := he; have z2 : IsZip g2 z TI TO .ellipsis := s2 _ _ D.i1z.symm zz1
  have ez : e ≠ z := fun q => by subst q; rw [z2] at hoe; cases hoe; simp at hce
  refine wpAny_setField_rec z2 (by simp) fun g3 _ s3 => hE g3 e (fun c o c1 _ c3 _ q => s3.extBut _ _ c1 (s2 _ _ c3 (s1.extBut _ _ c1 q))) ⟨oe, s3.extBut _ _ ez hoe, hce⟩
 | some x =>
  have hy : ys[k2]? = none := by rcases hend with q | q; rw [hx] at q; cases q; exact q
  refine wpAny_bind (nextT_item (tupJ h1 s1.extBut D.i1z) (tupX hl1 s1.extBut D.l1z) hx fun g2 j2 s2 => wpAny_pure ?_)
  have o2 : IsPair g2 TO a b := s2.extBut _ _ D.TOi1 (s1.extBut _ _ D.TOz hTO)
  refine wpAny_bind (wpAny_seqItems o2 rfl ?_); refine wpAny_bind (wpAny_updateSeq_pair o2 fun g3 o3 s3 => ?_); refine wpAny_bind (wpAny_letGo (wpAny_pure ?_))
  refine wpAny_bind (wpAny_bind (wpAny_onRaise ?_)); show wpAny _ _ (Builtin.SmallTypes.nextOf (.ref i2) >>= _) _ _ _
  refine wpAny_bind (wpAny_nextOf_list_end hh (lstJ (lstJ (lstJ h2 s1.extBut D.i2z) s2.extBut D.i12.symm) s3.extBut D.TOi2.symm) (lstX (lstX (lstX hl2 s1.extBut D.l2z) s2.extBut D.l2i1) s3.extBut D.l2TO) hy fun g4 e s4 he => ?_)
  obtain ⟨oe, hoe, hce⟩ := he; have z4 : IsZip g4 z TI TO .ellipsis := s4 _ _ D.i2z.symm (s3.extBut _ _ D.TOz.symm (s2.extBut _ _ D.i1z.symm zz1))
  have ez : e ≠ z := fun q => by subst q; rw [z4] at hoe; cases hoe; simp at hce
  refine wpAny_setField_rec z4 (by simp) fun g5 _ s5 => hE g5 e (fun c o c1 c2 c3 c4 q => s5.extBut _ _ c1 (s4 _ _ c4 (s3.extBut _ _ c2 (s2.extBut _ _ c3 (s1.extBut _ _ c1 q))))) ⟨oe, s5.extBut _ _ ez hoe, hce⟩
end
abbrev zmH1 (h : Heap) (a : Addr) : Heap := h.push { cls := .type "tuple_iterator", data := .fields #[.ref a, .int 0 0] }
abbrev zmH2 (h : Heap) (a b : Addr) : Heap := (zmH1 h a).push { cls := .type "list_iterator", data := .fields #[.ref b, .int 0 0] }
abbrev zmH3 (h : Heap) (a b : Addr) : Heap := (zmH2 h a b).push { cls := .type "tuple", data := .seq #[.ref h.objs.size, .ref (zmH1 h a).objs.size] }
abbrev zmH4 (h : Heap) (a b : Addr) : Heap := (zmH3 h a b).push { cls := .type "tuple", data := .seq #[.none, .none] }
abbrev zmH5 (h : Heap) (a b : Addr) : Heap := (zmH4 h a b).push { cls := .type "zip", data := .fields #[.none, .bool false, .bool false, .ref (zmH2 h a b).objs.size, .ref (zmH3 h a b).objs.size] }
theorem zm_new (a b : Addr) (xs ys : Array Value) : Meets (Builtin.«zip.__new__» ⟨[.type "zip", .ref a, .ref b], []⟩) (fun _ R s => s.heap.IsTuple a xs ∧ s.heap.IsList b ys ∧ R (.ok (.ret (.ref (zmH4 s.heap a b).objs.size))) { s with heap := zmH5 s.heap a b }) :=
 .of_wp fun prog w A R s h => by
  obtain ⟨hp, g, d, tk, os⟩ := s; obtain ⟨hA, hB, h⟩ := h; have hsub := sub_zip
  have tA : Heap.IsTuple (Shared.heap ⟨hp, g, d, tk, os⟩) a xs := hA
  have tB : Heap.IsList (Shared.heap ⟨hp.push { cls := .type "tuple_iterator", data := .fields #[.ref a, .int 0 0] }, g, d, tk, os⟩) b ys := let ⟨o, e, r⟩ := hB; ⟨o, Heap.get?_push_of_some _ e, r⟩
  wp_walk using wpAny_pyIter_tuple tA, wpAny_pyIter_list tB
  exact ⟨_, rfl, h⟩
section
variable {prog : Program} {w : World} {A : Around} {E : Value → Shared → Prop} {s : Shared}
theorem call_zm {a b : Addr} {xs ys : Array Value} {Q : Value → Shared → Prop} (hA : s.heap.IsTuple a xs) (hB : s.heap.IsList b ys)
  (k : ∀ h', IsZip h' (s.heap.objs.size + 4) (s.heap.objs.size + 2) (s.heap.objs.size + 3) .none → IsPair h' (s.heap.objs.size + 2) (.ref s.heap.objs.size) (.ref (s.heap.objs.size + 1)) → IsPair h' (s.heap.objs.size + 3) .none .none →
   h'.IsTupleIter s.heap.objs.size a 0 → h'.IsListIter (s.heap.objs.size + 1) b 0 → (∀ c o, s.heap.get? c = some o → h'.get? c = some o) → Q (.ref (s.heap.objs.size + 4)) { s with heap := h' }) :
  wpAny (model prog w) A (call (.type "zip") [.ref a, .ref b]) Q E s := by
 refine callType_new F.called_zip (by decide) (F.typeCall_zip_2 _ _) (F.newCall_zip_2 _ _) (fun obj => F.args_object_init_3 obj _ _) F.entry_zip_new (zm_new a b xs ys) ⟨hA, hB, ?_⟩
 have z1 : (zmH1 s.heap a).objs.size = s.heap.objs.size + 1 := Heap.size_push ..
 have z2 : (zmH2 s.heap a b).objs.size = s.heap.objs.size + 2 := by rw [Heap.size_push, z1]
 have z3 : (zmH3 s.heap a b).objs.size = s.heap.objs.size + 3 := by rw [Heap.size_push, z2]
 have z4 : (zmH4 s.heap a b).objs.size = s.heap.objs.size + 4 := by rw [Heap.size_push, z3]
 have g5 : (zmH5 s.heap a b).get? (zmH4 s.heap a b).objs.size = some _ := Heap.get?_push_size _ rfl
 have g4 : (zmH5 s.heap a b).get? (zmH3 s.heap a b).objs.size = some _ := Heap.get?_push_of_some _ (Heap.get?_push_size _ rfl)
 have g3 : (zmH5 s.heap a b).get? (zmH2 s.heap a b).objs.size = some _ := Heap.get?_push_of_some _ (Heap.get?_push_of_some _ (Heap.get?_push_size _ rfl))
 have g2 : (zmH5 s.heap a b).get? (zmH1 s.heap a).objs.size = some _ := Heap.get?_push_of_some _ (Heap.get?_push_of_some _ (Heap.get?_push_of_some _ (Heap.get?_push_size _ rfl)))
 have g1 : (zmH5 s.heap a b).get? s.heap.objs.size = some _ := Heap.get?_push_of_some _ (Heap.get?_push_of_some _ (Heap.get?_push_of_some _ (Heap.get?_push_of_some _ (Heap.get?_push_size _ rfl))))
 show _ ∧ _
 rw [z2, z3, z4] at g5; rw [z1, z2] at g3; rw [z3] at g4; rw [z1] at g2
 have kk : ∀ c o, s.heap.get? c = some o → (zmH5 s.heap a b).get? c = some o := fun c o q => Heap.get?_push_of_some _ (Heap.get?_push_of_some _ (Heap.get?_push_of_some _ (Heap.get?_push_of_some _ (Heap.get?_push_of_some _ q))))
 rw [z4]
 exact ⟨⟨_, g5, rfl⟩, k _ g5 g3 g4 ⟨_, g1, rfl, rfl⟩ ⟨_, g2, rfl, rfl⟩ kk⟩
end
def Itm (K : PySem.W.Frag) (a b : Addr) : It :=
 ⟨fun i H => ∃ xs ys x y, SqT K H a xs ∧ SqL K H b ys ∧ xs[i]? = some x ∧ ys[i]? = some y, fun i H v H' => ∃ p x y, v = .ref p ∧ H p = none ∧ H' = upd H p (.tup [x, y]) ∧ (∀ xs, SqT K H a xs → xs[i]? = some x) ∧ ∀ ys, SqL K H b ys → ys[i]? = some y,
  fun i H => ∃ xs ys, SqT K H a xs ∧ SqL K H b ys ∧ (xs.length ≤ i ∨ ys.length ≤ i)⟩
theorem turn_zm {P : Program} {w : World} {K : PySem.W.Frag} {es : List Expr} {kt : Nat} {pt : Pos} (a b z TI TO i1 i2 : Addr) (D : ZipApart z TI TO i1 i2 a b) :
  Turn P w K (.Tuple es kt pt) (Itm K a b) [z, TI, TO, i1, i2] z (fun i h => IsZip h z TI TO .none ∧ IsPair h TI (.ref i1) (.ref i2) ∧ (∃ u v, IsPair h TO u v) ∧ h.IsTupleIter i1 a i ∧ h.IsListIter i2 b i) where
 mem := by simp
 obj := fun i h st q hq => by
  obtain ⟨hz, hI, ⟨u, v, hO⟩, ⟨o1, e1, c1, d1⟩, ⟨o2, e2, c2, d2⟩⟩ := st
  simp only [List.mem_cons, List.not_mem_nil, or_false] at hq
  rcases hq with rfl | rfl | rfl | rfl | rfl
  ·exact ⟨_, hz, fun v y => by have y' : Data.fields _ = Data.cell v := y; cases y'⟩
  ·exact ⟨_, hI, fun v y => by have y' : Data.seq _ _ = Data.cell v := y; cases y'⟩
  ·exact ⟨_, hO, fun v y => by have y' : Data.seq _ _ = Data.cell v := y; cases y'⟩
  ·exact ⟨o1, e1, fun v y => by rw [d1] at y; cases y⟩
  ·exact ⟨o2, e2, fun v y => by rw [d2] at y; cases y⟩
 keep := fun i h h' st k => ⟨k z (by simp) _ st.1, k TI (by simp) _ st.2.1, let ⟨u, v, q⟩ := st.2.2.1; ⟨u, v, k TO (by simp) _ q⟩, st.2.2.2.1.at fun o x => k i1 (by simp) o x, st.2.2.2.2.at fun o x => k i2 (by simp) o x⟩
 item := by
  intro X hP hw hK hc i pins s σ H E I hf st hg
  subst hP hw hK
  obtain ⟨xs, ys, x, y, hqa, hqb, hx, hy⟩ := hg
  obtain ⟨ia, rva, pa, za⟩ := I.tuple hqa
  obtain ⟨ib, rvb, pb, zb⟩ := I.list hqb
  obtain ⟨u, hu, ru⟩ := rva.get hx
  obtain ⟨v, hv, rv⟩ := rvb.get hy
  obtain ⟨hz, hI, ⟨ou, ov, hO⟩, h1, h2⟩ := st
  have hT : s.TypeIs (.ref z) "zip" := ⟨_, hz, rfl⟩; unfold pyNext
  refine wpAny_bind (wpAny_attempt (wpAny_callSpecial?_slot (name := Str.ofString "__next__") hT F.slot_zip_next (wpAny_call_entry F.slot_zip_next hT F.entry_zip_next
   (zipM_item D hz hI hO h1 h2 pa pb.isList (x := u) (y := v) (by simpa using hu) (by simpa using hv) fun h' z' o' a' b' t' k' => wpAny_pure ?_) (F.args_zip_next_1 _))))
  refine ⟨_, rfl, wpAny_letOwnedTupleGo_zip z' fun h'' z'' sb => ?_⟩
  have nz : s.heap.objs.size ≠ z := Nat.ne_of_gt (Heap.lt_size hz)
  have nTO : s.heap.objs.size ≠ TO := Nat.ne_of_gt (Heap.lt_size hO)
  have nTI : s.heap.objs.size ≠ TI := Nat.ne_of_gt (Heap.lt_size hI)
  have n1 : s.heap.objs.size ≠ i1 := by obtain ⟨o, e, _⟩ := h1; exact Nat.ne_of_gt (Heap.lt_size e)
  have n2 : s.heap.objs.size ≠ i2 := by obtain ⟨o, e, _⟩ := h2; exact Nat.ne_of_gt (Heap.lt_size e)
  have up : ∀ q o, q ≠ z → h'.get? q = some o → h''.get? q = some o := fun q o hq e => (sb.2 q hq).trans e
  have hI'' : IsPair h'' TI (.ref i1) (.ref i2) := up _ _ D.TIz (k' TI _ D.TIz D.TITO D.TIi1 D.TIi2 hI)
  have I2 : Inv X pins σ (upd H s.heap.objs.size (.tup [x, y])) { s with heap := h'', toks := s.toks } := I.turnNew (ch := [z, TI, TO, i1, i2]) hf (fun q o hq e => by
   simp only [List.mem_cons, List.not_mem_nil, or_false, not_or] at hq
   exact up q o hq.1 (k' q o hq.1 hq.2.2.1 hq.2.2.2.1 hq.2.2.2.2 e)) (fun q hq => by
   simp only [List.mem_cons, List.not_mem_nil, or_false] at hq
   rcases hq with rfl | rfl | rfl | rfl | rfl
   ·exact ⟨_, z''⟩
   ·exact ⟨_, hI''⟩
   ·exact ⟨_, up _ _ D.TOz o'⟩
   ·obtain ⟨o, e, _⟩ := a'; exact ⟨o, up _ o D.i1z e⟩
   ·obtain ⟨o, e, _⟩ := b'; exact ⟨o, up _ o D.i2z e⟩) (Nat.le_refl _) (vals := [u, v]) (.cons ru (.cons rv .nil)) (by show 2 ≤ sizeLine; decide) ⟨_, up _ _ nz t', rfl, _, rfl⟩
  refine ⟨.ref s.heap.objs.size, _, I2, rfl, ⟨_, x, y, rfl, I.fresh, rfl, fun zs hzs => by rw [I.tuple_inj hzs hqa]; exact hx, fun zs hzs => by rw [I.list_inj hzs hqb]; exact hy⟩,
   ⟨z'', hI'', ⟨_, _, up _ _ D.TOz o'⟩, a'.at fun o e => up _ o D.i1z e, b'.at fun o e => up _ o D.i2z e⟩, fun q hq => ?_⟩
  have hq0 := (hf q hq).1
  simp only [List.mem_cons, List.not_mem_nil, or_false] at hq
  rw [upd_ne]
  ·exact hq0
  ·rcases hq with rfl | rfl | rfl | rfl | rfl
   ·exact Ne.symm nz
   ·exact Ne.symm nTI
   ·exact Ne.symm nTO
   ·exact Ne.symm n1
   ·exact Ne.symm n2
 done := by
  intro X hP hw hK hc i pins s σ H E I hf st hg
  subst hP hw hK
  obtain ⟨xs, ys, hqa, hqb, hx⟩ := hg
  obtain ⟨ia, rva, pa, za⟩ := I.tuple hqa
  obtain ⟨ib, rvb, pb, zb⟩ := I.list hqb
  obtain ⟨hz, hI, ⟨ou, ov, hO⟩, h1, h2⟩ := st
  have la := rva.length
  have lb := rvb.length
  have hT : s.TypeIs (.ref z) "zip" := ⟨_, hz, rfl⟩; unfold pyNext
  refine wpAny_bind (wpAny_attempt (wpAny_callSpecial?_slot (name := Str.ofString "__next__") hT F.slot_zip_next (wpAny_call_entry F.slot_zip_next hT F.entry_zip_next
   (zipM_end (I.ok.hd hc) D hz hI hO h1 h2 pa pb.isList (hx.elim (fun q => .inl (by simp; omega)) fun q => .inr (by simp; omega)) fun h' e k' he => ?_) (F.args_zip_next_1 _))))
  obtain ⟨o, ho, hcl⟩ := he
  refine wpAny_bind (wpAny_isInstance (T := "StopIteration") (b := true) ⟨o, ho, hcl⟩ isSubtype_stop ?_)
  refine wpAny_pure ⟨rfl, I.turnOnly (tk := s.toks) hf fun q o hq e => ?_⟩
  simp only [List.mem_cons, List.not_mem_nil, or_false, not_or] at hq
  exact k' q o hq.1 hq.2.2.1 hq.2.2.2.1 hq.2.2.2.2 e
 self := fun _ _ s _ _ st h => wpAny_pyIter_zip st.1 h
section
variable {X : Cx} {es : List Expr} {kt : Nat} {pt : Pos}
def iZm (K : PySem.W.Frag) (ta : TA) : TI := fun σ H R => ta σ H fun vs H1 => ∃ a b, vs = [.ref a, .ref b] ∧ (∃ xs, SqT K H1 a xs) ∧ (∃ ys, SqL K H1 b ys) ∧ R (Itm K a b) H1
theorem pi_zm {e e' : Expr} {ta : TA} {p pos : Pos} (hm : X.mg "zip" = none) (ha : PA X [e, e'] ta) (hg : Gl X "zip" := by rfl) (h : isStar e = false := by rfl) (h' : isStar e' = false := by rfl) : PI X (.Tuple es kt pt) (.Call (.Name "zip" p) [e, e'] [] pos) (iZm X.K ta) := by
 intro pins s σ H R I hh
 refine Call_ (ld_blt I hg hm boot_zip (PyProof.Rows.callWith_type1 (thn (ha pos pins s σ H _ I hh) fun us s1 ⟨vs, H1, I1, r1, q1⟩ => ?_) (star1 h) (star_any (by simp [h']))))
 obtain ⟨a, b, rfl, ⟨xs, hqa⟩, ⟨ys, hqb⟩, q⟩ := q1
 cases r1 with
 | cons ru r2 =>
  cases r2 with
  | cons rv r3 =>
   cases r3
   cases ru
   cases rv
   obtain ⟨ia, rva, pa, za⟩ := I1.tuple hqa
   obtain ⟨ib, rvb, pb, zb⟩ := I1.list hqb
   have la : a < s1.heap.objs.size := by obtain ⟨o, e, _⟩ := pa; exact Heap.lt_size e
   have lb : b < s1.heap.objs.size := by obtain ⟨o, _, e, _⟩ := pb; exact Heap.lt_size e
   refine call_zm (xs := ia.toArray) (ys := ib.toArray) pa pb.isList fun g hz hI hO j1 j2 hk => wpAny_pyIter_zip hz ?_
   refine ⟨_, [s1.heap.objs.size + 4, s1.heap.objs.size + 2, s1.heap.objs.size + 3, s1.heap.objs.size, s1.heap.objs.size + 1], _, _, H1, rfl, I1.kept (t' := s1.toks) hk, turn_zm a b _ _ _ _ _ (zipApart_new la lb), ⟨hz, hI, ⟨_, _, hO⟩, j1, j2⟩, fun q hq => ?_, by assumption⟩
   have hq' : s1.heap.objs.size ≤ q := by
    simp only [List.mem_cons, List.not_mem_nil, or_false] at hq
    rcases hq with z | z | z | z | z <;> rw [z] <;> first | exact Nat.le_refl _ | exact Nat.le_add_right _ _
   exact I1.fpOk hq' (I1.hok.fresh hq')
end
section
variable {D : Addr} {te : TE} {tc : TT} {Q : VK} {ρ : St} {H : Hp}
end
end L2
namespace HT
open PySem PyProof.Rows
section
variable {prog : Program} {w : World} {A : Around} {E : Value → Shared → Prop} {s : Shared}
end
end HT
namespace L2
open PySem PySem.Spec PyProof.Rows
section
variable {X : Cx}
def rCatG : R2 := fun x y H Q => ∃ a b xs ys, x = .ref a ∧ y = .ref b ∧ H a = some (.tup xs) ∧ H b = some (.tup ys) ∧ xs.length + ys.length ≤ 1000 ∧ ∀ q H', Same H H' → H' q = some (.tup (xs ++ ys)) → Q (.ref q) H'
theorem op_catG : OpR X (binaryOp .Add) rCatG := by
 intro pins s σ H x y v u Q I rx ry h
 obtain ⟨a, b, xs, ys, rfl, rfl, ha, hb, hz, q⟩ := h
 have hz' : xs.length + ys.length ≤ sizeLine := Nat.le_trans hz (by decide)
 by_cases hx : xs = []
 ·cases rx
  cases ry
  obtain ⟨its, r1, p1, _⟩ := I.tuple (SqT.of ha)
  obtain ⟨its2, r2, p2, _⟩ := I.tuple (SqT.of hb)
  obtain ⟨⟨cls, dd, data, sl⟩, ho, hc, n, hd⟩ := id p1
  obtain ⟨⟨cls2, dd2, data2, sl2⟩, ho2, hc2, n2, hd2⟩ := id p2
  simp only at hc hd hc2 hd2
  subst hc hd hc2 hd2
  have hv : its = [] := r1.nil_iff.mpr hx
  refine concat_meets ⟨_, ho, rfl⟩ ⟨_, ho2, rfl⟩ noFill_tuple_add seq_tuple_add PySem.F.slot_tuple_add PySem.F.entry_tuple_add (PySem.F.args_tuple_add_2 _ _)
   (tuple_addW0 a b its.toArray its2.toArray n n2 dd dd2 sl sl2 (by simp [hv])) ⟨ho, ho2, ?_⟩
  refine ⟨.ref b, H, I, rfl, q b H (Same.refl H) ?_⟩
  rw [hx, List.nil_append]
  exact hb
 ·refine op_catT pins s σ H _ _ v u Q I rx ry ⟨a, b, xs, ys, rfl, rfl, SqT.of ha, SqT.of hb, hx, hz', fun e => ?_, fun _ p hp => q p _ (Same.new (Same.refl H) hp) upd_same⟩
  refine q a H (Same.refl H) ?_
  rw [e, List.append_nil]
  exact ha
end
end L2
namespace PySem
open Sem (wp)
open Builtin
open AutoSeq1 (wpAny_loadPart')
theorem tuple_mulW0 (l : Addr) (items : Array Value) (n : Nat) (dd : Option Addr) (sl : Array (Option Value)) (u : Tok) (c2 : (items.isEmpty || (0 : Int) == 1) = false) :
    Meets (Builtin.«tuple.__mul__» ⟨[.ref l, .int 0 u], []⟩) (fun _ R s => s.heap.get? l = some { cls := .type "tuple", dict := dd, data := .seq items n, slots := sl } ∧ R (.ok (.ret (Value.ref s.heap.objs.size))) { s with heap := s.heap.push { cls := Value.type "tuple", data := Data.seq #[] }, toks := s.toks }) :=
  .of_wp fun prog w A R s h => by
    obtain ⟨hp, g, d, tk, os⟩ := s; obtain ⟨hl, h⟩ := h
    have f1 := AutoSeq1.idx_int
    wp_walk using wpAny_loadPart' hl
    first
      | exact ⟨_, rfl, h⟩
      | (refine wpAny_ite_false (decide_eq_false (by rw [c2]; exact Bool.false_ne_true)) ?_
         wp_walk using wpAny_loadPart' hl
         exact ⟨_, rfl, h⟩)
end PySem
namespace L2
open PySem PySem.Spec PyProof.Rows
section
variable {X : Cx}
def rRepB : R2 := fun x y H Q => ∃ a k v, x = .ref a ∧ y = .int k ∧ H a = some (.tup [v]) ∧ (k = 0 ∨ k = 1) ∧ (k = 1 → Q (.ref a) H) ∧ (k = 0 → ∀ p, H p = none → Q (.ref p) (upd H p (.tup [])))
theorem op_repB : OpR X (binaryOp .Mult) rRepB := by
 intro pins s σ H x y v u Q I rx ry h
 obtain ⟨a, k, v0, rfl, rfl, hH, hk, q1, q0⟩ := h
 rcases hk with rfl | rfl
 ·cases rx
  obtain ⟨t, rfl⟩ := ry
  obtain ⟨z, its, rv, ⟨cls, dd, data, sl⟩, e, c, n, d⟩ := I.hok a _ hH
  simp only at c d
  subst c d
  have hits : its ≠ [] := fun z => by have := rv.nil_iff.mp z; cases this
  refine wpAny_binaryOp_repeat_ref (T := "tuple") (U := "int") (by decide) ⟨_, e, rfl⟩ (fun s' => typeIs_int s' 0 t) noFill_tuple_mul F.fills_int_mul F.slot_int_rmul repeat_tuple F.slot_int_index.lookup
   (call_meets F.slot_int_rmul (typeIs_int s 0 t) F.entry_int_rmul (F.args_int_rmul_2 _ _) (rmulW 0 t a its.toArray n dd sl)
    ⟨e, rfl, ⟨_, e, rfl⟩, call_meets F.slot_tuple_mul ⟨_, e, rfl⟩ F.entry_tuple_mul (F.args_tuple_mul_2 _ _) (tuple_mulW0 a its.toArray n dd sl t (by simp [hits])) ⟨e, ?_⟩⟩)
  refine ⟨.ref s.heap.objs.size, _, I.laid (t' := s.toks) (o := .tup []) (fun b ob q => Heap.get?_push_of_some _ q) (Nat.le_refl _) ?_, rfl, q0 rfl _ (I.hok.fresh (Nat.le_refl _))⟩
  exact ⟨Nat.zero_le _, [], .nil, IsTup.new _ _⟩
 ·exact op_repT pins s σ H _ _ v u Q I rx ry ⟨a, 1, [v0], rfl, rfl, hH, by simp, by decide, by decide, by simp, fun _ => q1 rfl, fun h => absurd rfl h⟩
end
theorem Same.none {H H' : Hp} {a : Addr} (k : Same H H') (h : H' a = .none) : H a = .none := by
 cases e : H a with
 | none => rfl
 | some o => rw [k _ _ e] at h; cases h
section
variable {X : Cx}
def rRepG : R2 := fun x y H Q => ∃ (a : Addr) (k : Nat) (v : V), x = .ref a ∧ y = .int (k : Int) ∧ H a = some (.tup [v]) ∧ k ≤ 1000 ∧ ∀ q H', Same H H' → H' q = some (.tup (List.replicate k v)) → Q (.ref q) H'
theorem flat_rep {α : Type} (k : Nat) (v : α) : (List.replicate k [v]).flatten = List.replicate k v := by
 induction k with
 | zero => rfl
 | succ k ih => rw [List.replicate_succ, List.flatten_cons, ih, List.replicate_succ]; rfl
theorem op_repG : OpR X (binaryOp .Mult) rRepG := by
 intro pins s σ H x y v u Q I rx ry h
 obtain ⟨a, k, v0, rfl, rfl, hH, hk, q⟩ := h
 by_cases h0 : k = 0
 ·subst h0
  exact op_repB pins s σ H _ _ v u Q I rx ry ⟨a, _, v0, rfl, rfl, hH, .inl rfl, fun z => absurd z (by decide), fun _ p hp => q p _ (Same.new (Same.refl H) hp) upd_same⟩
 ·refine op_repT pins s σ H _ _ v u Q I rx ry ⟨a, _, [v0], rfl, rfl, hH, by simp, by omega, by omega, by rw [Int.toNat_natCast]; simp; omega, fun h1 => ?_, fun _ p hp => ?_⟩
  ·have : k = 1 := by omega
   subst this
   exact q a H (Same.refl H) hH
  ·rw [Int.toNat_natCast, flat_rep]
   exact q p _ (Same.new (Same.refl H) hp) upd_same
def rLnT : List V → Hp → VK → Prop := fun xs H Q => ∃ (p : Addr) (ys : List V), xs = [.ref p] ∧ H p = some (.tup ys) ∧ Q (.int ys.length) H
theorem call_lnT : CallR X (.builtin "len") rLnT := fun pins s σ H xs us Q I r h => call_len_seq pins s σ H xs us Q I r (let ⟨p, ys, e, hp, q⟩ := h; ⟨p, ys, e, .inr (SqT.of hp), q⟩)
def rLnL : List V → Hp → VK → Prop := fun xs H Q => ∃ (p : Addr) (ys : List V), xs = [.ref p] ∧ H p = some (.lst ys) ∧ Q (.int ys.length) H
theorem call_lnL : CallR X (.builtin "len") rLnL := fun pins s σ H xs us Q I r h => call_len_seq pins s σ H xs us Q I r (let ⟨p, ys, e, hp, q⟩ := h; ⟨p, ys, e, .inl (SqL.of hp), q⟩)
def rTupL : List V → Hp → VK → Prop := fun xs H Q => ∃ (p : Addr) (ys : List V), xs = [.ref p] ∧ H p = some (.lst ys) ∧ ∀ q H', Same H H' → H' q = some (.tup ys) → Q (.ref q) H'
theorem call_tupL : CallR X (.type "tuple") rTupL := fun pins s σ H xs us Q I r h => call_tuple_of pins s σ H xs us Q I r (let ⟨p, ys, e, hp, q⟩ := h; ⟨p, ys, e, .inl ⟨SqL.of hp, fun l hl => q l _ (Same.new (Same.refl H) hl) upd_same⟩⟩)
end
end L2
namespace G2
open PySem L2
theorem all_shw {n h : Nat} : ∀ ds : List PyData, (∀ d ∈ ds, Shw d n h) → PyData.showableAll ds = true ∧ PyData.hasDictAll ds = false ∧ PyData.depthAll ds ≤ h ∧ ((PyData.shownAll ds).map (·.length)).sum ≤ n * ds.length ∧ (PyData.shownAll ds).length = ds.length
 | [], _ => ⟨rfl, rfl, Nat.zero_le _, Nat.zero_le _, rfl⟩
 | d :: ds, k => by
  obtain ⟨h1, h2, h3, h4, h5⟩ := all_shw ds fun x hx => k x (List.mem_cons_of_mem _ hx)
  have e := k d List.mem_cons_self
  have e3 := e.p
  have e4 := e.l
  refine ⟨?_, ?_, ?_, ?_, ?_⟩
  ·simp only [PyData.showableAll, e.s, h1, Bool.and_self]
  ·simp only [PyData.hasDictAll, e.nd, h2, Bool.or_self]
  ·simp only [PyData.depthAll]
   omega
  ·simp only [PyData.shownAll, List.map_cons, List.sum_cons, List.length_cons, Nat.mul_succ]
   omega
  ·simp only [PyData.shownAll, List.length_cons, h5]
theorem Shw.lsts {n h : Nat} {ds : List PyData} (k : ∀ d ∈ ds, Shw d n h) : Shw (.list ds) ((n + 2) * ds.length + 3) (h + 1) := by
 obtain ⟨h1, h2, h3, h4, h5⟩ := all_shw ds k
 refine ⟨by simp only [PyData.showable]; exact h1, by simp only [PyData.hasDict]; exact h2, ?_, ?_⟩
 ·show PyData.depthAll _ + 1 ≤ h + 1
  omega
 ·have e : (PyData.shown (.list ds)).length ≤ ((PyData.shownAll ds).map (·.length)).sum + 2 * (PyData.shownAll ds).length + 3 := listText_len_le _
  rw [Nat.add_mul]
  omega
section
variable {D : Addr} {te : TE} {tc : TT} {Q : VK} {ρ : St} {H : Hp} {K : PySem.W.Frag} {a b : Addr}
end
end G2
namespace K41
open PySem L2 G2
local macro_rules | `(tactic| walk_at "v") => `(tactic| repeat (with_reducible first
  | refine w_seq ?_ | refine w_asg ?_ | refine w_gname ?_ | refine w_op ?_ | refine w_var rfl ?_ | refine w_c ?_ | refine w_rI0 ?_ | refine w_ifs ?_ | refine w_ife ?_ | refine w_test ?_ | refine w_tb ?_ | refine w_bl ?_ | refine w_not ?_ | refine w_ret ?_ | refine w_retN ?_
  | refine w_nil ?_ | refine w_cons ?_ | refine w_lst ?_ | refine w_tup ?_ | refine w_cb ?_ | refine w_call ?_ | refine w_gsub ?_ | refine w_and ?_ | refine w_or ?_ | refine w_next ?_ | refine w_all ?_ | refine w_vals ?_ | refine w_compR ?_ | refine w_compT ?_ | refine w_forR ?_ | refine w_forT ?_ | refine w_forL ?_ | refine w_drop ?_ | refine w_bm ?_ | refine w_compZ ?_ | refine w_compL ?_ | refine w_chain ?_ | refine w_sl ?_ | refine w_nopart ?_ | refine w_part ?_ | refine w_unI ?_ | refine iteT ?_ | refine iteF ?_))
def top (i : Nat) : Stmt := PySem.Challenge.pw_dropsums_k41_ended_and_what_can_still_co.main.body.getD i (.Pass ⟨0, 0, 0, 0⟩)
abbrev sFeed : Stmt := top 16
abbrev sDraw : Stmt := top 17
structure Blt (mg : Str → Option Value) : Prop where
 len : mg "len" = none
 range : mg "range" = none
 tuple : mg "tuple" = none
 list : mg "list" = none
 int : mg "int" = none
 min : mg "min" = none
 max : mg "max" = none
 zip : mg "zip" = none
structure Tq (H : Hp) (p l : Addr) (ns : List Int) (n : Nat) : Prop where
 ex : ∃ c e f : Int, H p = some (.lst [.ref l, .int c, .int e, .int f]) ∧ 0 ≤ f ∧ f ≤ (n : Int)
 hl : H l = some (.lst (ns.map V.int))
 ne : p ≠ l
 pos : 0 < ns.length
 l64 : ns.length ≤ 64
section
variable {p l a : Addr} {H H' : Hp} {o : HO} {ns : List Int} {n n' : Nat}
theorem Tq.up (t : Tq H p l ns n) (h : n ≤ n') : Tq H p l ns n' := let ⟨c, e, f, h1, h2, h3⟩ := t.ex; ⟨⟨c, e, f, h1, h2, by omega⟩, t.hl, t.ne, t.pos, t.l64⟩
theorem Tq.draw (t : Tq H p l ns n) {c e f : Int} (h0 : 0 ≤ f) (h1 : f ≤ (n' : Int)) : Tq (upd H p (.lst [.ref l, .int c, .int e, .int f])) p l ns n' := ⟨⟨c, e, f, upd_same, h0, h1⟩, by rw [upd_ne (Ne.symm t.ne)]; exact t.hl, t.ne, t.pos, t.l64⟩
theorem Tq.np (t : Tq H p l ns n) (h : H a = none) : p ≠ a := let ⟨_, _, _, e, _⟩ := t.ex; ne_of_none e h
theorem Tq.nl (t : Tq H p l ns n) (h : H a = none) : l ≠ a := ne_of_none t.hl h
theorem Tq.new (t : Tq H p l ns n) (h : H a = none) : Tq (upd H a o) p l ns n := by
 obtain ⟨c, e, f, hp, r⟩ := t.ex
 exact ⟨⟨c, e, f, by rw [upd_ne (ne_of_none hp h)]; exact hp, r⟩, by rw [upd_ne (ne_of_none t.hl h)]; exact t.hl, t.ne, t.pos, t.l64⟩
theorem Tq.put (t : Tq H p l ns n) (h1 : p ≠ a) (h2 : l ≠ a) : Tq (upd H a o) p l ns n := by
 obtain ⟨c, e, f, hp, r⟩ := t.ex
 exact ⟨⟨c, e, f, by rw [upd_ne h1]; exact hp, r⟩, by rw [upd_ne h2]; exact t.hl, t.ne, t.pos, t.l64⟩
theorem Tq.same (t : Tq H p l ns n) (k : Same H H') : Tq H' p l ns n := by
 obtain ⟨c, e, f, hp, r⟩ := t.ex
 exact ⟨⟨c, e, f, k _ _ hp, r⟩, k _ _ t.hl, t.ne, t.pos, t.l64⟩
theorem Tq.tk (t : Tq H p l ns n) : TK H (upd H p o) := let ⟨_, _, _, e, _⟩ := t.ex; TK.lst e
end
def spFeed (K : PySem.W.Frag) : Sp := fun vs H Q _ => ∃ (a : Addr) (ns : List Int), vs = [.ref a] ∧ SqL K H a (ns.map V.int) ∧ ∀ p l (ms : List Int) H', Tq H' p l ms 0 → Same H H' → Q (.ref p) H'
def spDraw : Sp := fun vs H Q _ => ∃ (p l : Addr) (ns : List Int) (n : Nat) (m : Int), vs = [.ref p, .int m] ∧ Tq H p l ns n ∧ n ≤ 100000 ∧ 0 < m ∧ m < 1000000 ∧ ∀ (r c e f : Int), 0 ≤ r → r < m → 0 ≤ f → f ≤ ((n + 1 : Nat) : Int) → Q (.int r) (upd H p (.lst [.ref l, .int c, .int e, .int f]))
theorem op_eqS {X : Cx} {k : Nat} (hr : Room k X.A) : OpR X (compareOp .Eq) (fun x y H Q => ∃ a z ns, x = .ref a ∧ y = .ref z ∧ SqL X.K H a (ns.map V.int) ∧ H z = some (.lst []) ∧ Q (.bl (decide (ns = []))) H) := by
 intro pins s σ H x y v u Q I rx ry h
 obtain ⟨a, z, ns, rfl, rfl, ha, hz, q⟩ := h
 obtain ⟨bs, rb⟩ := (RdV.lst hz .nil).reads I ry
 cases rx
 obtain ⟨its, r, ht, _⟩ := I.list ha
 obtain ⟨cs, rc⟩ := (rdInts (H := H) ns).reads I r
 obtain ⟨o, e, c, n, d⟩ := ht.isList
 have ra : Reads s.heap (.ref a) (.list (ns.map PyData.int)) (a :: cs) := .list e c d (by simpa using rc)
 have hu := hr.units
 have hd : (PyData.list (ns.map PyData.int)).depth ≤ 60 := by
  show PyData.depthAll _ + 1 ≤ 60
  rw [depth_ints]
  decide
 refine SeqAt.compareEq_reads ra rb (lay_ints ns) rfl (by omega) ⟨.bl _, H, I, rfl, ?_⟩
 have e' : PyData.eqv (.list (ns.map PyData.int)) (.list []) = decide (ns = []) := eqv_ints ns []
 rw [e']
 exact q
abbrev nDraw : List Str := ["_law_feed_here", "_law_many", "_law_found", "_law_cell", "_law_turn", "_law_mixed"]
theorem nmDraw : Nm nDraw (defScope sDraw) := ⟨by decide +kernel, by decide +kernel⟩
theorem scDraw : FnScope nDraw ["_law_feed_here", "_law_many"] (defScope sDraw) := ⟨rfl, rfl, rfl, by decide +kernel, rfl, by decide +kernel, by decide +kernel⟩
abbrev nFeed : List Str := ["_law_script"]
theorem nmFeed : Nm nFeed (defScope sFeed) := ⟨by decide +kernel, by decide +kernel⟩
theorem scFeed : FnScope nFeed ["_law_script"] (defScope sFeed) := ⟨rfl, rfl, rfl, by decide +kernel, rfl, by decide +kernel, by decide +kernel⟩
section
variable {P : Program} {w : World} {K : PySem.W.Frag} {mg : Str → Option Value} {base : Heap}
set_option maxHeartbeats 4000000 in
theorem ok_Draw {f : Addr} {fd : FuncData} (B : Blt mg) (F : Fun K "_law_draw" "_law_draw" sDraw f fd) : FnOk P w K mg base CX0 1 f fd ["_law_feed_here", "_law_many"] spDraw := by
 refine F.ok scDraw (fun vs H Q E h => ?_) (fun cdv A outer s H vs Q E hr h => ?_)
 ·obtain ⟨p, l, ns, n, m, rfl, _⟩ := h
  rfl
 ·obtain ⟨p, l, ns, n, m, rfl, T, hn, hm, hm2, k⟩ := h
  refine' ⟨_, ?hb, ?rd⟩
  case hb =>
   refine' pss_cons ?s1 ?r1
   case' r1 => refine' pss_cons ?s2 ?r2
   case' r2 => refine' pss_cons ?s3 ?r3
   case' r3 => refine' pss_cons ?s4 ?r4
   case' r4 => refine' pss_cons ?s5 ?r5
   case' r5 => refine' pss_cons ?s6 ?r6
   case' r6 => refine' pss_cons ?s7 ?r7
   case' r7 => refine' pss_cons ?s8 ?r8
   case' r8 => refine' pss_one ?s9
   case s1 => exact ps_asg (pe_op op_add (pe_ix ix_d (pvd nmDraw 0) pe_int (fun _ _ => rfl)) pe_int) (pg_sub (pvd nmDraw 0) pe_int set_d)
   case s2 =>
    refine' ps_if (pt_cmpR op_gt (pe_ix ix_d (pvd nmDraw 0) pe_int (fun _ _ => rfl)) pe_int (nomark _)) ?a0 pss_nil
    case' a0 => refine' pss_cons ?a1 ?b1
    case' b1 => refine' pss_cons ?a2 ?b2
    case' b2 => refine' pss_one ?a3
    case a1 => exact ps_setD nmDraw 2 (pe_op op_mod (pe_ix ix_d (pvd nmDraw 0) pe_int (fun _ _ => rfl)) (pvd nmDraw 1))
    case a2 => exact ps_asg (pe_op op_fdiv (pe_ix ix_d (pvd nmDraw 0) pe_int (fun _ _ => rfl)) (pvd nmDraw 1)) (pg_sub (pvd nmDraw 0) pe_int set_d)
    case a3 => exact ps_ret (pvd nmDraw 2)
   case s3 =>
    refine' ps_setD nmDraw 3 ?c1
    case' c1 => refine' pe_ix ix_d (pe_ix ix_d (pvd nmDraw 0) pe_int (fun _ _ => rfl)) ?c2 (fun _ _ => rfl)
    case' c2 => refine' pe_op op_mod (pe_ix ix_d (pvd nmDraw 0) pe_int (fun _ _ => rfl)) ?c3
    case c3 => exact pe_cB call_len_seq B.len PySem.boot_len (pa_1 (pe_ix ix_d (pvd nmDraw 0) pe_int (fun _ _ => rfl)))
   case s4 => exact ps_asg (pe_op op_add (pe_ix ix_d (pvd nmDraw 0) pe_int (fun _ _ => rfl)) pe_int) (pg_sub (pvd nmDraw 0) pe_int set_d)
   case s5 =>
    refine' ps_if (pt_cmpR op_ge (pvd nmDraw 3) (pe_op op_pow pe_int pe_int) (nomark _)) ?d0 pss_nil
    case' d0 => refine' pss_cons ?d1 ?e1
    case' e1 => refine' pss_one ?d2
    case d1 => exact ps_asg (pe_op op_fdiv (pvd nmDraw 3) (pvd nmDraw 1)) (pg_sub (pvd nmDraw 0) pe_int set_d)
    case d2 => exact ps_ret (pe_op op_mod (pvd nmDraw 3) (pvd nmDraw 1))
   case s6 =>
    refine' ps_setD nmDraw 4 ?f1
    case' f1 => refine' pe_op op_add ?f2 pe_int
    case' f2 => refine' pe_op op_add ?f3 ?f4
    case f3 => exact pe_op op_mul (pe_op op_mul pe_int (pe_ix ix_d (pvd nmDraw 0) pe_int (fun _ _ => rfl))) (pe_ix ix_d (pvd nmDraw 0) pe_int (fun _ _ => rfl))
    case f4 => exact pe_op op_mul pe_int (pe_ix ix_d (pvd nmDraw 0) pe_int (fun _ _ => rfl))
   case s7 =>
    refine' ps_setD nmDraw 5 ?g1
    case g1 => exact pe_op op_mod (pe_op op_mul (pe_op op_add (pe_op op_mod (pvd nmDraw 3) pe_int) pe_int) (pvd nmDraw 4)) pe_int
   case s8 =>
    refine' ps_setD nmDraw 5 ?h1
    case h1 => exact pe_op op_add (pe_op op_mul (pvd nmDraw 5) (pe_op op_add (pe_op op_mod (pvd nmDraw 5) pe_int) pe_int)) (pe_ix ix_d (pvd nmDraw 0) pe_int (fun _ _ => rfl))
   case s9 => exact ps_ret (pe_op op_mod (pe_op op_fdiv (pe_op op_mod (pvd nmDraw 5) pe_int) pe_int) (pvd nmDraw 1))
  case rd =>
   obtain ⟨c, e, f, hp, f0, f1⟩ := T.ex
   have hne := T.ne
   have hl := T.hl
   have hpos := T.pos
   walk_at "v"
   refine w_ixL hp rfl ?_
   walk_at "v"
   refine w_set hp rfl ?_
   walk_at "v"
   refine w_ixL upd_same rfl ?_
   walk_at "v"
   refine iteD (fun _ => ?_) (fun _ => ?_)
   ·walk_at "v"
    refine w_ixL upd_same rfl ?_
    walk_at "v"
    refine w_rI hm ?_
    walk_at "v"
    refine w_ixL upd_same rfl ?_
    walk_at "v"
    refine w_rI ⟨hm, by omega⟩ ?_
    walk_at "v"
    refine w_set upd_same rfl ?_
    walk_at "v"
    rw [upd_upd]
    exact k _ _ _ _ (md hm).1 (md hm).2 (by omega) (by omega)
   ·walk_at "v"
    refine w_ixL upd_same rfl ?_
    walk_at "v"
    refine w_ixL upd_same rfl ?_
    walk_at "v"
    refine w_ixL upd_same rfl ?_
    walk_at "v"
    have hl1 : ∀ {o : HO}, upd H p o l = some (.lst (ns.map V.int)) := by
     intro o
     rw [upd_ne (Ne.symm hne)]
     exact hl
    refine ⟨l, _, rfl, .inl (SqL.of hl1), ?_⟩
    rw [List.length_map]
    have hp0 : (0 : Int) < (ns.length : Int) := by omega
    refine w_rI hp0 ?_
    obtain ⟨x, hx, hat⟩ : ∃ x, x ∈ ns ∧ atI (ns.map V.int) (c % (ns.length : Int)) = some (.int x) := by
     obtain ⟨j, hj⟩ := ofI (md (i := c) hp0).1
     have hj2 := (md (i := c) hp0).2
     rw [hj] at hj2 ⊢
     have hjl : j < ns.length := by omega
     exact ⟨ns[j], List.getElem_mem hjl, atI_nat (by simp [hjl])⟩
    refine w_ixL hl1 hat ?_
    walk_at "v"
    refine w_ixL upd_same rfl ?_
    walk_at "v"
    refine w_set upd_same rfl ?_
    rw [upd_upd]
    walk_at "v"
    refine w_rI ⟨by decide, by decide, by decide⟩ ?_
    walk_at "v"
    refine iteD (fun _ => ?_) (fun _ => ?_)
    ·walk_at "v"
     refine w_rI ⟨hm, by omega⟩ ?_
     walk_at "v"
     refine w_set upd_same rfl ?_
     rw [upd_upd]
     walk_at "v"
     refine w_rI hm ?_
     exact k _ _ _ _ (md hm).1 (md hm).2 (by omega) (by omega)
    ·walk_at "v"
     refine w_ixL upd_same rfl ?_
     refine w_rI (mulL (by decide) (by decide)) ?_
     walk_at "v"
     refine w_ixL upd_same rfl ?_
     refine w_rI (mulR (by omega) (by omega)) ?_
     walk_at "v"
     refine w_ixL upd_same rfl ?_
     refine w_rI (mulL (by decide) (by decide)) ?_
     walk_at "v"
     generalize 31 * (f + 1) * (f + 1) + 7919 * (f + 1) + 1 = tn
     refine w_rI (by decide) ?_
     walk_at "v"
     have q1 := md (i := x) (j := 2147483629) (by decide)
     refine w_rI (mulL (by omega) (by omega)) ?_
     walk_at "v"
     refine w_rI (by decide) ?_
     generalize hy : (x % 2147483629 + 1) * tn % 2147483647 = y
     have h1 := md (i := (x % 2147483629 + 1) * tn) (j := 2147483647) (by decide)
     rw [hy] at h1
     walk_at "v"
     refine w_rI (by decide) ?_
     walk_at "v"
     refine w_rI (mulL (by omega) (by omega)) ?_
     walk_at "v"
     refine w_ixL upd_same rfl ?_
     walk_at "v"
     refine w_rI (by decide) ?_
     walk_at "v"
     refine w_rI ⟨by decide, by decide⟩ ?_
     walk_at "v"
     refine w_rI hm ?_
     exact k _ _ _ _ (md hm).1 (md hm).2 (by omega) (by omega)
set_option maxHeartbeats 4000000 in
theorem ok_Feed {f : Addr} {fd : FuncData} (B : Blt mg) (F : Fun K "_law_feed" "_law_feed" sFeed f fd) : FnOk P w K mg base CX0 1 f fd ["_law_script"] (spFeed K) := by
 refine F.ok scFeed (fun vs H Q E h => ?_) (fun cdv A outer s H vs Q E hr h => ?_)
 ·obtain ⟨a, ns, rfl, _⟩ := h
  rfl
 ·obtain ⟨a, ns, rfl, hS, k⟩ := h
  refine' ⟨_, ?hb, ?rd⟩
  case hb =>
   refine' pss_one ?s1
   case' s1 => refine' ps_ret ?p1
   case' p1 => refine' pe_lst ?p2
   case' p2 => refine' pa_c ?p3 ?p4
   case p4 => exact pa_c pe_int (pa_2 pe_int pe_int)
   case' p3 => refine' pe_op op_cat ?p5 ?p6
   case p5 => exact pe_slice sl_list (pvd nmFeed 0) po_none (po_some pe_int)
   case' p6 => refine' pe_op op_rep (pe_lst (pa_1 pe_int)) ?p7
   case' p7 => refine' pe_cT call_int1 B.int PyProof.Rows.boot_int ?p8
   case' p8 => refine' pa_1 ?p9
   case p9 => exact pe_cmpR (op_eqS hr) (pvd nmFeed 0) (pe_lst pa_nil) (nomark _)
  case rd =>
   walk_at "v"
   refine ⟨_, rfl, ?_⟩
   refine ⟨a, _, rfl, hS, fun l1 hl1 => ?_⟩
   have hcut : cutV (ns.map V.int) none (some 63) = (ns.take 63).map V.int := by
    unfold cutV HT.sIx
    dsimp only
    rw [if_neg (by decide : ¬ (63 : Int) < 0), List.drop_zero, Nat.sub_zero, List.map_take, List.length_map]
    show List.take (min 63 ns.length) _ = _
    by_cases h : ns.length ≤ 63
    ·rw [Nat.min_eq_right h, List.take_of_length_le (by rw [List.length_map]; omega), List.take_of_length_le (by rw [List.length_map]; omega)]
    ·rw [Nat.min_eq_left (by omega)]
   rw [hcut]
   have K1 : Same H (upd H l1 (.lst ((ns.take 63).map V.int))) := Same.new (Same.refl H) hl1
   have e1 : upd H l1 (.lst ((ns.take 63).map V.int)) l1 = some (.lst ((ns.take 63).map V.int)) := upd_same
   have S1 : SqL K (upd H l1 (.lst ((ns.take 63).map V.int))) a (ns.map V.int) := by
    rcases hS with (e | ⟨o, e⟩) | h
    ·exact .inl (.inl (K1 _ _ e))
    ·exact .inl (.inr ⟨o, K1 _ _ e⟩)
    ·exact .inr h
   generalize upd H l1 (.lst ((ns.take 63).map V.int)) = H1 at K1 e1 S1 ⊢
   walk_at "v"
   refine ⟨by show 1 ≤ sizeLine; decide, fun z0 hz0 => ?_⟩
   have K2 : Same H1 (upd H1 z0 (.lst [.int 0])) := Same.new (Same.refl H1) hz0
   have e2 : upd H1 z0 (.lst [.int 0]) z0 = some (.lst [.int 0]) := upd_same
   have S2 : SqL K (upd H1 z0 (.lst [.int 0])) a (ns.map V.int) := by
    rcases S1 with (e | ⟨o, e⟩) | h
    ·exact .inl (.inl (K2 _ _ e))
    ·exact .inl (.inr ⟨o, K2 _ _ e⟩)
    ·exact .inr h
   generalize upd H1 z0 (.lst [.int 0]) = H2 at K2 e2 S2 ⊢
   walk_at "v"
   refine ⟨Nat.zero_le _, fun z1 hz1 => ?_⟩
   have K3 : Same H2 (upd H2 z1 (.lst [])) := Same.new (Same.refl H2) hz1
   have e3 : upd H2 z1 (.lst []) z1 = some (.lst []) := upd_same
   have S3 : SqL K (upd H2 z1 (.lst [])) a (ns.map V.int) := by
    rcases S2 with (e | ⟨o, e⟩) | h
    ·exact .inl (.inl (K3 _ _ e))
    ·exact .inl (.inr ⟨o, K3 _ _ e⟩)
    ·exact .inr h
   generalize upd H2 z1 (.lst []) = H3 at K3 e3 S3 ⊢
   refine ⟨a, z1, ns, rfl, rfl, S3, e3, ?_⟩
   walk_at "v"
   refine .inr ⟨_, rfl, ?_⟩
   obtain ⟨j, hj, hj1, hjn⟩ : ∃ j : Nat, (if decide (ns = []) = true then (1 : Int) else 0) = (j : Int) ∧ j ≤ 1 ∧ (ns = [] → j = 1) := by
    by_cases h : ns = []
    ·exact ⟨1, by simp [h], by omega, fun _ => rfl⟩
    ·exact ⟨0, by simp [h], by omega, fun z => absurd z h⟩
   rw [hj]
   refine ⟨z0, _, _, rfl, rfl, K3 _ _ e2, by omega, by omega, by rw [Int.toNat_natCast]; exact Nat.le_of_lt (small1000 (by simp; omega)), fun z2 hz2 => ?_⟩
   rw [Int.toNat_natCast, rep_one]
   have K4 : Same H3 (upd H3 z2 (.lst ((List.replicate j (0 : Int)).map V.int))) := Same.new (Same.refl H3) hz2
   have e4 : upd H3 z2 (.lst ((List.replicate j (0 : Int)).map V.int)) z2 = some (.lst ((List.replicate j (0 : Int)).map V.int)) := upd_same
   generalize upd H3 z2 (.lst ((List.replicate j (0 : Int)).map V.int)) = H4 at K4 e4 ⊢
   have K14 := (K2.trans K3).trans K4
   refine ⟨l1, z2, _, _, rfl, rfl, K14 _ _ e1, e4, Nat.le_of_lt (small1000 (by simp; omega)), fun l hl => ?_⟩
   rw [← List.map_append]
   have K5 : Same H (upd H4 l (.lst ((ns.take 63 ++ List.replicate j (0 : Int)).map V.int))) := (K1.trans K14).new hl
   have e5 : upd H4 l (.lst ((ns.take 63 ++ List.replicate j (0 : Int)).map V.int)) l = some (.lst ((ns.take 63 ++ List.replicate j (0 : Int)).map V.int)) := upd_same
   generalize upd H4 l (.lst ((ns.take 63 ++ List.replicate j (0 : Int)).map V.int)) = H5 at K5 e5 ⊢
   walk_at "v"
   refine ⟨by show 4 ≤ sizeLine; decide, fun p hp => ?_⟩
   have nlp : l ≠ p := ne_of_none e5 hp
   refine k p l (ns.take 63 ++ List.replicate j 0) _ ⟨⟨0, 0, 0, upd_same, by decide, by decide⟩, by rw [upd_ne nlp]; exact e5, Ne.symm nlp, ?_, ?_⟩ (K5.new hp)
   ·rw [List.length_append, List.length_take, List.length_replicate]
    cases ns with
    | nil => rw [hjn rfl]; decide
    | cons x xs => rw [List.length_cons]; omega
   ·rw [List.length_append, List.length_take, List.length_replicate]
    omega
end
def Bp (p : Addr) (H H' : Hp) : Prop := ∀ q o, q ≠ p → H q = some o → H' q = some o
section
variable {p l a : Addr} {H H' H'' : Hp} {o : HO} {ns : List Int}
theorem Bp.refl : Bp p H H := fun _ _ _ e => e
theorem Bp.new (b : Bp p H H') (h : H' a = none) : Bp p H (upd H' a o) := fun q u hq e => by
 have e' := b q u hq e
 rw [upd_ne (ne_of_none e' h)]
 exact e'
theorem Bp.at (b : Bp p H H') : Bp p H (upd H' p o) := fun q u hq e => by
 rw [upd_ne hq]
 exact b q u hq e
theorem Bp.put (b : Bp p H H') (h : H a = none) : Bp p H (upd H' a o) := fun q u hq e => by
 rw [upd_ne (ne_of_none e h)]
 exact b q u hq e
theorem Bp.trans (a : Bp p H H') (b : Bp p H' H'') : Bp p H H'' := fun q o hq e => b q o hq (a q o hq e)
theorem Bp.same (k : Same H H') : Bp p H H' := fun q o _ e => k q o e
theorem Bp.free (b : Bp p H H') (hp : p ≠ a) (h : H' a = none) : H a = none := by
 cases e : H a with
 | none => rfl
 | some o => rw [b a o (Ne.symm hp) e] at h; cases h
end
theorem Tq.tkb {p l : Addr} {H H' : Hp} {ns : List Int} {n : Nat} (t : Tq H p l ns n) (b : Bp p H H') : TK H H' := by
 obtain ⟨c, e, f, hp, _⟩ := t.ex
 exact ⟨fun q xs eq => b q _ (ne_of eq hp (by intro z; cases z)) eq, fun q o u eq => b q _ (ne_of eq hp (by intro z; cases z)) eq⟩
theorem pickZ {xs : List Int} {r : Int} (h0 : 0 ≤ r) (h1 : r < xs.length) : ∃ x, x ∈ xs ∧ atI (xs.map V.int) r = some (.int x) := by
 obtain ⟨j, rfl⟩ := ofI h0
 have hj : j < xs.length := by omega
 exact ⟨xs[j], List.getElem_mem hj, atI_nat (by simp [hj])⟩
theorem ixK {n : Nat} {r : Int} (h0 : 0 ≤ r) (h1 : r < n) : ixN n r = some r.toNat := by
 unfold ixN
 rw [if_pos h0, if_pos h1]
def RuleT (m : Nat) (H : Hp) (r : Addr) : Prop := ∃ (a b : Addr) (ts gs : List Int), H r = some (.tup [.ref a, .ref b]) ∧ H a = some (.tup (ts.map V.int)) ∧ H b = some (.tup (gs.map V.int)) ∧ ts.length = m ∧ gs.length = m ∧ (∀ x ∈ ts, 0 ≤ x ∧ x ≤ 9) ∧ (∀ x ∈ gs, 0 ≤ x ∧ x ≤ 9)
theorem RuleT.tk {m : Nat} {H H' : Hp} {r : Addr} (k : TK H H') (R : RuleT m H r) : RuleT m H' r := let ⟨a, b, ts, gs, h1, h2, h3, h4⟩ := R; ⟨a, b, ts, gs, k.t _ _ h1, k.t _ _ h2, k.t _ _ h3, h4⟩
abbrev sRow : Stmt := top 26
abbrev sRule : Stmt := top 27
abbrev sNames : Stmt := top 28
abbrev nRow : List Str := ["_law_feed_here", "_law_many", "_law_sides", "_law_row_here", "_law_k"]
theorem nmRow : Nm nRow (defScope sRow) := ⟨by decide +kernel, by decide +kernel⟩
theorem scRow : FnScope nRow ["_law_feed_here", "_law_many", "_law_sides"] (defScope sRow) := ⟨rfl, rfl, rfl, by decide +kernel, rfl, by decide +kernel, by decide +kernel⟩
abbrev nRule : List Str := ["_law_feed_here", "_law_many", "_law_takes", "_law_gives"]
theorem nmRule : Nm nRule (defScope sRule) := ⟨by decide +kernel, by decide +kernel⟩
theorem scRule : FnScope nRule ["_law_feed_here", "_law_many"] (defScope sRule) := ⟨rfl, rfl, rfl, by decide +kernel, rfl, by decide +kernel, by decide +kernel⟩
abbrev nNames : List Str := ["_law_feed_here", "_law_many", "_law_some", "_law_turn"]
theorem nmNames : Nm nNames (defScope sNames) := ⟨by decide +kernel, by decide +kernel⟩
theorem scNames : FnScope nNames ["_law_feed_here", "_law_many"] (defScope sNames) := ⟨rfl, rfl, rfl, by decide +kernel, rfl, by decide +kernel, by decide +kernel⟩
def ifBody (s : Stmt) : List Stmt := match s with
 | .If _ b _ _ => b
 | _ => []
def asgTupC (s : Stmt) : Scope := match s with
 | .Assign _ (.Call _ [.ListComp _ _ sc _] _ _) _ => sc
 | _ => { kind := .function, names := [], isGenerator := false, isCoroutine := false }
abbrev cRua : Scope := asgTupC ((ifBody ((defBody sRule).getD 2 (.Pass ⟨0, 0, 0, 0⟩))).getD 0 (.Pass ⟨0, 0, 0, 0⟩))
abbrev cRub : Scope := asgTupC ((ifBody ((defBody sRule).getD 3 (.Pass ⟨0, 0, 0, 0⟩))).getD 0 (.Pass ⟨0, 0, 0, 0⟩))
theorem bsRua : BScope (defScope sRule) cRua ["_law_one", "_law_other"] [] ["max"] := { okind := by decide +kernel, kind := by decide +kernel, nocell := by decide +kernel, names := by decide +kernel, fr := by decide +kernel, ff := by decide +kernel, nd := by decide +kernel, vis := by decide +kernel, loc := by decide +kernel, gl := by decide +kernel }
theorem bsRub : BScope (defScope sRule) cRub ["_law_one"] [] [] := { okind := by decide +kernel, kind := by decide +kernel, nocell := by decide +kernel, names := by decide +kernel, fr := by decide +kernel, ff := by decide +kernel, nd := by decide +kernel, vis := by decide +kernel, loc := by decide +kernel, gl := by decide +kernel }
def pool10 : List Str := ["a", "ab", "b", "abcdefgh", "x", "xy", "ins", "outs", "top", "ba"]
theorem w_eqT {H : Hp} {Q : VK} {p q : Addr} {ns ms : List Int} (hp : H p = some (.tup (ns.map V.int))) (hq : H q = some (.tup (ms.map V.int))) (h : Q (.bl (decide (ns = ms))) H) : rEqD (.ref p) (.ref q) H Q := by
 refine ⟨_, _, .tup hp (rdInts ns), .tup hq (rdInts ms), lay_ints ns, lay_ints ms, ?_, ?_⟩
 ·show PyData.depthAll _ + 1 ≤ 60
  rw [depth_ints]
  decide
 ·show Q (.bl (PyData.eqvAll _ _)) H
  rw [eqv_ints]
  exact h
def Rw (m : Nat) (H : Hp) (q : Addr) (xs : List Int) : Prop := H q = some (.tup (xs.map V.int)) ∧ xs.length = m ∧ ∀ x ∈ xs, 0 ≤ x ∧ x ≤ 9
def spRow : Sp := fun vs H Q _ => ∃ (p l : Addr) (ms : List Int) (n m s : Nat), vs = [.ref p, .int (m : Int), .int (s : Int)] ∧ Tq H p l ms n ∧ n ≤ 90000 ∧ 0 < m ∧ m ≤ 8 ∧ s ≤ 3 ∧ ∀ q xs H', Rw m H' q xs → Tq H' p l ms (n + 6) → Bp p H H' → Q (.ref q) H'
def spRule : Sp := fun vs H Q _ => ∃ (p l : Addr) (ms : List Int) (n m : Nat), vs = [.ref p, .int (m : Int)] ∧ Tq H p l ms n ∧ n ≤ 80000 ∧ 0 < m ∧ m ≤ 8 ∧ ∀ q H', RuleT m H' q → Tq H' p l ms (n + 15) → Bp p H H' → Q (.ref q) H'
def spNames : Sp := fun vs H Q _ => ∃ (p l : Addr) (ms : List Int) (n m : Nat), vs = [.ref p, .int (m : Int)] ∧ Tq H p l ms n ∧ n ≤ 90000 ∧ m ≤ 8 ∧ ∀ q (xs : List Str) H', xs.length = m → H' q = some (.tup (xs.map V.str)) → Tq H' p l ms (n + 1) → Bp p H H' → Q (.ref q) H'
section
variable {P : Program} {w : World} {K : PySem.W.Frag} {mg : Str → Option Value} {base : Heap}
set_option maxHeartbeats 4000000 in
theorem ok_Row {f : Addr} {fd : FuncData} (B : Blt mg) (D : Has P w K mg base 1 "_law_draw" ["_law_feed_here", "_law_many"] spDraw) (F : Fun K "_law_row" "_law_row" sRow f fd) : FnOk P w K mg base CX0 2 f fd ["_law_feed_here", "_law_many", "_law_sides"] spRow := by
 refine F.ok scRow (fun vs H Q E h => ?_) (fun cdv A outer s H vs Q E hr h => ?_)
 ·obtain ⟨p, l, ms, n, m, s, rfl, _⟩ := h
  rfl
 ·obtain ⟨p, l, ms, n, m, s, rfl, T0, hn, m0, m8, s3, k⟩ := h
  refine' ⟨_, ?hb, ?rd⟩
  case hb =>
   refine' pss_cons ?s1 ?r1
   case' r1 => refine' pss_cons ?s2 ?r2
   case' r2 => refine' pss_one ?s3
   case s1 => exact ps_setD nmRow 3 (pe_op op_rep (pe_lst (pa_1 pe_int)) (pvd nmRow 1))
   case s2 =>
    refine' ps_for PassesOwn.never rfl (pi_r1 B.range (pa_1 (pvd nmRow 2))) (pgd nmRow 4) ?b1
    case b1 =>
     refine' pss_one ?b2
     case' b2 => refine' ps_asg ?b3 (pg_sub (pvd nmRow 3) (pe_f D hr (by decide) (pa_2 (pvd nmRow 0) (pvd nmRow 1))) set_d)
     case' b3 => refine' pe_op op_add pe_int ?b4
     case b4 => exact pe_op op_fdiv (pe_f D hr (by decide) (pa_2 (pvd nmRow 0) pe_int)) pe_int
   case s3 => exact ps_ret (pe_cT call_tuple_of B.tuple PyProof.Rows.boot_tuple (pa_1 (pvd nmRow 3)))
  case rd =>
   walk_at "v"
   refine ⟨by show 1 ≤ sizeLine; decide, fun z0 hz0 => ?_⟩
   have K1 : Same H (upd H z0 (.lst [.int 0])) := Same.new (Same.refl H) hz0
   have e1 : upd H z0 (.lst [.int 0]) z0 = some (.lst [.int 0]) := upd_same
   generalize upd H z0 (.lst [.int 0]) = H1 at K1 e1 ⊢
   walk_at "v"
   refine ⟨z0, _, _, rfl, rfl, e1, by omega, by omega, by rw [Int.toNat_natCast]; exact Nat.le_of_lt (small1000 (by simp; omega)), fun a ha => ?_⟩
   rw [Int.toNat_natCast, rep_one]
   have T1 := T0.same K1
   have npa := T1.np ha
   have nla := T1.nl ha
   have h0a : H a = none := Same.none K1 ha
   have T2 := T1.new (o := .lst ((List.replicate m (0 : Int)).map V.int)) ha
   have b2 : Bp p H (upd H1 a (.lst ((List.replicate m (0 : Int)).map V.int))) := (Bp.same K1).new ha
   have e2 : upd H1 a (.lst ((List.replicate m (0 : Int)).map V.int)) a = some (.lst ((List.replicate m (0 : Int)).map V.int)) := upd_same
   generalize upd H1 a (.lst ((List.replicate m (0 : Int)).map V.int)) = H2 at T2 b2 e2 ⊢
   walk_at "v"
   refine ⟨_, rfl, by omega, by omega, ?_⟩
   rw [Int.toNat_natCast]
   refine for_range (fun i σ H' => ∃ (u4 : Option V) (xs : List Int), σ = [some (.ref p), some (.int (m : Int)), some (.int (s : Int)), some (.ref a), u4] ∧ H' a = some (.lst (xs.map V.int)) ∧ xs.length = m ∧ (∀ x ∈ xs, 0 ≤ x ∧ x ≤ 9) ∧ Tq H' p l ms (n + 2 * i) ∧ Bp p H H') ⟨none, _, rfl, e2, List.length_replicate, (fun x hx => by rw [List.eq_of_mem_replicate hx]; exact ⟨by decide, by decide⟩), T2, b2⟩ ?_ ?_
   ·rintro i σ H' hi ⟨u4, xs, rfl, ea, hxl, hxb, T, bb⟩
    walk_at "v"
    refine ⟨p, l, ms, _, 6, rfl, T, by omega, by decide, by decide, fun r c e f r0 r1 f0 f1 => ?_⟩
    have T' := T.draw (n' := n + 2 * i + 1) (c := c) (e := e) (f := f) f0 f1
    have bb' : Bp p H (upd H' p (.lst [.ref l, .int c, .int e, .int f])) := bb.at
    have ea' : upd H' p (.lst [.ref l, .int c, .int e, .int f]) a = some (.lst (xs.map V.int)) := by rw [upd_ne (Ne.symm npa)]; exact ea
    generalize upd H' p (.lst [.ref l, .int c, .int e, .int f]) = G at T' bb' ea' ⊢
    walk_at "v"
    refine w_rI ⟨by decide, by decide⟩ ?_
    have hr4 : 0 ≤ r / 4 ∧ r / 4 ≤ 1 := by omega
    generalize r / 4 = r4 at hr4
    walk_at "v"
    refine ⟨p, l, ms, _, m, rfl, T', by omega, by omega, by omega, fun r c e f r0 r1 f0 f1 => ?_⟩
    have T'' := T'.draw (n' := n + 2 * (i + 1)) (c := c) (e := e) (f := f) f0 (by omega)
    have bb'' : Bp p H (upd G p (.lst [.ref l, .int c, .int e, .int f])) := bb'.at
    have ea'' : upd G p (.lst [.ref l, .int c, .int e, .int f]) a = some (.lst (xs.map V.int)) := by rw [upd_ne (Ne.symm npa)]; exact ea'
    generalize upd G p (.lst [.ref l, .int c, .int e, .int f]) = G' at T'' bb'' ea'' ⊢
    refine w_set ea'' (ixK r0 (by rw [List.length_map, hxl]; exact r1)) ?_
    refine ⟨_, xs.set r.toNat (1 + r4), rfl, by rw [upd_same, List.map_set], by rw [List.length_set]; exact hxl, fun x hx => ?_, T''.put npa nla, bb''.put h0a⟩
    rcases List.mem_or_eq_of_mem_set hx with h | h
    ·exact hxb x h
    ·rw [h]
     omega
   ·rintro σ H3 ⟨u4, xs, rfl, ea, hxl, hxb, T3, b3⟩
    walk_at "v"
    refine ⟨a, _, rfl, .inl ⟨SqL.of ea, fun q hq => ?_⟩⟩
    exact k q xs _ ⟨upd_same, hxl, hxb⟩ ((T3.new hq).up (by omega)) (b3.new hq)
set_option maxHeartbeats 4000000 in
theorem ok_Rule {f : Addr} {fd : FuncData} (B : Blt mg) (D : Has P w K mg base 1 "_law_draw" ["_law_feed_here", "_law_many"] spDraw) (fW : Has P w K mg base 2 "_law_row" ["_law_feed_here", "_law_many", "_law_sides"] spRow) (F : Fun K "_law_rule" "_law_rule" sRule f fd) : FnOk P w K mg base CX0 3 f fd ["_law_feed_here", "_law_many"] spRule := by
 refine F.ok scRule (fun vs H Q E h => ?_) (fun cdv A outer s H vs Q E hr h => ?_)
 ·obtain ⟨p, l, ms, n, m, rfl, _⟩ := h
  rfl
 ·obtain ⟨p, l, ms, n, m, rfl, T0, hn, m0, m8, k⟩ := h
  refine' ⟨_, ?hb, ?rd⟩
  case hb =>
   refine' pss_cons ?s1 ?r1
   case' r1 => refine' pss_cons ?s2 ?r2
   case' r2 => refine' pss_cons ?s3 ?r3
   case' r3 => refine' pss_cons ?s4 ?r4
   case' r4 => refine' pss_one ?s5
   case s1 => exact ps_setD nmRule 2 (pe_f fW hr (by decide) (pa_c (pvd nmRule 0) (pa_2 (pvd nmRule 1) (pe_op op_add pe_int (pe_f D hr (by decide) (pa_2 (pvd nmRule 0) pe_int))))))
   case s2 => exact ps_setD nmRule 3 (pe_f fW hr (by decide) (pa_c (pvd nmRule 0) (pa_2 (pvd nmRule 1) (pe_f D hr (by decide) (pa_2 (pvd nmRule 0) pe_int)))))
   case s3 =>
    refine' ps_if (pt_cmpR op_eq (pe_f D hr (by decide) (pa_2 (pvd nmRule 0) pe_int)) pe_int (nomark _)) ?a1 pss_nil
    case' a1 => refine' pss_one ?a2
    case' a2 => refine' ps_setD nmRule 3 ?a3
    case' a3 => refine' pe_cT call_tuple_of B.tuple PyProof.Rows.boot_tuple ?a4
    case' a4 => refine' pa_1 ?a5
    case a5 =>
     refine' pe_comp (ix := []) bsRua.toCScope rfl rfl (pi_zp B.zip (pa_2 (pvd nmRule 2) (pvd nmRule 3))) ?h4 ?h5 ?h6
     case h4 =>
      intro _ _ _ _ _ _
      refine' pgb_tup (n := 2) rfl ?z1
      case' z1 => refine' pgs_cons ?z2 ?z3
      case z2 => exact pgb bsRua 0
      case' z3 => refine' pgs_cons ?z4 pgs_nil
      case z4 => exact pgb bsRua 1
     case h5 => exact fun _ _ _ _ _ _ => pts_nil
     case h6 => exact fun _ _ _ _ _ _ => pe_cB (call_max2 rfl) B.max PyProof.Rows.boot_max (pa_2 (pvb bsRua 0) (pvb bsRua 1)) (bsRua.g 0)
   case s4 =>
    refine' ps_if (pt_cmpR (op_eqD hr) (pvd nmRule 3) (pvd nmRule 2) (nomark _)) ?c1 pss_nil
    case' c1 => refine' pss_one ?c2
    case' c2 => refine' ps_setD nmRule 3 ?c3
    case' c3 => refine' pe_cT call_tuple_of B.tuple PyProof.Rows.boot_tuple ?c4
    case' c4 => refine' pa_1 ?c5
    case c5 =>
     refine' pe_comp (ix := []) bsRub.toCScope rfl rfl (pi_tup (pvd nmRule 2)) ?i4 ?i5 ?i6
     case i4 => exact fun _ _ _ _ _ _ => pgb bsRub 0
     case i5 => exact fun _ _ _ _ _ _ => pts_nil
     case i6 => exact fun _ _ _ _ _ _ => pe_op op_fdiv (pvb bsRub 0) pe_int
   case s5 => exact ps_ret (pe_tup (pa_2 (pvd nmRule 2) (pvd nmRule 3)))
  case rd =>
   walk_at "v"
   refine ⟨p, l, ms, _, 2, rfl, T0, by omega, by decide, by decide, fun r c e f r0 r1 f0 f1 => ?_⟩
   have T1 := T0.draw (n' := n + 1) (c := c) (e := e) (f := f) f0 f1
   have b1 : Bp p H (upd H p (.lst [.ref l, .int c, .int e, .int f])) := Bp.refl.at
   generalize upd H p (.lst [.ref l, .int c, .int e, .int f]) = H1 at T1 b1 ⊢
   obtain ⟨s, rfl⟩ := ofI r0
   obtain ⟨s', hs'⟩ : ∃ s' : Nat, (1 + (s : Int)) = (s' : Int) := ⟨1 + s, by omega⟩
   walk_at "v"
   rw [hs']
   refine ⟨p, l, ms, _, m, s', rfl, T1, by omega, m0, m8, by omega, fun qt ts H2 ht T2 b2 => ?_⟩
   have b12 := b1.trans b2
   walk_at "v"
   refine ⟨p, l, ms, _, 3, rfl, T2, by omega, by decide, by decide, fun r c e f r0 r1 f0 f1 => ?_⟩
   have T3 := T2.draw (n' := n + 8) (c := c) (e := e) (f := f) f0 (by omega)
   have b3 : Bp p H (upd H2 p (.lst [.ref l, .int c, .int e, .int f])) := b12.at
   have ht3 := T2.tk (o := .lst [.ref l, .int c, .int e, .int f])
   have ht3' := ht3.t _ _ ht.1
   generalize upd H2 p (.lst [.ref l, .int c, .int e, .int f]) = H3 at T3 b3 ht3' ⊢
   obtain ⟨s2, rfl⟩ := ofI r0
   walk_at "v"
   refine ⟨p, l, ms, _, m, s2, rfl, T3, by omega, m0, m8, by omega, fun qg gs H4 hg T4 b4 => ?_⟩
   have TK4 := T3.tkb b4
   have ht4 := TK4.t _ _ ht3'
   have b04 := b3.trans b4
   refine w_gname ?_
   with_reducible refine seq_post (fun σ' H' => ∃ (qg : Addr) (gs : List Int), σ' = [some (.ref p), some (.int (m : Int)), some (.ref qt), some (.ref qg)] ∧ H' qt = some (.tup (ts.map V.int)) ∧ Rw m H' qg gs ∧ Tq H' p l ms (n + 15) ∧ Bp p H H') ?_ fun rest => ?_
   ·rintro σ' H5 ⟨qg, gs, rfl, ht5, hg5, T5, b5⟩
    with_reducible refine seq_post (fun σ' H' => ∃ (qg : Addr) (gs : List Int), σ' = [some (.ref p), some (.int (m : Int)), some (.ref qt), some (.ref qg)] ∧ H' qt = some (.tup (ts.map V.int)) ∧ Rw m H' qg gs ∧ Tq H' p l ms (n + 15) ∧ Bp p H H') ?_ fun rest2 => ?_
    ·rintro σ' H6 ⟨qg, gs, rfl, ht6, hg6, T6, b6⟩
     walk_at "v"
     refine ⟨by show 2 ≤ sizeLine; decide, fun q hq => ?_⟩
     have K7 : Same H6 (upd H6 q (.tup [.ref qt, .ref qg])) := Same.new (Same.refl _) hq
     exact k q _ ⟨qt, qg, ts, gs, upd_same, K7 _ _ ht6, K7 _ _ hg6.1, ht.2.1, hg6.2.1, ht.2.2, hg6.2.2⟩ (T6.new hq) (b6.new hq)
    ·walk_at "v"
     refine w_eqT hg5.1 ht5 ?_
     walk_at "v"
     refine iteD (fun _ => ?_) (fun _ => ?_)
     ·walk_at "v"
      refine ⟨qt, rfl, ⟨_, SqT.of ht5⟩, fun dd hdd => ?_⟩
      refine tup_map (ρ := []) (fun x => x / 2) ht5 (by rw [ht.2.1]; omega) (fun i x H' hx K' R kR => ?_) (fun H6 K6 e6 => ?_) hdd
      ·walk_at "v"
       refine w_rI ⟨by decide, by decide⟩ ?_
       exact kR _ (Same.refl _)
      walk_at "v"
      refine ⟨dd, _, rfl, .inl ⟨SqL.of e6, fun q2 hq2 => ?_⟩⟩
      have K7 := K6.new (o := .tup ((ts.map fun x => x / 2).map V.int)) hq2
      refine w_gname ?_
      refine rest2 _ _ ⟨q2, _, rfl, K7 _ _ ht5, ⟨upd_same, by rw [List.length_map]; exact ht.2.1, fun x hx => ?_⟩, T5.same K7, b5.trans (Bp.same K7)⟩
      obtain ⟨y, hy, rfl⟩ := List.mem_map.mp hx
      have := ht.2.2 y hy
      show 0 ≤ y / 2 ∧ y / 2 ≤ 9
      omega
     ·exact rest2 _ _ ⟨qg, gs, rfl, ht5, hg5, T5, b5⟩
   ·walk_at "v"
    refine ⟨p, l, ms, _, 6, rfl, T4, by omega, by decide, by decide, fun r c e f r0 r1 f0 f1 => ?_⟩
    have T5 := T4.draw (n' := n + 15) (c := c) (e := e) (f := f) f0 (by omega)
    have b5 : Bp p H (upd H4 p (.lst [.ref l, .int c, .int e, .int f])) := b04.at
    have TK5 := T4.tk (o := .lst [.ref l, .int c, .int e, .int f])
    have ht5 := TK5.t _ _ ht4
    have hg5 := TK5.t _ _ hg.1
    generalize upd H4 p (.lst [.ref l, .int c, .int e, .int f]) = H5 at T5 b5 ht5 hg5 ⊢
    refine ⟨rfl, ?_⟩
    walk_at "v"
    refine iteD (fun _ => ?_) (fun _ => ?_)
    ·walk_at "v"
     refine ⟨qt, qg, rfl, ⟨_, SqT.of ht5⟩, ⟨_, SqT.of hg5⟩, fun dd hdd => ?_⟩
     refine zip_map (ρ := []) (fun x y => if y > x then y else x) ht5 hg5 (by rw [ht.2.1, hg.2.1]) (by rw [ht.2.1]; omega) (fun i x y H' hx hy K' R kR => ?_) (fun H6 K6 e6 => ?_) hdd
     ·walk_at "v"
      refine ⟨_, _, rfl, ?_⟩
      exact kR _ (Same.refl _)
     walk_at "v"
     refine ⟨dd, _, rfl, .inl ⟨SqL.of e6, fun q2 hq2 => ?_⟩⟩
     have K7 := K6.new (o := .tup ((List.zipWith (fun x y => if y > x then y else x) ts gs).map V.int)) hq2
     refine w_gname ?_
     refine rest _ _ ⟨q2, _, rfl, K7 _ _ ht5, ⟨upd_same, by rw [List.length_zipWith, ht.2.1, hg.2.1]; omega, fun x hx => ?_⟩, T5.same K7, b5.trans (Bp.same K7)⟩
     obtain ⟨i, hi, rfl⟩ := List.getElem_of_mem hx
     rw [List.length_zipWith] at hi
     have hi1 : i < ts.length := by omega
     have hi2 : i < gs.length := by omega
     have h1 := ht.2.2 _ (List.getElem_mem hi1)
     have h2 := hg.2.2 _ (List.getElem_mem hi2)
     rw [List.getElem_zipWith]
     split <;> omega
    ·exact rest _ _ ⟨qg, gs, rfl, ht5, ⟨hg5, hg.2⟩, T5, b5⟩
end
abbrev sDrawn : Stmt := top 29
abbrev nDrawn : List Str := ["_law_feed_here", "_law_most", "_law_many", "_law_rules", "_law_left", "_law_inputs", "_law_k", "_law_begin_here"]
theorem nmDrawn : Nm nDrawn (defScope sDrawn) := ⟨by decide +kernel, by decide +kernel⟩
theorem scDrawn : FnScope nDrawn ["_law_feed_here", "_law_most"] (defScope sDrawn) := ⟨rfl, rfl, rfl, by decide +kernel, rfl, by decide +kernel, by decide +kernel⟩
theorem cutC {t m : Nat} (xs : List Str) (h : t + m ≤ xs.length) : cutV (xs.map V.str) (some (t : Int)) (some ((t : Int) + (m : Int))) = ((xs.drop t).take m).map V.str := by
 unfold cutV HT.sIx
 dsimp only
 rw [if_neg (by omega), if_neg (by omega), List.length_map, show ((t : Int) + (m : Int)).toNat = t + m by omega, Int.toNat_natCast, Nat.min_eq_left (by omega), Nat.min_eq_left (by omega), Nat.add_sub_cancel_left, List.map_take, List.map_drop]
abbrev cDra : Scope := asgTupC ((defBody sDrawn).getD 1 (.Pass ⟨0, 0, 0, 0⟩))
abbrev cDrb : Scope := asgTupC ((defBody sDrawn).getD 5 (.Pass ⟨0, 0, 0, 0⟩))
theorem bsDra : BScope (defScope sDrawn) cDra ["_law_k"] ["_law_feed_here", "_law_many"] ["_law_rule"] := { okind := by decide +kernel, kind := by decide +kernel, nocell := by decide +kernel, names := by decide +kernel, fr := by decide +kernel, ff := by decide +kernel, nd := by decide +kernel, vis := by decide +kernel, loc := by decide +kernel, gl := by decide +kernel }
theorem bsDrb : BScope (defScope sDrawn) cDrb ["_law_k"] ["_law_feed_here"] ["_law_draw"] := { okind := by decide +kernel, kind := by decide +kernel, nocell := by decide +kernel, names := by decide +kernel, fr := by decide +kernel, ff := by decide +kernel, nd := by decide +kernel, vis := by decide +kernel, loc := by decide +kernel, gl := by decide +kernel }
structure SQ (p l : Addr) (ns : List Int) (H0 H : Hp) (n : Nat) : Prop where
 tp : Tq H p l ns n
 bt : Bp p H0 H
section
variable {p l a : Addr} {ns : List Int} {H0 H H' : Hp} {o : HO} {n n' : Nat}
theorem SQ.draw (r : SQ p l ns H0 H n) {c e f : Int} (h0 : 0 ≤ f) (h1 : f ≤ (n' : Int)) : SQ p l ns H0 (upd H p (.lst [.ref l, .int c, .int e, .int f])) n' := ⟨r.tp.draw h0 h1, r.bt.at⟩
theorem SQ.new (r : SQ p l ns H0 H n) (h : H a = none) : SQ p l ns H0 (upd H a o) n := ⟨r.tp.new h, r.bt.new h⟩
theorem SQ.put (r : SQ p l ns H0 H n) (h : H0 a = none) (h1 : p ≠ a) (h2 : l ≠ a) : SQ p l ns H0 (upd H a o) n := ⟨r.tp.put h1 h2, r.bt.put h⟩
theorem SQ.call (r : SQ p l ns H0 H n) (t : Tq H' p l ns n') (b : Bp p H H') : SQ p l ns H0 H' n' := ⟨t, r.bt.trans b⟩
theorem SQ.none (r : SQ p l ns H0 H n) (h : H a = none) : H0 a = none := r.bt.free (r.tp.np h) h
theorem SQ.tk (r : SQ p l ns H0 H n) {c e f : Int} : TK H (upd H p (.lst [.ref l, .int c, .int e, .int f])) := r.tp.tk
theorem SQ.up (r : SQ p l ns H0 H n) (h : n ≤ n') : SQ p l ns H0 H n' := ⟨r.tp.up h, r.bt⟩
end
structure PotD (H : Hp) (q : Addr) (rs : List Addr) (ins beg : List Int) (ans : Int) (m : Nat) : Prop where
 ex : ∃ (ps pr pin pb : Addr) (xs : List Str), H q = some (.tup [.ref ps, .ref pr, .ref pin, .ref pb, .int ans]) ∧ H ps = some (.tup (xs.map V.str)) ∧ xs.length = m ∧ H pr = some (.tup (rs.map V.ref)) ∧ H pin = some (.tup (ins.map V.int)) ∧ H pb = some (.tup (beg.map V.int))
 hr : ∀ r ∈ rs, RuleT m H r
 r8 : rs.length ≤ 8
 m0 : 0 < m
 m8 : m ≤ 8
 hi : ∀ i ∈ ins, 0 ≤ i ∧ i < (m : Int)
 i3 : ins.length ≤ 3
 bl : beg.length = m
 hb : ∀ b ∈ beg, 0 ≤ b ∧ b ≤ 99
 ha : 0 ≤ ans ∧ ans < (m : Int)
theorem PotD.tk {H H' : Hp} {q : Addr} {rs : List Addr} {ins beg : List Int} {ans : Int} {m : Nat} (k : TK H H') (h : PotD H q rs ins beg ans m) : PotD H' q rs ins beg ans m :=
 let ⟨ps, pr, pin, pb, xs, h1, h2, h3, h4, h5, h6⟩ := h.ex
 ⟨⟨ps, pr, pin, pb, xs, k.t _ _ h1, k.t _ _ h2, h3, k.t _ _ h4, k.t _ _ h5, k.t _ _ h6⟩, fun r hr => (h.hr r hr).tk k, h.r8, h.m0, h.m8, h.hi, h.i3, h.bl, h.hb, h.ha⟩
theorem map_erase4 (k : Nat) (xs : List Int) : (xs.map V.int).eraseIdx k = (xs.eraseIdx k).map V.int := map_erase k xs
def spDrawn : Sp := fun vs H Q _ => ∃ (p l : Addr) (ms : List Int) (n mo : Nat), vs = [.ref p, .int (mo : Int)] ∧ Tq H p l ms n ∧ n ≤ 70000 ∧ mo ≤ 3 ∧ ∀ q rs ins beg ans m H', PotD H' q rs ins beg ans m → Tq H' p l ms (n + 100) → Bp p H H' → Q (.ref q) H'
section
variable {P : Program} {w : World} {K : PySem.W.Frag} {mg : Str → Option Value} {base : Heap}
set_option maxHeartbeats 4000000 in
theorem ok_Names {f : Addr} {fd : FuncData} (B : Blt mg) (D : Has P w K mg base 1 "_law_draw" ["_law_feed_here", "_law_many"] spDraw) (F : Fun K "_law_names" "_law_names" sNames f fd) : FnOk P w K mg base CX0 2 f fd ["_law_feed_here", "_law_many"] spNames := by
 refine F.ok scNames (fun vs H Q E h => ?_) (fun cdv A outer s H vs Q E hr h => ?_)
 ·obtain ⟨p, l, ms, n, m, rfl, _⟩ := h
  rfl
 ·obtain ⟨p, l, ms, n, m, rfl, T0, hn, m8, k⟩ := h
  refine' ⟨_, ?hb, ?rd⟩
  case hb =>
   refine' pss_cons ?s1 ?r1
   case' r1 => refine' pss_cons ?s2 ?r2
   case' r2 => refine' pss_one ?s3
   case s1 =>
    refine' ps_setD nmNames 2 ?p1
    case p1 =>
     refine pe_lstW (vs := pool10.map V.str) ?_
     decide +kernel
   case s2 => exact ps_setD nmNames 3 (pe_f D hr (by decide) (pa_2 (pvd nmNames 0) pe_int))
   case s3 =>
    refine' ps_ret ?p2
    case' p2 => refine' pe_cT call_tuple_of B.tuple PyProof.Rows.boot_tuple ?p3
    case' p3 => refine' pa_1 ?p4
    case p4 => exact pe_slice sl_list (pe_op op_cat (pvd nmNames 2) (pvd nmNames 2)) (po_some (pvd nmNames 3)) (po_some (pe_op op_add (pvd nmNames 3) (pvd nmNames 1)))
  case rd =>
   walk_at "v"
   refine ⟨by show 10 ≤ sizeLine; decide, fun a1 ha1 => ?_⟩
   have T1 := T0.new (o := .lst (pool10.map V.str)) ha1
   have np1 := T0.np ha1
   have b1 : Bp p H (upd H a1 (.lst (pool10.map V.str))) := Bp.refl.new ha1
   have e1 : upd H a1 (.lst (pool10.map V.str)) a1 = some (.lst (pool10.map V.str)) := upd_same
   generalize upd H a1 (.lst (pool10.map V.str)) = H1 at T1 b1 e1 ⊢
   walk_at "v"
   refine ⟨p, l, ms, _, 10, rfl, T1, by omega, by decide, by decide, fun r c e f r0 r1 f0 f1 => ?_⟩
   have T2 := T1.draw (n' := n + 1) (c := c) (e := e) (f := f) f0 f1
   have b2 : Bp p H (upd H1 p (.lst [.ref l, .int c, .int e, .int f])) := b1.at
   have e2 : upd H1 p (.lst [.ref l, .int c, .int e, .int f]) a1 = some (.lst (pool10.map V.str)) := by rw [upd_ne (Ne.symm np1)]; exact e1
   generalize upd H1 p (.lst [.ref l, .int c, .int e, .int f]) = H2 at T2 b2 e2 ⊢
   obtain ⟨t, rfl⟩ := ofI r0
   walk_at "v"
   refine ⟨a1, a1, _, _, rfl, rfl, e2, e2, by show 10 + 10 ≤ sizeLine; decide, fun a2 ha2 => ?_⟩
   have K3 : Same H2 (upd H2 a2 (.lst (pool10.map V.str ++ pool10.map V.str))) := Same.new (Same.refl _) ha2
   have e3 : upd H2 a2 (.lst (pool10.map V.str ++ pool10.map V.str)) a2 = some (.lst ((pool10 ++ pool10).map V.str)) := by rw [upd_same, List.map_append]
   generalize upd H2 a2 (.lst (pool10.map V.str ++ pool10.map V.str)) = H3 at K3 e3 ⊢
   walk_at "v"
   refine ⟨_, rfl, ?_⟩
   walk_at "v"
   refine ⟨_, rfl, ?_⟩
   refine ⟨a2, _, rfl, SqL.of e3, fun a3 ha3 => ?_⟩
   have hlen : t + m ≤ (pool10 ++ pool10).length := by show t + m ≤ 20; omega
   rw [cutC _ hlen]
   have K4 := K3.new (o := .lst ((((pool10 ++ pool10).drop t).take m).map V.str)) ha3
   have e4 : upd H3 a3 (.lst ((((pool10 ++ pool10).drop t).take m).map V.str)) a3 = some (.lst ((((pool10 ++ pool10).drop t).take m).map V.str)) := upd_same
   generalize upd H3 a3 (.lst ((((pool10 ++ pool10).drop t).take m).map V.str)) = H4 at K4 e4 ⊢
   walk_at "v"
   refine ⟨a3, _, rfl, .inl ⟨SqL.of e4, fun q hq => ?_⟩⟩
   exact k q _ _ (by rw [List.length_take, List.length_drop]; omega) upd_same ((T2.same K4).new hq) ((b2.trans (Bp.same K4)).new hq)
set_option maxHeartbeats 4000000 in
theorem ok_Drawn {f : Addr} {fd : FuncData} (B : Blt mg) (D : Has P w K mg base 1 "_law_draw" ["_law_feed_here", "_law_many"] spDraw) (fN : Has P w K mg base 2 "_law_names" ["_law_feed_here", "_law_many"] spNames) (fR : Has P w K mg base 3 "_law_rule" ["_law_feed_here", "_law_many"] spRule) (F : Fun K "_law_drawn" "_law_drawn" sDrawn f fd) : FnOk P w K mg base CX0 4 f fd ["_law_feed_here", "_law_most"] spDrawn := by
 refine F.ok scDrawn (fun vs H Q E h => ?_) (fun cdv A outer s H vs Q E hr h => ?_)
 ·obtain ⟨p, l, ms, n, mo, rfl, _⟩ := h
  rfl
 ·obtain ⟨p, l, ms, n, mo, rfl, T0, hn, mo3, k⟩ := h
  refine' ⟨_, ?hb, ?rd⟩
  case hb =>
   refine' pss_cons ?s1 ?r1
   case' r1 => refine' pss_cons ?s2 ?r2
   case' r2 => refine' pss_cons ?s3 ?r3
   case' r3 => refine' pss_cons ?s4 ?r4
   case' r4 => refine' pss_cons ?s5 ?r5
   case' r5 => refine' pss_cons ?s6 ?r6
   case' r6 => refine' pss_one ?s7
   case s1 => exact ps_setD nmDrawn 2 (pe_op op_add pe_int (pe_f D hr (by decide) (pa_2 (pvd nmDrawn 0) pe_int)))
   case s2 =>
    refine' ps_setD nmDrawn 3 ?p3
    case' p3 => refine' pe_cT call_tuple_of B.tuple PyProof.Rows.boot_tuple ?qc3
    case' qc3 => refine' pa_1 ?c3
    case c3 =>
     refine' pe_comp (ix := [0, 2]) bsDra.toCScope rfl rfl ?h3 ?h4 ?h5 ?h6
     case h3 => exact pi_r1 B.range (pa_1 (pe_f D hr (by decide) (pa_2 (pvd nmDrawn 0) pe_int)))
     case h4 => exact fun _ _ _ _ _ _ => pgb bsDra 0
     case h5 => exact fun _ _ _ _ _ _ => pts_nil
     case h6 => exact fun _ _ _ _ _ _ => pe_f fR hr (by decide) (pa_2 (pvb bsDra 1) (pvb bsDra 2)) (bsDra.g 0)
   case s3 =>
    refine' ps_setD nmDrawn 4 ?p4
    case' p4 => refine' pe_cT (call_listRng rfl) B.list PyProof.Rows.boot_list ?q4
    case' q4 => refine' pa_1 ?u4
    case u4 => exact pe_cT call_rangeV B.range PyProof.Rows.boot_range (pa_1 (pvd nmDrawn 2))
   case s4 => exact ps_setD nmDrawn 5 (pe_lst pa_nil)
   case s5 =>
    refine' ps_for PassesOwn.never rfl ?i6 (pgd nmDrawn 6) ?b6
    case' i6 => refine' pi_r1 B.range ?pa6
    case' pa6 => refine' pa_1 ?j6
    case' j6 => refine' pe_cB (call_min2 rfl) B.min PyProof.Rows.boot_min ?q6
    case q6 => exact pa_2 (pvd nmDrawn 2) (pe_f D hr (by decide) (pa_2 (pvd nmDrawn 0) (pe_op op_add (pvd nmDrawn 1) pe_int)))
    case b6 =>
     refine' pss_one ?b6a
     case' b6a => refine' ps_expr ?b6b
     case' b6b => refine' pe_bm PySem.F.plainAttrs_list PySem.F.slot_list_append PySem.F.type_list_append mt_append (pvd nmDrawn 5) ?b6c
     case' b6c => refine' pa_1 ?b6d
     case' b6d => refine' pe_bm PySem.F.plainAttrs_list PySem.F.slot_list_pop PySem.F.type_list_pop mt_popAt (pvd nmDrawn 4) ?b6e
     case' b6e => refine' pa_1 ?b6f
     case' b6f => refine' pe_f D hr (by decide) ?b6g
     case' b6g => refine' pa_2 (pvd nmDrawn 0) ?b6h
     case b6h => exact pe_cB call_lnL B.len PySem.boot_len (pa_1 (pvd nmDrawn 4))
   case s6 =>
    refine' ps_setD nmDrawn 7 ?p7
    case' p7 => refine' pe_cT call_tuple_of B.tuple PyProof.Rows.boot_tuple ?qc7
    case' qc7 => refine' pa_1 ?c7
    case c7 =>
     refine' pe_comp (ix := [0]) bsDrb.toCScope rfl rfl (pi_r1 B.range (pa_1 (pvd nmDrawn 2))) ?k4 ?k5 ?k6
     case k4 => exact fun _ _ _ _ _ _ => pgb bsDrb 0
     case k5 => exact fun _ _ _ _ _ _ => pts_nil
     case k6 =>
      intro _ _ _ _ _ _
      refine' pe_ix ix_d ?e7 ?g7 (fun _ _ => rfl)
      case g7 => exact pe_f D hr (by decide) (pa_2 (pvb bsDrb 1) pe_int) (bsDrb.g 0)
      case e7 =>
       refine pe_lstW (vs := ([0, 0, 1, 2] : List Int).map V.int) ?_
       decide +kernel
   case s7 =>
    refine' ps_ret ?z1
    case' z1 => refine' pe_tup ?z2
    case' z2 => refine' pa_c (pe_f fN hr (by decide) (pa_2 (pvd nmDrawn 0) (pvd nmDrawn 2))) ?z3
    case' z3 => refine' pa_c (pvd nmDrawn 3) ?z4
    case' z4 => refine' pa_c (pe_cT call_tuple_of B.tuple PyProof.Rows.boot_tuple (pa_1 (pvd nmDrawn 5))) ?z5
    case z5 => exact pa_2 (pvd nmDrawn 7) (pe_f D hr (by decide) (pa_2 (pvd nmDrawn 0) (pvd nmDrawn 2)))
  case rd =>
   walk_at "v"
   refine ⟨p, l, ms, _, 5, rfl, T0, by omega, by decide, by decide, fun r c e f r0 r1 f0 f1 => ?_⟩
   have S1 : SQ p l ms H (upd H p (.lst [.ref l, .int c, .int e, .int f])) (n + 1) := ⟨T0.draw f0 f1, Bp.refl.at⟩
   generalize upd H p (.lst [.ref l, .int c, .int e, .int f]) = H1 at S1 ⊢
   obtain ⟨r', rfl⟩ := ofI r0
   obtain ⟨m, hm⟩ : ∃ m : Nat, (1 + (r' : Int)) = (m : Int) := ⟨1 + r', by omega⟩
   have m0 : 0 < m := by omega
   have m5 : m ≤ 5 := by omega
   walk_at "v"
   rw [hm]
   walk_at "v"
   refine ⟨p, l, ms, _, 5, rfl, S1.tp, by omega, by decide, by decide, fun r c e f r0 r1 f0 f1 => ?_⟩
   have S3 := S1.draw (n' := n + 2) (c := c) (e := e) (f := f) f0 (by omega)
   generalize upd H1 p (.lst [.ref l, .int c, .int e, .int f]) = H3 at S3 ⊢
   obtain ⟨rn, rfl⟩ := ofI r0
   refine ⟨_, rfl, by omega, by omega, fun d hd => ?_⟩
   rw [Int.toNat_natCast]
   have npd := S3.tp.np hd
   have nld := S3.tp.nl hd
   have h0d := S3.none hd
   refine cgo_range (ρ := [some (.ref p), some (.int (m : Int))]) (fun i ys H' => ∃ rs : List Addr, ys = rs.map V.ref ∧ rs.length = i ∧ (∀ r ∈ rs, RuleT m H' r) ∧ SQ p l ms H H' (n + 2 + 15 * i) ∧ TK H3 H') ⟨[], rfl, rfl, (fun r h => by cases h), S3.new hd, TK.new hd⟩ ?_ ?_
   ·rintro i ys H' hi ⟨rs, rfl, hrl, hrs, S, T⟩ hDz R S' kR _
    walk_at "v"
    refine ⟨p, l, ms, _, m, rfl, S.tp, by omega, m0, by omega, fun q H'' hq t' b' => ?_⟩
    have tk' := S.tp.tkb b'
    have hD' := b' _ _ (Ne.symm npd) hDz
    have tk2 : TK H'' (upd H'' d (.lst (rs.map V.ref ++ [.ref q]))) := TK.lst hD'
    refine kR _ _ hD' (by rw [List.length_map]; exact small1000 (by omega)) ⟨rs ++ [q], by rw [List.map_append]; rfl, by simp [hrl], fun r hr' => ?_, ((S.call t' b').put h0d npd nld).up (by omega), (T.trans tk').trans tk2⟩
    rcases List.mem_append.mp hr' with old | new
    ·exact (hrs r old).tk (tk'.trans tk2)
    ·rw [List.mem_singleton.mp new]
     exact hq.tk tk2
   rintro ys H4 ⟨rs, rfl, hrl, hrs, S4, TK4⟩ hD
   walk_at "v"
   refine ⟨d, _, rfl, .inl ⟨SqL.of hD, fun pr hpr => ?_⟩⟩
   have S8 := (S4.new (o := .tup (rs.map V.ref)) hpr).up (n' := n + 62) (by omega)
   have T8 : TK H4 (upd H4 pr (.tup (rs.map V.ref))) := TK.new hpr
   have hrs8 : ∀ r ∈ rs, RuleT m (upd H4 pr (.tup (rs.map V.ref))) r := fun r h => (hrs r h).tk T8
   have er8 : upd H4 pr (.tup (rs.map V.ref)) pr = some (.tup (rs.map V.ref)) := upd_same
   generalize upd H4 pr (.tup (rs.map V.ref)) = H8 at S8 er8 hrs8 ⊢
   clear T8 hD hrs hpr S4 TK4
   walk_at "v"
   refine ⟨m, rfl, fun rg hrg => ?_⟩
   have S9 := S8.new (o := .rng 0 m) hrg
   have T9 : TK H8 (upd H8 rg (.rng 0 m)) := TK.new hrg
   have erg : upd H8 rg (.rng 0 m) rg = some (.rng 0 m) := upd_same
   generalize upd H8 rg (.rng 0 m) = H9 at S9 T9 erg ⊢
   walk_at "v"
   refine ⟨rg, m, rfl, erg, by omega, fun pl hpl => ?_⟩
   have S10 := S9.new (o := .lst ((List.range m).map fun (i : Nat) => V.int (i : Int))) hpl
   have T10 := T9.trans (TK.new (o := .lst ((List.range m).map fun (i : Nat) => V.int (i : Int))) hpl)
   have n0l := S9.none hpl
   have ppl := S9.tp.np hpl
   have lpl := S9.tp.nl hpl
   have el : upd H9 pl (.lst ((List.range m).map fun (i : Nat) => V.int (i : Int))) pl = some (.lst (((List.range m).map fun (i : Nat) => (i : Int)).map V.int)) := by rw [upd_same, List.map_map]; rfl
   generalize upd H9 pl (.lst ((List.range m).map fun (i : Nat) => V.int (i : Int))) = H10 at S10 T10 el ⊢
   clear S9 T9 erg hpl hrg
   walk_at "v"
   refine ⟨Nat.zero_le _, fun pi hpi => ?_⟩
   have S11 := S10.new (o := .lst []) hpi
   have T11 := T10.trans (TK.new (o := .lst []) hpi)
   have n0i := S10.none hpi
   have ppi := S10.tp.np hpi
   have lpi := S10.tp.nl hpi
   have nli : pl ≠ pi := ne_of_none el hpi
   have el11 : upd H10 pi (.lst []) pl = some (.lst (((List.range m).map fun (i : Nat) => (i : Int)).map V.int)) := by rw [upd_ne nli]; exact el
   have ei11 : upd H10 pi (.lst []) pi = some (.lst (([] : List Int).map V.int)) := upd_same
   generalize upd H10 pi (.lst []) = H11 at S11 T11 el11 ei11 ⊢
   clear S10 T10 el hpi
   walk_at "v"
   refine ⟨p, l, ms, _, _, rfl, S11.tp, by omega, by omega, by omega, fun r c e f r0 r1 f0 f1 => ?_⟩
   have S13 := S11.draw (n' := n + 63) (c := c) (e := e) (f := f) f0 (by omega)
   have T13 := T11.trans (S11.tk (c := c) (e := e) (f := f))
   have el13 : upd H11 p (.lst [.ref l, .int c, .int e, .int f]) pl = some (.lst (((List.range m).map fun (i : Nat) => (i : Int)).map V.int)) := by rw [upd_ne (Ne.symm ppl)]; exact el11
   have ei13 : upd H11 p (.lst [.ref l, .int c, .int e, .int f]) pi = some (.lst (([] : List Int).map V.int)) := by rw [upd_ne (Ne.symm ppi)]; exact ei11
   generalize upd H11 p (.lst [.ref l, .int c, .int e, .int f]) = H13 at S13 T13 el13 ei13 ⊢
   clear S11 T11 el11 ei11
   obtain ⟨c4, rfl⟩ := ofI r0
   walk_at "v"
   refine ⟨_, _, rfl, ?_⟩
   obtain ⟨cn, hcn, cn3, cnm⟩ : ∃ cn : Nat, (if (c4 : Int) < (m : Int) then (c4 : Int) else (m : Int)) = (cn : Int) ∧ cn ≤ 3 ∧ cn ≤ m := by
    by_cases h : (c4 : Int) < (m : Int)
    ·exact ⟨c4, by rw [if_pos h], by omega, by omega⟩
    ·exact ⟨m, by rw [if_neg h], by omega, by omega⟩
   rw [hcn]
   walk_at "v"
   refine ⟨_, rfl, by omega, by omega, ?_⟩
   rw [Int.toNat_natCast]
   refine for_range (fun i σ H' => ∃ (u : Option V) (lf is : List Int), σ = [some (.ref p), some (.int (mo : Int)), some (.int (m : Int)), some (.ref pr), some (.ref pl), some (.ref pi), u, none] ∧ H' pl = some (.lst (lf.map V.int)) ∧ H' pi = some (.lst (is.map V.int)) ∧ lf.length + i = m ∧ is.length = i ∧ (∀ j ∈ lf, 0 ≤ j ∧ j < (m : Int)) ∧ (∀ j ∈ is, 0 ≤ j ∧ j < (m : Int)) ∧ SQ p l ms H H' (n + 63 + i) ∧ TK H8 H')
    ⟨none, _, [], rfl, el13, ei13, by simp, rfl, fun j hj => by
     obtain ⟨q, hq, rfl⟩ := List.mem_map.mp hj
     have := List.mem_range.mp hq
     omega, (fun j hj => by cases hj), S13, T13⟩ ?_ ?_
   ·rintro i σ H' hi ⟨u, lf, is, rfl, el, ei, hlen1, hlen2, hlf, his, S, T⟩
    walk_at "v"
    refine ⟨.inl ⟨rfl, _, SqL.of ei⟩, ?_⟩
    walk_at "v"
    refine ⟨.inl ⟨rfl, _, SqL.of el⟩, ?_⟩
    walk_at "v"
    refine ⟨pl, _, rfl, el, ?_⟩
    rw [List.length_map]
    refine ⟨p, l, ms, _, lf.length, rfl, S.tp, by omega, by omega, by omega, fun r c e f r0 r1 f0 f1 => ?_⟩
    have S' := S.draw (n' := n + 63 + (i + 1)) (c := c) (e := e) (f := f) f0 (by omega)
    have T' := T.trans (S.tk (c := c) (e := e) (f := f))
    have el' : upd H' p (.lst [.ref l, .int c, .int e, .int f]) pl = some (.lst (lf.map V.int)) := by rw [upd_ne (Ne.symm ppl)]; exact el
    have ei' : upd H' p (.lst [.ref l, .int c, .int e, .int f]) pi = some (.lst (is.map V.int)) := by rw [upd_ne (Ne.symm ppi)]; exact ei
    generalize upd H' p (.lst [.ref l, .int c, .int e, .int f]) = H2 at S' T' el' ei' ⊢
    obtain ⟨j, rfl⟩ := ofI r0
    have hj : j < lf.length := by omega
    have hix : ixN (lf.map V.int).length (j : Int) = some j := by
     rw [List.length_map]
     unfold ixN
     rw [if_pos r0, if_pos r1]
     rfl
    walk_at "v"
    refine ⟨pl, _, _, j, .int lf[j], rfl, rfl, el', by omega, by omega, (ixN_seq hix).1, by simp [hj], ?_⟩
    have S'' := S'.put (o := .lst ((lf.map V.int).eraseIdx j)) n0l ppl lpl
    have T'' := T'.trans (TK.lst (o := .lst ((lf.map V.int).eraseIdx j)) el')
    have el'' : upd H2 pl (.lst ((lf.map V.int).eraseIdx j)) pl = some (.lst ((lf.eraseIdx j).map V.int)) := by rw [upd_same, map_erase4]
    have ei'' : upd H2 pl (.lst ((lf.map V.int).eraseIdx j)) pi = some (.lst (is.map V.int)) := by rw [upd_ne (Ne.symm nli)]; exact ei'
    generalize upd H2 pl (.lst ((lf.map V.int).eraseIdx j)) = H3' at S'' T'' el'' ei'' ⊢
    walk_at "v"
    refine ⟨pi, _, _, rfl, rfl, ei'', by rw [List.length_map]; exact small1000 (by omega), ?_⟩
    refine ⟨_, lf.eraseIdx j, is ++ [lf[j]], rfl, by rw [upd_ne nli]; exact el'', by rw [upd_same, List.map_append]; rfl, ?_, by simp [hlen2], ?_, ?_, S''.put n0i ppi lpi, T''.trans (TK.lst ei'')⟩
    ·rw [List.length_eraseIdx_of_lt hj]
     omega
    ·exact fun q hq => hlf q (List.mem_of_mem_eraseIdx hq)
    ·intro q hq
     rcases List.mem_append.mp hq with old | new
     ·exact his q old
     ·rw [List.mem_singleton.mp new]
      exact hlf _ (List.getElem_mem hj)
   ·rintro σ H14 ⟨u, lf, is, rfl, el, ei, hlen1, hlen2, hlf, his, S14', T14⟩
    have S14 := S14'.up (n' := n + 66) (by omega)
    have hi3 : is.length ≤ 3 := by omega
    walk_at "v"
    refine ⟨_, rfl, by omega, by omega, fun db hdb => ?_⟩
    rw [Int.toNat_natCast]
    have pdb := S14.tp.np hdb
    have ldb := S14.tp.nl hdb
    have n0b := S14.none hdb
    have nib : pi ≠ db := ne_of_none ei hdb
    refine cgo_range (ρ := [some (.ref p)]) (fun i ys H' => ∃ bs : List Int, ys = bs.map V.int ∧ bs.length = i ∧ (∀ b ∈ bs, 0 ≤ b ∧ b ≤ 99) ∧ SQ p l ms H H' (n + 66 + i) ∧ TK H8 H' ∧ H' pi = some (.lst (is.map V.int)))
     ⟨[], rfl, rfl, (fun b hb => by cases hb), S14.new hdb, T14.trans (TK.new hdb), by rw [upd_ne nib]; exact ei⟩ ?_ ?_
    ·rintro i ys H' hi ⟨bs, rfl, hbl, hbs, S, T, ei'⟩ hD R S' kR _
     walk_at "v"
     refine ⟨by show 4 ≤ sizeLine; decide, fun z hz => ?_⟩
     have Sz := S.new (o := .lst (([0, 0, 1, 2] : List Int).map V.int)) hz
     have Tz := T.trans (TK.new (o := .lst (([0, 0, 1, 2] : List Int).map V.int)) hz)
     have npz := S.tp.np hz
     have ez : upd H' z (.lst (([0, 0, 1, 2] : List Int).map V.int)) z = some (.lst (([0, 0, 1, 2] : List Int).map V.int)) := upd_same
     have dz : upd H' z (.lst (([0, 0, 1, 2] : List Int).map V.int)) db = some (.lst (bs.map V.int)) := by rw [upd_ne (ne_of_none hD hz)]; exact hD
     have iz : upd H' z (.lst (([0, 0, 1, 2] : List Int).map V.int)) pi = some (.lst (is.map V.int)) := by rw [upd_ne (ne_of_none ei' hz)]; exact ei'
     generalize upd H' z (.lst (([0, 0, 1, 2] : List Int).map V.int)) = Hz at Sz Tz ez dz iz ⊢
     walk_at "v"
     refine ⟨p, l, ms, _, 4, rfl, Sz.tp, by omega, by decide, by decide, fun r c e f r0 r1 f0 f1 => ?_⟩
     obtain ⟨v, hv, hat⟩ := pickZ (xs := [0, 0, 1, 2]) r0 r1
     refine w_ixL (by rw [upd_ne (Ne.symm npz)]; exact ez) hat ?_
     have hD' : upd Hz p (.lst [.ref l, .int c, .int e, .int f]) db = some (.lst (bs.map V.int)) := by rw [upd_ne (Ne.symm pdb)]; exact dz
     have hI' : upd Hz p (.lst [.ref l, .int c, .int e, .int f]) pi = some (.lst (is.map V.int)) := by rw [upd_ne (Ne.symm ppi)]; exact iz
     refine kR _ _ hD' (by rw [List.length_map]; exact small1000 (by omega)) ⟨bs ++ [v], by rw [List.map_append]; rfl, by simp [hbl], fun b hb => ?_, (Sz.draw (n' := n + 66 + (i + 1)) f0 (by omega)).put n0b pdb ldb, (Tz.trans Sz.tk).trans (TK.lst hD'), by rw [upd_ne nib]; exact hI'⟩
     rcases List.mem_append.mp hb with old | new
     ·exact hbs b old
     ·rw [List.mem_singleton.mp new]
      simp only [List.mem_cons, List.not_mem_nil, or_false] at hv
      omega
    ·rintro ys H15 ⟨bs, rfl, hbl, hbs, S15, T15, ei15⟩ hD
     walk_at "v"
     refine ⟨db, _, rfl, .inl ⟨SqL.of hD, fun pb hpb => ?_⟩⟩
     have S16 := S15.new (o := .tup (bs.map V.int)) hpb
     have T16 := T15.trans (TK.new (o := .tup (bs.map V.int)) hpb)
     have eb : upd H15 pb (.tup (bs.map V.int)) pb = some (.tup (bs.map V.int)) := upd_same
     have ei16 : upd H15 pb (.tup (bs.map V.int)) pi = some (.lst (is.map V.int)) := by rw [upd_ne (ne_of_none ei15 hpb)]; exact ei15
     generalize upd H15 pb (.tup (bs.map V.int)) = H16 at S16 T16 eb ei16 ⊢
     walk_at "v"
     refine ⟨p, l, ms, _, m, rfl, S16.tp, by omega, by omega, fun ps xs H17 hxl exs t17 b17 => ?_⟩
     have S17 := S16.call t17 b17
     have T67 := S16.tp.tkb b17
     have ei17 := b17 _ _ (Ne.symm ppi) ei16
     walk_at "v"
     refine ⟨pi, _, rfl, .inl ⟨SqL.of ei17, fun pin hpin => ?_⟩⟩
     have S18 := S17.new (o := .tup (is.map V.int)) hpin
     have T78 : TK H17 (upd H17 pin (.tup (is.map V.int))) := TK.new hpin
     have en : upd H17 pin (.tup (is.map V.int)) pin = some (.tup (is.map V.int)) := upd_same
     generalize upd H17 pin (.tup (is.map V.int)) = H18 at S18 T78 en ⊢
     walk_at "v"
     refine ⟨p, l, ms, _, m, rfl, S18.tp, by omega, by omega, by omega, fun ans c e f a0 a1 f0 f1 => ?_⟩
     have S19 := S18.draw (n' := n + 100) (c := c) (e := e) (f := f) f0 (by omega)
     have T89 := S18.tk (c := c) (e := e) (f := f)
     generalize upd H18 p (.lst [.ref l, .int c, .int e, .int f]) = H19 at S19 T89 ⊢
     walk_at "v"
     refine ⟨by show 5 ≤ sizeLine; decide, fun q hq => ?_⟩
     have T9A : TK H19 (upd H19 q (.tup [.ref ps, .ref pr, .ref pin, .ref pb, .int ans])) := TK.new hq
     have TA := ((T67.trans T78).trans T89).trans T9A
     have TB := T16.trans TA
     have SA := S19.new (o := .tup [.ref ps, .ref pr, .ref pin, .ref pb, .int ans]) hq
     exact k q rs is bs ans m _ ⟨⟨ps, pr, pin, pb, xs, upd_same, ((T78.trans T89).trans T9A).t _ _ exs, hxl, TB.t _ _ er8, (T89.trans T9A).t _ _ en, TA.t _ _ eb⟩, fun r hr' => (hrs8 r hr').tk TB, by omega, m0, by omega, his, hi3, hbl, hbs, a0, a1⟩ SA.tp SA.bt
end
abbrev sLine : Stmt := top 18
abbrev sAsk : Stmt := top 19
structure _root_.G2.Ln where
 bys : List Int
 plus : Int
def _root_.G2.Ln.ok (m : Nat) (a : Ln) : Prop := a.bys.length = m ∧ (∀ x ∈ a.bys, -99 ≤ x ∧ x ≤ 99) ∧ -99 ≤ a.plus ∧ a.plus ≤ 99
def _root_.G2.LnAt (H : Hp) (q : Addr) (a : Ln) : Prop := ∃ b, H q = some (.tup [.ref b, .int a.plus]) ∧ H b = some (.tup (a.bys.map V.int))
theorem _root_.G2.LnAt.tk {H H' : Hp} {q : Addr} {a : Ln} (k : TK H H') : LnAt H q a → LnAt H' q a
 | ⟨b, h1, h2⟩ => ⟨b, k.t _ _ h1, k.t _ _ h2⟩
inductive _root_.G2.Ak where
 | sum (a : Ln)
 | part (a : Ln) (m : Int)
 | two (w : Str) (a b : Ln)
def _root_.G2.AkAt (H : Hp) (q : Addr) : Ak → Prop
 | .sum a => ∃ l, H q = some (.tup [.str "sum", .ref l]) ∧ LnAt H l a
 | .part a m => ∃ l, H q = some (.tup [.str "part", .ref l, .int m]) ∧ LnAt H l a
 | .two w a b => ∃ l r, H q = some (.tup [.str w, .ref l, .ref r]) ∧ LnAt H l a ∧ LnAt H r b
def _root_.G2.four (w : Str) : Prop := w = "least" ∨ w = "most" ∨ w = "more" ∨ w = "same"
def _root_.G2.Ak.ok (m : Nat) : Ak → Prop
 | .sum a => a.ok m
 | .part a k => a.ok m ∧ 2 ≤ k ∧ k ≤ 9
 | .two w a b => four w ∧ a.ok m ∧ b.ok m
theorem _root_.G2.AkAt.tk {H H' : Hp} {q : Addr} (k : TK H H') : ∀ {A : Ak}, AkAt H q A → AkAt H' q A
 | .sum a, ⟨l, h1, h2⟩ => ⟨l, k.t _ _ h1, h2.tk k⟩
 | .part a m, ⟨l, h1, h2⟩ => ⟨l, k.t _ _ h1, h2.tk k⟩
 | .two w a b, ⟨l, r, h1, h2, h3⟩ => ⟨l, r, k.t _ _ h1, h2.tk k, h3.tk k⟩
abbrev nLine : List Str := ["_law_feed_here", "_law_many", "_law_most"]
theorem nmLine : Nm nLine (defScope sLine) := ⟨by decide +kernel, by decide +kernel⟩
theorem scLine : FnScope nLine ["_law_feed_here", "_law_many", "_law_most"] (defScope sLine) := ⟨rfl, rfl, rfl, by decide +kernel, rfl, by decide +kernel, by decide +kernel⟩
abbrev nAsk : List Str := ["_law_feed_here", "_law_many", "_law_most", "_law_word", "_law_one"]
theorem nmAsk : Nm nAsk (defScope sAsk) := ⟨by decide +kernel, by decide +kernel⟩
theorem scAsk : FnScope nAsk ["_law_feed_here", "_law_many", "_law_most"] (defScope sAsk) := ⟨rfl, rfl, rfl, by decide +kernel, rfl, by decide +kernel, by decide +kernel⟩
theorem pickS {xs : List Str} {r : Int} (h0 : 0 ≤ r) (h1 : r < xs.length) : ∃ x, x ∈ xs ∧ atI (xs.map V.str) r = some (.str x) := by
 obtain ⟨j, rfl⟩ := ofI h0
 have hj : j < xs.length := by omega
 exact ⟨xs[j], List.getElem_mem hj, atI_nat (by simp [hj])⟩
def pairComp (s : Stmt) : Scope := match s with
 | .Return (some (.Tuple (.Call _ [.ListComp _ _ sc _] _ _ :: _) _ _)) _ => sc
 | _ => { kind := .function, names := [], isGenerator := false, isCoroutine := false }
abbrev cLine : Scope := pairComp ((defBody sLine).getD 0 (.Pass ⟨0, 0, 0, 0⟩))
theorem bsLine : BScope (defScope sLine) cLine ["_law_k"] ["_law_feed_here", "_law_most"] ["_law_draw"] := { okind := by decide +kernel, kind := by decide +kernel, nocell := by decide +kernel, names := by decide +kernel, fr := by decide +kernel, ff := by decide +kernel, nd := by decide +kernel, vis := by decide +kernel, loc := by decide +kernel, gl := by decide +kernel }
def Ln.sm (a : Ln) : Prop := (∀ x ∈ a.bys, 0 ≤ x ∧ x ≤ 4) ∧ 0 ≤ a.plus ∧ a.plus ≤ 3
def words6 : List Str := ["sum", "part", "least", "most", "more", "same"]
def akSm : Ak → Prop
 | .sum a => Ln.sm a
 | .part a _ => Ln.sm a
 | .two _ a b => Ln.sm a ∧ Ln.sm b
def spLine : Sp := fun vs H Q _ => ∃ (p l : Addr) (ms : List Int) (n m mo : Nat), vs = [.ref p, .int (m : Int), .int (mo : Int)] ∧ Tq H p l ms n ∧ n ≤ 90000 ∧ m ≤ 3 ∧ mo ≤ 4 ∧ ∀ (q : Addr) (a : Ln) (H' : Hp), a.ok m → Ln.sm a → LnAt H' q a → Tq H' p l ms (n + 4) → Bp p H H' → Q (.ref q) H'
def spAsk : Sp := fun vs H Q _ => ∃ (p l : Addr) (ms : List Int) (n m mo : Nat), vs = [.ref p, .int (m : Int), .int (mo : Int)] ∧ Tq H p l ms n ∧ n ≤ 80000 ∧ m ≤ 3 ∧ mo ≤ 4 ∧ ∀ (q : Addr) (A : Ak) (H' : Hp), A.ok m → akSm A → AkAt H' q A → Tq H' p l ms (n + 10) → Bp p H H' → Q (.ref q) H'
section
variable {P : Program} {w : World} {K : PySem.W.Frag} {mg : Str → Option Value} {base : Heap}
set_option maxHeartbeats 4000000 in
theorem ok_Line {f : Addr} {fd : FuncData} (B : Blt mg) (D : Has P w K mg base 1 "_law_draw" ["_law_feed_here", "_law_many"] spDraw) (F : Fun K "_law_line" "_law_line" sLine f fd) : FnOk P w K mg base CX0 2 f fd ["_law_feed_here", "_law_many", "_law_most"] spLine := by
 refine F.ok scLine (fun vs H Q E h => ?_) (fun cdv A outer s H vs Q E hr h => ?_)
 ·obtain ⟨p, l, ms, n, m, mo, rfl, _⟩ := h
  rfl
 ·obtain ⟨p, l, ms, n, m, mo, rfl, T0, hn, m3, mo9, k⟩ := h
  refine' ⟨_, ?hb, ?rd⟩
  case hb =>
   refine' pss_one ?s1
   case' s1 => refine' ps_ret ?p2
   case' p2 => refine' pe_tup ?q2
   case' q2 => refine' pa_2 ?x2 ?y2
   case' y2 => refine' pe_ix ix_d ?y4 ?y3 (fun _ _ => rfl)
   case y3 => exact pe_f D hr (by decide) (pa_2 (pvd nmLine 0) pe_int)
   case y4 =>
    refine pe_lstW (vs := ([0, 0, 1, 2, 3] : List Int).map V.int) ?_
    decide +kernel
   case' x2 => refine' pe_cT call_tuple_of B.tuple PyProof.Rows.boot_tuple ?x3
   case' x3 => refine' pa_1 ?x4
   case x4 =>
    refine' pe_comp (ix := [0, 2]) bsLine.toCScope rfl rfl (pi_r1 B.range (pa_1 (pvd nmLine 1))) ?h4 ?h5 ?h6
    case h4 => exact fun _ _ _ _ _ _ => pgb bsLine 0
    case h5 => exact fun _ _ _ _ _ _ => pts_nil
    case h6 => exact fun _ _ _ _ _ _ => pe_f D hr (by decide) (pa_2 (pvb bsLine 1) (pe_op op_add (pvb bsLine 2) pe_int)) (bsLine.g 0)
  case rd =>
   walk_at "v"
   refine ⟨m, rfl, by omega, by omega, fun db hdb => ?_⟩
   rw [Int.toNat_natCast]
   have npd := T0.np hdb
   have nld := T0.nl hdb
   refine cgo_range (ρ := [some (.ref p), some (.int (mo : Int))]) (fun i ys H' => ∃ bs : List Int, ys = bs.map V.int ∧ bs.length = i ∧ (∀ x ∈ bs, 0 ≤ x ∧ x ≤ 4) ∧ SQ p l ms H H' (n + i)) ⟨[], rfl, rfl, (fun x h => by cases h), ⟨T0.new hdb, Bp.refl.new hdb⟩⟩ ?_ ?_
   ·rintro i ys H' hi ⟨bs, rfl, hbl, hbs, S⟩ hD R S' kR _
    walk_at "v"
    refine ⟨p, l, ms, _, _, rfl, S.tp, by omega, by omega, by omega, fun r c e f r0 r1 f0 f1 => ?_⟩
    have hD' : upd H' p (.lst [.ref l, .int c, .int e, .int f]) db = some (.lst (bs.map V.int)) := by rw [upd_ne (Ne.symm npd)]; exact hD
    refine kR _ _ hD' (by rw [List.length_map]; exact small1000 (by omega)) ⟨bs ++ [r], by rw [List.map_append]; rfl, by simp [hbl], fun b hb => ?_, (S.draw (n' := n + (i + 1)) f0 (by omega)).put hdb npd nld⟩
    rcases List.mem_append.mp hb with old | new
    ·exact hbs b old
    ·rw [List.mem_singleton.mp new]
     omega
   ·rintro ys H1 ⟨bs, rfl, hbl, hbs, S1⟩ hD
    walk_at "v"
    refine ⟨db, _, rfl, .inl ⟨SqL.of hD, fun b hb => ?_⟩⟩
    have S2 := S1.new (o := .tup (bs.map V.int)) hb
    have eb : upd H1 b (.tup (bs.map V.int)) b = some (.tup (bs.map V.int)) := upd_same
    generalize upd H1 b (.tup (bs.map V.int)) = H2 at S2 eb ⊢
    walk_at "v"
    refine ⟨by show 5 ≤ sizeLine; decide, fun z hz => ?_⟩
    have S3 := S2.new (o := .lst (([0, 0, 1, 2, 3] : List Int).map V.int)) hz
    have npz := S2.tp.np hz
    have TK3 : TK H2 (upd H2 z (.lst (([0, 0, 1, 2, 3] : List Int).map V.int))) := TK.new hz
    have ez : upd H2 z (.lst (([0, 0, 1, 2, 3] : List Int).map V.int)) z = some (.lst (([0, 0, 1, 2, 3] : List Int).map V.int)) := upd_same
    generalize upd H2 z (.lst (([0, 0, 1, 2, 3] : List Int).map V.int)) = H3 at S3 TK3 ez ⊢
    walk_at "v"
    refine ⟨p, l, ms, _, 5, rfl, S3.tp, by omega, by decide, by decide, fun r c e f r0 r1 f0 f1 => ?_⟩
    obtain ⟨x, hx, hat⟩ := pickZ (xs := [0, 0, 1, 2, 3]) r0 r1
    refine w_ixL (by rw [upd_ne (Ne.symm npz)]; exact ez) hat ?_
    have S4 := S3.draw (n' := n + 4) (c := c) (e := e) (f := f) f0 (by omega)
    have TK4 := TK3.trans (S3.tk (c := c) (e := e) (f := f))
    generalize upd H3 p (.lst [.ref l, .int c, .int e, .int f]) = H4 at S4 TK4 ⊢
    have hx3 : 0 ≤ x ∧ x ≤ 3 := by
     simp only [List.mem_cons, List.not_mem_nil, or_false] at hx
     omega
    walk_at "v"
    refine ⟨by show 2 ≤ sizeLine; decide, fun q hq => ?_⟩
    have TK5 : TK H4 (upd H4 q (.tup [.ref b, .int x])) := TK.new hq
    have S5 := S4.new (o := .tup [.ref b, .int x]) hq
    exact k q ⟨bs, x⟩ _ ⟨hbl, fun y hy => ⟨by have := (hbs y hy).1; omega, by have := (hbs y hy).2; omega⟩, by show -99 ≤ x; omega, by show x ≤ 99; omega⟩ ⟨hbs, hx3⟩ ⟨b, upd_same, (TK4.trans TK5).t _ _ eb⟩ S5.tp S5.bt
set_option maxHeartbeats 4000000 in
theorem ok_Ask {f : Addr} {fd : FuncData} (D : Has P w K mg base 1 "_law_draw" ["_law_feed_here", "_law_many"] spDraw) (fL : Has P w K mg base 2 "_law_line" ["_law_feed_here", "_law_many", "_law_most"] spLine) (F : Fun K "_law_ask" "_law_ask" sAsk f fd) : FnOk P w K mg base CX0 3 f fd ["_law_feed_here", "_law_many", "_law_most"] spAsk := by
 refine F.ok scAsk (fun vs H Q E h => ?_) (fun cdv A outer s H vs Q E hr h => ?_)
 ·obtain ⟨p, l, ms, n, m, mo, rfl, _⟩ := h
  rfl
 ·obtain ⟨p, l, ms, n, m, mo, rfl, T0, hn, m3, mo9, k⟩ := h
  refine' ⟨_, ?hb, ?rd⟩
  case hb =>
   refine' pss_cons ?s1 ?r1
   case' r1 => refine' pss_cons ?s2 ?r2
   case' r2 => refine' pss_cons ?s3 ?r3
   case' r3 => refine' pss_cons ?s4 ?r4
   case' r4 => refine' pss_one ?s5
   case s1 =>
    refine' ps_setD nmAsk 3 ?p1
    case' p1 => refine' pe_ix ix_d ?l1 ?d1 (fun _ _ => rfl)
    case d1 => exact pe_f D hr (by decide) (pa_2 (pvd nmAsk 0) pe_int)
    case l1 =>
     refine pe_lstW (vs := words6.map V.str) ?_
     decide +kernel
   case s2 => exact ps_setD nmAsk 4 (pe_f fL hr (by decide) (pa_c (pvd nmAsk 0) (pa_2 (pvd nmAsk 1) (pvd nmAsk 2))))
   case s3 => exact ps_if (pt_cmpR op_eq (pvd nmAsk 3) pe_str (nomark _)) (pss_one (ps_ret (pe_tup (pa_2 (pvd nmAsk 3) (pvd nmAsk 4))))) pss_nil
   case s4 =>
    refine' ps_if (pt_cmpR op_eq (pvd nmAsk 3) pe_str (nomark _)) ?b4 pss_nil
    case' b4 => refine' pss_one ?c4
    case' c4 => refine' ps_ret ?d4
    case' d4 => refine' pe_tup ?e4
    case' e4 => refine' pa_c (pvd nmAsk 3) ?f4
    case' f4 => refine' pa_2 (pvd nmAsk 4) ?g4
    case' g4 => refine' pe_op op_add pe_int ?h4
    case h4 => exact pe_f D hr (by decide) (pa_2 (pvd nmAsk 0) pe_int)
   case s5 =>
    refine' ps_ret ?d5
    case' d5 => refine' pe_tup ?e5
    case' e5 => refine' pa_c (pvd nmAsk 3) ?f5
    case f5 => exact pa_2 (pvd nmAsk 4) (pe_f fL hr (by decide) (pa_c (pvd nmAsk 0) (pa_2 (pvd nmAsk 1) (pvd nmAsk 2))))
  case rd =>
   walk_at "v"
   refine ⟨by show 6 ≤ sizeLine; decide, fun a1 ha1 => ?_⟩
   have S1 : SQ p l ms H (upd H a1 (.lst (words6.map V.str))) n := ⟨T0.new ha1, Bp.refl.new ha1⟩
   have np1 := T0.np ha1
   have e1 : upd H a1 (.lst (words6.map V.str)) a1 = some (.lst (words6.map V.str)) := upd_same
   generalize upd H a1 (.lst (words6.map V.str)) = H1 at S1 e1 ⊢
   walk_at "v"
   refine ⟨p, l, ms, _, 6, rfl, S1.tp, by omega, by decide, by decide, fun r c e f r0 r1 f0 f1 => ?_⟩
   obtain ⟨wd, hw, hat⟩ := pickS (xs := words6) r0 r1
   refine w_ixL (by rw [upd_ne (Ne.symm np1)]; exact e1) hat ?_
   have S2 := S1.draw (n' := n + 1) (c := c) (e := e) (f := f) f0 f1
   generalize upd H1 p (.lst [.ref l, .int c, .int e, .int f]) = H2 at S2 ⊢
   walk_at "v"
   refine ⟨p, l, ms, _, m, mo, rfl, S2.tp, by omega, m3, mo9, fun q a H3 hok hsm hq t3 b3 => ?_⟩
   have S3 := S2.call t3 b3
   walk_at "v"
   refine ⟨rfl, ?_⟩
   walk_at "v"
   refine iteD (fun e => ?_) (fun e1 => ?_)
   ·injection e with e
    subst e
    walk_at "v"
    refine ⟨by show 2 ≤ sizeLine; decide, fun z hz => ?_⟩
    have TK4 : TK H3 (upd H3 z (.tup [.str "sum", .ref q])) := TK.new hz
    have S4 := (S3.new (o := .tup [.str "sum", .ref q]) hz).up (n' := n + 10) (by omega)
    exact k z (.sum a) _ hok hsm ⟨q, upd_same, hq.tk TK4⟩ S4.tp S4.bt
   walk_at "v"
   refine ⟨rfl, ?_⟩
   walk_at "v"
   refine iteD (fun e => ?_) (fun e2 => ?_)
   ·injection e with e
    subst e
    walk_at "v"
    refine ⟨p, l, ms, _, 2, rfl, S3.tp, by omega, by decide, by decide, fun r c e f r0 r1 f0 f1 => ?_⟩
    have S4 := S3.draw (n' := n + 10) (c := c) (e := e) (f := f) f0 (by omega)
    have hq4 := hq.tk (S3.tk (c := c) (e := e) (f := f))
    generalize upd H3 p (.lst [.ref l, .int c, .int e, .int f]) = H4 at S4 hq4 ⊢
    walk_at "v"
    refine ⟨by show 3 ≤ sizeLine; decide, fun z hz => ?_⟩
    have TK5 : TK H4 (upd H4 z (.tup [.str "part", .ref q, .int (2 + r)])) := TK.new hz
    have S5 := S4.new (o := .tup [.str "part", .ref q, .int (2 + r)]) hz
    exact k z (.part a (2 + r)) _ ⟨hok, by omega, by omega⟩ hsm ⟨q, upd_same, hq4.tk TK5⟩ S5.tp S5.bt
   walk_at "v"
   refine ⟨p, l, ms, _, m, mo, rfl, S3.tp, by omega, m3, mo9, fun q' a' H4 hok' hsm' hq' t4 b4 => ?_⟩
   have S4 := S3.call t4 b4
   have TK4 := S3.tp.tkb b4
   walk_at "v"
   refine ⟨by show 3 ≤ sizeLine; decide, fun z hz => ?_⟩
   have TK5 : TK H4 (upd H4 z (.tup [.str wd, .ref q, .ref q'])) := TK.new hz
   have S5 := (S4.new (o := .tup [.str wd, .ref q, .ref q']) hz).up (n' := n + 10) (by omega)
   refine k z (.two wd a a') _ ⟨?_, hok, hok'⟩ ⟨hsm, hsm'⟩ ⟨q, q', upd_same, hq.tk (TK4.trans TK5), hq'.tk TK5⟩ S5.tp S5.bt
   simp only [words6, List.mem_cons, List.not_mem_nil, or_false] at hw
   rcases hw with h | h | h | h | h | h
   ·exact absurd (congrArg V.str h) e1
   ·exact absurd (congrArg V.str h) e2
   ·exact .inl h
   ·exact .inr (.inl h)
   ·exact .inr (.inr (.inl h))
   ·exact .inr (.inr (.inr h))
end
end K41
namespace L2
open PySem PySem.Spec PyProof.Rows
section
variable {κ : Type} [DecidableEq κ]
def valV (kvs : List (κ × V)) (k : κ) : Option V := (kvs.find? fun kv => decide (kv.1 = k)).map (·.2)
def putK (kvs : List (κ × V)) (k : κ) (v : V) : List (κ × V) :=
 if (kvs.any fun kv => decide (kv.1 = k)) = true then kvs.map (fun kv => if kv.1 = k then (kv.1, v) else kv) else kvs ++ [(k, v)]
theorem valV_pos {p : κ × V} {r : List (κ × V)} {k : κ} (e : p.1 = k) : valV (p :: r) k = some p.2 := by simp [valV, List.find?_cons, e]
theorem valV_neg {p : κ × V} {r : List (κ × V)} {k : κ} (e : ¬ p.1 = k) : valV (p :: r) k = valV r k := by simp [valV, List.find?_cons, e]
theorem valV_any (k : κ) : ∀ kvs : List (κ × V), (kvs.any fun kv => decide (kv.1 = k)) = (valV kvs k).isSome
 | [] => rfl
 | p :: r => by
  rw [List.any_cons]
  by_cases e : p.1 = k
  ·simp only [valV_pos e, decide_eq_true e, Bool.true_or, Option.isSome_some]
  ·rw [valV_neg e, decide_eq_false e, Bool.false_or]; exact valV_any k r
theorem length_putK (kvs : List (κ × V)) (k : κ) (v : V) : (putK kvs k v).length ≤ kvs.length + 1 := by
 unfold putK
 split
 ·rw [List.length_map]; omega
 ·rw [List.length_append, List.length_cons, List.length_nil]; omega
theorem putK_new {kvs : List (κ × V)} {k : κ} (v : V) (h : valV kvs k = none) : putK kvs k v = kvs ++ [(k, v)] := by
 unfold putK
 rw [valV_any, h]
 exact if_neg (by decide)
theorem RelO.isSome_eq {o : Option V} {u : Option Value} (r : RelO o u) : o.isSome = u.isSome := by
 cases o with
 | none => cases u with
  | none => rfl
  | some _ => exact (show False from r).elim
 | some _ => cases u with
  | none => exact (show False from r).elim
  | some _ => rfl
theorem RelO.getD {o : Option V} {u : Option Value} {d : V} {d' : Value} (r : RelO o u) (rd : RelV d d') : RelV (o.getD d) (u.getD d') := by
 cases o with
 | none => cases u with
  | none => exact rd
  | some _ => exact (show False from r).elim
 | some _ => cases u with
  | none => exact (show False from r).elim
  | some _ => exact r
theorem KV.val {kvs : List (κ × V)} {vs : List (κ × Value)} (r : KV kvs vs) (k : κ) : RelO (valV kvs k) (valueAt vs k) := by
 unfold KV at r
 induction r with
 | nil => exact True.intro
 | @cons p q ps qs h t ih =>
  obtain ⟨h1, h2⟩ := h
  by_cases e : p.1 = k
  ·have e' : q.1 = k := h1.symm.trans e
   have b : valueAt (q :: qs) k = some q.2 := by simp [valueAt, List.find?_cons, e']
   rw [valV_pos e, b]; exact h2
  ·have e' : ¬ q.1 = k := fun z => e (h1.trans z)
   have b : valueAt (q :: qs) k = valueAt qs k := by simp [valueAt, List.find?_cons, e']
   rw [valV_neg e, b]; exact ih
theorem KV.any {kvs : List (κ × V)} {vs : List (κ × Value)} (r : KV kvs vs) (k : κ) : (kvs.any fun kv => decide (kv.1 = k)) = vs.any fun kv => decide (kv.1 = k) := by
 unfold KV at r
 induction r with
 | nil => rfl
 | cons h t ih => rw [List.any_cons, List.any_cons, ih, h.1]
theorem KV.repl {kvs : List (κ × V)} {vs : List (κ × Value)} (r : KV kvs vs) (k : κ) {y : V} {u : Value} (ry : RelV y u) :
  KV (kvs.map fun kv => if kv.1 = k then (kv.1, y) else kv) (vs.map fun kv => if kv.1 = k then (kv.1, u) else kv) := by
 unfold KV at r ⊢
 induction r with
 | nil => exact .nil
 | @cons p q ps qs h t ih =>
  rw [List.map_cons, List.map_cons]
  refine .cons ?_ ih
  obtain ⟨h1, h2⟩ := h
  by_cases e : p.1 = k
  ·rw [if_pos e, if_pos (h1.symm.trans e)]; exact ⟨h1, ry⟩
  ·rw [if_neg e, if_neg (fun z => e (h1.trans z))]; exact ⟨h1, h2⟩
theorem KV.put {kvs : List (κ × V)} {vs : List (κ × Value)} (r : KV kvs vs) (k : κ) {y : V} {u : Value} (ry : RelV y u) : KV (putK kvs k y) (stored vs k u) := by
 unfold putK stored
 rw [r.any k]
 by_cases e : (vs.any fun kv => decide (kv.1 = k)) = true
 ·rw [if_pos e, if_pos e]; exact r.repl k ry
 ·rw [if_neg e, if_neg e]; exact Paired.snoc r ⟨rfl, ry⟩
theorem KV.length {kvs : List (κ × V)} {vs : List (κ × Value)} (r : KV kvs vs) : kvs.length = vs.length := Paired.length r
end
theorem kV_is {P : Program} {w : World} {k : Key} {u : Value} (r : RelV (kV k) u) : (mixKind P w).is k u = true := by
 cases k with
 | inl i => obtain ⟨t, e⟩ := (show ∃ t, u = Value.int i t from r); subst e; exact mixKind_int P w i t
 | inr x => obtain ⟨t, e⟩ := (show ∃ t, u = Value.str x t from r); subst e; exact mixKind_str P w x t
theorem items_are {P : Program} {w : World} : ∀ {ks : List Key} {us : List Value}, Vals (ks.map kV) us → ItemsAre (mixKind P w) ks us
 | [], _, r => by rw [List.map_nil] at r; cases r; exact .nil
 | k :: ks, _, r => by
  rw [List.map_cons] at r
  cases r with
  | cons h t => exact .cons (kV_is h) (items_are t)
abbrev KT (H : Hp) : List (List Key × V) → List (List Key × Addr × Value) → Prop := Paired fun p q => p.1 = q.1 ∧ H q.2.1 = some (.tup (p.1.map kV)) ∧ RelV p.2 q.2.2
theorem KT.val {H : Hp} {kvs : List (List Key × V)} {xs : List (List Key × Addr × Value)} (r : KT H kvs xs) (k : List Key) : RelO (valV kvs k) ((atKey xs k).map (·.2)) := by
 induction r with
 | nil => exact True.intro
 | @cons p q ps qs h t ih =>
  obtain ⟨h1, _, h2⟩ := h
  by_cases e : p.1 = k
  ·have e' : q.1 = k := h1.symm.trans e
   have b : atKey (q :: qs) k = some q.2 := by simp [atKey, List.find?_cons, e']
   rw [valV_pos e, b]; exact h2
  ·have e' : ¬ q.1 = k := fun z => e (h1.trans z)
   have b : atKey (q :: qs) k = atKey qs k := by simp [atKey, List.find?_cons, e']
   rw [valV_neg e, b]; exact ih
theorem KT.repl {H : Hp} {kvs : List (List Key × V)} {xs : List (List Key × Addr × Value)} (r : KT H kvs xs) (k : List Key) {y : V} {u : Value} (ry : RelV y u) :
  KT H (kvs.map fun kv => if kv.1 = k then (kv.1, y) else kv) (xs.map (putAt k u)) := by
 induction r with
 | nil => exact .nil
 | @cons p q ps qs h t ih =>
  rw [List.map_cons, List.map_cons]
  refine .cons ?_ ih
  obtain ⟨h1, h2, h3⟩ := h
  unfold putAt
  by_cases e : p.1 = k
  ·rw [if_pos e, if_pos (h1.symm.trans e)]; exact ⟨h1, h2, ry⟩
  ·rw [if_neg e, if_neg (fun z => e (h1.trans z))]; exact ⟨h1, h2, h3⟩
theorem KT.put {H : Hp} {kvs : List (List Key × V)} {xs : List (List Key × Addr × Value)} (r : KT H kvs xs) (k : List Key) {b : Addr} {y : V} {u : Value} (hb : H b = some (.tup (k.map kV))) (ry : RelV y u) :
  KT H (putK kvs k y) (storedH xs k b u) := by
 have e : (kvs.any fun kv => decide (kv.1 = k)) = (atKey xs k).isSome := by
  rw [valV_any, (r.val k).isSome_eq, Option.isSome_map]
 unfold putK storedH
 rw [e]
 by_cases q : (atKey xs k).isSome = true
 ·rw [if_pos q, if_pos q]; exact r.repl k ry
 ·rw [if_neg q, if_neg q]; exact Paired.snoc r ⟨rfl, hb, ry⟩
theorem KT.keeps {H H' : Hp} {kvs : List (List Key × V)} {xs : List (List Key × Addr × Value)} (r : KT H kvs xs) (ht : ∀ b ys, H b = some (.tup ys) → H' b = some (.tup ys)) : KT H' kvs xs :=
 Paired.mapP r fun _ _ z => ⟨z.1, ht _ _ z.2.1, z.2.2⟩
section
variable {P : Program} {w : World} {H : Hp} {h : Heap} {a : Addr}
theorem rd_of {u : HO} (ok : HOk P w H h) (e : Rd H a u) : ObjOk P w H h a u := e.ok ok
theorem dk_rd {kvs : List (Key × V)} (ok : HOk P w H h) (e : Rd H a (.dK kvs)) : kvs.length ≤ sizeLine ∧ (a == sysModules) = false ∧ ∃ vs, KV kvs vs ∧ h.DictOf (mixKind P w) a vs :=
 show ObjOk P w H h a (.dK kvs) from rd_of ok e
theorem dk_of {kvs : List (Key × V)} (ok : HOk P w H h) (e : H a = some (.dK kvs)) : kvs.length ≤ sizeLine ∧ (a == sysModules) = false ∧ ∃ vs, KV kvs vs ∧ h.DictOf (mixKind P w) a vs := dk_rd ok (.inl e)
theorem key_of {ks : List Key} (ok : HOk P w H h) (e : H a = some (.tup (ks.map kV))) : (tupleKind (mixKind P w)).is h ks a := by
 obtain ⟨_, its, r, o, h1, h2, n, h3⟩ := (show ObjOk P w H h a (.tup (ks.map kV)) from ok a _ e)
 exact ⟨o, its.toArray, n, h1, h2, h3, by simpa using items_are r⟩
theorem dt_rd {kvs : List (List Key × V)} (ok : HOk P w H h) (e : Rd H a (.dT kvs)) : kvs.length ≤ sizeLine ∧ (a == sysModules) = false ∧
  ∃ xs, KT H kvs xs ∧ h.DictOfH (tupleKind (mixKind P w)) a xs := by
 obtain ⟨z, y, xs, r, o, es, ep, h1, h2, h3, h4, h5⟩ := (show ObjOk P w H h a (.dT kvs) from rd_of ok e)
 refine ⟨z, y, xs, r, o, es, ep, h1, h2, h3, h4, fun x hx => ?_, h5⟩
 have all : ∀ {l : List (List Key × V)} {m : List (List Key × Addr × Value)}, KT H l m → ∀ x ∈ m, (tupleKind (mixKind P w)).is h x.1 x.2.1 := by
  intro l m q
  induction q with
  | nil => intro x hx; exact nomatch hx
  | @cons p q ps qs hq t ih =>
   intro x hx
   rcases List.mem_cons.mp hx with e | hx
   ·subst e
    exact key_of ok (by rw [← hq.1]; exact hq.2.1)
   ·exact ih x hx
 exact all r x hx
theorem dt_of {kvs : List (List Key × V)} (ok : HOk P w H h) (e : H a = some (.dT kvs)) : kvs.length ≤ sizeLine ∧ (a == sysModules) = false ∧
  ∃ xs, KT H kvs xs ∧ h.DictOfH (tupleKind (mixKind P w)) a xs := dt_rd ok (.inl e)
end
def DGet (H : Hp) (a : Addr) (y : V) (r : Option V) : Prop :=
 (∃ kvs k, Rd H a (.dK kvs) ∧ y = kV k ∧ r = valV kvs k) ∨ ∃ kvs k b, Rd H a (.dT kvs) ∧ y = .ref b ∧ H b = some (.tup (k.map kV)) ∧ r = valV kvs k
def DPut (H : Hp) (a : Addr) (y v : V) (H' : Hp) : Prop :=
 (∃ kvs k, H a = some (.dK kvs) ∧ y = kV k ∧ kvs.length < sizeLine ∧ H' = upd H a (.dK (putK kvs k v))) ∨
 ∃ kvs k b, H a = some (.dT kvs) ∧ y = .ref b ∧ H b = some (.tup (k.map kV)) ∧ kvs.length < sizeLine ∧ H' = upd H a (.dT (putK kvs k v))
theorem DGet.t {H : Hp} {a b : Addr} {kvs : List (List Key × V)} {k : List Key} (e : H a = some (.dT kvs)) (eb : H b = some (.tup (k.map kV))) : DGet H a (.ref b) (valV kvs k) := .inr ⟨kvs, k, b, .inl e, rfl, eb, rfl⟩
theorem DPut.t {H : Hp} {a b : Addr} {kvs : List (List Key × V)} {k : List Key} {v : V} (e : H a = some (.dT kvs)) (eb : H b = some (.tup (k.map kV))) (hl : kvs.length < sizeLine) :
  DPut H a (.ref b) v (upd H a (.dT (putK kvs k v))) := .inr ⟨kvs, k, b, e, rfl, eb, hl, rfl⟩
section
variable {X : Cx} {pins : List (Addr × Obj)} {σ : St} {H : Hp} {s : Shared} {a : Addr} {y v : V} {u r : Value} {o : Option V} {A : Around} {E : Value → Shared → Prop}
theorem Inv.big (I : Inv X pins σ H s) : sysModules < s.heap.objs.size := by
 have h : mainGlobals < s.heap.objs.size := (I.mod.glob.keeps I.bk).lt
 exact Nat.lt_trans (by decide) h
theorem d_getItem {Q : Value → Shared → Prop} (hu : A.units + 1 < cLine) (I : Inv X pins σ H s) (g : DGet H a y (some v)) (ry : RelV y u) (h : ∀ w' s', Inv X pins σ H s' → RelV v w' → Q w' s') :
  wpAny (model X.prog X.w) A (getItem (.ref a) u) Q E s := by
 rcases g with ⟨kvs, k, e, ey, l⟩ | ⟨kvs, k, b, e, ey, eb, l⟩
 ·subst ey
  obtain ⟨z, hd, vs, rel, dd⟩ := dk_rd I.hok e
  obtain ⟨w', hw, rw'⟩ := RelO.some_of (v := v) (o := valueAt vs k) (by rw [l]; exact rel.val k)
  exact wpAny_getItem_of (kV_is ry) dd.mapOf hw (h w' _ (I.tok _) rw')
 ·subst ey
  cases (show u = Value.ref b from ry)
  obtain ⟨z, hd, xs, rel, dd⟩ := dt_rd I.hok e
  obtain ⟨w', hw, rw'⟩ := RelO.some_of (v := v) (o := (atKey xs k).map (·.2)) (by rw [l]; exact rel.val k)
  obtain ⟨p, hp, hp2⟩ := Option.map_eq_some_iff.mp hw
  refine wpAny_getItem_heap (tupleKind_room_in1 hu) (key_of I.hok eb) dd hp ?_
  rw [hp2]
  exact h w' _ (I.tok _) rw'
theorem d_in {Q : Value → Shared → Prop} (hu : A.units + 1 < cLine) (I : Inv X pins σ H s) (g : DGet H a y o) (ry : RelV y u) (h : ∀ s', Inv X pins σ H s' → Q (.bool o.isSome) s') :
  wpAny (model X.prog X.w) A (compareOp .In u (.ref a)) Q E s := by
 rcases g with ⟨kvs, k, e, ey, l⟩ | ⟨kvs, k, b, e, ey, eb, l⟩
 ·subst ey
  obtain ⟨z, hd, vs, rel, dd⟩ := dk_rd I.hok e
  refine wpAny_in_of (kV_is ry) hd dd.mapOf ?_
  rw [← (rel.val k).isSome_eq, ← l]
  exact h _ (I.tok _)
 ·subst ey
  cases (show u = Value.ref b from ry)
  obtain ⟨z, hd, xs, rel, dd⟩ := dt_rd I.hok e
  refine wpAny_in_heap (tupleKind_room_in1 hu) (key_of I.hok eb) hd dd ?_
  have q := (rel.val k).isSome_eq
  rw [Option.isSome_map] at q
  rw [← q, ← l]
  exact h _ (I.tok _)
theorem d_notIn {Q : Value → Shared → Prop} (hu : A.units + 1 < cLine) (I : Inv X pins σ H s) (g : DGet H a y o) (ry : RelV y u) (h : ∀ s', Inv X pins σ H s' → Q (.bool (!o.isSome)) s') :
  wpAny (model X.prog X.w) A (compareOp .NotIn u (.ref a)) Q E s := by
 rcases g with ⟨kvs, k, e, ey, l⟩ | ⟨kvs, k, b, e, ey, eb, l⟩
 ·subst ey
  obtain ⟨z, hd, vs, rel, dd⟩ := dk_rd I.hok e
  refine wpAny_notIn_of (kV_is ry) hd dd.mapOf ?_
  rw [← (rel.val k).isSome_eq, ← l]
  exact h _ (I.tok _)
 ·subst ey
  cases (show u = Value.ref b from ry)
  obtain ⟨z, hd, xs, rel, dd⟩ := dt_rd I.hok e
  refine wpAny_notIn_heap (tupleKind_room_in1 hu) (key_of I.hok eb) hd dd ?_
  have q := (rel.val k).isSome_eq
  rw [Option.isSome_map] at q
  rw [← q, ← l]
  exact h _ (I.tok _)
theorem d_write {h' : Heap} {t' : Nat} {ob : HO} (I : Inv X pins σ H s) (mu : Mut (H a)) (hs : Heap.SameBut a s.heap h') (he : ∃ q, h'.get? a = some q) (new : ObjOk X.prog X.w (upd H a ob) h' a ob) :
  Inv X pins σ (upd H a ob) { s with heap := h', toks := t' } :=
 I.write (x := a) (e := a) mu (.inl rfl) (fun b q hb z => (hs.2 b hb).trans z) he new
theorem dk_new {P : Program} {w : World} {H' : Hp} {h' : Heap} {kvs : List (Key × V)} {vs : List (Key × Value)} (z : kvs.length ≤ sizeLine) (hd : (a == sysModules) = false) (rel : KV kvs vs) (dd : h'.DictOf (mixKind P w) a vs) :
  ObjOk P w H' h' a (.dK kvs) := ⟨z, hd, vs, rel, dd⟩
theorem d_setItem {H' : Hp} {Q : Unit → Shared → Prop} (hu : A.units + 1 < cLine) (I : Inv X pins σ H s) (g : DPut H a y v H') (ry : RelV y u) (rv : RelV v r) (h : ∀ s', Inv X pins σ H' s' → Q () s') :
  wpAny (model X.prog X.w) A (setItem (.ref a) u r) Q E s := by
 rcases g with ⟨kvs, k, e, ey, l, eH⟩ | ⟨kvs, k, b, e, ey, eb, l, eH⟩
 ·subst ey eH
  obtain ⟨z, hd, vs, rel, dd⟩ := dk_of I.hok e
  have hz : vs.length ≤ sizeLine := by rw [← rel.length]; exact z
  have hl : (putK kvs k v).length ≤ sizeLine := by have := length_putK kvs k v; omega
  refine wpAny_setItem_pairs (hsz := hz) (kV_is ry) dd fun h' dd' hs => h _ ?_
  have he : ∃ q, h'.get? a = some q := let ⟨q, _, _, hq, _⟩ := dd'; ⟨q, hq⟩
  exact d_write I (by rw [e]; exact True.intro) hs he (dk_new hl hd (rel.put k rv) dd')
 ·subst ey eH
  cases (show u = Value.ref b from ry)
  obtain ⟨z, hd, xs, rel, dd⟩ := dt_of I.hok e
  have hz : xs.length ≤ sizeLine := by rw [← Paired.length rel]; exact z
  have hl : (putK kvs k v).length ≤ sizeLine := by have := length_putK kvs k v; omega
  refine wpAny_setItem_heap (hsz := hz) (tupleKind_room_in1 hu) (key_of I.hok eb) dd fun h' dd' hs => h _ ?_
  obtain ⟨q, es, ep, hq, h2, h3, h4, _, h5⟩ := dd'
  refine d_write I (by rw [e]; exact True.intro) hs ⟨q, hq⟩ ⟨hl, hd, _, (rel.put k eb rv).keeps fun c ys ec => ?_, q, es, ep, hq, h2, h3, h4, h5⟩
  rw [upd_ne (ne_of ec e (fun z => nomatch z))]
  exact ec
end
section
variable {X : Cx} {pins : List (Addr × Obj)} {σ : St} {H : Hp} {s : Shared} {a : Addr} {kvs : List (Key × V)} {k : Key} {u : Value} {A : Around} {E : Value → Shared → Prop}
end
def NoSl (i : Expr) : Prop := ∀ ov iv, subscripted i false ov iv = operate [ov, iv] (getItem ov iv)
theorem subD_of {prog : Program} {w : World} {A : Around} {E : Value → Shared → Prop} {s : Shared} {env : Env} {value slice : Expr} {pos : Pos} {T id : String} {Q : Value → Shared → Prop}
  (hl : typeLookup (.type T) "__getitem__" = pure (some (.builtin id))) (hs : NoSl slice)
  (h : wpAny (model prog w) A (eval value env) (fun o s₁ => wpAny (model prog w) A (eval slice env) (fun i s₂ => s₂.TypeIs o T ∧ wpAny (model prog w) A (getItem o i) Q E s₂) E s₁) E s) :
  wpAny (model prog w) A (eval (.Subscript value slice pos) env) Q E s := by
 refine Subscript_ (wpAny_mono h (fun o s₁ h₁ => wpAny_mono h₁ (fun i s₂ h₂ => ?_) fun _ _ x => x) fun _ _ x => x)
 obtain ⟨hT, h₂⟩ := h₂
 unfold subscriptTail
 refine wpAny_bind ?_
 rw [getitemInPython_of_ne hT.not_modules]
 refine wpAny_bind (wpAny_specialOf hT hl ?_)
 have fin : wpAny (model prog w) A (subscripted slice false o i) (fun r s₃ => wpAny (model prog w) A (letTemporaryGo value o r >>= fun _ => pure r) Q E s₃) E s₂ := by
  rw [hs o i]
  exact wpAny_operating (wpAny_mono h₂ (fun r s₃ h₃ => wpAny_bind (wpAny_letTemporaryGo (wpAny_pure h₃))) fun _ _ x => x)
 first
  | exact wpAny_pure (wpAny_bind fin)
  | exact wpAny_bind (wpAny_pure (wpAny_bind fin))
  | exact wpAny_bind fin
theorem dict_typeIs {X : Cx} {pins : List (Addr × Obj)} {σ : St} {H : Hp} {s : Shared} {a : Addr} {y : V} {o : Option V} (I : Inv X pins σ H s) (g : DGet H a y o) : s.TypeIs (.ref a) "dict" := by
 rcases g with ⟨kvs, k, e, _, _⟩ | ⟨kvs, k, b, e, _, _, _⟩
 ·obtain ⟨_, _, vs, _, dd⟩ := dk_rd I.hok e
  exact dd.typeIs
 ·obtain ⟨_, _, xs, _, dd⟩ := dt_rd I.hok e
  exact dd.typeIs
def tDGet (td ty : TE) : TE := fun σ H Q => td σ H fun x H1 => ty σ H1 fun y H2 => ∃ a v, x = .ref a ∧ DGet H2 a y (some v) ∧ Q v H2
def tDIn (ty td : TE) : TE := fun σ H Q => ty σ H fun y H1 => td σ H1 fun x H2 => ∃ a o, x = .ref a ∧ DGet H2 a y o ∧ Q (.bl o.isSome) H2
def tDNotIn (ty td : TE) : TE := fun σ H Q => ty σ H fun y H1 => td σ H1 fun x H2 => ∃ a o, x = .ref a ∧ DGet H2 a y o ∧ Q (.bl (!o.isSome)) H2
def sDPut (td ty tv : TE) : TS := fun D σ H => tv σ H fun v H1 => td σ H1 fun x H2 => ty σ H2 fun y H3 => ∃ a H4, x = .ref a ∧ DPut H3 a y v H4 ∧ D.nx σ H4
section
variable {X : Cx} {o i e value : Expr} {pos pos' tpos : Pos} {td ty tv : TE}
theorem pe_dget (hu : X.A.units + 1 < cLine) (ho : PE X o td) (hi : PE X i ty) (hs : NoSl i) : PE X (.Subscript o i pos) (tDGet td ty) := by
 intro pins s σ H Q I h
 refine subD_of PySem.F.slot_dict_getitem.lookup hs (thn (ho pins s σ H _ I h) fun u s1 ⟨x, H1, I1, rx, q1⟩ => thn (hi pins s1 σ H1 _ I1 q1) fun iv s2 ⟨y, H2, I2, ry, a, v, ex, g, q2⟩ => ?_)
 subst ex
 obtain rfl : u = Value.ref a := rx
 exact ⟨dict_typeIs I2 g, d_getItem hu I2 g ry fun w' s3 I3 rw' => ⟨v, H2, I3, rw', q2⟩⟩
theorem pc_din (hu : X.A.units + 1 < cLine) (hi : PE X i ty) (ho : PE X o td) : PC X .In i o (tDIn ty td) := by
 intro pins s σ H Q I h
 refine thn (hi pins s σ H _ I h) fun iv s1 ⟨y, H1, I1, ry, q1⟩ => thn (ho pins s1 σ H1 _ I1 q1) fun u s2 ⟨x, H2, I2, rx, a, ov, ex, g, q2⟩ => ?_
 subst ex
 obtain rfl : u = Value.ref a := rx
 exact d_in hu I2 g ry fun s3 I3 => ⟨.bl ov.isSome, H2, I3, rfl, q2⟩
theorem pc_dnotin (hu : X.A.units + 1 < cLine) (hi : PE X i ty) (ho : PE X o td) : PC X .NotIn i o (tDNotIn ty td) := by
 intro pins s σ H Q I h
 refine thn (hi pins s σ H _ I h) fun iv s1 ⟨y, H1, I1, ry, q1⟩ => thn (ho pins s1 σ H1 _ I1 q1) fun u s2 ⟨x, H2, I2, rx, a, ov, ex, g, q2⟩ => ?_
 subst ex
 obtain rfl : u = Value.ref a := rx
 exact d_notIn hu I2 g ry fun s3 I3 => ⟨.bl (!ov.isSome), H2, I3, rfl, q2⟩
theorem ps_dput (hu : X.A.units + 1 < cLine) (ho : PE X o td) (hi : PE X i ty) (hv : PE X value tv) (hs : swapsWith value (some (.Subscript o i pos')) pos.line X.env = pure false) :
  PS X (.Assign [.Subscript o i pos'] value pos) (sDPut td ty tv) := by
 intro pins s σ H D I h
 refine wpAny_Assign_Subscript (thn (hv pins s σ H _ I h) fun r s1 ⟨v, H1, I1, rv, q1⟩ => thn (ho pins s1 σ H1 _ I1 q1) fun u s2 ⟨x, H2, I2, rx, q2⟩ => thn (hi pins s2 σ H2 _ I2 q2) fun iv s3 ⟨y, H3, I3, ry, a, H4, ex, g, q3⟩ => ?_) hs
 subst ex
 obtain rfl : u = Value.ref a := rx
 exact d_setItem hu I3 g ry rv fun s4 I4 => ⟨σ, H4, I4, q3⟩
end
theorem dk_empty {P : Program} {w : World} {H : Hp} (h : Heap) (hb : sysModules < h.objs.size) : ObjOk P w H (h.push { cls := .type "dict", data := .dict #[] }) h.objs.size (.dK []) :=
 ⟨Nat.zero_le _, beq_eq_false_iff_ne.mpr (Ne.symm (Nat.ne_of_lt hb)), [], .nil, Heap.DictOf.new h⟩
theorem dt_empty {P : Program} {w : World} {H : Hp} (h : Heap) (hb : sysModules < h.objs.size) : ObjOk P w H (h.push { cls := .type "dict", data := .dict #[] }) h.objs.size (.dT []) :=
 ⟨Nat.zero_le _, beq_eq_false_iff_ne.mpr (Ne.symm (Nat.ne_of_lt hb)), [], .nil, _, #[], 0, Heap.get?_push_size _ rfl, ⟨rfl, rfl, rfl⟩, rfl, rfl, List.nodup_nil⟩
def tDNewK : TE := fun _ H Q => ∀ p, H p = none → Q (.ref p) (upd H p (.dK []))
def tDNewT : TE := fun _ H Q => ∀ p, H p = none → Q (.ref p) (upd H p (.dT []))
section
variable {X : Cx} {pos : Pos}
theorem pe_dnewK : PE X (.Dict [] [] pos) tDNewK := fun pins s σ H Q I h =>
 wpAny_Dict_empty ⟨.ref s.heap.objs.size, _, I.laid (a := s.heap.objs.size) (o := .dK []) (t' := s.toks) (fun _ _ q => Heap.get?_push_of_some _ q) (Nat.le_refl _) (dk_empty s.heap I.big), rfl, h _ (I.hok.fresh (Nat.le_refl _))⟩
theorem pe_dnewT : PE X (.Dict [] [] pos) tDNewT := fun pins s σ H Q I h =>
 wpAny_Dict_empty ⟨.ref s.heap.objs.size, _, I.laid (a := s.heap.objs.size) (o := .dT []) (t' := s.toks) (fun _ _ q => Heap.get?_push_of_some _ q) (Nat.le_refl _) (dt_empty s.heap I.big), rfl, h _ (I.hok.fresh (Nat.le_refl _))⟩
end
def tPairs : List (TE × TE) → St → Hp → (List (V × V) → Hp → Prop) → Prop
 | [], _, H, Q => Q [] H
 | (tk, tv) :: r, σ, H, Q => tk σ H fun x H1 => tv σ H1 fun y H2 => tPairs r σ H2 fun ps H3 => Q ((x, y) :: ps) H3
abbrev VV : List (V × V) → List (Value × Value) → Prop := Paired fun p q => RelV p.1 q.1 ∧ RelV p.2 q.2
def PPs (X : Cx) (pos : Pos) (keys : List (Option Expr)) (values : List Expr) (trs : List (TE × TE)) : Prop :=
 ∀ (pins : List (Addr × Obj)) (s : Shared) (σ : St) (H : Hp) (Q : List (V × V) → Hp → Prop), Inv X pins σ H s → tPairs trs σ H Q →
  wpAny (model X.prog X.w) X.A (evalPairs (pairTrees keys values X.env pos)) (fun vs s' => ∃ ps H', Inv X pins σ H' s' ∧ VV ps vs ∧ Q ps H') X.xe s
theorem pps_nil {X : Cx} {pos : Pos} : PPs X pos [] [] [] := fun pins s σ H Q I h => pairTrees_nil_walk ⟨[], H, I, .nil, h⟩
theorem pps_cons {X : Cx} {pos : Pos} {k v : Expr} {ks : List (Option Expr)} {vs : List Expr} {tk tv : TE} {trs : List (TE × TE)} (hk : PE X k tk) (hv : PE X v tv) (hr : PPs X pos ks vs trs) :
  PPs X pos (some k :: ks) (v :: vs) ((tk, tv) :: trs) := fun pins s σ H Q I h =>
 pairTrees_cons_walk (thn (hk pins s σ H _ I h) fun u s1 ⟨x, H1, I1, rx, q1⟩ => thn (hv pins s1 σ H1 _ I1 q1) fun w2 s2 ⟨y, H2, I2, ry, q2⟩ =>
  thn (hr pins s2 σ H2 _ I2 q2) fun ws s3 ⟨ps, H3, I3, rel, q3⟩ => ⟨(x, y) :: ps, H3, I3, .cons ⟨rx, ry⟩ rel, q3⟩)
def mergeK (kvs more : List (Key × V)) : List (Key × V) := more.foldl (fun acc kv => putK acc kv.1 kv.2) kvs
theorem KV.merge : ∀ {more : List (Key × V)} {rs : List (Key × Value)} {kvs : List (Key × V)} {vs : List (Key × Value)}, KV more rs → KV kvs vs → KV (mergeK kvs more) (merged vs rs) := by
 intro more rs kvs vs r
 unfold KV at r
 induction r generalizing kvs vs with
 | nil => intro q; exact q
 | @cons p q ps qs h t ih =>
  intro r0
  have e : KV (putK kvs p.1 p.2) (stored vs q.1 q.2) := by
   have := r0.put p.1 h.2
   rw [← h.1]; exact this
  exact ih e
theorem length_mergeK : ∀ (more kvs : List (Key × V)), (mergeK kvs more).length ≤ kvs.length + more.length
 | [], kvs => by show kvs.length ≤ kvs.length + 0; omega
 | p :: r, kvs => by
  have h1 := length_mergeK r (putK kvs p.1 p.2)
  have h2 := length_putK kvs p.1 p.2
  show (mergeK (putK kvs p.1 p.2) r).length ≤ _
  rw [List.length_cons]; omega
theorem carries_of {P : Program} {w : World} : ∀ {kvs : List (Key × V)} {ws : List (Value × Value)}, VV (kvs.map fun kv => (kV kv.1, kv.2)) ws → ∃ rs, Carries (mixKind P w) ws rs ∧ KV kvs rs
 | [], _, r => by rw [List.map_nil] at r; cases r; exact ⟨[], True.intro, .nil⟩
 | p :: kvs, _, r => by
  rw [List.map_cons] at r
  cases r with
  | @cons a b as bs h t =>
   obtain ⟨rs, c, q⟩ := carries_of (P := P) (w := w) t
   obtain ⟨b1, b2⟩ := b
   exact ⟨(p.1, b2) :: rs, ⟨kV_is h.1, rfl, c⟩, .cons ⟨rfl, h.2⟩ q⟩
def tDisp (trs : List (TE × TE)) : TE := fun σ H Q => ∀ p, H p = none → tPairs trs σ (upd H p (.dK [])) fun ps H2 => H2 p = some (.dK []) ∧ ∃ kvs : List (Key × V), ps = kvs.map (fun kv => (kV kv.1, kv.2)) ∧ kvs.length ≤ 15 ∧ Q (.ref p) (upd H2 p (.dK (mergeK [] kvs)))
theorem pe_disp {X : Cx} {pos : Pos} {keys : List (Option Expr)} {values : List Expr} {trs : List (TE × TE)} (h : PPs X pos keys values trs) (hall : keys.all (·.isSome) = true) (hl : keys.length = values.length) (h0 : keys ≠ [])
  (h15 : keys.length ≤ 15) : PE X (.Dict keys values pos) (tDisp trs) := by
 intro pins s σ H Q I q
 have hn := I.hok.fresh (Nat.le_refl s.heap.objs.size)
 have I1 := I.laid (a := s.heap.objs.size) (o := .dK []) (h' := s.heap.push { cls := .type "dict", data := .dict #[] }) (t' := s.toks) (fun _ _ q => Heap.get?_push_of_some _ q) (Nat.le_refl _) (dk_empty s.heap I.big)
 refine wpAny_Dict_walk (knd := mixKind X.prog X.w) hall hl h0 h15 (thn (h pins _ σ _ _ I1 (q _ hn)) fun ws s2 ⟨ps, H2, I2, rel, e, kvs, ep, lk, q2⟩ => ?_)
 subst ep
 obtain ⟨rs, c, rk⟩ := carries_of (P := X.prog) (w := X.w) rel
 obtain ⟨z, hd, vs0, r0, dd⟩ := dk_of I2.hok e
 cases r0
 refine ⟨rs, c, dd, fun h' dd' hs => ⟨.ref s.heap.objs.size, _, ?_, rfl, q2⟩⟩
 have hz : (mergeK [] kvs).length ≤ sizeLine := by
  have h1 := length_mergeK kvs []
  rw [List.length_nil] at h1
  rw [sizeLine_eq]; omega
 have he : ∃ q, h'.get? s.heap.objs.size = some q := let ⟨q, _, _, hq, _⟩ := dd'; ⟨q, hq⟩
 exact d_write I2 (by rw [e]; exact True.intro) hs he (dk_new hz hd (rk.merge .nil) dd')
structure M1 (X : Cx) (o : Expr) (m : Str) (apos : Pos) (e : Expr) (cpos : Pos) : Prop where
 base : attributeBase o m X.env (eval o X.env) = eval o X.env
 few : ((backTo cpos (starEach [e] X.env)).all (fun x => !x.1) && (backToKw cpos (keywordEach [] X.env)).all (fun x => x.1.isSome)
  && decide (([e] : List Expr).length + ([] : List Keyword).length + (if ([] : List Keyword).isEmpty then 0 else 1) < 30)) = true
 line : (apos.endLine == cpos.line) = true
 trees : backTo cpos (starEach [e] X.env) = [(false, eval e X.env)]
structure M2 (X : Cx) (o : Expr) (m : Str) (apos : Pos) (e f : Expr) (cpos : Pos) : Prop where
 base : attributeBase o m X.env (eval o X.env) = eval o X.env
 few : ((backTo cpos (starEach [e, f] X.env)).all (fun x => !x.1) && (backToKw cpos (keywordEach [] X.env)).all (fun x => x.1.isSome)
  && decide (([e, f] : List Expr).length + ([] : List Keyword).length + (if ([] : List Keyword).isEmpty then 0 else 1) < 30)) = true
 line : (apos.endLine == cpos.line) = true
 trees : backTo cpos (starEach [e, f] X.env) = [(false, eval e X.env), (false, eval f X.env)]
def IsD (H : Hp) (a : Addr) : Prop := (∃ kvs, Rd H a (.dK kvs)) ∨ ∃ kvs, Rd H a (.dT kvs)
theorem isD_at {X : Cx} {pins : List (Addr × Obj)} {σ : St} {H : Hp} {s : Shared} {a : Addr} (I : Inv X pins σ H s) (d : IsD H a) :
  s.TypeIs (.ref a) "dict" ∧ (∀ b, Value.ref a = .ref b → ∃ ob, s.heap.get? b = some ob ∧ ob.dict = none) ∧ (a == sysModules) = false := by
 rcases d with ⟨kvs, e⟩ | ⟨kvs, e⟩
 ·obtain ⟨_, hd, vs, _, dd⟩ := dk_rd I.hok e
  refine ⟨dd.typeIs, fun b q => ?_, hd⟩
  cases q
  obtain ⟨ob, _, _, h1, h2, _⟩ := dd
  exact ⟨ob, h1, h2.2.1⟩
 ·obtain ⟨_, hd, xs, _, dd⟩ := dt_rd I.hok e
  refine ⟨dd.typeIs, fun b q => ?_, hd⟩
  cases q
  obtain ⟨ob, _, _, h1, h2, _⟩ := dd
  exact ⟨ob, h1, h2.2.1⟩
section
variable {X : Cx} {pins : List (Addr × Obj)} {σ : St} {H : Hp} {s : Shared} {a : Addr} {y d : V} {u r : Value} {o : Option V} {A : Around} {E : Value → Shared → Prop}
theorem d_get2 {Q : Value → Shared → Prop} (hu : A.units + 1 < cLine) (I : Inv X pins σ H s) (g : DGet H a y o) (ry : RelV y u) (rd : RelV d r) (h : ∀ w' s', Inv X pins σ H s' → RelV (o.getD d) w' → Q w' s') :
  wpAny (model X.prog X.w) A (call (.builtin "dict.get") [.ref a, u, r]) Q E s := by
 rcases g with ⟨kvs, k, e, ey, l⟩ | ⟨kvs, k, b, e, ey, eb, l⟩
 ·subst ey
  obtain ⟨z, hd, vs, rel, dd⟩ := dk_rd I.hok e
  refine call_meetsIn PySem.F.slot_dict_get dd.typeIs PySem.F.entry_dict_get (PySem.F.args_dict_get_3 _ _ _) (meets_dict_get_default (mixKind X.prog X.w) a (kV_is ry) hd r) ⟨_, dd.mapOf, h _ _ (I.tok _) ?_⟩
  rw [l]
  exact (rel.val k).getD rd
 ·subst ey
  cases (show u = Value.ref b from ry)
  obtain ⟨z, hd, xs, rel, dd⟩ := dt_rd I.hok e
  refine call_meetsIn PySem.F.slot_dict_get dd.typeIs PySem.F.entry_dict_get (PySem.F.args_dict_get_3 _ _ _) (meetsH_dict_get_default (tupleKind (mixKind X.prog X.w)) a b hd r) ⟨tupleKind_room_in1 hu, k, xs, key_of I.hok eb, dd, h _ _ (I.tok _) ?_⟩
  rw [l]
  exact (rel.val k).getD rd
end
def tDGet2 (td ty tx : TE) : TE := fun σ H Q => td σ H fun x H1 => ∃ a, x = .ref a ∧ IsD H1 a ∧ ty σ H1 fun y H2 => tx σ H2 fun z H3 => ∃ o, DGet H3 a y o ∧ Q (o.getD z) H3
section
variable {X : Cx} {o e f : Expr} {apos cpos : Pos} {td ty tx : TE}
theorem pe_dget2 (hu : X.A.units + 1 < cLine) (ho : PE X o td) (he : PE X e ty) (hf : PE X f tx) (m : M2 X o "get" apos e f cpos) : PE X (.Call (.Attribute o "get" apos) [e, f] [] cpos) (tDGet2 td ty tx) := by
 intro pins s σ H Q I h
 refine wpAny_Call_method m.base m.few m.line PySem.F.plainAttrs_dict PySem.F.slot_dict_get PySem.F.type_dict_get (thn (ho pins s σ H _ I h) fun u s1 ⟨x, H1, I1, rx, a, ex, d, q1⟩ => ?_)
 subst ex
 obtain rfl : u = Value.ref a := rx
 obtain ⟨t1, t2, _⟩ := isD_at I1 d
 refine ⟨t1, t2, ?_⟩
 rw [m.trees]
 refine Calls.callWith_builtin rfl (Calls.evalArgs_plain (Calls.spliced_cons (thn (he pins s1 σ H1 _ I1 q1) fun iv s2 ⟨y, H2, I2, ry, q2⟩ =>
  Calls.spliced_cons (thn (hf pins s2 σ H2 _ I2 q2) fun fv s3 ⟨z, H3, I3, rz, ov, g, q3⟩ => Calls.spliced_nil ?_))))
 exact d_get2 hu I3 g ry rz fun w' s4 I4 rw' => ⟨_, H3, I4, rw', q3⟩
end
section
variable {X : Cx} {pins : List (Addr × Obj)} {σ : St} {H : Hp} {s : Shared} {a : Addr} {kvs : List (Key × V)} {A : Around} {E : Value → Shared → Prop}
theorem d_copyOf {Q : Value → Shared → Prop} (I : Inv X pins σ H s) (e : Rd H a (.dK kvs)) (h : ∀ p s', H p = none → Inv X pins σ (upd H p (.dK kvs)) s' → Q (.ref p) s') : wpAny (model X.prog X.w) A (call (.type "dict") [.ref a]) Q E s := by
 obtain ⟨z, hd, vs, rel, dd⟩ := dk_rd I.hok e
 refine kt_call_dict hd dd (by rw [← rel.length]; exact z) fun h' dd' hs => ?_
 refine h _ _ (I.hok.fresh (Nat.le_refl _)) (I.laid (a := s.heap.objs.size) (o := .dK kvs) (t' := s.toks) (fun b q hq => ?_) (Nat.le_refl _) (dk_new z (beq_eq_false_iff_ne.mpr (Ne.symm (Nat.ne_of_lt I.big))) rel dd'))
 exact (hs.2 b (Nat.ne_of_lt (Heap.lt_size hq))).trans (Heap.get?_push_of_some _ hq)
end
section
variable {X : Cx} {pins : List (Addr × Obj)} {σ : St} {H : Hp} {s : Shared} {a : Addr} {y : V} {u : Value} {A : Around} {E : Value → Shared → Prop}
end
section
variable {X : Cx} {pins : List (Addr × Obj)} {σ : St} {H : Hp} {s : Shared} {a o : Addr} {kvs more : List (Key × V)} {A : Around} {E : Value → Shared → Prop}
end
section
variable {X : Cx} {k : Nat}
def rNeE : R2 := fun x y H Q => ∃ (a z : Addr) (xs : List V), x = .ref a ∧ y = .ref z ∧ H a = some (.lst xs) ∧ H z = some (.lst []) ∧ Q (.bl (!xs.isEmpty)) H
theorem op_neE (hr : Room k X.A) : OpR X (compareOp .NotEq) rNeE := by
 intro pins s σ H x y v u Q I rx ry h
 obtain ⟨a, z, xs, rfl, rfl, ha, hz, q⟩ := h
 cases rx
 cases ry
 have hu := hr.units
 obtain ⟨its, r, pl, _⟩ := I.list (SqL.of ha)
 obtain ⟨its2, r2, pl2, _⟩ := I.list (SqL.of hz)
 have e2 : its2 = [] := r2.nil_iff.mpr rfl
 subst e2
 cases xs with
 | nil =>
  have e1 : its = [] := r.nil_iff.mpr rfl
  subst e1
  have R := SeqAt.RcNeAt.lists (A := X.A) (e := fun _ => true) pl.isList pl2.isList rfl (by omega) (fun j h1 h2 => absurd h1 (by simp))
  exact R X.prog X.w X.xe _ ⟨.bl _, H, I, rfl, q⟩
 | cons y ys =>
  have hne : its ≠ [] := fun e => by have := r.nil_iff.mp e; cases this
  have R := SeqAt.RcNeAt.lists_lengths (A := X.A) pl.isList pl2.isList (by simp [hne]) (by omega)
  exact R X.prog X.w X.xe _ ⟨.bl _, H, I, rfl, q⟩
def rDictC : List V → Hp → VK → Prop := fun xs H Q => ∃ (a : Addr) (kvs : List (Key × V)), xs = [.ref a] ∧ H a = some (.dK kvs) ∧ ∀ p, H p = none → Q (.ref p) (upd H p (.dK kvs))
theorem call_dictC : CallR X (.type "dict") rDictC := by
 intro pins s σ H xs us Q I r h
 obtain ⟨a, kvs, rfl, ha, q⟩ := h
 obtain ⟨u, rfl, ru⟩ := r.one
 cases ru
 exact d_copyOf I (.inl ha) fun p s' hp I' => ⟨.ref p, _, I', rfl, q p hp⟩
end
end L2
namespace K41
open PySem L2 G2
theorem nob {H : Hp} {a : Addr} (o : HO) (h : H a = none) : ∃ H2, upd H a o = H2 ∧ Same H H2 ∧ H2 a = some o := ⟨_, rfl, Same.new (Same.refl _) h, upd_same⟩
theorem nop {H G : Hp} {a : Addr} (o : HO) (M : Same H G) (h : H a = none) : ∃ H2, upd G a o = H2 ∧ Same H H2 ∧ H2 a = some o := ⟨_, rfl, M.put h, upd_same⟩
theorem lf2 {H H' : Hp} (k : Same H H') {a0 a1 : Addr} {o0 o1 : HO} (h0 : H a0 = some o0) (h1 : H a1 = some o1) : H' a0 = some o0 ∧ H' a1 = some o1 := ⟨k _ _ h0, k _ _ h1⟩
theorem lf3 {H H' : Hp} (k : Same H H') {a0 a1 a2 : Addr} {o0 o1 o2 : HO} (h0 : H a0 = some o0) (h1 : H a1 = some o1) (h2 : H a2 = some o2) : H' a0 = some o0 ∧ H' a1 = some o1 ∧ H' a2 = some o2 := ⟨k _ _ h0, k _ _ h1, k _ _ h2⟩
theorem lf4 {H H' : Hp} (k : Same H H') {a0 a1 a2 a3 : Addr} {o0 o1 o2 o3 : HO} (h0 : H a0 = some o0) (h1 : H a1 = some o1) (h2 : H a2 = some o2) (h3 : H a3 = some o3) : H' a0 = some o0 ∧ H' a1 = some o1 ∧ H' a2 = some o2 ∧ H' a3 = some o3 := ⟨k _ _ h0, k _ _ h1, k _ _ h2, k _ _ h3⟩
theorem lf5 {H H' : Hp} (k : Same H H') {a0 a1 a2 a3 a4 : Addr} {o0 o1 o2 o3 o4 : HO} (h0 : H a0 = some o0) (h1 : H a1 = some o1) (h2 : H a2 = some o2) (h3 : H a3 = some o3) (h4 : H a4 = some o4) : H' a0 = some o0 ∧ H' a1 = some o1 ∧ H' a2 = some o2 ∧ H' a3 = some o3 ∧ H' a4 = some o4 := ⟨k _ _ h0, k _ _ h1, k _ _ h2, k _ _ h3, k _ _ h4⟩
theorem lf6 {H H' : Hp} (k : Same H H') {a0 a1 a2 a3 a4 a5 : Addr} {o0 o1 o2 o3 o4 o5 : HO} (h0 : H a0 = some o0) (h1 : H a1 = some o1) (h2 : H a2 = some o2) (h3 : H a3 = some o3) (h4 : H a4 = some o4) (h5 : H a5 = some o5) : H' a0 = some o0 ∧ H' a1 = some o1 ∧ H' a2 = some o2 ∧ H' a3 = some o3 ∧ H' a4 = some o4 ∧ H' a5 = some o5 := ⟨k _ _ h0, k _ _ h1, k _ _ h2, k _ _ h3, k _ _ h4, k _ _ h5⟩
theorem lf7 {H H' : Hp} (k : Same H H') {a0 a1 a2 a3 a4 a5 a6 : Addr} {o0 o1 o2 o3 o4 o5 o6 : HO} (h0 : H a0 = some o0) (h1 : H a1 = some o1) (h2 : H a2 = some o2) (h3 : H a3 = some o3) (h4 : H a4 = some o4) (h5 : H a5 = some o5) (h6 : H a6 = some o6) : H' a0 = some o0 ∧ H' a1 = some o1 ∧ H' a2 = some o2 ∧ H' a3 = some o3 ∧ H' a4 = some o4 ∧ H' a5 = some o5 ∧ H' a6 = some o6 := ⟨k _ _ h0, k _ _ h1, k _ _ h2, k _ _ h3, k _ _ h4, k _ _ h5, k _ _ h6⟩
theorem lf8 {H H' : Hp} (k : Same H H') {a0 a1 a2 a3 a4 a5 a6 a7 : Addr} {o0 o1 o2 o3 o4 o5 o6 o7 : HO} (h0 : H a0 = some o0) (h1 : H a1 = some o1) (h2 : H a2 = some o2) (h3 : H a3 = some o3) (h4 : H a4 = some o4) (h5 : H a5 = some o5) (h6 : H a6 = some o6) (h7 : H a7 = some o7) : H' a0 = some o0 ∧ H' a1 = some o1 ∧ H' a2 = some o2 ∧ H' a3 = some o3 ∧ H' a4 = some o4 ∧ H' a5 = some o5 ∧ H' a6 = some o6 ∧ H' a7 = some o7 := ⟨k _ _ h0, k _ _ h1, k _ _ h2, k _ _ h3, k _ _ h4, k _ _ h5, k _ _ h6, k _ _ h7⟩
local macro_rules | `(tactic| walk_at "v") => `(tactic| repeat (with_reducible first
  | refine w_seq ?_ | refine w_asg ?_ | refine w_gname ?_ | refine w_op ?_ | refine w_var rfl ?_ | refine w_c ?_ | refine w_rI0 ?_ | refine w_ifs ?_ | refine w_ife ?_ | refine w_test ?_ | refine w_tb ?_ | refine w_bl ?_ | refine w_not ?_ | refine w_ret ?_ | refine w_retN ?_
  | refine w_nil ?_ | refine w_cons ?_ | refine w_lst ?_ | refine w_tup ?_ | refine w_cb ?_ | refine w_call ?_ | refine w_gsub ?_ | refine w_and ?_ | refine w_or ?_ | refine w_next ?_ | refine w_all ?_ | refine w_vals ?_ | refine w_compR ?_ | refine w_compT ?_ | refine w_forR ?_ | refine w_forT ?_ | refine w_forL ?_ | refine w_drop ?_ | refine w_bm ?_ | refine w_compZ ?_ | refine w_compL ?_ | refine w_chain ?_ | refine w_sl ?_ | refine w_nopart ?_ | refine w_part ?_ | refine w_unI ?_ | refine iteT ?_ | refine iteF ?_))
abbrev sShp : Stmt := top 30
abbrev nShp : List Str := ["_law_ask_here", "_law_line_here", "_law_other", "_law_rules", "_law_begin_here"]
theorem nmShp : Nm nShp (defScope sShp) := ⟨by decide +kernel, by decide +kernel⟩
theorem scShp : FnScope nShp ["_law_ask_here"] (defScope sShp) := ⟨rfl, rfl, rfl, by decide +kernel, rfl, by decide +kernel, by decide +kernel⟩
theorem iteTk {p X Y : Prop} [Decidable p] (h : p) (k : X) : if decide p = true then X else Y := iteD (fun _ => k) fun z => absurd h z
theorem iteFk {p X Y : Prop} [Decidable p] (h : ¬ p) (k : Y) : if decide p = true then X else Y := iteD (fun z => absurd z h) fun _ => k
theorem w_disp {trs : List (TE × TE)} {σ : St} {H : Hp} {Q : VK} (h : ∀ p, H p = none → tPairs trs σ (upd H p (.dK [])) fun ps H2 => H2 p = some (.dK []) ∧ ∃ kvs : List (Key × V), ps = kvs.map (fun kv => (kV kv.1, kv.2)) ∧ kvs.length ≤ 15 ∧ Q (.ref p) (upd H2 p (.dK (mergeK [] kvs)))) : tDisp trs σ H Q := h
theorem w_dnew {σ : St} {H : Hp} {Q : VK} (h : ∀ p, H p = none → Q (.ref p) (upd H p (.dK []))) : tDNewK σ H Q := h
theorem w_pairs {tk tv : TE} {r : List (TE × TE)} {σ : St} {H : Hp} {Q : List (V × V) → Hp → Prop} (h : tk σ H fun x H1 => tv σ H1 fun y H2 => tPairs r σ H2 fun ps H3 => Q ((x, y) :: ps) H3) : tPairs ((tk, tv) :: r) σ H Q := h
theorem w_pairs0 {σ : St} {H : Hp} {Q : List (V × V) → Hp → Prop} (h : Q [] H) : tPairs [] σ H Q := h
abbrev Dc := List (Int × Int)
abbrev dcK (d : Dc) : List (Key × V) := d.map fun x => ((Sum.inl x.1 : Key), V.int x.2)
def SdAt (H : Hp) (r : Addr) (s : Dc × Dc) : Prop := ∃ d1 d2 : Addr, H r = some (.tup [.ref d1, .ref d2]) ∧ H d1 = some (.dK (dcK s.1)) ∧ H d2 = some (.dK (dcK s.2))
def Sds (H : Hp) : List Addr → List (Dc × Dc) → Prop
 | [], [] => True
 | r :: rs, s :: ss => SdAt H r s ∧ Sds H rs ss
 | _, _ => False
def SdsAt (H : Hp) (l : Addr) (ss : List (Dc × Dc)) : Prop := ∃ rs : List Addr, H l = some (.lst (rs.map V.ref)) ∧ Sds H rs ss
def DcOk (d : Dc) : Prop := ∀ x ∈ d, 0 ≤ x.2 ∧ x.2 ≤ 9
structure Good (ss : List (Dc × Dc)) (bs : List Int) (ans : Int) : Prop where
 s3 : ss.length ≤ 3
 s0 : 0 < ss.length
 so : ∀ s ∈ ss, DcOk s.1 ∧ DcOk s.2
 b5 : bs.length ≤ 5
 b0 : 0 < bs.length
 bb : ∀ b ∈ bs, 0 ≤ b ∧ b ≤ 9
 a0 : 0 ≤ ans
 a1 : ans < (bs.length : Int)
theorem dc_nil : DcOk [] := fun x hx => by cases hx
theorem dc_cons {k v : Int} {d : Dc} (h : 0 ≤ v ∧ v ≤ 9) (hd : DcOk d) : DcOk ((k, v) :: d) := fun x hx => by
 rcases List.mem_cons.mp hx with rfl | hx
 ·exact h
 ·exact hd x hx
theorem so_nil : ∀ s ∈ ([] : List (Dc × Dc)), DcOk s.1 ∧ DcOk s.2 := fun s hs => by cases hs
theorem so_cons {d e : Dc} {ss : List (Dc × Dc)} (h1 : DcOk d) (h2 : DcOk e) (h : ∀ s ∈ ss, DcOk s.1 ∧ DcOk s.2) : ∀ s ∈ (d, e) :: ss, DcOk s.1 ∧ DcOk s.2 := fun s hs => by
 rcases List.mem_cons.mp hs with rfl | hs
 ·exact ⟨h1, h2⟩
 ·exact h s hs
def spShp : Sp := fun vs H Q _ => ∃ (q : Addr) (A : Ak), vs = [.ref q] ∧ AkAt H q A ∧ A.ok 1 ∧ akSm A ∧ ∀ (r rl bl : Addr) (ss : List (Dc × Dc)) (bs : List Int) (ans : Int) (H' : Hp), Same H H' → H' r = some (.tup [.ref rl, .ref bl, .int ans]) → SdsAt H' rl ss → H' bl = some (.lst (bs.map V.int)) → Good ss bs ans → H rl = none → H bl = none → rl ≠ bl → Q (.ref r) H'
theorem one_by {a : Ln} (h : a.ok 1) (s : Ln.sm a) : ∃ x0, a.bys = [x0] ∧ 0 ≤ x0 ∧ x0 ≤ 4 := by
 obtain ⟨x0, hx⟩ := List.length_eq_one_iff.mp h.1
 have := s.1 x0 (by rw [hx]; exact List.mem_singleton.mpr rfl)
 exact ⟨x0, hx, this.1, this.2⟩
section
variable {P : Program} {w : World} {K : PySem.W.Frag} {mg : Str → Option Value} {base : Heap}
set_option maxHeartbeats 4000000 in
theorem ok_Shp {f : Addr} {fd : FuncData} (F : Fun K "_law_shaped" "_law_shaped" sShp f fd) : FnOk P w K mg base CX0 1 f fd ["_law_ask_here"] spShp := by
 refine F.ok scShp (fun vs H Q E h => ?_) (fun cdv A outer s H vs Q E hr h => ?_)
 ·obtain ⟨q, A, rfl, _⟩ := h
  rfl
 ·obtain ⟨q, A, rfl, hq, hok, hsm, k⟩ := h
  refine' ⟨_, ?hb, ?rd⟩
  case hb =>
   refine' pss_cons ?s1 ?r1
   case' r1 => refine' pss_cons ?s2 ?r2
   case' r2 => refine' pss_cons ?s3 ?r3
   case' r3 => refine' pss_cons ?s4 ?r4
   case' r4 => refine' pss_cons ?s5 ?r5
   case' r5 => refine' pss_cons ?s6 ?r6
   case' r6 => refine' pss_cons ?s7 ?r7
   case' r7 => refine' pss_cons ?s8 ?r8
   case' r8 => refine' pss_cons ?s9 ?r9
   case' r9 => refine' pss_cons ?s10 ?r10
   case' r10 => refine' pss_one ?s11
   case s1 =>
    refine' ps_setD nmShp 1 ?q1
    case q1 => exact pe_ix ix_d (pvd nmShp 0) pe_int (fun _ _ => rfl)
   case s2 =>
    refine' ps_if (pt_cmpR op_eq (pe_ix ix_d (pvd nmShp 0) pe_int (fun _ _ => rfl)) pe_str (nomark _)) ?a1 pss_nil
    case' a1 => refine' pss_one ?a2
    case' a2 => refine' ps_ret ?a3
    case' a3 => refine' pe_tup ?n1
    case' n1 => refine' pa_c ?n2 ?n3
    case' n2 => refine' pe_lst ?n4
    case' n4 => refine' pa_1 ?n5
    case' n5 => refine' pe_tup ?n6
    case' n6 => refine' pa_2 ?n7 ?n8
    case' n7 => refine' pe_disp ?n9 rfl rfl (by simp) (by decide)
    case n9 => exact pps_cons pe_int pe_int pps_nil
    case' n8 => refine' pe_disp ?n10 rfl rfl (by simp) (by decide)
    case' n10 => refine' pps_cons pe_int ?n11 pps_nil
    case' n11 => refine' pe_ix ix_d ?n12 pe_int (fun _ _ => rfl)
    case n12 => exact pe_ix ix_d (pvd nmShp 1) pe_int (fun _ _ => rfl)
    case' n3 => refine' pa_2 ?n13 pe_int
    case' n13 => refine' pe_lst ?n14
    case' n14 => refine' pa_2 pe_int ?n15
    case n15 => exact pe_ix ix_d (pvd nmShp 1) pe_int (fun _ _ => rfl)
   case s3 =>
    refine' ps_if (pt_cmpR op_eq (pe_ix ix_d (pvd nmShp 0) pe_int (fun _ _ => rfl)) pe_str (nomark _)) ?b1 pss_nil
    case' b1 => refine' pss_one ?b2
    case' b2 => refine' ps_ret ?b3
    case' b3 => refine' pe_tup ?n16
    case' n16 => refine' pa_c ?n17 ?n18
    case' n17 => refine' pe_lst ?n19
    case' n19 => refine' pa_2 ?n20 ?n21
    case' n20 => refine' pe_tup ?n22
    case' n22 => refine' pa_2 ?n23 ?n24
    case' n23 => refine' pe_disp ?n25 rfl rfl (by simp) (by decide)
    case n25 => exact pps_cons pe_int pe_int pps_nil
    case' n24 => refine' pe_disp ?n26 rfl rfl (by simp) (by decide)
    case' n26 => refine' pps_cons pe_int ?n27 pps_nil
    case' n27 => refine' pe_ix ix_d ?n28 pe_int (fun _ _ => rfl)
    case n28 => exact pe_ix ix_d (pvd nmShp 1) pe_int (fun _ _ => rfl)
    case' n21 => refine' pe_tup ?n29
    case' n29 => refine' pa_2 ?n30 ?n31
    case' n30 => refine' pe_disp ?n32 rfl rfl (by simp) (by decide)
    case' n32 => refine' pps_cons pe_int ?n33 pps_nil
    case n33 => exact pe_ix ix_d (pvd nmShp 0) pe_int (fun _ _ => rfl)
    case' n31 => refine' pe_disp ?n34 rfl rfl (by simp) (by decide)
    case n34 => exact pps_cons pe_int pe_int pps_nil
    case' n18 => refine' pa_2 ?n35 pe_int
    case' n35 => refine' pe_lst ?n36
    case' n36 => refine' pa_c pe_int ?n37
    case' n37 => refine' pa_2 ?n38 pe_int
    case n38 => exact pe_ix ix_d (pvd nmShp 1) pe_int (fun _ _ => rfl)
   case s4 =>
    refine' ps_setD nmShp 2 ?q4
    case q4 => exact pe_ix ix_d (pvd nmShp 0) pe_int (fun _ _ => rfl)
   case s5 =>
    refine' ps_setD nmShp 3 ?q5
    case' q5 => refine' pe_lst ?n39
    case' n39 => refine' pa_1 ?n40
    case' n40 => refine' pe_tup ?n41
    case' n41 => refine' pa_2 ?n42 ?n43
    case' n42 => refine' pe_disp ?n44 rfl rfl (by simp) (by decide)
    case n44 => exact pps_cons pe_int pe_int pps_nil
    case' n43 => refine' pe_disp ?n45 rfl rfl (by simp) (by decide)
    case' n45 => refine' pps_cons pe_int ?n46 ?n47
    case' n46 => refine' pe_ix ix_d ?n48 pe_int (fun _ _ => rfl)
    case n48 => exact pe_ix ix_d (pvd nmShp 1) pe_int (fun _ _ => rfl)
    case' n47 => refine' pps_cons pe_int ?n49 pps_nil
    case' n49 => refine' pe_ix ix_d ?n50 pe_int (fun _ _ => rfl)
    case n50 => exact pe_ix ix_d (pvd nmShp 2) pe_int (fun _ _ => rfl)
   case s6 =>
    refine' ps_setD nmShp 4 ?q6
    case' q6 => refine' pe_lst ?n51
    case' n51 => refine' pa_c pe_int ?n52
    case' n52 => refine' pa_2 ?n53 ?n54
    case n53 => exact pe_ix ix_d (pvd nmShp 1) pe_int (fun _ _ => rfl)
    case n54 => exact pe_ix ix_d (pvd nmShp 2) pe_int (fun _ _ => rfl)
   case s7 =>
    refine' ps_if (pt_cmpR op_eq (pe_ix ix_d (pvd nmShp 0) pe_int (fun _ _ => rfl)) pe_str (nomark _)) ?c1 pss_nil
    case' c1 => refine' pss_one ?c2
    case' c2 => refine' ps_ret ?c3
    case' c3 => refine' pe_tup ?n55
    case' n55 => refine' pa_c ?n56 ?n57
    case' n56 => refine' pe_op op_cat (pvd nmShp 3) ?n58
    case' n58 => refine' pe_lst ?n59
    case' n59 => refine' pa_1 ?n60
    case' n60 => refine' pe_tup ?n61
    case' n61 => refine' pa_2 ?n62 ?n63
    case' n62 => refine' pe_disp ?n64 rfl rfl (by simp) (by decide)
    case' n64 => refine' pps_cons pe_int pe_int ?n65
    case n65 => exact pps_cons pe_int pe_int pps_nil
    case' n63 => refine' pe_disp ?n66 rfl rfl (by simp) (by decide)
    case n66 => exact pps_cons pe_int pe_int pps_nil
    case' n57 => refine' pa_2 ?n67 pe_int
    case' n67 => refine' pe_op op_cat (pvd nmShp 4) ?n68
    case' n68 => refine' pe_lst ?n69
    case n69 => exact pa_1 pe_int
   case s8 =>
    refine' ps_if (pt_cmpR op_eq (pe_ix ix_d (pvd nmShp 0) pe_int (fun _ _ => rfl)) pe_str (nomark _)) ?d1 pss_nil
    case' d1 => refine' pss_cons ?d2 ?d3
    case' d2 => refine' ps_setD nmShp 3 ?q2
    case' q2 => refine' pe_lst ?n70
    case' n70 => refine' pa_1 ?n71
    case' n71 => refine' pe_tup ?n72
    case' n72 => refine' pa_2 ?n73 ?n74
    case' n73 => refine' pe_disp ?n75 rfl rfl (by simp) (by decide)
    case n75 => exact pps_cons pe_int pe_int pps_nil
    case' n74 => refine' pe_disp ?n76 rfl rfl (by simp) (by decide)
    case' n76 => refine' pps_cons pe_int ?n77 ?n78
    case' n77 => refine' pe_ix ix_d ?n79 pe_int (fun _ _ => rfl)
    case n79 => exact pe_ix ix_d (pvd nmShp 1) pe_int (fun _ _ => rfl)
    case' n78 => refine' pps_cons pe_int ?n80 ?n81
    case' n80 => refine' pe_ix ix_d ?n82 pe_int (fun _ _ => rfl)
    case n82 => exact pe_ix ix_d (pvd nmShp 2) pe_int (fun _ _ => rfl)
    case' n81 => refine' pps_cons pe_int ?n83 pps_nil
    case' n83 => refine' pe_op op_add ?n84 ?n85
    case' n84 => refine' pe_ix ix_d ?n86 pe_int (fun _ _ => rfl)
    case n86 => exact pe_ix ix_d (pvd nmShp 1) pe_int (fun _ _ => rfl)
    case' n85 => refine' pe_ix ix_d ?n87 pe_int (fun _ _ => rfl)
    case n87 => exact pe_ix ix_d (pvd nmShp 2) pe_int (fun _ _ => rfl)
    case' d3 => refine' pss_cons ?d4 ?d5
    case' d4 => refine' ps_setD nmShp 3 ?q3
    case' q3 => refine' pe_op op_cat (pvd nmShp 3) ?n88
    case' n88 => refine' pe_lst ?n89
    case' n89 => refine' pa_2 ?n90 ?n91
    case' n90 => refine' pe_tup ?n92
    case' n92 => refine' pa_2 ?n93 ?n94
    case' n93 => refine' pe_disp ?n95 rfl rfl (by simp) (by decide)
    case' n95 => refine' pps_cons pe_int pe_int ?n96
    case n96 => exact pps_cons pe_int pe_int pps_nil
    case' n94 => refine' pe_disp ?n97 rfl rfl (by simp) (by decide)
    case n97 => exact pps_cons pe_int pe_int pps_nil
    case' n91 => refine' pe_tup ?n98
    case' n98 => refine' pa_2 ?n99 pe_dnewK
    case' n99 => refine' pe_disp ?n100 rfl rfl (by simp) (by decide)
    case' n100 => refine' pps_cons pe_int pe_int ?n101
    case n101 => exact pps_cons pe_int pe_int pps_nil
    case' d5 => refine' pss_one ?d6
    case' d6 => refine' ps_ret ?q7
    case' q7 => refine' pe_tup ?n102
    case' n102 => refine' pa_c (pvd nmShp 3) ?n103
    case' n103 => refine' pa_2 ?n104 pe_int
    case' n104 => refine' pe_op op_cat (pvd nmShp 4) ?n105
    case' n105 => refine' pe_lst ?n106
    case' n106 => refine' pa_2 ?n107 pe_int
    case' n107 => refine' pe_op op_add ?n108 ?n109
    case n108 => exact pe_ix ix_d (pvd nmShp 1) pe_int (fun _ _ => rfl)
    case n109 => exact pe_ix ix_d (pvd nmShp 2) pe_int (fun _ _ => rfl)
   case s9 =>
    refine' ps_if (pt_cmpR op_eq (pe_ix ix_d (pvd nmShp 0) pe_int (fun _ _ => rfl)) pe_str (nomark _)) ?e1 pss_nil
    case' e1 => refine' pss_one ?e2
    case' e2 => refine' ps_ret ?e3
    case' e3 => refine' pe_tup ?n110
    case' n110 => refine' pa_c ?n111 ?n112
    case' n111 => refine' pe_op op_cat (pvd nmShp 3) ?n113
    case' n113 => refine' pe_lst ?n114
    case' n114 => refine' pa_2 ?n115 ?n116
    case' n115 => refine' pe_tup ?n117
    case' n117 => refine' pa_2 ?n118 ?n119
    case' n118 => refine' pe_disp ?n120 rfl rfl (by simp) (by decide)
    case' n120 => refine' pps_cons pe_int pe_int ?n121
    case n121 => exact pps_cons pe_int pe_int pps_nil
    case' n119 => refine' pe_disp ?n122 rfl rfl (by simp) (by decide)
    case n122 => exact pps_cons pe_int pe_int pps_nil
    case' n116 => refine' pe_tup ?n123
    case' n123 => refine' pa_2 ?n124 ?n125
    case' n124 => refine' pe_disp ?n126 rfl rfl (by simp) (by decide)
    case' n126 => refine' pps_cons pe_int pe_int ?n127
    case n127 => exact pps_cons pe_int pe_int pps_nil
    case' n125 => refine' pe_disp ?n128 rfl rfl (by simp) (by decide)
    case n128 => exact pps_cons pe_int pe_int pps_nil
    case' n112 => refine' pa_2 ?n129 pe_int
    case' n129 => refine' pe_op op_cat (pvd nmShp 4) ?n130
    case' n130 => refine' pe_lst ?n131
    case n131 => exact pa_2 pe_int pe_int
   case s10 =>
    refine' ps_setD nmShp 3 ?q10
    case' q10 => refine' pe_lst ?n132
    case' n132 => refine' pa_2 ?n133 ?n134
    case' n133 => refine' pe_tup ?n135
    case' n135 => refine' pa_2 ?n136 ?n137
    case' n136 => refine' pe_disp ?n138 rfl rfl (by simp) (by decide)
    case n138 => exact pps_cons pe_int pe_int pps_nil
    case' n137 => refine' pe_disp ?n139 rfl rfl (by simp) (by decide)
    case' n139 => refine' pps_cons pe_int ?n140 pps_nil
    case' n140 => refine' pe_ix ix_d ?n141 pe_int (fun _ _ => rfl)
    case n141 => exact pe_ix ix_d (pvd nmShp 1) pe_int (fun _ _ => rfl)
    case' n134 => refine' pe_tup ?n142
    case' n142 => refine' pa_2 ?n143 ?n144
    case' n143 => refine' pe_disp ?n145 rfl rfl (by simp) (by decide)
    case n145 => exact pps_cons pe_int pe_int pps_nil
    case' n144 => refine' pe_disp ?n146 rfl rfl (by simp) (by decide)
    case n146 => exact pps_cons pe_int pe_int pps_nil
   case s11 =>
    refine' ps_ret ?q11
    case' q11 => refine' pe_tup ?n147
    case' n147 => refine' pa_c (pvd nmShp 3) ?n148
    case' n148 => refine' pa_2 ?n149 pe_int
    case' n149 => refine' pe_lst ?n150
    case' n150 => refine' pa_2 pe_int ?n151
    case n151 => exact pe_ix ix_d (pvd nmShp 1) pe_int (fun _ _ => rfl)
  case rd =>
   cases A with
   | sum a =>
    obtain ⟨l, h1, b, g1, g2⟩ := hq
    obtain ⟨x0, hx, x1, x2⟩ := one_by hok hsm
    obtain ⟨p1, p2⟩ := hsm.2
    rw [hx] at g2
    walk_at "v"
    refine w_ixT h1 rfl ?_
    walk_at "v"
    refine w_ixT h1 rfl ?_
    refine ⟨rfl, ?_⟩
    walk_at "v"
    refine iteTk rfl ?_
    walk_at "v"
    refine w_disp fun d1 hd1 => ?_
    obtain ⟨G1, q, M1, m1⟩ := nob (.dK []) hd1; rw [q]; clear q
    refine w_pairs ?_
    walk_at "v"
    refine w_pairs0 ?_
    refine ⟨m1, dcK [(0, 1)], rfl, by show 1 ≤ 15; decide, ?_⟩
    rw [show mergeK [] (dcK [(0, 1)]) = dcK [(0, 1)] from rfl]
    obtain ⟨H1, q, K1, ed1⟩ := nop (.dK (dcK [(0, 1)])) M1 hd1; rw [q]; clear q
    clear M1 m1
    obtain ⟨h1, g1, g2⟩ := lf3 K1 h1 g1 g2
    have KT := K1
    walk_at "v"
    refine w_disp fun d2 hd2 => ?_
    obtain ⟨G2, q, M2, m2⟩ := nob (.dK []) hd2; rw [q]; clear q
    refine w_pairs ?_
    walk_at "v"
    refine w_ixT (M2 _ _ g1) rfl ?_
    walk_at "v"
    refine w_ixT (M2 _ _ g2) rfl ?_
    walk_at "v"
    refine w_pairs0 ?_
    refine ⟨m2, dcK [(1, x0)], rfl, by show 1 ≤ 15; decide, ?_⟩
    rw [show mergeK [] (dcK [(1, x0)]) = dcK [(1, x0)] from rfl]
    obtain ⟨H2, q, K2, ed2⟩ := nop (.dK (dcK [(1, x0)])) M2 hd2; rw [q]; clear q
    clear M2 m2
    obtain ⟨h1, g1, g2, ed1⟩ := lf4 K2 h1 g1 g2 ed1
    replace KT := KT.trans K2
    walk_at "v"
    refine ⟨by show 2 ≤ sizeLine; decide, fun t1 ht1 => ?_⟩
    obtain ⟨H3, q, K3, et1⟩ := nob (.tup [.ref d1, .ref d2]) ht1; rw [q]; clear q
    obtain ⟨h1, g1, g2, ed1, ed2⟩ := lf5 K3 h1 g1 g2 ed1 ed2
    replace KT := KT.trans K3
    walk_at "v"
    refine ⟨by show 1 ≤ sizeLine; decide, fun rl hrl => ?_⟩
    have zrl : H rl = none := Same.none KT hrl
    obtain ⟨H4, q, K4, erl⟩ := nob (.lst [.ref t1]) hrl; rw [q]; clear q
    obtain ⟨h1, g1, g2, ed1, ed2, et1⟩ := lf6 K4 h1 g1 g2 ed1 ed2 et1
    replace KT := KT.trans K4
    walk_at "v"
    refine w_ixT g1 rfl ?_
    walk_at "v"
    refine ⟨by show 2 ≤ sizeLine; decide, fun bl hbl => ?_⟩
    have zbl : H bl = none := Same.none KT hbl
    obtain ⟨H5, q, K5, ebl⟩ := nob (.lst [.int 0, .int a.plus]) hbl; rw [q]; clear q
    obtain ⟨h1, g1, g2, ed1, ed2, et1, erl⟩ := lf7 K5 h1 g1 g2 ed1 ed2 et1 erl
    replace KT := KT.trans K5
    walk_at "v"
    have nrb : rl ≠ bl := fun z => by subst z; rw [ebl] at erl; cases erl
    refine ⟨by show 3 ≤ sizeLine; decide, fun rr hrr => ?_⟩
    obtain ⟨H6, q, K6, err⟩ := nob (.tup [.ref rl, .ref bl, .int 1]) hrr; rw [q]; clear q
    obtain ⟨h1, g1, g2, ed1, ed2, et1, erl, ebl⟩ := lf8 K6 h1 g1 g2 ed1 ed2 et1 erl ebl
    replace KT := KT.trans K6
    exact k rr rl bl [([(0, 1)], [(1, x0)])] [0, a.plus] 1 _ KT err ⟨[t1], erl, ⟨⟨d1, d2, et1, ed1, ed2⟩, trivial⟩⟩ ebl (by refine ⟨by simp, by simp, by (repeat (first | exact so_nil | exact dc_nil | refine so_cons ?_ ?_ ?_ | refine dc_cons ⟨by omega, by omega⟩ ?_)), by simp, by simp, fun x hx => by simp only [List.mem_cons, List.not_mem_nil, or_false] at hx; omega, by decide, by simp⟩) zrl zbl nrb
   | part a c =>
    obtain ⟨l, h1, b, g1, g2⟩ := hq
    obtain ⟨hok, c2, c9⟩ := hok
    obtain ⟨x0, hx, x1, x2⟩ := one_by hok hsm
    obtain ⟨p1, p2⟩ := hsm.2
    rw [hx] at g2
    walk_at "v"
    refine w_ixT h1 rfl ?_
    walk_at "v"
    refine w_ixT h1 rfl ?_
    refine ⟨rfl, ?_⟩
    walk_at "v"
    refine iteFk (by decide) ?_
    walk_at "v"
    refine w_ixT h1 rfl ?_
    refine ⟨rfl, ?_⟩
    walk_at "v"
    refine iteTk rfl ?_
    walk_at "v"
    refine w_disp fun d1 hd1 => ?_
    obtain ⟨G1, q, M1, m1⟩ := nob (.dK []) hd1; rw [q]; clear q
    refine w_pairs ?_
    walk_at "v"
    refine w_pairs0 ?_
    refine ⟨m1, dcK [(0, 1)], rfl, by show 1 ≤ 15; decide, ?_⟩
    rw [show mergeK [] (dcK [(0, 1)]) = dcK [(0, 1)] from rfl]
    obtain ⟨H1, q, K1, ed1⟩ := nop (.dK (dcK [(0, 1)])) M1 hd1; rw [q]; clear q
    clear M1 m1
    obtain ⟨h1, g1, g2⟩ := lf3 K1 h1 g1 g2
    have KT := K1
    walk_at "v"
    refine w_disp fun d2 hd2 => ?_
    obtain ⟨G2, q, M2, m2⟩ := nob (.dK []) hd2; rw [q]; clear q
    refine w_pairs ?_
    walk_at "v"
    refine w_ixT (M2 _ _ g1) rfl ?_
    walk_at "v"
    refine w_ixT (M2 _ _ g2) rfl ?_
    walk_at "v"
    refine w_pairs0 ?_
    refine ⟨m2, dcK [(1, x0)], rfl, by show 1 ≤ 15; decide, ?_⟩
    rw [show mergeK [] (dcK [(1, x0)]) = dcK [(1, x0)] from rfl]
    obtain ⟨H2, q, K2, ed2⟩ := nop (.dK (dcK [(1, x0)])) M2 hd2; rw [q]; clear q
    clear M2 m2
    obtain ⟨h1, g1, g2, ed1⟩ := lf4 K2 h1 g1 g2 ed1
    replace KT := KT.trans K2
    walk_at "v"
    refine ⟨by show 2 ≤ sizeLine; decide, fun t1 ht1 => ?_⟩
    obtain ⟨H3, q, K3, et1⟩ := nob (.tup [.ref d1, .ref d2]) ht1; rw [q]; clear q
    obtain ⟨h1, g1, g2, ed1, ed2⟩ := lf5 K3 h1 g1 g2 ed1 ed2
    replace KT := KT.trans K3
    walk_at "v"
    refine w_disp fun d3 hd3 => ?_
    obtain ⟨G4, q, M4, m4⟩ := nob (.dK []) hd3; rw [q]; clear q
    refine w_pairs ?_
    walk_at "v"
    refine w_ixT (M4 _ _ h1) rfl ?_
    walk_at "v"
    refine w_pairs0 ?_
    refine ⟨m4, dcK [(1, c)], rfl, by show 1 ≤ 15; decide, ?_⟩
    rw [show mergeK [] (dcK [(1, c)]) = dcK [(1, c)] from rfl]
    obtain ⟨H4, q, K4, ed3⟩ := nop (.dK (dcK [(1, c)])) M4 hd3; rw [q]; clear q
    clear M4 m4
    obtain ⟨h1, g1, g2, ed1, ed2, et1⟩ := lf6 K4 h1 g1 g2 ed1 ed2 et1
    replace KT := KT.trans K4
    walk_at "v"
    refine w_disp fun d4 hd4 => ?_
    obtain ⟨G5, q, M5, m5⟩ := nob (.dK []) hd4; rw [q]; clear q
    refine w_pairs ?_
    walk_at "v"
    refine w_pairs0 ?_
    refine ⟨m5, dcK [(2, 1)], rfl, by show 1 ≤ 15; decide, ?_⟩
    rw [show mergeK [] (dcK [(2, 1)]) = dcK [(2, 1)] from rfl]
    obtain ⟨H5, q, K5, ed4⟩ := nop (.dK (dcK [(2, 1)])) M5 hd4; rw [q]; clear q
    clear M5 m5
    obtain ⟨h1, g1, g2, ed1, ed2, et1, ed3⟩ := lf7 K5 h1 g1 g2 ed1 ed2 et1 ed3
    replace KT := KT.trans K5
    walk_at "v"
    refine ⟨by show 2 ≤ sizeLine; decide, fun t2 ht2 => ?_⟩
    obtain ⟨H6, q, K6, et2⟩ := nob (.tup [.ref d3, .ref d4]) ht2; rw [q]; clear q
    obtain ⟨h1, g1, g2, ed1, ed2, et1, ed3, ed4⟩ := lf8 K6 h1 g1 g2 ed1 ed2 et1 ed3 ed4
    replace KT := KT.trans K6
    walk_at "v"
    refine ⟨by show 2 ≤ sizeLine; decide, fun rl hrl => ?_⟩
    have zrl : H rl = none := Same.none KT hrl
    obtain ⟨H7, q, K7, erl⟩ := nob (.lst [.ref t1, .ref t2]) hrl; rw [q]; clear q
    obtain ⟨h1, g1, g2, ed1, ed2, et1, ed3⟩ := lf7 K7 h1 g1 g2 ed1 ed2 et1 ed3
    obtain ⟨ed4, et2⟩ := lf2 K7 ed4 et2
    replace KT := KT.trans K7
    walk_at "v"
    refine w_ixT g1 rfl ?_
    walk_at "v"
    refine ⟨by show 3 ≤ sizeLine; decide, fun bl hbl => ?_⟩
    have zbl : H bl = none := Same.none KT hbl
    obtain ⟨H8, q, K8, ebl⟩ := nob (.lst [.int 0, .int a.plus, .int 0]) hbl; rw [q]; clear q
    obtain ⟨h1, g1, g2, ed1, ed2, et1, ed3, ed4⟩ := lf8 K8 h1 g1 g2 ed1 ed2 et1 ed3 ed4
    obtain ⟨et2, erl⟩ := lf2 K8 et2 erl
    replace KT := KT.trans K8
    walk_at "v"
    have nrb : rl ≠ bl := fun z => by subst z; rw [ebl] at erl; cases erl
    refine ⟨by show 3 ≤ sizeLine; decide, fun rr hrr => ?_⟩
    obtain ⟨H9, q, K9, err⟩ := nob (.tup [.ref rl, .ref bl, .int 2]) hrr; rw [q]; clear q
    obtain ⟨h1, g1, g2, ed1, ed2, et1, ed3, ed4⟩ := lf8 K9 h1 g1 g2 ed1 ed2 et1 ed3 ed4
    obtain ⟨et2, erl, ebl⟩ := lf3 K9 et2 erl ebl
    replace KT := KT.trans K9
    exact k rr rl bl [([(0, 1)], [(1, x0)]), ([(1, c)], [(2, 1)])] [0, a.plus, 0] 2 _ KT err ⟨[t1, t2], erl, ⟨⟨d1, d2, et1, ed1, ed2⟩, ⟨⟨d3, d4, et2, ed3, ed4⟩, trivial⟩⟩⟩ ebl (by refine ⟨by simp, by simp, by (repeat (first | exact so_nil | exact dc_nil | refine so_cons ?_ ?_ ?_ | refine dc_cons ⟨by omega, by omega⟩ ?_)), by simp, by simp, fun x hx => by simp only [List.mem_cons, List.not_mem_nil, or_false] at hx; omega, by decide, by simp⟩) zrl zbl nrb
   | two w2 a b =>
    obtain ⟨l, lr, h1, ⟨ba, g1, g2⟩, bb, f1, f2⟩ := hq
    obtain ⟨h4, hoka, hokb⟩ := hok
    obtain ⟨x0, hx, x1, x2⟩ := one_by hoka hsm.1
    obtain ⟨y0, hy, y1, y2⟩ := one_by hokb hsm.2
    obtain ⟨p1, p2⟩ := hsm.1.2
    obtain ⟨q1, q2⟩ := hsm.2.2
    rw [hx] at g2
    rw [hy] at f2
    rcases h4 with h | h | h | h <;> subst h
    ·walk_at "v"
     refine w_ixT h1 rfl ?_
     walk_at "v"
     refine w_ixT h1 rfl ?_
     refine ⟨rfl, ?_⟩
     walk_at "v"
     refine iteFk (by decide) ?_
     walk_at "v"
     refine w_ixT h1 rfl ?_
     refine ⟨rfl, ?_⟩
     walk_at "v"
     refine iteFk (by decide) ?_
     walk_at "v"
     refine w_ixT h1 rfl ?_
     walk_at "v"
     refine w_disp fun d1 hd1 => ?_
     obtain ⟨G1, q, M1, m1⟩ := nob (.dK []) hd1; rw [q]; clear q
     refine w_pairs ?_
     walk_at "v"
     refine w_pairs0 ?_
     refine ⟨m1, dcK [(0, 1)], rfl, by show 1 ≤ 15; decide, ?_⟩
     rw [show mergeK [] (dcK [(0, 1)]) = dcK [(0, 1)] from rfl]
     obtain ⟨H1, q, K1, ed1⟩ := nop (.dK (dcK [(0, 1)])) M1 hd1; rw [q]; clear q
     clear M1 m1
     obtain ⟨h1, g1, g2, f1, f2⟩ := lf5 K1 h1 g1 g2 f1 f2
     have KT := K1
     walk_at "v"
     refine w_disp fun d2 hd2 => ?_
     obtain ⟨G2, q, M2, m2⟩ := nob (.dK []) hd2; rw [q]; clear q
     refine w_pairs ?_
     walk_at "v"
     refine w_ixT (M2 _ _ g1) rfl ?_
     walk_at "v"
     refine w_ixT (M2 _ _ g2) rfl ?_
     walk_at "v"
     refine w_pairs ?_
     walk_at "v"
     refine w_ixT (M2 _ _ f1) rfl ?_
     walk_at "v"
     refine w_ixT (M2 _ _ f2) rfl ?_
     walk_at "v"
     refine w_pairs0 ?_
     refine ⟨m2, dcK [(1, x0), (2, y0)], rfl, by show 2 ≤ 15; decide, ?_⟩
     rw [show mergeK [] (dcK [(1, x0), (2, y0)]) = dcK [(1, x0), (2, y0)] from rfl]
     obtain ⟨H2, q, K2, ed2⟩ := nop (.dK (dcK [(1, x0), (2, y0)])) M2 hd2; rw [q]; clear q
     clear M2 m2
     obtain ⟨h1, g1, g2, f1, f2, ed1⟩ := lf6 K2 h1 g1 g2 f1 f2 ed1
     replace KT := KT.trans K2
     walk_at "v"
     refine ⟨by show 2 ≤ sizeLine; decide, fun t1 ht1 => ?_⟩
     obtain ⟨H3, q, K3, et1⟩ := nob (.tup [.ref d1, .ref d2]) ht1; rw [q]; clear q
     obtain ⟨h1, g1, g2, f1, f2, ed1, ed2⟩ := lf7 K3 h1 g1 g2 f1 f2 ed1 ed2
     replace KT := KT.trans K3
     walk_at "v"
     refine ⟨by show 1 ≤ sizeLine; decide, fun rA hrA => ?_⟩
     have zrA : H rA = none := Same.none KT hrA
     obtain ⟨H4, q, K4, erA⟩ := nob (.lst [.ref t1]) hrA; rw [q]; clear q
     obtain ⟨h1, g1, g2, f1, f2, ed1, ed2, et1⟩ := lf8 K4 h1 g1 g2 f1 f2 ed1 ed2 et1
     replace KT := KT.trans K4
     walk_at "v"
     refine w_ixT g1 rfl ?_
     walk_at "v"
     refine w_ixT f1 rfl ?_
     walk_at "v"
     refine ⟨by show 3 ≤ sizeLine; decide, fun bA hbA => ?_⟩
     have zbA : H bA = none := Same.none KT hbA
     obtain ⟨H5, q, K5, ebA⟩ := nob (.lst [.int 0, .int a.plus, .int b.plus]) hbA; rw [q]; clear q
     obtain ⟨h1, g1, g2, f1, f2, ed1, ed2⟩ := lf7 K5 h1 g1 g2 f1 f2 ed1 ed2
     obtain ⟨et1, erA⟩ := lf2 K5 et1 erA
     replace KT := KT.trans K5
     walk_at "v"
     refine w_ixT h1 rfl ?_
     refine ⟨rfl, ?_⟩
     walk_at "v"
     refine iteTk rfl ?_
     walk_at "v"
     refine w_disp fun d3 hd3 => ?_
     obtain ⟨G6, q, M6, m6⟩ := nob (.dK []) hd3; rw [q]; clear q
     refine w_pairs ?_
     walk_at "v"
     refine w_pairs ?_
     walk_at "v"
     refine w_pairs0 ?_
     refine ⟨m6, dcK [(1, 1), (2, 1)], rfl, by show 2 ≤ 15; decide, ?_⟩
     rw [show mergeK [] (dcK [(1, 1), (2, 1)]) = dcK [(1, 1), (2, 1)] from rfl]
     obtain ⟨H6, q, K6, ed3⟩ := nop (.dK (dcK [(1, 1), (2, 1)])) M6 hd3; rw [q]; clear q
     clear M6 m6
     obtain ⟨h1, g1, g2, f1, f2, ed1, ed2, et1⟩ := lf8 K6 h1 g1 g2 f1 f2 ed1 ed2 et1
     obtain ⟨erA, ebA⟩ := lf2 K6 erA ebA
     replace KT := KT.trans K6
     walk_at "v"
     refine w_disp fun d4 hd4 => ?_
     obtain ⟨G7, q, M7, m7⟩ := nob (.dK []) hd4; rw [q]; clear q
     refine w_pairs ?_
     walk_at "v"
     refine w_pairs0 ?_
     refine ⟨m7, dcK [(3, 1)], rfl, by show 1 ≤ 15; decide, ?_⟩
     rw [show mergeK [] (dcK [(3, 1)]) = dcK [(3, 1)] from rfl]
     obtain ⟨H7, q, K7, ed4⟩ := nop (.dK (dcK [(3, 1)])) M7 hd4; rw [q]; clear q
     clear M7 m7
     obtain ⟨h1, g1, g2, f1, f2, ed1, ed2, et1⟩ := lf8 K7 h1 g1 g2 f1 f2 ed1 ed2 et1
     obtain ⟨erA, ebA, ed3⟩ := lf3 K7 erA ebA ed3
     replace KT := KT.trans K7
     walk_at "v"
     refine ⟨by show 2 ≤ sizeLine; decide, fun t2 ht2 => ?_⟩
     obtain ⟨H8, q, K8, et2⟩ := nob (.tup [.ref d3, .ref d4]) ht2; rw [q]; clear q
     obtain ⟨h1, g1, g2, f1, f2, ed1, ed2, et1⟩ := lf8 K8 h1 g1 g2 f1 f2 ed1 ed2 et1
     obtain ⟨erA, ebA, ed3, ed4⟩ := lf4 K8 erA ebA ed3 ed4
     replace KT := KT.trans K8
     walk_at "v"
     refine ⟨by show 1 ≤ sizeLine; decide, fun rB hrB => ?_⟩
     have zrB : H rB = none := Same.none KT hrB
     obtain ⟨H9, q, K9, erB⟩ := nob (.lst [.ref t2]) hrB; rw [q]; clear q
     obtain ⟨h1, g1, g2, f1, f2, ed1, ed2, et1⟩ := lf8 K9 h1 g1 g2 f1 f2 ed1 ed2 et1
     obtain ⟨erA, ebA, ed3, ed4, et2⟩ := lf5 K9 erA ebA ed3 ed4 et2
     replace KT := KT.trans K9
     walk_at "v"
     refine ⟨rA, rB, _, _, rfl, rfl, erA, erB, by show 2 ≤ sizeLine; decide, fun rl hrl => ?_⟩
     have zrl : H rl = none := Same.none KT hrl
     have K10 : Same H9 (upd H9 rl (.lst [.ref t1, .ref t2])) := Same.new (Same.refl _) hrl
     have erl : upd H9 rl (.lst [.ref t1, .ref t2]) rl = some (.lst [.ref t1, .ref t2]) := upd_same
     simp only [List.cons_append, List.nil_append]
     generalize upd H9 rl (.lst [.ref t1, .ref t2]) = H10 at K10 erl ⊢
     obtain ⟨h1, g1, g2, f1, f2, ed1, ed2, et1⟩ := lf8 K10 h1 g1 g2 f1 f2 ed1 ed2 et1
     obtain ⟨erA, ebA, ed3, ed4, et2, erB⟩ := lf6 K10 erA ebA ed3 ed4 et2 erB
     replace KT := KT.trans K10
     walk_at "v"
     refine ⟨by show 1 ≤ sizeLine; decide, fun bB hbB => ?_⟩
     have zbB : H bB = none := Same.none KT hbB
     obtain ⟨H11, q, K11, ebB⟩ := nob (.lst [.int 0]) hbB; rw [q]; clear q
     obtain ⟨h1, g1, g2, f1, f2, ed1, ed2, et1⟩ := lf8 K11 h1 g1 g2 f1 f2 ed1 ed2 et1
     obtain ⟨erA, ebA, ed3, ed4, et2, erB, erl⟩ := lf7 K11 erA ebA ed3 ed4 et2 erB erl
     replace KT := KT.trans K11
     walk_at "v"
     refine ⟨bA, bB, _, _, rfl, rfl, ebA, ebB, by show 4 ≤ sizeLine; decide, fun bl hbl => ?_⟩
     have zbl : H bl = none := Same.none KT hbl
     have K12 : Same H11 (upd H11 bl (.lst [.int 0, .int a.plus, .int b.plus, .int 0])) := Same.new (Same.refl _) hbl
     have ebl : upd H11 bl (.lst [.int 0, .int a.plus, .int b.plus, .int 0]) bl = some (.lst [.int 0, .int a.plus, .int b.plus, .int 0]) := upd_same
     simp only [List.cons_append, List.nil_append]
     generalize upd H11 bl (.lst [.int 0, .int a.plus, .int b.plus, .int 0]) = H12 at K12 ebl ⊢
     obtain ⟨h1, g1, g2, f1, f2, ed1, ed2, et1⟩ := lf8 K12 h1 g1 g2 f1 f2 ed1 ed2 et1
     obtain ⟨erA, ebA, ed3, ed4, et2, erB, erl, ebB⟩ := lf8 K12 erA ebA ed3 ed4 et2 erB erl ebB
     replace KT := KT.trans K12
     walk_at "v"
     have nrb : rl ≠ bl := fun z => by subst z; rw [ebl] at erl; cases erl
     refine ⟨by show 3 ≤ sizeLine; decide, fun rr hrr => ?_⟩
     obtain ⟨H13, q, K13, err⟩ := nob (.tup [.ref rl, .ref bl, .int 3]) hrr; rw [q]; clear q
     obtain ⟨h1, g1, g2, f1, f2, ed1, ed2, et1⟩ := lf8 K13 h1 g1 g2 f1 f2 ed1 ed2 et1
     obtain ⟨erA, ebA, ed3, ed4, et2, erB, erl⟩ := lf7 K13 erA ebA ed3 ed4 et2 erB erl
     obtain ⟨ebB, ebl⟩ := lf2 K13 ebB ebl
     replace KT := KT.trans K13
     exact k rr rl bl [([(0, 1)], [(1, x0), (2, y0)]), ([(1, 1), (2, 1)], [(3, 1)])] [0, a.plus, b.plus, 0] 3 _ KT err ⟨[t1, t2], erl, ⟨⟨d1, d2, et1, ed1, ed2⟩, ⟨⟨d3, d4, et2, ed3, ed4⟩, trivial⟩⟩⟩ ebl (by refine ⟨by simp, by simp, by (repeat (first | exact so_nil | exact dc_nil | refine so_cons ?_ ?_ ?_ | refine dc_cons ⟨by omega, by omega⟩ ?_)), by simp, by simp, fun x hx => by simp only [List.mem_cons, List.not_mem_nil, or_false] at hx; omega, by decide, by simp⟩) zrl zbl nrb
    ·walk_at "v"
     refine w_ixT h1 rfl ?_
     walk_at "v"
     refine w_ixT h1 rfl ?_
     refine ⟨rfl, ?_⟩
     walk_at "v"
     refine iteFk (by decide) ?_
     walk_at "v"
     refine w_ixT h1 rfl ?_
     refine ⟨rfl, ?_⟩
     walk_at "v"
     refine iteFk (by decide) ?_
     walk_at "v"
     refine w_ixT h1 rfl ?_
     walk_at "v"
     refine w_disp fun d1 hd1 => ?_
     obtain ⟨G1, q, M1, m1⟩ := nob (.dK []) hd1; rw [q]; clear q
     refine w_pairs ?_
     walk_at "v"
     refine w_pairs0 ?_
     refine ⟨m1, dcK [(0, 1)], rfl, by show 1 ≤ 15; decide, ?_⟩
     rw [show mergeK [] (dcK [(0, 1)]) = dcK [(0, 1)] from rfl]
     obtain ⟨H1, q, K1, ed1⟩ := nop (.dK (dcK [(0, 1)])) M1 hd1; rw [q]; clear q
     clear M1 m1
     obtain ⟨h1, g1, g2, f1, f2⟩ := lf5 K1 h1 g1 g2 f1 f2
     have KT := K1
     walk_at "v"
     refine w_disp fun d2 hd2 => ?_
     obtain ⟨G2, q, M2, m2⟩ := nob (.dK []) hd2; rw [q]; clear q
     refine w_pairs ?_
     walk_at "v"
     refine w_ixT (M2 _ _ g1) rfl ?_
     walk_at "v"
     refine w_ixT (M2 _ _ g2) rfl ?_
     walk_at "v"
     refine w_pairs ?_
     walk_at "v"
     refine w_ixT (M2 _ _ f1) rfl ?_
     walk_at "v"
     refine w_ixT (M2 _ _ f2) rfl ?_
     walk_at "v"
     refine w_pairs0 ?_
     refine ⟨m2, dcK [(1, x0), (2, y0)], rfl, by show 2 ≤ 15; decide, ?_⟩
     rw [show mergeK [] (dcK [(1, x0), (2, y0)]) = dcK [(1, x0), (2, y0)] from rfl]
     obtain ⟨H2, q, K2, ed2⟩ := nop (.dK (dcK [(1, x0), (2, y0)])) M2 hd2; rw [q]; clear q
     clear M2 m2
     obtain ⟨h1, g1, g2, f1, f2, ed1⟩ := lf6 K2 h1 g1 g2 f1 f2 ed1
     replace KT := KT.trans K2
     walk_at "v"
     refine ⟨by show 2 ≤ sizeLine; decide, fun t1 ht1 => ?_⟩
     obtain ⟨H3, q, K3, et1⟩ := nob (.tup [.ref d1, .ref d2]) ht1; rw [q]; clear q
     obtain ⟨h1, g1, g2, f1, f2, ed1, ed2⟩ := lf7 K3 h1 g1 g2 f1 f2 ed1 ed2
     replace KT := KT.trans K3
     walk_at "v"
     refine ⟨by show 1 ≤ sizeLine; decide, fun rA hrA => ?_⟩
     have zrA : H rA = none := Same.none KT hrA
     obtain ⟨H4, q, K4, erA⟩ := nob (.lst [.ref t1]) hrA; rw [q]; clear q
     obtain ⟨h1, g1, g2, f1, f2, ed1, ed2, et1⟩ := lf8 K4 h1 g1 g2 f1 f2 ed1 ed2 et1
     replace KT := KT.trans K4
     walk_at "v"
     refine w_ixT g1 rfl ?_
     walk_at "v"
     refine w_ixT f1 rfl ?_
     walk_at "v"
     refine ⟨by show 3 ≤ sizeLine; decide, fun bA hbA => ?_⟩
     have zbA : H bA = none := Same.none KT hbA
     obtain ⟨H5, q, K5, ebA⟩ := nob (.lst [.int 0, .int a.plus, .int b.plus]) hbA; rw [q]; clear q
     obtain ⟨h1, g1, g2, f1, f2, ed1, ed2⟩ := lf7 K5 h1 g1 g2 f1 f2 ed1 ed2
     obtain ⟨et1, erA⟩ := lf2 K5 et1 erA
     replace KT := KT.trans K5
     walk_at "v"
     refine w_ixT h1 rfl ?_
     refine ⟨rfl, ?_⟩
     walk_at "v"
     refine iteFk (by decide) ?_
     walk_at "v"
     refine w_ixT h1 rfl ?_
     refine ⟨rfl, ?_⟩
     walk_at "v"
     refine iteTk rfl ?_
     walk_at "v"
     refine w_disp fun d5 hd5 => ?_
     obtain ⟨G6, q, M6, m6⟩ := nob (.dK []) hd5; rw [q]; clear q
     refine w_pairs ?_
     walk_at "v"
     refine w_pairs0 ?_
     refine ⟨m6, dcK [(0, 1)], rfl, by show 1 ≤ 15; decide, ?_⟩
     rw [show mergeK [] (dcK [(0, 1)]) = dcK [(0, 1)] from rfl]
     obtain ⟨H6, q, K6, ed5⟩ := nop (.dK (dcK [(0, 1)])) M6 hd5; rw [q]; clear q
     clear M6 m6
     obtain ⟨h1, g1, g2, f1, f2, ed1, ed2, et1⟩ := lf8 K6 h1 g1 g2 f1 f2 ed1 ed2 et1
     obtain ⟨erA, ebA⟩ := lf2 K6 erA ebA
     replace KT := KT.trans K6
     walk_at "v"
     refine w_disp fun d6 hd6 => ?_
     obtain ⟨G7, q, M7, m7⟩ := nob (.dK []) hd6; rw [q]; clear q
     refine w_pairs ?_
     walk_at "v"
     refine w_ixT (M7 _ _ g1) rfl ?_
     walk_at "v"
     refine w_ixT (M7 _ _ g2) rfl ?_
     walk_at "v"
     refine w_pairs ?_
     walk_at "v"
     refine w_ixT (M7 _ _ f1) rfl ?_
     walk_at "v"
     refine w_ixT (M7 _ _ f2) rfl ?_
     walk_at "v"
     refine w_pairs ?_
     walk_at "v"
     refine w_ixT (M7 _ _ g1) rfl ?_
     walk_at "v"
     refine w_ixT (M7 _ _ g2) rfl ?_
     walk_at "v"
     refine w_ixT (M7 _ _ f1) rfl ?_
     walk_at "v"
     refine w_ixT (M7 _ _ f2) rfl ?_
     walk_at "v"
     refine w_pairs0 ?_
     refine ⟨m7, dcK [(1, x0), (2, y0), (3, x0 + y0)], rfl, by show 3 ≤ 15; decide, ?_⟩
     rw [show mergeK [] (dcK [(1, x0), (2, y0), (3, x0 + y0)]) = dcK [(1, x0), (2, y0), (3, x0 + y0)] from rfl]
     obtain ⟨H7, q, K7, ed6⟩ := nop (.dK (dcK [(1, x0), (2, y0), (3, x0 + y0)])) M7 hd6; rw [q]; clear q
     clear M7 m7
     obtain ⟨h1, g1, g2, f1, f2, ed1, ed2, et1⟩ := lf8 K7 h1 g1 g2 f1 f2 ed1 ed2 et1
     obtain ⟨erA, ebA, ed5⟩ := lf3 K7 erA ebA ed5
     replace KT := KT.trans K7
     walk_at "v"
     refine ⟨by show 2 ≤ sizeLine; decide, fun t3 ht3 => ?_⟩
     obtain ⟨H8, q, K8, et3⟩ := nob (.tup [.ref d5, .ref d6]) ht3; rw [q]; clear q
     obtain ⟨h1, g1, g2, f1, f2, ed1, ed2, et1⟩ := lf8 K8 h1 g1 g2 f1 f2 ed1 ed2 et1
     obtain ⟨erA, ebA, ed5, ed6⟩ := lf4 K8 erA ebA ed5 ed6
     replace KT := KT.trans K8
     walk_at "v"
     refine ⟨by show 1 ≤ sizeLine; decide, fun rC hrC => ?_⟩
     have zrC : H rC = none := Same.none KT hrC
     obtain ⟨H9, q, K9, erC⟩ := nob (.lst [.ref t3]) hrC; rw [q]; clear q
     obtain ⟨h1, g1, g2, f1, f2, ed1, ed2, et1⟩ := lf8 K9 h1 g1 g2 f1 f2 ed1 ed2 et1
     obtain ⟨erA, ebA, ed5, ed6, et3⟩ := lf5 K9 erA ebA ed5 ed6 et3
     replace KT := KT.trans K9
     walk_at "v"
     refine w_disp fun d3 hd3 => ?_
     obtain ⟨G10, q, M10, m10⟩ := nob (.dK []) hd3; rw [q]; clear q
     refine w_pairs ?_
     walk_at "v"
     refine w_pairs ?_
     walk_at "v"
     refine w_pairs0 ?_
     refine ⟨m10, dcK [(1, 1), (2, 1)], rfl, by show 2 ≤ 15; decide, ?_⟩
     rw [show mergeK [] (dcK [(1, 1), (2, 1)]) = dcK [(1, 1), (2, 1)] from rfl]
     obtain ⟨H10, q, K10, ed3⟩ := nop (.dK (dcK [(1, 1), (2, 1)])) M10 hd3; rw [q]; clear q
     clear M10 m10
     obtain ⟨h1, g1, g2, f1, f2, ed1, ed2, et1⟩ := lf8 K10 h1 g1 g2 f1 f2 ed1 ed2 et1
     obtain ⟨erA, ebA, ed5, ed6, et3, erC⟩ := lf6 K10 erA ebA ed5 ed6 et3 erC
     replace KT := KT.trans K10
     walk_at "v"
     refine w_disp fun d4 hd4 => ?_
     obtain ⟨G11, q, M11, m11⟩ := nob (.dK []) hd4; rw [q]; clear q
     refine w_pairs ?_
     walk_at "v"
     refine w_pairs0 ?_
     refine ⟨m11, dcK [(4, 1)], rfl, by show 1 ≤ 15; decide, ?_⟩
     rw [show mergeK [] (dcK [(4, 1)]) = dcK [(4, 1)] from rfl]
     obtain ⟨H11, q, K11, ed4⟩ := nop (.dK (dcK [(4, 1)])) M11 hd4; rw [q]; clear q
     clear M11 m11
     obtain ⟨h1, g1, g2, f1, f2, ed1, ed2, et1⟩ := lf8 K11 h1 g1 g2 f1 f2 ed1 ed2 et1
     obtain ⟨erA, ebA, ed5, ed6, et3, erC, ed3⟩ := lf7 K11 erA ebA ed5 ed6 et3 erC ed3
     replace KT := KT.trans K11
     walk_at "v"
     refine ⟨by show 2 ≤ sizeLine; decide, fun t2 ht2 => ?_⟩
     obtain ⟨H12, q, K12, et2⟩ := nob (.tup [.ref d3, .ref d4]) ht2; rw [q]; clear q
     obtain ⟨h1, g1, g2, f1, f2, ed1, ed2, et1⟩ := lf8 K12 h1 g1 g2 f1 f2 ed1 ed2 et1
     obtain ⟨erA, ebA, ed5, ed6, et3, erC, ed3, ed4⟩ := lf8 K12 erA ebA ed5 ed6 et3 erC ed3 ed4
     replace KT := KT.trans K12
     walk_at "v"
     refine w_disp fun d7 hd7 => ?_
     obtain ⟨G13, q, M13, m13⟩ := nob (.dK []) hd7; rw [q]; clear q
     refine w_pairs ?_
     walk_at "v"
     refine w_pairs ?_
     walk_at "v"
     refine w_pairs0 ?_
     refine ⟨m13, dcK [(3, 1), (4, 1)], rfl, by show 2 ≤ 15; decide, ?_⟩
     rw [show mergeK [] (dcK [(3, 1), (4, 1)]) = dcK [(3, 1), (4, 1)] from rfl]
     obtain ⟨H13, q, K13, ed7⟩ := nop (.dK (dcK [(3, 1), (4, 1)])) M13 hd7; rw [q]; clear q
     clear M13 m13
     obtain ⟨h1, g1, g2, f1, f2, ed1, ed2, et1⟩ := lf8 K13 h1 g1 g2 f1 f2 ed1 ed2 et1
     obtain ⟨erA, ebA, ed5, ed6, et3, erC, ed3⟩ := lf7 K13 erA ebA ed5 ed6 et3 erC ed3
     obtain ⟨ed4, et2⟩ := lf2 K13 ed4 et2
     replace KT := KT.trans K13
     walk_at "v"
     refine w_dnew fun d8 hd8 => ?_
     have K14 : Same H13 (upd H13 d8 (.dK [])) := Same.new (Same.refl _) hd8
     have ed8 : upd H13 d8 (.dK []) d8 = some (.dK (dcK [])) := upd_same
     generalize upd H13 d8 (.dK []) = H14 at K14 ed8 ⊢
     obtain ⟨h1, g1, g2, f1, f2, ed1, ed2, et1⟩ := lf8 K14 h1 g1 g2 f1 f2 ed1 ed2 et1
     obtain ⟨erA, ebA, ed5, ed6, et3, erC, ed3, ed4⟩ := lf8 K14 erA ebA ed5 ed6 et3 erC ed3 ed4
     obtain ⟨et2, ed7⟩ := lf2 K14 et2 ed7
     replace KT := KT.trans K14
     walk_at "v"
     refine ⟨by show 2 ≤ sizeLine; decide, fun t4 ht4 => ?_⟩
     obtain ⟨H15, q, K15, et4⟩ := nob (.tup [.ref d7, .ref d8]) ht4; rw [q]; clear q
     obtain ⟨h1, g1, g2, f1, f2, ed1, ed2, et1⟩ := lf8 K15 h1 g1 g2 f1 f2 ed1 ed2 et1
     obtain ⟨erA, ebA, ed5, ed6, et3, erC, ed3, ed4⟩ := lf8 K15 erA ebA ed5 ed6 et3 erC ed3 ed4
     obtain ⟨et2, ed7, ed8⟩ := lf3 K15 et2 ed7 ed8
     replace KT := KT.trans K15
     walk_at "v"
     refine ⟨by show 2 ≤ sizeLine; decide, fun rB hrB => ?_⟩
     have zrB : H rB = none := Same.none KT hrB
     obtain ⟨H16, q, K16, erB⟩ := nob (.lst [.ref t2, .ref t4]) hrB; rw [q]; clear q
     obtain ⟨h1, g1, g2, f1, f2, ed1, ed2, et1⟩ := lf8 K16 h1 g1 g2 f1 f2 ed1 ed2 et1
     obtain ⟨erA, ebA, ed5, ed6, et3, erC, ed3, ed4⟩ := lf8 K16 erA ebA ed5 ed6 et3 erC ed3 ed4
     obtain ⟨et2, ed7, ed8, et4⟩ := lf4 K16 et2 ed7 ed8 et4
     replace KT := KT.trans K16
     walk_at "v"
     refine ⟨rC, rB, _, _, rfl, rfl, erC, erB, by show 3 ≤ sizeLine; decide, fun rl hrl => ?_⟩
     have zrl : H rl = none := Same.none KT hrl
     have K17 : Same H16 (upd H16 rl (.lst [.ref t3, .ref t2, .ref t4])) := Same.new (Same.refl _) hrl
     have erl : upd H16 rl (.lst [.ref t3, .ref t2, .ref t4]) rl = some (.lst [.ref t3, .ref t2, .ref t4]) := upd_same
     simp only [List.cons_append, List.nil_append]
     generalize upd H16 rl (.lst [.ref t3, .ref t2, .ref t4]) = H17 at K17 erl ⊢
     obtain ⟨h1, g1, g2, f1, f2, ed1, ed2, et1⟩ := lf8 K17 h1 g1 g2 f1 f2 ed1 ed2 et1
     obtain ⟨erA, ebA, ed5, ed6, et3, erC, ed3, ed4⟩ := lf8 K17 erA ebA ed5 ed6 et3 erC ed3 ed4
     obtain ⟨et2, ed7, ed8, et4, erB⟩ := lf5 K17 et2 ed7 ed8 et4 erB
     replace KT := KT.trans K17
     walk_at "v"
     refine w_ixT g1 rfl ?_
     walk_at "v"
     refine w_ixT f1 rfl ?_
     walk_at "v"
     refine ⟨by show 2 ≤ sizeLine; decide, fun bB hbB => ?_⟩
     have zbB : H bB = none := Same.none KT hbB
     obtain ⟨H18, q, K18, ebB⟩ := nob (.lst [.int (a.plus + b.plus), .int 0]) hbB; rw [q]; clear q
     obtain ⟨h1, g1, g2, f1, f2, ed1, ed2, et1⟩ := lf8 K18 h1 g1 g2 f1 f2 ed1 ed2 et1
     obtain ⟨erA, ebA, ed5, ed6, et3, erC, ed3, ed4⟩ := lf8 K18 erA ebA ed5 ed6 et3 erC ed3 ed4
     obtain ⟨et2, ed7, ed8, et4, erB, erl⟩ := lf6 K18 et2 ed7 ed8 et4 erB erl
     replace KT := KT.trans K18
     walk_at "v"
     refine ⟨bA, bB, _, _, rfl, rfl, ebA, ebB, by show 5 ≤ sizeLine; decide, fun bl hbl => ?_⟩
     have zbl : H bl = none := Same.none KT hbl
     have K19 : Same H18 (upd H18 bl (.lst [.int 0, .int a.plus, .int b.plus, .int (a.plus + b.plus), .int 0])) := Same.new (Same.refl _) hbl
     have ebl : upd H18 bl (.lst [.int 0, .int a.plus, .int b.plus, .int (a.plus + b.plus), .int 0]) bl = some (.lst [.int 0, .int a.plus, .int b.plus, .int (a.plus + b.plus), .int 0]) := upd_same
     simp only [List.cons_append, List.nil_append]
     generalize upd H18 bl (.lst [.int 0, .int a.plus, .int b.plus, .int (a.plus + b.plus), .int 0]) = H19 at K19 ebl ⊢
     obtain ⟨h1, g1, g2, f1, f2, ed1, ed2, et1⟩ := lf8 K19 h1 g1 g2 f1 f2 ed1 ed2 et1
     obtain ⟨erA, ebA, ed5, ed6, et3, erC, ed3, ed4⟩ := lf8 K19 erA ebA ed5 ed6 et3 erC ed3 ed4
     obtain ⟨et2, ed7, ed8, et4, erB, erl, ebB⟩ := lf7 K19 et2 ed7 ed8 et4 erB erl ebB
     replace KT := KT.trans K19
     walk_at "v"
     have nrb : rl ≠ bl := fun z => by subst z; rw [ebl] at erl; cases erl
     refine ⟨by show 3 ≤ sizeLine; decide, fun rr hrr => ?_⟩
     obtain ⟨H20, q, K20, err⟩ := nob (.tup [.ref rl, .ref bl, .int 3]) hrr; rw [q]; clear q
     obtain ⟨h1, g1, g2, f1, f2, ed1, ed2, et1⟩ := lf8 K20 h1 g1 g2 f1 f2 ed1 ed2 et1
     obtain ⟨erA, ebA, ed5, ed6, et3, erC, ed3, ed4⟩ := lf8 K20 erA ebA ed5 ed6 et3 erC ed3 ed4
     obtain ⟨et2, ed7, ed8, et4, erB, erl, ebB, ebl⟩ := lf8 K20 et2 ed7 ed8 et4 erB erl ebB ebl
     replace KT := KT.trans K20
     exact k rr rl bl [([(0, 1)], [(1, x0), (2, y0), (3, x0 + y0)]), ([(1, 1), (2, 1)], [(4, 1)]), ([(3, 1), (4, 1)], [])] [0, a.plus, b.plus, a.plus + b.plus, 0] 3 _ KT err ⟨[t3, t2, t4], erl, ⟨⟨d5, d6, et3, ed5, ed6⟩, ⟨⟨d3, d4, et2, ed3, ed4⟩, ⟨⟨d7, d8, et4, ed7, ed8⟩, trivial⟩⟩⟩⟩ ebl (by refine ⟨by simp, by simp, by (repeat (first | exact so_nil | exact dc_nil | refine so_cons ?_ ?_ ?_ | refine dc_cons ⟨by omega, by omega⟩ ?_)), by simp, by simp, fun x hx => by simp only [List.mem_cons, List.not_mem_nil, or_false] at hx; omega, by decide, by simp⟩) zrl zbl nrb
    ·walk_at "v"
     refine w_ixT h1 rfl ?_
     walk_at "v"
     refine w_ixT h1 rfl ?_
     refine ⟨rfl, ?_⟩
     walk_at "v"
     refine iteFk (by decide) ?_
     walk_at "v"
     refine w_ixT h1 rfl ?_
     refine ⟨rfl, ?_⟩
     walk_at "v"
     refine iteFk (by decide) ?_
     walk_at "v"
     refine w_ixT h1 rfl ?_
     walk_at "v"
     refine w_disp fun d1 hd1 => ?_
     obtain ⟨G1, q, M1, m1⟩ := nob (.dK []) hd1; rw [q]; clear q
     refine w_pairs ?_
     walk_at "v"
     refine w_pairs0 ?_
     refine ⟨m1, dcK [(0, 1)], rfl, by show 1 ≤ 15; decide, ?_⟩
     rw [show mergeK [] (dcK [(0, 1)]) = dcK [(0, 1)] from rfl]
     obtain ⟨H1, q, K1, ed1⟩ := nop (.dK (dcK [(0, 1)])) M1 hd1; rw [q]; clear q
     clear M1 m1
     obtain ⟨h1, g1, g2, f1, f2⟩ := lf5 K1 h1 g1 g2 f1 f2
     have KT := K1
     walk_at "v"
     refine w_disp fun d2 hd2 => ?_
     obtain ⟨G2, q, M2, m2⟩ := nob (.dK []) hd2; rw [q]; clear q
     refine w_pairs ?_
     walk_at "v"
     refine w_ixT (M2 _ _ g1) rfl ?_
     walk_at "v"
     refine w_ixT (M2 _ _ g2) rfl ?_
     walk_at "v"
     refine w_pairs ?_
     walk_at "v"
     refine w_ixT (M2 _ _ f1) rfl ?_
     walk_at "v"
     refine w_ixT (M2 _ _ f2) rfl ?_
     walk_at "v"
     refine w_pairs0 ?_
     refine ⟨m2, dcK [(1, x0), (2, y0)], rfl, by show 2 ≤ 15; decide, ?_⟩
     rw [show mergeK [] (dcK [(1, x0), (2, y0)]) = dcK [(1, x0), (2, y0)] from rfl]
     obtain ⟨H2, q, K2, ed2⟩ := nop (.dK (dcK [(1, x0), (2, y0)])) M2 hd2; rw [q]; clear q
     clear M2 m2
     obtain ⟨h1, g1, g2, f1, f2, ed1⟩ := lf6 K2 h1 g1 g2 f1 f2 ed1
     replace KT := KT.trans K2
     walk_at "v"
     refine ⟨by show 2 ≤ sizeLine; decide, fun t1 ht1 => ?_⟩
     obtain ⟨H3, q, K3, et1⟩ := nob (.tup [.ref d1, .ref d2]) ht1; rw [q]; clear q
     obtain ⟨h1, g1, g2, f1, f2, ed1, ed2⟩ := lf7 K3 h1 g1 g2 f1 f2 ed1 ed2
     replace KT := KT.trans K3
     walk_at "v"
     refine ⟨by show 1 ≤ sizeLine; decide, fun rA hrA => ?_⟩
     have zrA : H rA = none := Same.none KT hrA
     obtain ⟨H4, q, K4, erA⟩ := nob (.lst [.ref t1]) hrA; rw [q]; clear q
     obtain ⟨h1, g1, g2, f1, f2, ed1, ed2, et1⟩ := lf8 K4 h1 g1 g2 f1 f2 ed1 ed2 et1
     replace KT := KT.trans K4
     walk_at "v"
     refine w_ixT g1 rfl ?_
     walk_at "v"
     refine w_ixT f1 rfl ?_
     walk_at "v"
     refine ⟨by show 3 ≤ sizeLine; decide, fun bA hbA => ?_⟩
     have zbA : H bA = none := Same.none KT hbA
     obtain ⟨H5, q, K5, ebA⟩ := nob (.lst [.int 0, .int a.plus, .int b.plus]) hbA; rw [q]; clear q
     obtain ⟨h1, g1, g2, f1, f2, ed1, ed2⟩ := lf7 K5 h1 g1 g2 f1 f2 ed1 ed2
     obtain ⟨et1, erA⟩ := lf2 K5 et1 erA
     replace KT := KT.trans K5
     walk_at "v"
     refine w_ixT h1 rfl ?_
     refine ⟨rfl, ?_⟩
     walk_at "v"
     refine iteFk (by decide) ?_
     walk_at "v"
     refine w_ixT h1 rfl ?_
     refine ⟨rfl, ?_⟩
     walk_at "v"
     refine iteFk (by decide) ?_
     walk_at "v"
     refine w_ixT h1 rfl ?_
     refine ⟨rfl, ?_⟩
     walk_at "v"
     refine iteTk rfl ?_
     walk_at "v"
     refine w_disp fun d3 hd3 => ?_
     obtain ⟨G6, q, M6, m6⟩ := nob (.dK []) hd3; rw [q]; clear q
     refine w_pairs ?_
     walk_at "v"
     refine w_pairs ?_
     walk_at "v"
     refine w_pairs0 ?_
     refine ⟨m6, dcK [(1, 1), (4, 1)], rfl, by show 2 ≤ 15; decide, ?_⟩
     rw [show mergeK [] (dcK [(1, 1), (4, 1)]) = dcK [(1, 1), (4, 1)] from rfl]
     obtain ⟨H6, q, K6, ed3⟩ := nop (.dK (dcK [(1, 1), (4, 1)])) M6 hd3; rw [q]; clear q
     clear M6 m6
     obtain ⟨h1, g1, g2, f1, f2, ed1, ed2, et1⟩ := lf8 K6 h1 g1 g2 f1 f2 ed1 ed2 et1
     obtain ⟨erA, ebA⟩ := lf2 K6 erA ebA
     replace KT := KT.trans K6
     walk_at "v"
     refine w_disp fun d4 hd4 => ?_
     obtain ⟨G7, q, M7, m7⟩ := nob (.dK []) hd4; rw [q]; clear q
     refine w_pairs ?_
     walk_at "v"
     refine w_pairs0 ?_
     refine ⟨m7, dcK [(3, 1)], rfl, by show 1 ≤ 15; decide, ?_⟩
     rw [show mergeK [] (dcK [(3, 1)]) = dcK [(3, 1)] from rfl]
     obtain ⟨H7, q, K7, ed4⟩ := nop (.dK (dcK [(3, 1)])) M7 hd4; rw [q]; clear q
     clear M7 m7
     obtain ⟨h1, g1, g2, f1, f2, ed1, ed2, et1⟩ := lf8 K7 h1 g1 g2 f1 f2 ed1 ed2 et1
     obtain ⟨erA, ebA, ed3⟩ := lf3 K7 erA ebA ed3
     replace KT := KT.trans K7
     walk_at "v"
     refine ⟨by show 2 ≤ sizeLine; decide, fun t2 ht2 => ?_⟩
     obtain ⟨H8, q, K8, et2⟩ := nob (.tup [.ref d3, .ref d4]) ht2; rw [q]; clear q
     obtain ⟨h1, g1, g2, f1, f2, ed1, ed2, et1⟩ := lf8 K8 h1 g1 g2 f1 f2 ed1 ed2 et1
     obtain ⟨erA, ebA, ed3, ed4⟩ := lf4 K8 erA ebA ed3 ed4
     replace KT := KT.trans K8
     walk_at "v"
     refine w_disp fun d5 hd5 => ?_
     obtain ⟨G9, q, M9, m9⟩ := nob (.dK []) hd5; rw [q]; clear q
     refine w_pairs ?_
     walk_at "v"
     refine w_pairs ?_
     walk_at "v"
     refine w_pairs0 ?_
     refine ⟨m9, dcK [(2, 1), (3, 1)], rfl, by show 2 ≤ 15; decide, ?_⟩
     rw [show mergeK [] (dcK [(2, 1), (3, 1)]) = dcK [(2, 1), (3, 1)] from rfl]
     obtain ⟨H9, q, K9, ed5⟩ := nop (.dK (dcK [(2, 1), (3, 1)])) M9 hd5; rw [q]; clear q
     clear M9 m9
     obtain ⟨h1, g1, g2, f1, f2, ed1, ed2, et1⟩ := lf8 K9 h1 g1 g2 f1 f2 ed1 ed2 et1
     obtain ⟨erA, ebA, ed3, ed4, et2⟩ := lf5 K9 erA ebA ed3 ed4 et2
     replace KT := KT.trans K9
     walk_at "v"
     refine w_disp fun d6 hd6 => ?_
     obtain ⟨G10, q, M10, m10⟩ := nob (.dK []) hd6; rw [q]; clear q
     refine w_pairs ?_
     walk_at "v"
     refine w_pairs0 ?_
     refine ⟨m10, dcK [(4, 1)], rfl, by show 1 ≤ 15; decide, ?_⟩
     rw [show mergeK [] (dcK [(4, 1)]) = dcK [(4, 1)] from rfl]
     obtain ⟨H10, q, K10, ed6⟩ := nop (.dK (dcK [(4, 1)])) M10 hd6; rw [q]; clear q
     clear M10 m10
     obtain ⟨h1, g1, g2, f1, f2, ed1, ed2, et1⟩ := lf8 K10 h1 g1 g2 f1 f2 ed1 ed2 et1
     obtain ⟨erA, ebA, ed3, ed4, et2, ed5⟩ := lf6 K10 erA ebA ed3 ed4 et2 ed5
     replace KT := KT.trans K10
     walk_at "v"
     refine ⟨by show 2 ≤ sizeLine; decide, fun t3 ht3 => ?_⟩
     obtain ⟨H11, q, K11, et3⟩ := nob (.tup [.ref d5, .ref d6]) ht3; rw [q]; clear q
     obtain ⟨h1, g1, g2, f1, f2, ed1, ed2, et1⟩ := lf8 K11 h1 g1 g2 f1 f2 ed1 ed2 et1
     obtain ⟨erA, ebA, ed3, ed4, et2, ed5, ed6⟩ := lf7 K11 erA ebA ed3 ed4 et2 ed5 ed6
     replace KT := KT.trans K11
     walk_at "v"
     refine ⟨by show 2 ≤ sizeLine; decide, fun rB hrB => ?_⟩
     have zrB : H rB = none := Same.none KT hrB
     obtain ⟨H12, q, K12, erB⟩ := nob (.lst [.ref t2, .ref t3]) hrB; rw [q]; clear q
     obtain ⟨h1, g1, g2, f1, f2, ed1, ed2, et1⟩ := lf8 K12 h1 g1 g2 f1 f2 ed1 ed2 et1
     obtain ⟨erA, ebA, ed3, ed4, et2, ed5, ed6, et3⟩ := lf8 K12 erA ebA ed3 ed4 et2 ed5 ed6 et3
     replace KT := KT.trans K12
     walk_at "v"
     refine ⟨rA, rB, _, _, rfl, rfl, erA, erB, by show 3 ≤ sizeLine; decide, fun rl hrl => ?_⟩
     have zrl : H rl = none := Same.none KT hrl
     have K13 : Same H12 (upd H12 rl (.lst [.ref t1, .ref t2, .ref t3])) := Same.new (Same.refl _) hrl
     have erl : upd H12 rl (.lst [.ref t1, .ref t2, .ref t3]) rl = some (.lst [.ref t1, .ref t2, .ref t3]) := upd_same
     simp only [List.cons_append, List.nil_append]
     generalize upd H12 rl (.lst [.ref t1, .ref t2, .ref t3]) = H13 at K13 erl ⊢
     obtain ⟨h1, g1, g2, f1, f2, ed1, ed2, et1⟩ := lf8 K13 h1 g1 g2 f1 f2 ed1 ed2 et1
     obtain ⟨erA, ebA, ed3, ed4, et2, ed5, ed6⟩ := lf7 K13 erA ebA ed3 ed4 et2 ed5 ed6
     obtain ⟨et3, erB⟩ := lf2 K13 et3 erB
     replace KT := KT.trans K13
     walk_at "v"
     refine ⟨by show 2 ≤ sizeLine; decide, fun bB hbB => ?_⟩
     have zbB : H bB = none := Same.none KT hbB
     obtain ⟨H14, q, K14, ebB⟩ := nob (.lst [.int 0, .int 1]) hbB; rw [q]; clear q
     obtain ⟨h1, g1, g2, f1, f2, ed1, ed2, et1⟩ := lf8 K14 h1 g1 g2 f1 f2 ed1 ed2 et1
     obtain ⟨erA, ebA, ed3, ed4, et2, ed5, ed6, et3⟩ := lf8 K14 erA ebA ed3 ed4 et2 ed5 ed6 et3
     obtain ⟨erB, erl⟩ := lf2 K14 erB erl
     replace KT := KT.trans K14
     walk_at "v"
     refine ⟨bA, bB, _, _, rfl, rfl, ebA, ebB, by show 5 ≤ sizeLine; decide, fun bl hbl => ?_⟩
     have zbl : H bl = none := Same.none KT hbl
     have K15 : Same H14 (upd H14 bl (.lst [.int 0, .int a.plus, .int b.plus, .int 0, .int 1])) := Same.new (Same.refl _) hbl
     have ebl : upd H14 bl (.lst [.int 0, .int a.plus, .int b.plus, .int 0, .int 1]) bl = some (.lst [.int 0, .int a.plus, .int b.plus, .int 0, .int 1]) := upd_same
     simp only [List.cons_append, List.nil_append]
     generalize upd H14 bl (.lst [.int 0, .int a.plus, .int b.plus, .int 0, .int 1]) = H15 at K15 ebl ⊢
     obtain ⟨h1, g1, g2, f1, f2, ed1, ed2, et1⟩ := lf8 K15 h1 g1 g2 f1 f2 ed1 ed2 et1
     obtain ⟨erA, ebA, ed3, ed4, et2, ed5, ed6, et3⟩ := lf8 K15 erA ebA ed3 ed4 et2 ed5 ed6 et3
     obtain ⟨erB, erl, ebB⟩ := lf3 K15 erB erl ebB
     replace KT := KT.trans K15
     walk_at "v"
     have nrb : rl ≠ bl := fun z => by subst z; rw [ebl] at erl; cases erl
     refine ⟨by show 3 ≤ sizeLine; decide, fun rr hrr => ?_⟩
     obtain ⟨H16, q, K16, err⟩ := nob (.tup [.ref rl, .ref bl, .int 3]) hrr; rw [q]; clear q
     obtain ⟨h1, g1, g2, f1, f2, ed1, ed2, et1⟩ := lf8 K16 h1 g1 g2 f1 f2 ed1 ed2 et1
     obtain ⟨erA, ebA, ed3, ed4, et2, ed5, ed6, et3⟩ := lf8 K16 erA ebA ed3 ed4 et2 ed5 ed6 et3
     obtain ⟨erB, erl, ebB, ebl⟩ := lf4 K16 erB erl ebB ebl
     replace KT := KT.trans K16
     exact k rr rl bl [([(0, 1)], [(1, x0), (2, y0)]), ([(1, 1), (4, 1)], [(3, 1)]), ([(2, 1), (3, 1)], [(4, 1)])] [0, a.plus, b.plus, 0, 1] 3 _ KT err ⟨[t1, t2, t3], erl, ⟨⟨d1, d2, et1, ed1, ed2⟩, ⟨⟨d3, d4, et2, ed3, ed4⟩, ⟨⟨d5, d6, et3, ed5, ed6⟩, trivial⟩⟩⟩⟩ ebl (by refine ⟨by simp, by simp, by (repeat (first | exact so_nil | exact dc_nil | refine so_cons ?_ ?_ ?_ | refine dc_cons ⟨by omega, by omega⟩ ?_)), by simp, by simp, fun x hx => by simp only [List.mem_cons, List.not_mem_nil, or_false] at hx; omega, by decide, by simp⟩) zrl zbl nrb
    ·walk_at "v"
     refine w_ixT h1 rfl ?_
     walk_at "v"
     refine w_ixT h1 rfl ?_
     refine ⟨rfl, ?_⟩
     walk_at "v"
     refine iteFk (by decide) ?_
     walk_at "v"
     refine w_ixT h1 rfl ?_
     refine ⟨rfl, ?_⟩
     walk_at "v"
     refine iteFk (by decide) ?_
     walk_at "v"
     refine w_ixT h1 rfl ?_
     walk_at "v"
     refine w_disp fun d1 hd1 => ?_
     obtain ⟨G1, q, M1, m1⟩ := nob (.dK []) hd1; rw [q]; clear q
     refine w_pairs ?_
     walk_at "v"
     refine w_pairs0 ?_
     refine ⟨m1, dcK [(0, 1)], rfl, by show 1 ≤ 15; decide, ?_⟩
     rw [show mergeK [] (dcK [(0, 1)]) = dcK [(0, 1)] from rfl]
     obtain ⟨H1, q, K1, ed1⟩ := nop (.dK (dcK [(0, 1)])) M1 hd1; rw [q]; clear q
     clear M1 m1
     obtain ⟨h1, g1, g2, f1, f2⟩ := lf5 K1 h1 g1 g2 f1 f2
     have KT := K1
     walk_at "v"
     refine w_disp fun d2 hd2 => ?_
     obtain ⟨G2, q, M2, m2⟩ := nob (.dK []) hd2; rw [q]; clear q
     refine w_pairs ?_
     walk_at "v"
     refine w_ixT (M2 _ _ g1) rfl ?_
     walk_at "v"
     refine w_ixT (M2 _ _ g2) rfl ?_
     walk_at "v"
     refine w_pairs ?_
     walk_at "v"
     refine w_ixT (M2 _ _ f1) rfl ?_
     walk_at "v"
     refine w_ixT (M2 _ _ f2) rfl ?_
     walk_at "v"
     refine w_pairs0 ?_
     refine ⟨m2, dcK [(1, x0), (2, y0)], rfl, by show 2 ≤ 15; decide, ?_⟩
     rw [show mergeK [] (dcK [(1, x0), (2, y0)]) = dcK [(1, x0), (2, y0)] from rfl]
     obtain ⟨H2, q, K2, ed2⟩ := nop (.dK (dcK [(1, x0), (2, y0)])) M2 hd2; rw [q]; clear q
     clear M2 m2
     obtain ⟨h1, g1, g2, f1, f2, ed1⟩ := lf6 K2 h1 g1 g2 f1 f2 ed1
     replace KT := KT.trans K2
     walk_at "v"
     refine ⟨by show 2 ≤ sizeLine; decide, fun t1 ht1 => ?_⟩
     obtain ⟨H3, q, K3, et1⟩ := nob (.tup [.ref d1, .ref d2]) ht1; rw [q]; clear q
     obtain ⟨h1, g1, g2, f1, f2, ed1, ed2⟩ := lf7 K3 h1 g1 g2 f1 f2 ed1 ed2
     replace KT := KT.trans K3
     walk_at "v"
     refine ⟨by show 1 ≤ sizeLine; decide, fun rA hrA => ?_⟩
     have zrA : H rA = none := Same.none KT hrA
     obtain ⟨H4, q, K4, erA⟩ := nob (.lst [.ref t1]) hrA; rw [q]; clear q
     obtain ⟨h1, g1, g2, f1, f2, ed1, ed2, et1⟩ := lf8 K4 h1 g1 g2 f1 f2 ed1 ed2 et1
     replace KT := KT.trans K4
     walk_at "v"
     refine w_ixT g1 rfl ?_
     walk_at "v"
     refine w_ixT f1 rfl ?_
     walk_at "v"
     refine ⟨by show 3 ≤ sizeLine; decide, fun bA hbA => ?_⟩
     have zbA : H bA = none := Same.none KT hbA
     obtain ⟨H5, q, K5, ebA⟩ := nob (.lst [.int 0, .int a.plus, .int b.plus]) hbA; rw [q]; clear q
     obtain ⟨h1, g1, g2, f1, f2, ed1, ed2⟩ := lf7 K5 h1 g1 g2 f1 f2 ed1 ed2
     obtain ⟨et1, erA⟩ := lf2 K5 et1 erA
     replace KT := KT.trans K5
     walk_at "v"
     refine w_ixT h1 rfl ?_
     refine ⟨rfl, ?_⟩
     walk_at "v"
     refine iteFk (by decide) ?_
     walk_at "v"
     refine w_ixT h1 rfl ?_
     refine ⟨rfl, ?_⟩
     walk_at "v"
     refine iteFk (by decide) ?_
     walk_at "v"
     refine w_ixT h1 rfl ?_
     refine ⟨rfl, ?_⟩
     walk_at "v"
     refine iteFk (by decide) ?_
     walk_at "v"
     refine w_disp fun d5 hd5 => ?_
     obtain ⟨G6, q, M6, m6⟩ := nob (.dK []) hd5; rw [q]; clear q
     refine w_pairs ?_
     walk_at "v"
     refine w_pairs0 ?_
     refine ⟨m6, dcK [(0, 1)], rfl, by show 1 ≤ 15; decide, ?_⟩
     rw [show mergeK [] (dcK [(0, 1)]) = dcK [(0, 1)] from rfl]
     obtain ⟨H6, q, K6, ed5⟩ := nop (.dK (dcK [(0, 1)])) M6 hd5; rw [q]; clear q
     clear M6 m6
     obtain ⟨h1, g1, g2, f1, f2, ed1, ed2, et1⟩ := lf8 K6 h1 g1 g2 f1 f2 ed1 ed2 et1
     obtain ⟨erA, ebA⟩ := lf2 K6 erA ebA
     replace KT := KT.trans K6
     walk_at "v"
     refine w_disp fun d6 hd6 => ?_
     obtain ⟨G7, q, M7, m7⟩ := nob (.dK []) hd6; rw [q]; clear q
     refine w_pairs ?_
     walk_at "v"
     refine w_ixT (M7 _ _ g1) rfl ?_
     walk_at "v"
     refine w_ixT (M7 _ _ g2) rfl ?_
     walk_at "v"
     refine w_pairs0 ?_
     refine ⟨m7, dcK [(1, x0)], rfl, by show 1 ≤ 15; decide, ?_⟩
     rw [show mergeK [] (dcK [(1, x0)]) = dcK [(1, x0)] from rfl]
     obtain ⟨H7, q, K7, ed6⟩ := nop (.dK (dcK [(1, x0)])) M7 hd6; rw [q]; clear q
     clear M7 m7
     obtain ⟨h1, g1, g2, f1, f2, ed1, ed2, et1⟩ := lf8 K7 h1 g1 g2 f1 f2 ed1 ed2 et1
     obtain ⟨erA, ebA, ed5⟩ := lf3 K7 erA ebA ed5
     replace KT := KT.trans K7
     walk_at "v"
     refine ⟨by show 2 ≤ sizeLine; decide, fun t2 ht2 => ?_⟩
     obtain ⟨H8, q, K8, et2⟩ := nob (.tup [.ref d5, .ref d6]) ht2; rw [q]; clear q
     obtain ⟨h1, g1, g2, f1, f2, ed1, ed2, et1⟩ := lf8 K8 h1 g1 g2 f1 f2 ed1 ed2 et1
     obtain ⟨erA, ebA, ed5, ed6⟩ := lf4 K8 erA ebA ed5 ed6
     replace KT := KT.trans K8
     walk_at "v"
     refine w_disp fun d7 hd7 => ?_
     obtain ⟨G9, q, M9, m9⟩ := nob (.dK []) hd7; rw [q]; clear q
     refine w_pairs ?_
     walk_at "v"
     refine w_pairs0 ?_
     refine ⟨m9, dcK [(1, 2)], rfl, by show 1 ≤ 15; decide, ?_⟩
     rw [show mergeK [] (dcK [(1, 2)]) = dcK [(1, 2)] from rfl]
     obtain ⟨H9, q, K9, ed7⟩ := nop (.dK (dcK [(1, 2)])) M9 hd7; rw [q]; clear q
     clear M9 m9
     obtain ⟨h1, g1, g2, f1, f2, ed1, ed2, et1⟩ := lf8 K9 h1 g1 g2 f1 f2 ed1 ed2 et1
     obtain ⟨erA, ebA, ed5, ed6, et2⟩ := lf5 K9 erA ebA ed5 ed6 et2
     replace KT := KT.trans K9
     walk_at "v"
     refine w_disp fun d8 hd8 => ?_
     obtain ⟨G10, q, M10, m10⟩ := nob (.dK []) hd8; rw [q]; clear q
     refine w_pairs ?_
     walk_at "v"
     refine w_pairs0 ?_
     refine ⟨m10, dcK [(1, 1)], rfl, by show 1 ≤ 15; decide, ?_⟩
     rw [show mergeK [] (dcK [(1, 1)]) = dcK [(1, 1)] from rfl]
     obtain ⟨H10, q, K10, ed8⟩ := nop (.dK (dcK [(1, 1)])) M10 hd8; rw [q]; clear q
     clear M10 m10
     obtain ⟨h1, g1, g2, f1, f2, ed1, ed2, et1⟩ := lf8 K10 h1 g1 g2 f1 f2 ed1 ed2 et1
     obtain ⟨erA, ebA, ed5, ed6, et2, ed7⟩ := lf6 K10 erA ebA ed5 ed6 et2 ed7
     replace KT := KT.trans K10
     walk_at "v"
     refine ⟨by show 2 ≤ sizeLine; decide, fun t3 ht3 => ?_⟩
     obtain ⟨H11, q, K11, et3⟩ := nob (.tup [.ref d7, .ref d8]) ht3; rw [q]; clear q
     obtain ⟨h1, g1, g2, f1, f2, ed1, ed2, et1⟩ := lf8 K11 h1 g1 g2 f1 f2 ed1 ed2 et1
     obtain ⟨erA, ebA, ed5, ed6, et2, ed7, ed8⟩ := lf7 K11 erA ebA ed5 ed6 et2 ed7 ed8
     replace KT := KT.trans K11
     walk_at "v"
     refine ⟨by show 2 ≤ sizeLine; decide, fun rl hrl => ?_⟩
     have zrl : H rl = none := Same.none KT hrl
     obtain ⟨H12, q, K12, erl⟩ := nob (.lst [.ref t2, .ref t3]) hrl; rw [q]; clear q
     obtain ⟨h1, g1, g2, f1, f2, ed1, ed2, et1⟩ := lf8 K12 h1 g1 g2 f1 f2 ed1 ed2 et1
     obtain ⟨erA, ebA, ed5, ed6, et2, ed7, ed8, et3⟩ := lf8 K12 erA ebA ed5 ed6 et2 ed7 ed8 et3
     replace KT := KT.trans K12
     walk_at "v"
     refine w_ixT g1 rfl ?_
     walk_at "v"
     refine ⟨by show 2 ≤ sizeLine; decide, fun bl hbl => ?_⟩
     have zbl : H bl = none := Same.none KT hbl
     obtain ⟨H13, q, K13, ebl⟩ := nob (.lst [.int 0, .int a.plus]) hbl; rw [q]; clear q
     obtain ⟨h1, g1, g2, f1, f2, ed1, ed2, et1⟩ := lf8 K13 h1 g1 g2 f1 f2 ed1 ed2 et1
     obtain ⟨erA, ebA, ed5, ed6, et2, ed7, ed8⟩ := lf7 K13 erA ebA ed5 ed6 et2 ed7 ed8
     obtain ⟨et3, erl⟩ := lf2 K13 et3 erl
     replace KT := KT.trans K13
     walk_at "v"
     have nrb : rl ≠ bl := fun z => by subst z; rw [ebl] at erl; cases erl
     refine ⟨by show 3 ≤ sizeLine; decide, fun rr hrr => ?_⟩
     obtain ⟨H14, q, K14, err⟩ := nob (.tup [.ref rl, .ref bl, .int 1]) hrr; rw [q]; clear q
     obtain ⟨h1, g1, g2, f1, f2, ed1, ed2, et1⟩ := lf8 K14 h1 g1 g2 f1 f2 ed1 ed2 et1
     obtain ⟨erA, ebA, ed5, ed6, et2, ed7, ed8, et3⟩ := lf8 K14 erA ebA ed5 ed6 et2 ed7 ed8 et3
     obtain ⟨erl, ebl⟩ := lf2 K14 erl ebl
     replace KT := KT.trans K14
     exact k rr rl bl [([(0, 1)], [(1, x0)]), ([(1, 2)], [(1, 1)])] [0, a.plus] 1 _ KT err ⟨[t2, t3], erl, ⟨⟨d5, d6, et2, ed5, ed6⟩, ⟨⟨d7, d8, et3, ed7, ed8⟩, trivial⟩⟩⟩ ebl (by refine ⟨by simp, by simp, by (repeat (first | exact so_nil | exact dc_nil | refine so_cons ?_ ?_ ?_ | refine dc_cons ⟨by omega, by omega⟩ ?_)), by simp, by simp, fun x hx => by simp only [List.mem_cons, List.not_mem_nil, or_false] at hx; omega, by decide, by simp⟩) zrl zbl nrb
end
end K41
namespace L2
open PySem PySem.Spec PyProof.Rows
section
variable {X : Cx} {pos : Pos}
def gLs2 (t : TGs) : TG := fun v σ H Q => ∃ a x y, v = .ref a ∧ H a = some (.lst [x, y]) ∧ t [x, y] σ H Q
theorem pg_lst2 {es : List Expr} {k : Nat} {t : TGs} (hc : X.calm = true) (h : PGs X es t)
  (hn : (assignEach es X.env).length = 2 := by rfl) (hst : (assignEach es X.env).findIdx? (·.1) = none := by rfl) : PG X (.Tuple es k pos) (gLs2 t) := by
 intro pins s σ H v u Q I r hw
 obtain ⟨a, x, y, e1, hq, hw⟩ := hw
 subst e1
 cases r
 obtain ⟨its, rv, p, hz⟩ := I.list (SqL.of hq)
 obtain ⟨f0, f1, f2, f3, f4, f5⟩ := I.fpOk (Nat.le_refl _) (I.hok.fresh (Nat.le_refl _))
 rw [PyProof.Rows.assign_Tuple]
 refine wpAny_bind (wpAny_standAt ?_)
 unfold unpack
 rw [hst, hn]
 refine wpAny_bind (wpAny_holding ?_)
 unfold unpackItems notIterableAtAll
 refine wpAny_bind ?_
 refine wpAny_bind (wpAny_specialOf p.isList.typeIs PySem.F.slot_list_iter.lookup ?_)
 rw [if_pos (show (some (Value.builtin "list.__iter__")).isSome = true from rfl)]
 refine wpAny_pure ?_
 dsimp only
 rw [if_neg (show ¬ (false = true) by decide)]
 refine wpAny_bind (wpAny_holding (wpAny_pyIter_list p.isList ?_))
 have I1 : Inv X pins σ H { s with heap := s.heap.push { cls := Value.type "list_iterator", data := Data.fields #[Value.ref a, Value.int 0 0] } } := I.kept (t' := s.toks) fun b o e => Heap.get?_push_of_some _ e
 have st : (s.heap.push { cls := Value.type "list_iterator", data := Data.fields #[Value.ref a, Value.int 0 0] }).IsListIter s.heap.objs.size a 0 := ⟨_, Heap.get?_push_size _ rfl, rfl, rfl⟩
 obtain ⟨its1, rv1, p1, _⟩ := I1.list (SqL.of hq)
 obtain ⟨u1, u1', rfl, r1, _⟩ := rv1.two
 refine wpAny_bind (wpAny_holding ?_)
 rw [show (2 : Nat) = Nat.succ 1 from rfl, draw.eq_2]
 refine wpAny_bind (wpAny_pyNext_list_item st p1.isList (x := u1) rfl fun h1 st1 sb1 => ?_)
 have I2 : Inv X pins σ H { s with heap := h1 } := I1.turned (t' := s.toks) (fun b o hb e => (sb1.2 b hb).trans e) f0 f1 f3 f4 f5
 obtain ⟨its2, rv2, p2, _⟩ := I2.list (SqL.of hq)
 obtain ⟨u2', u2, rfl, _, r2⟩ := rv2.two
 dsimp only
 refine wpAny_bind (wpAny_holding ?_)
 rw [show (1 : Nat) = Nat.succ 0 from rfl, draw.eq_2]
 refine wpAny_bind (wpAny_pyNext_list_item st1 p2.isList (x := u2) rfl fun h2 st2 sb2 => ?_)
 have I3 : Inv X pins σ H { s with heap := h2 } := I2.turned (t' := s.toks) (fun b o hb e => (sb2.2 b hb).trans e) f0 f1 f3 f4 f5
 obtain ⟨its3, rv3, p3, _⟩ := I3.list (SqL.of hq)
 have l3 := rv3.length
 dsimp only
 refine wpAny_bind (wpAny_holding ?_)
 rw [draw.eq_1]
 refine wpAny_pure ?_
 refine wpAny_pure ?_
 refine wpAny_pure ?_
 rw [if_neg (by simp)]
 refine wpAny_bind (wpAny_holding (wpAny_pyNext_list_end (I.ok.hd hc) st2 p3.isList (by simp at l3 ⊢; omega) fun h' eb => ?_))
 have I4 : Inv X pins σ H { s with heap := h' } := I3.turned (t' := s.toks) (fun b o hb e => eb b o hb e) f0 f1 f3 f4 f5
 dsimp only
 rw [if_neg (by simp)]
 refine wpAny_pure ?_
 exact h pins _ σ H [x, y] _ Q I4 (.cons r1 (.cons r2 .nil)) hw
end
end L2
namespace K41
open PySem L2 G2
local macro_rules | `(tactic| walk_at "v") => `(tactic| repeat (with_reducible first
  | refine w_seq ?_ | refine w_asg ?_ | refine w_gname ?_ | refine w_op ?_ | refine w_var rfl ?_ | refine w_c ?_ | refine w_rI0 ?_ | refine w_ifs ?_ | refine w_ife ?_ | refine w_test ?_ | refine w_tb ?_ | refine w_bl ?_ | refine w_not ?_ | refine w_ret ?_ | refine w_retN ?_
  | refine w_nil ?_ | refine w_cons ?_ | refine w_lst ?_ | refine w_tup ?_ | refine w_cb ?_ | refine w_call ?_ | refine w_gsub ?_ | refine w_and ?_ | refine w_or ?_ | refine w_next ?_ | refine w_all ?_ | refine w_vals ?_ | refine w_compR ?_ | refine w_compT ?_ | refine w_forR ?_ | refine w_forT ?_ | refine w_forL ?_ | refine w_drop ?_ | refine w_bm ?_ | refine w_compZ ?_ | refine w_compL ?_ | refine w_chain ?_ | refine w_sl ?_ | refine w_nopart ?_ | refine w_part ?_ | refine w_unI ?_ | refine iteT ?_ | refine iteF ?_))
abbrev sBe : Stmt := top 31
abbrev nBe : List Str := ["_law_feed_here", "_law_rules", "_law_begin_here", "_law_way", "_law_side"]
theorem nmBe : Nm nBe (defScope sBe) := ⟨by decide +kernel, by decide +kernel⟩
theorem scBe : FnScope nBe ["_law_feed_here", "_law_rules", "_law_begin_here"] (defScope sBe) := ⟨rfl, rfl, rfl, by decide +kernel, rfl, by decide +kernel, by decide +kernel⟩
structure KD (H H' : Hp) : Prop where
 t : ∀ q xs, H q = some (.tup xs) → H' q = some (.tup xs)
 d : ∀ q kvs, H q = some (.dK kvs) → H' q = some (.dK kvs)
section
variable {H H' H'' : Hp} {a : Addr} {o : HO}
theorem KD.same (k : Same H H') : KD H H' := ⟨fun _ _ e => k _ _ e, fun _ _ e => k _ _ e⟩
theorem KD.lst {ys : List V} (h : H a = some (.lst ys)) : KD H (upd H a o) := ⟨fun q xs e => by rw [upd_ne (ne_of e h (by intro z; cases z))]; exact e, fun q xs e => by rw [upd_ne (ne_of e h (by intro z; cases z))]; exact e⟩
theorem SdAt.kd {r : Addr} {s : Dc × Dc} (k : KD H H') : SdAt H r s → SdAt H' r s
 | ⟨d1, d2, h1, h2, h3⟩ => ⟨d1, d2, k.t _ _ h1, k.d _ _ h2, k.d _ _ h3⟩
theorem Sds.kd (k : KD H H') : ∀ {rs : List Addr} {ss : List (Dc × Dc)}, Sds H rs ss → Sds H' rs ss
 | [], [], _ => trivial
 | q :: qs, f :: fs, h => ⟨h.1.kd k, Sds.kd k h.2⟩
 | [], _ :: _, h => h.elim
 | _ :: _, [], h => h.elim
theorem Sds.len : ∀ {rs : List Addr} {ss : List (Dc × Dc)}, Sds H rs ss → rs.length = ss.length
 | [], [], _ => rfl
 | q :: qs, f :: fs, h => by rw [List.length_cons, List.length_cons, Sds.len h.2]
 | [], _ :: _, h => h.elim
 | _ :: _, [], h => h.elim
theorem Sds.at : ∀ {rs : List Addr} {ss : List (Dc × Dc)}, Sds H rs ss → ∀ (i : Nat) (q : Addr), rs[i]? = some q → ∃ s, ss[i]? = some s ∧ SdAt H q s
 | [], [], _, i, q, e => by simp at e
 | q :: qs, f :: fs, h, 0, q', e => by
  simp at e
  subst e
  exact ⟨f, rfl, h.1⟩
 | q :: qs, f :: fs, h, i + 1, q', e => by
  obtain ⟨c, h1, h2⟩ := Sds.at h.2 i q' (by simpa using e)
  exact ⟨c, by simpa using h1, h2⟩
 | [], _ :: _, h, _, _, _ => h.elim
 | _ :: _, [], h, _, _, _ => h.elim
theorem Sds.erase : ∀ {rs : List Addr} {ss : List (Dc × Dc)} (j : Nat), Sds H rs ss → Sds H (rs.eraseIdx j) (ss.eraseIdx j)
 | [], [], _, _ => trivial
 | q :: qs, f :: fs, 0, h => h.2
 | q :: qs, f :: fs, j + 1, h => ⟨h.1, Sds.erase j h.2⟩
 | [], _ :: _, _, h => h.elim
 | _ :: _, [], _, h => h.elim
theorem Sds.set {q0 : Addr} {s0 : Dc × Dc} (h0 : SdAt H q0 s0) : ∀ {rs : List Addr} {ss : List (Dc × Dc)} (j : Nat), Sds H rs ss → Sds H (rs.set j q0) (ss.set j s0)
 | [], [], _, _ => trivial
 | q :: qs, f :: fs, 0, h => ⟨h0, h.2⟩
 | q :: qs, f :: fs, j + 1, h => ⟨h.1, Sds.set h0 j h.2⟩
 | [], _ :: _, _, h => h.elim
 | _ :: _, [], _, h => h.elim
end
theorem map_eraseR : ∀ (k : Nat) (xs : List Addr), (xs.map V.ref).eraseIdx k = (xs.eraseIdx k).map V.ref
 | _, [] => by simp
 | 0, x :: xs => rfl
 | k + 1, x :: xs => by
  show V.ref x :: (xs.map V.ref).eraseIdx k = V.ref x :: (xs.eraseIdx k).map V.ref
  rw [map_eraseR k xs]
structure BI (p l rl bl : Addr) (ms : List Int) (H0 H : Hp) (n b : Nat) (e : Prop) : Prop where
 tp : Tq H p l ms n
 sx : ∃ (rs : List Addr) (ss : List (Dc × Dc)), H rl = some (.lst (rs.map V.ref)) ∧ Sds H rs ss ∧ ss.length ≤ 3 ∧ (∀ s ∈ ss, DcOk s.1 ∧ DcOk s.2) ∧ (e → 0 < ss.length)
 bx : ∃ bs : List Int, H bl = some (.lst (bs.map V.int)) ∧ bs.length = b ∧ ∀ x ∈ bs, 0 ≤ x ∧ x ≤ 9
 b3 : ∀ q o, q ≠ p → q ≠ rl → q ≠ bl → H0 q = some o → H q = some o
structure Apart (p l rl bl : Addr) : Prop where
 a : p ≠ rl
 b : p ≠ bl
 c : l ≠ rl
 d : l ≠ bl
 e : rl ≠ bl
section
variable {p l rl bl : Addr} {ms : List Int} {H0 H H' : Hp} {n n' b : Nat} {e : Prop}
theorem BI.draw (B : BI p l rl bl ms H0 H n b e) (A : Apart p l rl bl) {c d f : Int} (h0 : 0 ≤ f) (h1 : f ≤ (n' : Int)) : BI p l rl bl ms H0 (upd H p (.lst [.ref l, .int c, .int d, .int f])) n' b e := by
 obtain ⟨rs, ss, s1, s2, s3⟩ := B.sx
 obtain ⟨bs, t1, t2⟩ := B.bx
 obtain ⟨_, _, _, hp, _⟩ := B.tp.ex
 exact ⟨B.tp.draw h0 h1, ⟨rs, ss, by rw [upd_ne (Ne.symm A.a)]; exact s1, s2.kd (KD.lst hp), s3⟩, ⟨bs, by rw [upd_ne (Ne.symm A.b)]; exact t1, t2⟩, fun q o q1 q2 q3 h => by rw [upd_ne q1]; exact B.b3 q o q1 q2 q3 h⟩
theorem BI.same (B : BI p l rl bl ms H0 H n b e) (k : Same H H') : BI p l rl bl ms H0 H' n b e := by
 obtain ⟨rs, ss, s1, s2, s3⟩ := B.sx
 obtain ⟨bs, t1, t2⟩ := B.bx
 exact ⟨B.tp.same k, ⟨rs, ss, k _ _ s1, s2.kd (KD.same k), s3⟩, ⟨bs, k _ _ t1, t2⟩, fun q o q1 q2 q3 h => k _ _ (B.b3 q o q1 q2 q3 h)⟩
theorem BI.up (B : BI p l rl bl ms H0 H n b e) (h : n ≤ n') : BI p l rl bl ms H0 H n' b e := ⟨B.tp.up h, B.sx, B.bx, B.b3⟩
theorem BI.setB (B : BI p l rl bl ms H0 H n b e) (A : Apart p l rl bl) {bs : List Int} (hb : H bl = some (.lst (bs.map V.int))) (bs' : List Int) (hl : bs'.length = b) (hx : ∀ x ∈ bs', 0 ≤ x ∧ x ≤ 9) : BI p l rl bl ms H0 (upd H bl (.lst (bs'.map V.int))) n b e := by
 obtain ⟨rs, ss, s1, s2, s3⟩ := B.sx
 exact ⟨B.tp.put A.b A.d, ⟨rs, ss, by rw [upd_ne A.e]; exact s1, s2.kd (KD.lst hb), s3⟩, ⟨bs', upd_same, hl, hx⟩, fun q o q1 q2 q3 h => by rw [upd_ne q3]; exact B.b3 q o q1 q2 q3 h⟩
theorem BI.setR (B : BI p l rl bl ms H0 H n b e) (A : Apart p l rl bl) {ys : List V} (hr : H rl = some (.lst ys)) {e' : Prop} (rs : List Addr) (ss : List (Dc × Dc)) (h1 : Sds H rs ss) (h2 : ss.length ≤ 3) (h3 : ∀ s ∈ ss, DcOk s.1 ∧ DcOk s.2) (h4 : e' → 0 < ss.length) : BI p l rl bl ms H0 (upd H rl (.lst (rs.map V.ref))) n b e' := by
 obtain ⟨bs, t1, t2⟩ := B.bx
 exact ⟨B.tp.put A.a A.c, ⟨rs, ss, upd_same, h1.kd (KD.lst hr), h2, h3, h4⟩, ⟨bs, by rw [upd_ne (Ne.symm A.e)]; exact t1, t2⟩, fun q o q1 q2 q3 h => by rw [upd_ne q2]; exact B.b3 q o q1 q2 q3 h⟩
end
theorem ixM {k : Nat} (h : 0 < k) : ixN k (-1) = some (k - 1) := by
 unfold ixN
 rw [if_neg (by decide), if_pos (by omega)]
 congr 1
 omega
def spBe : Sp := fun vs H Q _ => ∃ (p l rl bl : Addr) (ms : List Int) (n b : Nat), vs = [.ref p, .ref rl, .ref bl] ∧ BI p l rl bl ms H H n b True ∧ Apart p l rl bl ∧ n ≤ 90000 ∧ 0 < b ∧ b ≤ 5 ∧ ∀ H', BI p l rl bl ms H H' (n + 4) b False → Q (.ref rl) H'
section
variable {P : Program} {w : World} {K : PySem.W.Frag} {mg : Str → Option Value} {base : Heap}
set_option maxHeartbeats 4000000 in
theorem ok_Be {f : Addr} {fd : FuncData} (B : Blt mg) (dct : mg "dict" = none) (D : Has P w K mg base 1 "_law_draw" ["_law_feed_here", "_law_many"] spDraw) (F : Fun K "_law_bent" "_law_bent" sBe f fd) : FnOk P w K mg base CX0 2 f fd ["_law_feed_here", "_law_rules", "_law_begin_here"] spBe := by
 refine F.ok scBe (fun vs H Q E h => ?_) (fun cdv A outer s H vs Q E hr h => ?_)
 ·obtain ⟨p, l, rl, bl, ms, n, b, rfl, _⟩ := h
  rfl
 ·obtain ⟨p, l, rl, bl, ms, n, b, rfl, B0, A0, hn, b0, b5, k⟩ := h
  refine' ⟨_, ?hb, ?rd⟩
  case hb =>
   refine' pss_cons ?s1 ?r1
   case' r1 => refine' pss_cons ?s2 ?r2
   case' r2 => refine' pss_cons ?s3 ?r3
   case' r3 => refine' pss_cons ?s4 ?r4
   case' r4 => refine' pss_one ?s5
   case s1 => exact ps_setD nmBe 3 (pe_f D hr (by decide) (pa_2 (pvd nmBe 0) pe_int))
   case s2 =>
    refine' ps_if (pt_cmpR op_eq (pvd nmBe 3) pe_int (nomark _)) ?a1 pss_nil
    case' a1 => refine' pss_one ?a2
    case a2 => exact ps_asg (pe_f D hr (by decide) (pa_2 (pvd nmBe 0) pe_int)) (pg_sub (pvd nmBe 2) (pe_f D hr (by decide) (pa_2 (pvd nmBe 0) (pe_cB call_lnL B.len PySem.boot_len (pa_1 (pvd nmBe 2))))) set_d)
   case s3 =>
    refine' ps_if (pt_cmpR op_eq (pvd nmBe 3) pe_int (nomark _)) ?c1 pss_nil
    case' c1 => refine' pss_one ?c2
    case' c2 => refine' ps_expr ?c3
    case' c3 => refine' pe_bm PySem.F.plainAttrs_list PySem.F.slot_list_pop PySem.F.type_list_pop mt_popAt (pvd nmBe 1) ?c4
    case c4 => exact pa_1 (pe_f D hr (by decide) (pa_2 (pvd nmBe 0) (pe_cB call_lnL B.len PySem.boot_len (pa_1 (pvd nmBe 1)))))
   case s4 =>
    refine' ps_if ?d1 ?d2 pss_nil
    case' d1 => refine' PW.pt ?d3
    case' d3 => refine' pw_and (pt_cmpR op_gt (pvd nmBe 3) pe_int (nomark _)) ?d4
    case' d4 => refine' pw_and1 ?d5
    case d5 => exact pt_cmpR (op_neE hr) (pvd nmBe 1) (pe_lst pa_nil) (nomark _)
    case' d2 => refine' pss_cons ?d6 ?d7
    case' d6 => refine' ps_setD nmBe 4 ?d8
    case' d8 => refine' pe_cT call_dictC dct PyProof.Rows.boot_dict ?d9
    case' d9 => refine' pa_1 ?da
    case da => exact pe_ix ix_d (pe_ix ix_d (pvd nmBe 1) (pe_f D hr (by decide) (pa_2 (pvd nmBe 0) (pe_cB call_lnL B.len PySem.boot_len (pa_1 (pvd nmBe 1))))) (fun _ _ => rfl)) (pe_f D hr (by decide) (pa_2 (pvd nmBe 0) pe_int)) (fun _ _ => rfl)
    case' d7 => refine' pss_one ?db
    case' db => refine' ps_asg ?dc (pg_sub (pvd nmBe 1) (pe_un un_neg pe_int) set_d)
    case' dc => refine' pe_tup ?dd
    case dd => exact pa_2 (pe_ix ix_d (pe_ix ix_d (pvd nmBe 1) (pe_un un_neg pe_int) (fun _ _ => rfl)) pe_int (fun _ _ => rfl)) (pvd nmBe 4)
   case s5 => exact ps_ret (pvd nmBe 1)
  case rd =>
   walk_at "v"
   refine ⟨p, l, ms, _, 4, rfl, B0.tp, by omega, by decide, by decide, fun w c e f w0 w1 f0 f1 => ?_⟩
   have B1 := B0.draw (n' := n + 1) A0 (c := c) (d := e) (f := f) f0 f1
   generalize upd H p (.lst [.ref l, .int c, .int e, .int f]) = H1 at B1 ⊢
   refine w_gname ?_
   with_reducible refine seq_post (fun σ' H' => ∃ (u4 : Option V), σ' = [some (.ref p), some (.ref rl), some (.ref bl), some (.int w), u4] ∧ BI p l rl bl ms H H' (n + 3) b True ∧ (w = 0 ∨ BI p l rl bl ms H H' (n + 1) b True)) ?_ fun rest => ?_
   ·rintro σ' H2 ⟨u4, rfl, B2, hw⟩
    with_reducible refine seq_post (fun σ' H' => ∃ (u4 : Option V), σ' = [some (.ref p), some (.ref rl), some (.ref bl), some (.int w), u4] ∧ BI p l rl bl ms H H' (n + 4) b False ∧ (w ≤ 1 ∨ BI p l rl bl ms H H' (n + 1) b True)) ?_ fun rest2 => ?_
    ·rintro σ' H3 ⟨u4, rfl, B3, hw3⟩
     with_reducible refine seq_post (fun σ' H' => ∃ (u4 : Option V), σ' = [some (.ref p), some (.ref rl), some (.ref bl), some (.int w), u4] ∧ BI p l rl bl ms H H' (n + 4) b False) ?_ fun rest3 => ?_
     ·rintro σ' H4 ⟨u4, rfl, B4⟩
      walk_at "v"
      exact k _ B4
     ·walk_at "v"
      refine iteD (fun h2 => ?_) (fun _ => ?_)
      ·have B3' : BI p l rl bl ms H H3 (n + 1) b True := by
        rcases hw3 with h | h
        ·omega
        ·exact h
       obtain ⟨rs, ss, s1, s2, s3, s4, s5⟩ := id B3'.sx
       have s6 := s5 trivial
       have hrl := s2.len
       walk_at "v"
       refine ⟨Nat.zero_le _, fun z hz => ?_⟩
       obtain ⟨HZ, q, KZ, ez⟩ := nob (.lst []) hz; rw [q]; clear q
       have BZ := B3'.same KZ
       have s1Z := KZ _ _ s1
       have s2Z := s2.kd (KD.same KZ)
       refine ⟨rl, z, _, rfl, rfl, s1Z, ez, ?_⟩
       walk_at "v"
       rw [show (!(rs.map V.ref).isEmpty) = true by cases rs with | nil => simp at hrl; omega | cons => rfl]
       walk_at "v"
       refine ⟨rl, _, rfl, s1Z, ?_⟩
       rw [List.length_map]
       refine ⟨p, l, ms, _, rs.length, rfl, BZ.tp, by omega, by omega, by omega, fun r c e f r0 r1 f0 f1 => ?_⟩
       obtain ⟨_, _, _, hpz, _⟩ := BZ.tp.ex
       have BY := BZ.draw (n' := n + 2) A0 (c := c) (d := e) (f := f) f0 (by omega)
       have s1Y : upd HZ p (.lst [.ref l, .int c, .int e, .int f]) rl = some (.lst (rs.map V.ref)) := by rw [upd_ne (Ne.symm A0.a)]; exact s1Z
       have s2Y := s2Z.kd (KD.lst (o := .lst [.ref l, .int c, .int e, .int f]) hpz)
       generalize upd HZ p (.lst [.ref l, .int c, .int e, .int f]) = HY at BY s1Y s2Y ⊢
       obtain ⟨j, rfl⟩ := ofI r0
       have hj : j < rs.length := by omega
       obtain ⟨s, hs, d1, d2, g1, g2, g3⟩ := s2Y.at j rs[j] (by simp [hj])
       refine w_ixL (v := .ref rs[j]) s1Y (atI_nat (by simp [hj])) ?_
       walk_at "v"
       refine ⟨p, l, ms, _, 2, rfl, BY.tp, by omega, by decide, by decide, fun r c e f r0 r1 f0 f1 => ?_⟩
       obtain ⟨_, _, _, hpy, _⟩ := BY.tp.ex
       have BX := BY.draw (n' := n + 3) A0 (c := c) (d := e) (f := f) f0 (by omega)
       have kx : KD HY (upd HY p (.lst [.ref l, .int c, .int e, .int f])) := KD.lst hpy
       have s1X : upd HY p (.lst [.ref l, .int c, .int e, .int f]) rl = some (.lst (rs.map V.ref)) := by rw [upd_ne (Ne.symm A0.a)]; exact s1Y
       have s2X := s2Y.kd kx
       have g1X := kx.t _ _ g1
       have g2X := kx.d _ _ g2
       have g3X := kx.d _ _ g3
       generalize upd HY p (.lst [.ref l, .int c, .int e, .int f]) = HX at BX s1X s2X g1X g2X g3X ⊢
       have sok := s4 s (List.mem_of_getElem? hs)
       obtain ⟨dd, dk, hat, hdd, hdk⟩ : ∃ (dd : Addr) (dk : Dc), atI [V.ref d1, V.ref d2] r = some (.ref dd) ∧ HX dd = some (.dK (dcK dk)) ∧ DcOk dk := by
        have hr2 : r = 0 ∨ r = 1 := by omega
        rcases hr2 with rfl | rfl
        ·exact ⟨d1, s.1, rfl, g2X, sok.1⟩
        ·exact ⟨d2, s.2, rfl, g3X, sok.2⟩
       refine w_ixT g1X hat ?_
       refine ⟨dd, _, rfl, hdd, fun nd hnd => ?_⟩
       obtain ⟨HN, q, KN, en⟩ := nob (.dK (dcK dk)) hnd; rw [q]; clear q
       have hlast : rs.length - 1 < rs.length := by omega
       obtain ⟨s', hs', e1, e2, k1, k2, k3⟩ := s2X.at (rs.length - 1) rs[rs.length - 1] (by simp)
       walk_at "v"
       refine ⟨_, rfl, ?_⟩
       refine w_ixL (v := .ref rs[rs.length - 1]) (KN _ _ s1X) (by unfold atI; rw [List.length_map, ixM (by omega)]; simp [hlast]) ?_
       walk_at "v"
       refine w_ixT (KN _ _ k1) rfl ?_
       walk_at "v"
       refine ⟨by show 2 ≤ sizeLine; decide, fun tq htq => ?_⟩
       have KT2 := KN.new (o := .tup [.ref e1, .ref nd]) htq
       have KTn : Same HN (upd HN tq (.tup [.ref e1, .ref nd])) := Same.new (Same.refl _) htq
       have et : upd HN tq (.tup [.ref e1, .ref nd]) tq = some (.tup [.ref e1, .ref nd]) := upd_same
       have en2 := KTn _ _ en
       generalize upd HN tq (.tup [.ref e1, .ref nd]) = HT at KT2 et en2 ⊢
       walk_at "v"
       refine ⟨_, rfl, ?_⟩
       have BT := BX.same KT2
       have s1T := KT2 _ _ s1X
       refine w_set s1T (ixM (by rw [List.length_map]; omega)) ?_
       have hset : (rs.map V.ref).set ((rs.map V.ref).length - 1) (.ref tq) = (rs.set (rs.length - 1) tq).map V.ref := by rw [List.map_set, List.length_map]
       rw [hset]
       have sok' := s4 s' (List.mem_of_getElem? hs')
       refine rest3 _ _ ⟨_, rfl, (BT.setR A0 s1T (e' := False) (rs.set (rs.length - 1) tq) (ss.set (rs.length - 1) (s'.1, dk)) (Sds.set (q0 := tq) (s0 := (s'.1, dk)) ⟨e1, nd, et, KT2 _ _ k2, en2⟩ _ (s2X.kd (KD.same KT2))) (by rw [List.length_set]; exact s3) (fun x hx => ?_) (fun z => z.elim)).up (by omega)⟩
       rcases List.mem_or_eq_of_mem_set hx with h | h
       ·exact s4 x h
       ·rw [h]
        exact ⟨sok'.1, hdk⟩
      ·refine iteF ?_
       exact rest3 _ _ ⟨_, rfl, B3⟩
    ·walk_at "v"
     refine ⟨rfl, ?_⟩
     walk_at "v"
     refine iteD (fun h1 => ?_) (fun h1 => ?_)
     ·have hw1 := V.int.inj h1
      obtain ⟨rs, ss, s1, s2, s3, s4, s5⟩ := id B2.sx
      have s6 := s5 trivial
      have hrl := s2.len
      walk_at "v"
      refine ⟨.inl ⟨rfl, _, SqL.of s1⟩, ?_⟩
      walk_at "v"
      refine ⟨rl, _, rfl, s1, ?_⟩
      rw [List.length_map]
      refine ⟨p, l, ms, _, rs.length, rfl, B2.tp, by omega, by omega, by omega, fun r c e f r0 r1 f0 f1 => ?_⟩
      obtain ⟨_, _, _, hp2, _⟩ := B2.tp.ex
      have BY := B2.draw (n' := n + 4) A0 (c := c) (d := e) (f := f) f0 (by omega)
      have s1Y : upd H2 p (.lst [.ref l, .int c, .int e, .int f]) rl = some (.lst (rs.map V.ref)) := by rw [upd_ne (Ne.symm A0.a)]; exact s1
      have s2Y := s2.kd (KD.lst (o := .lst [.ref l, .int c, .int e, .int f]) hp2)
      generalize upd H2 p (.lst [.ref l, .int c, .int e, .int f]) = HY at BY s1Y s2Y ⊢
      obtain ⟨j, rfl⟩ := ofI r0
      have hj : j < rs.length := by omega
      have hix : ixN (rs.map V.ref).length (j : Int) = some j := by
       rw [List.length_map]
       unfold ixN
       rw [if_pos r0, if_pos r1]
       rfl
      refine ⟨rl, _, _, j, .ref rs[j], rfl, rfl, s1Y, by omega, by omega, (ixN_seq hix).1, by simp [hj], ?_⟩
      rw [map_eraseR]
      refine rest2 _ _ ⟨_, rfl, BY.setR A0 s1Y (e' := False) (rs.eraseIdx j) (ss.eraseIdx j) (s2Y.erase j) ?_ (fun x hx => s4 x (List.mem_of_mem_eraseIdx hx)) (fun z => z.elim), .inl (by omega)⟩
      have := List.length_eraseIdx_le ss j
      omega
     ·have hw1 : w ≠ 1 := fun z => h1 (congrArg V.int z)
      refine rest2 _ _ ⟨_, rfl, ?_, ?_⟩
      ·obtain ⟨rs, ss, s1, s2, s3, s4, s5⟩ := id B2.sx
       exact ⟨B2.tp.up (by omega), ⟨rs, ss, s1, s2, s3, s4, fun z => z.elim⟩, B2.bx, B2.b3⟩
      ·rcases hw with h | h
       ·exact .inl (by omega)
       ·exact .inr h
   ·walk_at "v"
    refine ⟨rfl, ?_⟩
    walk_at "v"
    refine iteD (fun h1 => ?_) (fun h1 => ?_)
    ·have hw0 := V.int.inj h1
     walk_at "v"
     refine ⟨p, l, ms, _, 3, rfl, B1.tp, by omega, by decide, by decide, fun r c e f r0 r1 f0 f1 => ?_⟩
     have B2 := B1.draw (n' := n + 2) A0 (c := c) (d := e) (f := f) f0 (by omega)
     generalize upd H1 p (.lst [.ref l, .int c, .int e, .int f]) = H2 at B2 ⊢
     obtain ⟨bs, t1, t2, t3⟩ := id B2.bx
     walk_at "v"
     refine ⟨bl, _, rfl, t1, ?_⟩
     rw [List.length_map]
     refine ⟨p, l, ms, _, bs.length, rfl, B2.tp, by omega, by omega, by omega, fun r' c e f r0' r1' f0 f1 => ?_⟩
     have B3 := B2.draw (n' := n + 3) A0 (c := c) (d := e) (f := f) f0 (by omega)
     have t1' : upd H2 p (.lst [.ref l, .int c, .int e, .int f]) bl = some (.lst (bs.map V.int)) := by rw [upd_ne (Ne.symm A0.b)]; exact t1
     generalize upd H2 p (.lst [.ref l, .int c, .int e, .int f]) = H3 at B3 t1' ⊢
     refine w_set t1' (ixK r0' (by rw [List.length_map]; exact r1')) ?_
     rw [← List.map_set]
     refine rest _ _ ⟨_, rfl, B3.setB A0 t1' (bs.set r'.toNat r) (by rw [List.length_set]; exact t2) (fun x hx => ?_), .inl hw0⟩
     rcases List.mem_or_eq_of_mem_set hx with h | h
     ·exact t3 x h
     ·rw [h]
      omega
    ·exact rest _ _ ⟨_, rfl, B1.up (by omega), .inr B1⟩
end
abbrev sPo : Stmt := top 32
abbrev nPo : List Str := ["_law_feed_here", "_law_pot_here", "_law_ask_here", "_law_rules", "_law_begin_here", "_law_answer", "_law_many", "_law_told", "_law_sides", "_law_takes", "_law_gives"]
theorem nmPo : Nm nPo (defScope sPo) := ⟨by decide +kernel, by decide +kernel⟩
theorem scPo : FnScope nPo ["_law_feed_here"] (defScope sPo) := ⟨rfl, rfl, rfl, by decide +kernel, rfl, by decide +kernel, by decide +kernel⟩
def forBody (s : Stmt) : List Stmt := match s with
 | .For _ _ b _ _ => b
 | _ => []
def asgO (s : Stmt) : Scope := match s with
 | .Assign _ (.ListComp _ _ sc _) _ => sc
 | _ => { kind := .function, names := [], isGenerator := false, isCoroutine := false }
def asgI (s : Stmt) : Scope := match s with
 | .Assign _ (.ListComp (.Call _ [.ListComp _ _ sc _] _ _) _ _ _) _ => sc
 | _ => { kind := .function, names := [], isGenerator := false, isCoroutine := false }
abbrev bPo : List Stmt := forBody ((defBody sPo).getD 6 (.Pass ⟨0, 0, 0, 0⟩))
abbrev cPoO : Scope := asgO (bPo.getD 0 (.Pass ⟨0, 0, 0, 0⟩))
abbrev cPoI : Scope := asgI (bPo.getD 0 (.Pass ⟨0, 0, 0, 0⟩))
theorem nbPo : NBScope (defScope sPo) cPoO ["_law_side"] ["_law_many"] ["tuple", "range"] := { okind := by decide +kernel, kind := by decide +kernel, names := by decide +kernel, clN := by decide +kernel, fr := by decide +kernel, ff := by decide +kernel, nd := by decide +kernel, vis := by decide +kernel, loc := by decide +kernel, gl := by decide +kernel }
theorem bsPoI : BScope (relabelS cPoO (defScope sPo)) cPoI ["_law_sort"] ["_law_side"] [] := { okind := by decide +kernel, kind := by decide +kernel, nocell := by decide +kernel, names := by decide +kernel, fr := by decide +kernel, ff := by decide +kernel, nd := by decide +kernel, vis := by decide +kernel, loc := by decide +kernel, gl := by decide +kernel }
def gv : Dc → Int → Int
 | [], _ => 0
 | x :: d, j => if x.1 = j then x.2 else gv d j
theorem val_dc : ∀ (d : Dc) (j : Int), (valV (dcK d) (Sum.inl j : Key)).getD (V.int 0) = V.int (gv d j)
 | [], j => rfl
 | (k, v) :: d, j => by
  have ih := val_dc d j
  unfold gv
  by_cases h : k = j
  ·subst h
   simp [valV, dcK]
  ·rw [if_neg h, ← ih]
   simp [valV, dcK, h]
theorem gv_ok {d : Dc} (h : DcOk d) (j : Int) : 0 ≤ gv d j ∧ gv d j ≤ 9 := by
 induction d with
 | nil => exact ⟨by show (0 : Int) ≤ 0; decide, by show (0 : Int) ≤ 9; decide⟩
 | cons x d ih =>
  unfold gv
  split
  ·exact h x List.mem_cons_self
  ·exact ih fun y hy => h y (List.mem_cons_of_mem _ hy)
theorem w_neT {H : Hp} {Q : VK} {p q : Addr} {ns ms : List Int} (hp : H p = some (.tup (ns.map V.int))) (hq : H q = some (.tup (ms.map V.int))) (h : Q (.bl (!decide (ns = ms))) H) : rNeD (.ref p) (.ref q) H Q := by
 refine ⟨_, _, .tup hp (rdInts ns), .tup hq (rdInts ms), lay_ints ns, lay_ints ms, ?_, ?_⟩
 ·show PyData.depthAll _ + 1 ≤ 60
  rw [depth_ints]
  decide
 ·show Q (.bl (!PyData.eqvAll _ _)) H
  rw [eqv_ints]
  exact h
theorem rep_map (n : Nat) : List.replicate n (V.int 0) = (List.replicate n (0 : Int)).map V.int := by rw [List.map_replicate]
theorem w_dget2 {td ty tx : TE} {σ : St} {H : Hp} {Q : VK} (h : td σ H fun x H1 => ∃ a, x = .ref a ∧ IsD H1 a ∧ ty σ H1 fun y H2 => tx σ H2 fun z H3 => ∃ o, DGet H3 a y o ∧ Q (o.getD z) H3) : tDGet2 td ty tx σ H Q := h
def spPo : Sp := fun vs H Q _ => ∃ (p l : Addr) (ms : List Int) (n : Nat), vs = [.ref p] ∧ Tq H p l ms n ∧ n ≤ 60000 ∧ ∀ (r q ak : Addr) (rs : List Addr) (ins beg : List Int) (ans : Int) (m : Nat) (A : Ak) (H' : Hp), H' r = some (.tup [.ref q, .ref ak]) → PotD H' q rs ins beg ans m → AkAt H' ak A → A.ok ins.length → akSm A → Tq H' p l ms (n + 150) → TK H H' → Q (.ref r) H'
section
variable {P : Program} {w : World} {K : PySem.W.Frag} {mg : Str → Option Value} {base : Heap}
set_option maxHeartbeats 4000000 in
theorem ok_Po {f : Addr} {fd : FuncData} (B : Blt mg) (D : Has P w K mg base 1 "_law_draw" ["_law_feed_here", "_law_many"] spDraw) (fD : Has P w K mg base 4 "_law_drawn" ["_law_feed_here", "_law_most"] spDrawn) (fA : Has P w K mg base 3 "_law_ask" ["_law_feed_here", "_law_many", "_law_most"] spAsk) (fS : Has P w K mg base 1 "_law_shaped" ["_law_ask_here"] spShp) (fB : Has P w K mg base 2 "_law_bent" ["_law_feed_here", "_law_rules", "_law_begin_here"] spBe) (fN : Has P w K mg base 2 "_law_names" ["_law_feed_here", "_law_many"] spNames) (F : Fun K "_law_pot" "_law_pot" sPo f fd) : FnOk P w K mg base CX0 5 f fd ["_law_feed_here"] spPo := by
 refine F.ok scPo (fun vs H Q E h => ?_) (fun cdv A outer s H vs Q E hr h => ?_)
 ·obtain ⟨p, l, ms, n, rfl, _⟩ := h
  rfl
 ·obtain ⟨p, l, ms, n, rfl, T0, hn, k⟩ := h
  refine' ⟨_, ?hb, ?rd⟩
  case hb =>
   have hu := hu_of hr
   refine' pss_cons ?s1 ?r1
   case' r1 => refine' pss_cons ?s2 ?r2
   case' r2 => refine' pss_cons ?s3 ?r3
   case' r3 => refine' pss_cons ?s4 ?r4
   case' r4 => refine' pss_cons ?s5 ?r5
   case' r5 => refine' pss_cons ?s6 ?r6
   case' r6 => refine' pss_cons ?s7 ?r7
   case' r7 => refine' pss_cons ?s8 ?r8
   case' r8 => refine' pss_one ?s9
   case s1 =>
    refine' ps_if (pt_cmpR op_eq (pe_f D hr (by decide) (pa_2 (pvd nmPo 0) pe_int)) pe_int (nomark _)) ?a1 pss_nil
    case' a1 => refine' pss_cons ?a2 ?a3
    case a2 => exact ps_setD nmPo 1 (pe_f fD hr (by decide) (pa_2 (pvd nmPo 0) pe_int))
    case' a3 => refine' pss_one ?a4
    case' a4 => refine' ps_ret ?a5
    case' a5 => refine' pe_tup ?a6
    case' a6 => refine' pa_2 (pvd nmPo 1) ?a7
    case' a7 => refine' pe_f fA hr (by decide) ?a8
    case a8 => exact pa_c (pvd nmPo 0) (pa_2 (pe_cB call_lnT B.len PySem.boot_len (pa_1 (pe_ix ix_d (pvd nmPo 1) pe_int (fun _ _ => rfl)))) pe_int)
   case s2 => exact ps_setD nmPo 2 (pe_f fA hr (by decide) (pa_c (pvd nmPo 0) (pa_2 pe_int pe_int)))
   case s3 =>
    refine' ps_asg (pe_f fS hr (by decide) (pa_1 (pvd nmPo 2))) ?b1
    case b1 => exact pg_tup (n := 3) rfl (pgs_cons (pgd nmPo 3) (pgs_cons (pgd nmPo 4) (pgs_cons (pgd nmPo 5) pgs_nil)))
   case s4 =>
    refine' ps_if (pt_cmpR op_eq (pe_f D hr (by decide) (pa_2 (pvd nmPo 0) pe_int)) pe_int (nomark _)) ?c1 pss_nil
    case' c1 => refine' pss_one ?c2
    case c2 => exact ps_setD nmPo 3 (pe_f fB hr (by decide) (pa_c (pvd nmPo 0) (pa_2 (pvd nmPo 3) (pvd nmPo 4))))
   case s5 => exact ps_setD nmPo 6 (pe_cB call_lnL B.len PySem.boot_len (pa_1 (pvd nmPo 4)))
   case s6 => exact ps_setD nmPo 7 (pe_lst pa_nil)
   case s7 =>
    refine' ps_for PassesOwn.never rfl (pi_list (pvd nmPo 3)) (pgd nmPo 8) ?d1
    case d1 =>
     refine' pss_cons ?d2 ?d3
     case d2 =>
      refine' ps_asg ?d4 ?d5
      case d5 => exact pg_lst2 rfl (pgs_cons (pgd nmPo 9) (pgs_cons (pgd nmPo 10) pgs_nil))
      case d4 =>
       refine' pe_compN (ix := [6]) nbPo.toNScope rfl rfl (pi_tup (pvd nmPo 8)) ?h4 ?h5 ?h6
       case h4 => exact fun _ _ _ _ _ _ => pgbN nbPo 0
       case h5 => exact fun _ _ _ _ _ _ => pts_nil
       case h6 =>
        intro _ _ _ _ _ _
        refine' pe_cT call_tupL B.tuple PyProof.Rows.boot_tuple ?x1 (nbPo.g 0)
        case' x1 => refine' pa_1 ?x2
        case x2 =>
         refine' pe_comp (ix := [0]) bsPoI.toCScope rfl rfl ?i3 ?i4 ?i5 ?i6
         case i3 => exact pi_r1 B.range (pa_1 (pvbN nbPo 1)) (nbPo.g 1)
         case i4 => exact fun _ _ _ _ _ _ => pgb bsPoI 0
         case i5 => exact fun _ _ _ _ _ _ => pts_nil
         case i6 => exact fun _ _ _ _ _ _ => pe_dget2 hu (pvb bsPoI 1) (pvb bsPoI 0) pe_int ⟨rfl, rfl, rfl, rfl⟩
     case' d3 => refine' pss_one ?e1
     case' e1 => refine' ps_if ?e2 ?e3 pss_nil
     case' e2 => refine' PW.pt ?e4
     case' e4 => refine' pw_and (pt_cmpR (op_neD hr) (pvd nmPo 9) (pvd nmPo 10) (nomark _)) ?e5
     case' e5 => refine' pw_and1 ?e6
     case e6 => exact pt_cmpR (op_neD hr) (pvd nmPo 9) (pe_op op_repG (pe_tup (pa_1 pe_int)) (pvd nmPo 6)) (nomark _)
     case' e3 => refine' pss_one ?e7
     case' e7 => refine' ps_expr ?e8
     case' e8 => refine' pe_bm PySem.F.plainAttrs_list PySem.F.slot_list_append PySem.F.type_list_append mt_append (pvd nmPo 7) ?e9
     case e9 => exact pa_1 (pe_tup (pa_2 (pvd nmPo 9) (pvd nmPo 10)))
   case s8 =>
    refine' ps_setD nmPo 1 ?f1
    case' f1 => refine' pe_tup ?f2
    case' f2 => refine' pa_c (pe_f fN hr (by decide) (pa_2 (pvd nmPo 0) (pvd nmPo 6))) ?f3
    case' f3 => refine' pa_c (pe_cT call_tuple_of B.tuple PyProof.Rows.boot_tuple (pa_1 (pvd nmPo 7))) ?f4
    case' f4 => refine' pa_c (pe_tup (pa_1 pe_int)) ?f5
    case f5 => exact pa_2 (pe_cT call_tuple_of B.tuple PyProof.Rows.boot_tuple (pa_1 (pvd nmPo 4))) (pvd nmPo 5)
   case s9 => exact ps_ret (pe_tup (pa_2 (pvd nmPo 1) (pvd nmPo 2)))
  case rd =>
   walk_at "v"
   refine ⟨p, l, ms, _, 2, rfl, T0, by omega, by decide, by decide, fun r c e f r0 r1 f0 f1 => ?_⟩
   have T1 := T0.draw (n' := n + 1) (c := c) (e := e) (f := f) f0 f1
   have TK1 : TK H (upd H p (.lst [.ref l, .int c, .int e, .int f])) := T0.tk
   generalize upd H p (.lst [.ref l, .int c, .int e, .int f]) = H1 at T1 TK1 ⊢
   refine ⟨rfl, ?_⟩
   walk_at "v"
   refine iteD (fun _ => ?_) (fun _ => ?_)
   ·walk_at "v"
    refine ⟨p, l, ms, _, 2, rfl, T1, by omega, by decide, fun q rs ins beg ans m H2 P2 T2 b2 => ?_⟩
    have TK2 := TK1.trans (T1.tkb b2)
    obtain ⟨ps, pr, pin, pb, xs, h1, h2, h3, h4, h5, h6⟩ := id P2.ex
    walk_at "v"
    refine w_ixT h1 rfl ?_
    refine ⟨pin, _, rfl, h5, ?_⟩
    rw [List.length_map]
    walk_at "v"
    refine ⟨p, l, ms, _, ins.length, 2, rfl, T2, by omega, P2.i3, by decide, fun ak A H3 hok hsm hak T3 b3 => ?_⟩
    have TK3 := T2.tkb b3
    walk_at "v"
    refine ⟨by show 2 ≤ sizeLine; decide, fun z hz => ?_⟩
    have TK4 : TK H3 (upd H3 z (.tup [.ref q, .ref ak])) := TK.new hz
    exact k z q ak rs ins beg ans m A _ upd_same (P2.tk (TK3.trans TK4)) (hak.tk TK4) hok hsm ((T3.new hz).up (by omega)) ((TK2.trans TK3).trans TK4)
   walk_at "v"
   refine ⟨p, l, ms, _, 1, 2, rfl, T1, by omega, by decide, by decide, fun ak A H2 hok hsm hak T2 b2 => ?_⟩
   have TK2 := TK1.trans (T1.tkb b2)
   walk_at "v"
   refine ⟨ak, A, rfl, hak, hok, hsm, fun rr rl bl ss bs ans H3 K3 er hss hbl G hrl0 hbl0 nrb => ?_⟩
   have T3 := T2.same K3
   have hak3 := hak.tk (TK.same K3)
   have A0 : Apart p l rl bl := ⟨T2.np hrl0, T2.np hbl0, T2.nl hrl0, T2.nl hbl0, nrb⟩
   obtain ⟨rs0, hrs0, hsd0⟩ := hss
   have B3 : BI p l rl bl ms H3 H3 (n + 11) bs.length True := ⟨T3, ⟨rs0, ss, hrs0, hsd0, G.s3, G.so, fun _ => G.s0⟩, ⟨bs, hbl, rfl, G.bb⟩, fun q o _ _ _ h => h⟩
   have TK3 := TK2.trans (TK.same K3)
   refine w_gtup er rfl ?_
   refine ⟨_, _, rfl, ?_⟩
   walk_at "v"
   refine ⟨_, _, rfl, ?_⟩
   walk_at "v"
   refine ⟨_, _, rfl, ?_⟩
   walk_at "v"
   refine ⟨rfl, ?_⟩
   with_reducible refine seq_post (fun σ' H' => σ' = [some (.ref p), none, some (.ref ak), some (.ref rl), some (.ref bl), some (.int ans), none, none, none, none, none] ∧ BI p l rl bl ms H3 H' (n + 16) bs.length False) ?_ fun rest => ?_
   ·rintro σ' H4 ⟨rfl, B4⟩
    obtain ⟨rs, ss', s1, s2, s3, s4, _⟩ := id B4.sx
    obtain ⟨bs', t1, t2, t3⟩ := id B4.bx
    obtain ⟨_, _, _, hp3, _⟩ := T3.ex
    have TK34 : TK H3 H4 := ⟨fun q xs e => B4.b3 q _ (ne_of e hp3 (by intro z; cases z)) (ne_of e hrs0 (by intro z; cases z)) (ne_of e hbl (by intro z; cases z)) e, fun q o u e => B4.b3 q _ (ne_of e hp3 (by intro z; cases z)) (ne_of e hrs0 (by intro z; cases z)) (ne_of e hbl (by intro z; cases z)) e⟩
    have hrl := s2.len
    have g5 := G.b5
    have g0 := G.b0
    have g1 := G.a1
    obtain ⟨m, hm⟩ : ∃ m : Nat, bs'.length = m := ⟨_, rfl⟩
    walk_at "v"
    refine ⟨bl, _, rfl, t1, ?_⟩
    rw [List.length_map, hm]
    walk_at "v"
    refine ⟨Nat.zero_le _, fun tl htl => ?_⟩
    have K5 : Same H4 (upd H4 tl (.lst [])) := Same.new (Same.refl _) htl
    have e5 : upd H4 tl (.lst []) tl = some (.lst (([] : List Addr).map V.ref)) := upd_same
    have ntr : rl ≠ tl := ne_of_none s1 htl
    have ntb : bl ≠ tl := ne_of_none t1 htl
    have ntp := B4.tp.np htl
    have ntl := B4.tp.nl htl
    generalize upd H4 tl (.lst []) = H5 at K5 e5 ⊢
    have s1' := K5 _ _ s1
    have s2' := s2.kd (KD.same K5)
    have t1' := K5 _ _ t1
    have T5 := B4.tp.same K5
    walk_at "v"
    refine ⟨rl, rfl, ⟨_, SqL.of s1'⟩, ?_⟩
    refine for_list (xs := rs.map V.ref) (fun i σ H' => ∃ (u8 u9 u10 : Option V) (ts : List Addr), σ = [some (.ref p), none, some (.ref ak), some (.ref rl), some (.ref bl), some (.int ans), some (.int (m : Int)), some (.ref tl), u8, u9, u10] ∧ H' tl = some (.lst (ts.map V.ref)) ∧ ts.length ≤ i ∧ (∀ t ∈ ts, RuleT m H' t) ∧ (∀ q o, q ≠ tl → H5 q = some o → H' q = some o)) ⟨_, _, _, [], rfl, e5, Nat.zero_le _, (fun t ht => by cases ht), fun q o _ h => h⟩ (fun i σ H' _ ⟨_, _, _, _, _, _, _, _, k'⟩ => SqL.of (k' _ _ ntr s1')) ?_ ?_
    ·rintro i x σ H6 hx ⟨u8, u9, u10, ts, rfl, e6, hts, hR, k6⟩
     have hi : i < rs.length := by
      have := (List.getElem?_eq_some_iff.mp hx).1
      simpa using this
     have ex : x = .ref rs[i] := by
      rw [List.getElem?_map, List.getElem?_eq_getElem hi] at hx
      exact (Option.some.inj hx).symm
     subst ex
     obtain ⟨s, hs, d1, d2, v1, v2, v3⟩ := s2'.at i rs[i] (by simp [hi])
     have sok := s4 s (List.mem_of_getElem? hs)
     have v1' := k6 _ _ (ne_of v1 e5 (by intro z; cases z)) v1
     have v2' := k6 _ _ (ne_of v2 e5 (by intro z; cases z)) v2
     have v3' := k6 _ _ (ne_of v3 e5 (by intro z; cases z)) v3
     walk_at "v"
     refine ⟨rs[i], rfl, ⟨_, SqT.of v1'⟩, fun D' hD' => ?_⟩
     refine cgo_tup (xs := [V.ref d1, V.ref d2]) (ρ := [some (.int (m : Int))]) (fun j zs H' => ∃ qs : List (Addr × List Int), zs = qs.map (fun x => V.ref x.1) ∧ qs.length = j ∧ (∀ x ∈ qs, Rw m H' x.1 x.2) ∧ Same H6 H') ⟨[], rfl, rfl, (fun x h => by cases h), Same.new (Same.refl _) hD'⟩ (fun j zs H' _ ⟨_, _, _, _, k'⟩ => SqT.of (k' _ _ v1')) ?_ ?_
     ·rintro j y zs H' hy ⟨qs, rfl, hql, hqs, K'⟩ hDz R S kR _
      obtain ⟨dd, dk, rfl, hdd, hdk⟩ : ∃ (dd : Addr) (dk : Dc), y = .ref dd ∧ H6 dd = some (.dK (dcK dk)) ∧ DcOk dk := by
       have hm2 := List.mem_of_getElem? hy
       simp only [List.mem_cons, List.not_mem_nil, or_false] at hm2
       rcases hm2 with rfl | rfl
       ·exact ⟨d1, s.1, rfl, v2', sok.1⟩
       ·exact ⟨d2, s.2, rfl, v3', sok.2⟩
      have hj2 : j < 2 := (List.getElem?_eq_some_iff.mp hy).1
      walk_at "v"
      refine ⟨_, rfl, by omega, by omega, fun d2' hd2' => ?_⟩
      rw [Int.toNat_natCast]
      refine rng_map (ρ := [some (.ref dd)]) (fun j => gv dk (j : Int)) (by omega) (fun j' H'' hj' K'' R' kR' => ?_) (fun H7 K7 e7 => ?_) hd2'
      ·have hd'' := K'' _ _ (K' _ _ hdd)
       walk_at "v"
       refine w_dget2 ?_
       walk_at "v"
       refine ⟨dd, rfl, .inl ⟨_, .inl hd''⟩, ?_⟩
       walk_at "v"
       refine ⟨_, .inl ⟨_, (Sum.inl (j' : Int) : Key), .inl hd'', rfl, rfl⟩, ?_⟩
       rw [val_dc]
       exact kR' _ (Same.refl _)
      walk_at "v"
      refine ⟨d2', _, rfl, e7, fun q8 H8 K8 e8 => ?_⟩
      have K78 := K7.trans K8
      have tk : TK H8 (upd H8 D' (.lst (qs.map (fun x => V.ref x.1) ++ [.ref q8]))) := TK.lst (K78 _ _ hDz)
      refine kR _ _ (K78 _ _ hDz) (by rw [List.length_map]; exact small1000 (by omega)) ⟨qs ++ [(q8, (List.range m).map fun (j : Nat) => gv dk (j : Int))], by rw [List.map_append]; rfl, by simp [hql], fun x hx => ?_, (K'.trans K78).put hD'⟩
      rcases List.mem_append.mp hx with old | new
      ·have := hqs x old
       exact ⟨tk.t _ _ (K78 _ _ this.1), this.2⟩
      ·rw [List.mem_singleton.mp new]
       refine ⟨tk.t _ _ e8, by simp, fun y hy => ?_⟩
       obtain ⟨j, _, rfl⟩ := List.mem_map.mp hy
       exact gv_ok hdk _
     rintro zs H7 ⟨qs, rfl, hql, hqs, K7⟩ hDz
     obtain ⟨⟨q1, x1⟩, ⟨q2, x2⟩, rfl⟩ : ∃ a b, qs = [a, b] := by
      match qs, hql with
      | [a, b], _ => exact ⟨a, b, rfl⟩
     have w1 := hqs (q1, x1) List.mem_cons_self
     have w2 := hqs (q2, x2) (List.mem_cons_of_mem _ List.mem_cons_self)
     have e7 := K7 _ _ e6
     refine ⟨D', _, _, rfl, hDz, ?_⟩
     refine ⟨_, _, rfl, ?_⟩
     walk_at "v"
     refine ⟨_, _, rfl, ?_⟩
     walk_at "v"
     refine ⟨rfl, ?_⟩
     have skip : ∀ H', Same H7 H' → ∃ (u8 u9 u10 : Option V) (ts : List Addr), [some (.ref p), none, some (.ref ak), some (.ref rl), some (.ref bl), some (.int ans), some (.int (m : Int)), some (.ref tl), some (.ref rs[i]), some (.ref q1), some (.ref q2)] = [some (.ref p), none, some (.ref ak), some (.ref rl), some (.ref bl), some (.int ans), some (.int (m : Int)), some (.ref tl), u8, u9, u10] ∧ H' tl = some (.lst (ts.map V.ref)) ∧ ts.length ≤ i + 1 ∧ (∀ t ∈ ts, RuleT m H' t) ∧ (∀ q o, q ≠ tl → H5 q = some o → H' q = some o) := fun H' K' => ⟨_, _, _, ts, rfl, K' _ _ e7, by omega, fun t ht => (hR t ht).tk (TK.same (K7.trans K')), fun q o hq h => K' _ _ (K7 _ _ (k6 q o hq h))⟩
     walk_at "v"
     refine w_neT w1.1 w2.1 ?_
     walk_at "v"
     refine iteNB (fun _ => ?_) (fun _ => ?_)
     ·walk_at "v"
      refine ⟨by show 1 ≤ sizeLine; decide, fun z hz => ?_⟩
      obtain ⟨HZ, q, KZ, ez⟩ := nob (.tup [.int 0]) hz; rw [q]; clear q
      walk_at "v"
      refine ⟨z, _, _, rfl, rfl, ez, by omega, fun q0 HY KY eY => ?_⟩
      rw [rep_map] at eY
      have KZY := KZ.trans KY
      refine w_neT (KZY _ _ w1.1) eY ?_
      walk_at "v"
      refine iteNB (fun _ => ?_) (fun _ => ?_)
      ·walk_at "v"
       refine ⟨.inl ⟨rfl, _, SqL.of (KZY _ _ e7)⟩, ?_⟩
       walk_at "v"
       refine ⟨by show 2 ≤ sizeLine; decide, fun nt hnt => ?_⟩
       have KX := KZY.new (o := .tup [.ref q1, .ref q2]) hnt
       have eX : upd HY nt (.tup [.ref q1, .ref q2]) nt = some (.tup [.ref q1, .ref q2]) := upd_same
       generalize upd HY nt (.tup [.ref q1, .ref q2]) = HX at KX eX ⊢
       have eT := KX _ _ e7
       walk_at "v"
       refine ⟨tl, _, _, rfl, rfl, eT, by rw [List.length_map]; exact small1000 (by omega), ?_⟩
       have tk : TK HX (upd HX tl (.lst (ts.map V.ref ++ [.ref nt]))) := TK.lst eT
       refine ⟨_, _, _, ts ++ [nt], rfl, by rw [upd_same, List.map_append]; rfl, by simp; omega, fun t ht => ?_, fun q o hq h => by rw [upd_ne hq]; exact KX _ _ (K7 _ _ (k6 q o hq h))⟩
       rcases List.mem_append.mp ht with old | new
       ·exact (hR t old).tk ((TK.same (K7.trans KX)).trans tk)
       ·rw [List.mem_singleton.mp new]
        exact ⟨q1, q2, x1, x2, tk.t _ _ eX, tk.t _ _ (KX _ _ w1.1), tk.t _ _ (KX _ _ w2.1), w1.2.1, w2.2.1, w1.2.2, w2.2.2⟩
      ·exact skip _ KZY
     ·refine iteF ?_
      exact skip _ (Same.refl _)
    ·rintro σ H6 ⟨u8, u9, u10, ts, rfl, e6, hts, hR, k6⟩
     rw [List.length_map] at hts
     have T6 : Tq H6 p l ms (n + 16) := by
      obtain ⟨c, e, f, hp, r⟩ := T5.ex
      exact ⟨⟨c, e, f, k6 _ _ ntp hp, r⟩, k6 _ _ ntl T5.hl, T5.ne, T5.pos, T5.l64⟩
     have TK56 : TK H5 H6 := ⟨fun q xs e => k6 _ _ (ne_of e e5 (by intro z; cases z)) e, fun q o u e => k6 _ _ (ne_of e e5 (by intro z; cases z)) e⟩
     have b6 := k6 _ _ ntb t1'
     walk_at "v"
     refine ⟨p, l, ms, _, m, rfl, T6, by omega, by omega, fun ps xs H7 hxl exs T7 b7 => ?_⟩
     have TK67 := T6.tkb b7
     have e7 := b7 _ _ (Ne.symm ntp) e6
     have bl7 := b7 _ _ (Ne.symm A0.b) b6
     walk_at "v"
     refine ⟨tl, _, rfl, .inl ⟨SqL.of e7, fun tt htt => ?_⟩⟩
     obtain ⟨H8, q, K8, e8⟩ := nob (.tup (ts.map V.ref)) htt; rw [q]; clear q
     walk_at "v"
     refine ⟨by show 1 ≤ sizeLine; decide, fun ti hti => ?_⟩
     have K9 : Same H8 (upd H8 ti (.tup [.int 0])) := Same.new (Same.refl _) hti
     have e9 : upd H8 ti (.tup [.int 0]) ti = some (.tup (([0] : List Int).map V.int)) := upd_same
     generalize upd H8 ti (.tup [.int 0]) = H9 at K9 e9 ⊢
     walk_at "v"
     refine ⟨bl, _, rfl, .inl ⟨SqL.of (K9 _ _ (K8 _ _ bl7)), fun tb htb => ?_⟩⟩
     obtain ⟨HA, q, KA, eA⟩ := nob (.tup (bs'.map V.int)) htb; rw [q]; clear q
     walk_at "v"
     refine ⟨by show 5 ≤ sizeLine; decide, fun q hq => ?_⟩
     obtain ⟨HB, q, KB, eB⟩ := nob (.tup [.ref ps, .ref tt, .ref ti, .ref tb, .int ans]) hq; rw [q]; clear q
     walk_at "v"
     refine ⟨by show 2 ≤ sizeLine; decide, fun z hz => ?_⟩
     obtain ⟨HC, q, KC, eC⟩ := nob (.tup [.ref q, .ref ak]) hz; rw [q]; clear q
     have K8C := ((K9.trans KA).trans KB).trans KC
     have K7C := K8.trans K8C
     have TK6C := TK67.trans (TK.same K7C)
     have TKall := (((TK3.trans TK34).trans (TK.same K5)).trans TK56).trans TK6C
     refine k z q ak ts [0] bs' ans m A HC eC ⟨⟨ps, tt, ti, tb, xs, KC _ _ eB, K7C _ _ exs, hxl, K8C _ _ e8, ((KA.trans KB).trans KC) _ _ e9, (KB.trans KC) _ _ eA⟩, fun r hr' => (hR r hr').tk TK6C, by omega, by omega, by omega, fun i hi => ?_, by show 1 ≤ 3; decide, hm, fun b hb => ?_, G.a0, by omega⟩ (hak3.tk (((TK34.trans (TK.same K5)).trans TK56).trans TK6C)) hok hsm ((T7.same K7C).up (by omega)) TKall
     ·rw [List.mem_singleton.mp hi]
      exact ⟨by decide, by omega⟩
     ·have := t3 b hb
      omega
   ·walk_at "v"
    refine ⟨p, l, ms, _, 2, rfl, T3, by omega, by decide, by decide, fun r c e f r0 r1 f0 f1 => ?_⟩
    have B4 := B3.draw (n' := n + 12) A0 (c := c) (d := e) (f := f) f0 (by omega)
    generalize upd H3 p (.lst [.ref l, .int c, .int e, .int f]) = H4 at B4 ⊢
    refine ⟨rfl, ?_⟩
    walk_at "v"
    refine iteD (fun _ => ?_) (fun _ => ?_)
    ·walk_at "v"
     refine ⟨p, l, rl, bl, ms, n + 12, bs.length, rfl, ⟨B4.tp, B4.sx, B4.bx, fun q o _ _ _ h => h⟩, A0, by omega, G.b0, G.b5, fun H5 B5 => ?_⟩
     refine w_gname ?_
     exact rest _ _ ⟨rfl, B5.tp.up (by omega), B5.sx, B5.bx, fun q o q1 q2 q3 h => B5.b3 q o q1 q2 q3 (B4.b3 q o q1 q2 q3 h)⟩
    ·obtain ⟨rs, ss', s1, s2, s3, s4, s5⟩ := id B4.sx
     exact rest _ _ ⟨rfl, B4.tp.up (by omega), ⟨rs, ss', s1, s2, s3, s4, fun z => z.elim⟩, B4.bx, B4.b3⟩
end
abbrev sCan : Stmt := top 21
abbrev sGo : Stmt := top 22
abbrev sTh : Stmt := top 23
abbrev nCan : List Str := ["_law_pot_here", "_law_stand", "_law_rule_here"]
theorem nmCan : Nm nCan (defScope sCan) := ⟨by decide +kernel, by decide +kernel⟩
theorem scCan : FnScope nCan ["_law_pot_here", "_law_stand", "_law_rule_here"] (defScope sCan) := ⟨rfl, rfl, rfl, by decide +kernel, rfl, by decide +kernel, by decide +kernel⟩
abbrev nGo : List Str := ["_law_pot_here", "_law_stand", "_law_rule_here", "_law_takes", "_law_gives"]
theorem nmGo : Nm nGo (defScope sGo) := ⟨by decide +kernel, by decide +kernel⟩
theorem scGo : FnScope nGo ["_law_pot_here", "_law_stand", "_law_rule_here"] (defScope sGo) := ⟨rfl, rfl, rfl, by decide +kernel, rfl, by decide +kernel, by decide +kernel⟩
abbrev nTh : List Str := ["_law_pot_here", "_law_stand"]
theorem nmTh : Nm nTh (defScope sTh) := ⟨by decide +kernel, by decide +kernel⟩
theorem scTh : FnScope nTh ["_law_pot_here", "_law_stand"] (defScope sTh) := ⟨rfl, rfl, rfl, by decide +kernel, rfl, by decide +kernel, by decide +kernel⟩
abbrev Row := List Int × List Int
def Rws (H : Hp) (m : Nat) : List Addr → List Row → Prop
 | [], [] => True
 | r :: rs, t :: ts => (∃ a b : Addr, H r = some (.tup [.ref a, .ref b]) ∧ H a = some (.tup (t.1.map V.int)) ∧ H b = some (.tup (t.2.map V.int)) ∧ t.1.length = m ∧ t.2.length = m ∧ (∀ x ∈ t.1, 0 ≤ x ∧ x ≤ 9) ∧ (∀ x ∈ t.2, 0 ≤ x ∧ x ≤ 9)) ∧ Rws H m rs ts
 | _, _ => False
theorem Rws.of {H : Hp} {m : Nat} : ∀ {rs : List Addr}, (∀ r ∈ rs, RuleT m H r) → ∃ tg, Rws H m rs tg
 | [], _ => ⟨[], trivial⟩
 | r :: rs, h => by
  obtain ⟨a, b, ts, gs, h1, h2, h3, h4, h5, h6, h7⟩ := h r List.mem_cons_self
  obtain ⟨tg, ht⟩ := Rws.of fun x hx => h x (List.mem_cons_of_mem _ hx)
  exact ⟨(ts, gs) :: tg, ⟨a, b, h1, h2, h3, h4, h5, h6, h7⟩, ht⟩
theorem Rws.tk {H H' : Hp} {m : Nat} (k : TK H H') : ∀ {rs : List Addr} {tg : List Row}, Rws H m rs tg → Rws H' m rs tg
 | [], [], _ => trivial
 | r :: rs, t :: ts, ⟨⟨a, b, h1, h2, h3, h4⟩, h⟩ => ⟨⟨a, b, k.t _ _ h1, k.t _ _ h2, k.t _ _ h3, h4⟩, Rws.tk k h⟩
 | [], _ :: _, h => h.elim
 | _ :: _, [], h => h.elim
theorem Rws.len {H : Hp} {m : Nat} : ∀ {rs : List Addr} {tg : List Row}, Rws H m rs tg → rs.length = tg.length
 | [], [], _ => rfl
 | q :: qs, f :: fs, h => by rw [List.length_cons, List.length_cons, Rws.len h.2]
 | [], _ :: _, h => h.elim
 | _ :: _, [], h => h.elim
theorem Rws.at {H : Hp} {m : Nat} : ∀ {rs : List Addr} {tg : List Row}, Rws H m rs tg → ∀ (i : Nat) (t : Row), tg[i]? = some t → ∃ r a b : Addr, rs[i]? = some r ∧ H r = some (.tup [.ref a, .ref b]) ∧ H a = some (.tup (t.1.map V.int)) ∧ H b = some (.tup (t.2.map V.int)) ∧ t.1.length = m ∧ t.2.length = m ∧ (∀ x ∈ t.1, 0 ≤ x ∧ x ≤ 9) ∧ (∀ x ∈ t.2, 0 ≤ x ∧ x ≤ 9)
 | [], [], _, i, t, e => by simp at e
 | q :: qs, f :: fs, h, 0, t, e => by
  simp at e
  subst e
  obtain ⟨a, b, h1⟩ := h.1
  exact ⟨q, a, b, rfl, h1⟩
 | q :: qs, f :: fs, h, i + 1, t, e => by
  obtain ⟨r, a, b, h1, h2⟩ := Rws.at h.2 i t (by simpa using e)
  exact ⟨r, a, b, by simpa using h1, h2⟩
 | [], _ :: _, h, _, _, _ => h.elim
 | _ :: _, [], h, _, _, _ => h.elim
def PotE (H : Hp) (q : Addr) (tg : List Row) (m : Nat) : Prop := ∃ (x0 x2 x3 x4 : V) (pr : Addr) (rs : List Addr), H q = some (.tup [x0, .ref pr, x2, x3, x4]) ∧ H pr = some (.tup (rs.map V.ref)) ∧ Rws H m rs tg
theorem PotE.tk {H H' : Hp} {q : Addr} {tg : List Row} {m : Nat} (k : TK H H') : PotE H q tg m → PotE H' q tg m
 | ⟨a, b, c, d, pr, rs, h1, h2, h3⟩ => ⟨a, b, c, d, pr, rs, k.t _ _ h1, k.t _ _ h2, h3.tk k⟩
theorem PotD.pe {H : Hp} {q : Addr} {rs : List Addr} {ins beg : List Int} {ans : Int} {m : Nat} (P : PotD H q rs ins beg ans m) : ∃ tg, PotE H q tg m ∧ tg.length ≤ 8 := by
 obtain ⟨ps, pr, pin, pb, xs, h1, h2, h3, h4, h5, h6⟩ := P.ex
 obtain ⟨tg, ht⟩ := Rws.of P.hr
 exact ⟨tg, ⟨_, _, _, _, pr, rs, h1, h4, ht⟩, by rw [← ht.len]; exact P.r8⟩
def canR (st : List Int) (t : Row) : Bool := (List.zipWith (fun h k => decide (h ≥ k)) st t.1).all id
def goR (st : List Int) (t : Row) : List Int := (List.range st.length).map fun k => st.getD k 0 - t.1.getD k 0 + t.2.getD k 0
def retCmpC (s : Stmt) : Scope := match s with
 | .Return (some (.Compare _ _ [.ListComp _ _ sc _] _)) _ => sc
 | _ => { kind := .function, names := [], isGenerator := false, isCoroutine := false }
def retCallC (s : Stmt) : Scope := match s with
 | .Return (some (.Call _ [.ListComp _ _ sc _] _ _)) _ => sc
 | _ => { kind := .function, names := [], isGenerator := false, isCoroutine := false }
def retC (s : Stmt) : Scope := match s with
 | .Return (some (.ListComp _ _ sc _)) _ => sc
 | _ => { kind := .function, names := [], isGenerator := false, isCoroutine := false }
abbrev cCan : Scope := retCmpC ((defBody sCan).getD 0 (.Pass ⟨0, 0, 0, 0⟩))
abbrev cGo : Scope := retCallC ((defBody sGo).getD 1 (.Pass ⟨0, 0, 0, 0⟩))
abbrev cTh : Scope := retC ((defBody sTh).getD 0 (.Pass ⟨0, 0, 0, 0⟩))
theorem bsCan : BScope (defScope sCan) cCan ["_law_have", "_law_many"] [] [] := { okind := by decide +kernel, kind := by decide +kernel, nocell := by decide +kernel, names := by decide +kernel, fr := by decide +kernel, ff := by decide +kernel, nd := by decide +kernel, vis := by decide +kernel, loc := by decide +kernel, gl := by decide +kernel }
theorem bsGo : BScope (defScope sGo) cGo ["_law_k"] ["_law_gives", "_law_stand", "_law_takes"] [] := { okind := by decide +kernel, kind := by decide +kernel, nocell := by decide +kernel, names := by decide +kernel, fr := by decide +kernel, ff := by decide +kernel, nd := by decide +kernel, vis := by decide +kernel, loc := by decide +kernel, gl := by decide +kernel }
theorem bsTh : BScope (defScope sTh) cTh ["_law_rule_here"] ["_law_pot_here", "_law_stand"] ["_law_can"] := { okind := by decide +kernel, kind := by decide +kernel, nocell := by decide +kernel, names := by decide +kernel, fr := by decide +kernel, ff := by decide +kernel, nd := by decide +kernel, vis := by decide +kernel, loc := by decide +kernel, gl := by decide +kernel }
theorem gd_at {c : List Int} {k : Nat} (hk : k < c.length) : atI (c.map V.int) (k : Int) = some (.int (c.getD k 0)) := atI_nat (by simp [List.getD_eq_getElem?_getD, hk])
theorem in_false : ∀ bs : List Bool, (!inV (.bl false) (bs.map V.bl)) = bs.all id
 | [] => rfl
 | b :: bs => by
  have ih := in_false bs
  unfold inV at ih ⊢
  rw [List.map_cons, List.any_cons, List.all_cons, ← ih]
  cases b <;> simp [eqV]
theorem flat_bl : ∀ bs : List Bool, (bs.map V.bl).all flatV = true
 | [] => rfl
 | b :: bs => by rw [List.map_cons, List.all_cons, flat_bl bs]; rfl
def spGo : Sp := fun vs H Q _ => ∃ (p s : Addr) (tg : List Row) (m i : Nat) (st : List Int) (t : Row), vs = [.ref p, .ref s, .int (i : Int)] ∧ PotE H p tg m ∧ H s = some (.tup (st.map V.int)) ∧ st.length = m ∧ m ≤ 8 ∧ tg[i]? = some t ∧ ∀ q H', Same H H' → H' q = some (.tup ((goR st t).map V.int)) → Q (.ref q) H'
def spCan : Sp := fun vs H Q _ => ∃ (p s : Addr) (tg : List Row) (m i : Nat) (st : List Int) (t : Row), vs = [.ref p, .ref s, .int (i : Int)] ∧ PotE H p tg m ∧ H s = some (.tup (st.map V.int)) ∧ st.length = m ∧ m ≤ 8 ∧ tg[i]? = some t ∧ ∀ H', Same H H' → Q (.bl (canR st t)) H'
section
variable {P : Program} {w : World} {K : PySem.W.Frag} {mg : Str → Option Value} {base : Heap}
set_option maxHeartbeats 4000000 in
theorem ok_Go {f : Addr} {fd : FuncData} (B : Blt mg) (F : Fun K "_law_gone" "_law_gone" sGo f fd) : FnOk P w K mg base CX0 1 f fd ["_law_pot_here", "_law_stand", "_law_rule_here"] spGo := by
 refine F.ok scGo (fun vs H Q E h => ?_) (fun cdv A outer s H vs Q E hr h => ?_)
 ·obtain ⟨p, s, tg, m, i, st, t, rfl, _⟩ := h
  rfl
 ·obtain ⟨p, s, tg, m, i, st, t, rfl, ⟨x0, x2, x3, x4, pr, rs, h1, h2, hR⟩, hs, hm, m8, ht, k⟩ := h
  refine' ⟨_, ?hb, ?rd⟩
  case hb =>
   refine' pss_cons ?s1 ?r1
   case' r1 => refine' pss_one ?s2
   case s1 =>
    refine' ps_asg (pe_ix ix_d (pe_ix ix_d (pvd nmGo 0) pe_int (fun _ _ => rfl)) (pvd nmGo 2) (fun _ _ => rfl)) ?a1
    case a1 => exact pg_tup (n := 2) rfl (pgs_cons (pgd nmGo 3) (pgs_cons (pgd nmGo 4) pgs_nil))
   case s2 =>
    refine' ps_ret ?b1
    case' b1 => refine' pe_cT call_tuple_of B.tuple PyProof.Rows.boot_tuple ?b2
    case' b2 => refine' pa_1 ?b3
    case b3 =>
     refine' pe_comp (ix := [4, 1, 3]) bsGo.toCScope rfl rfl (pi_r1 B.range (pa_1 (pe_cB call_lnT B.len PySem.boot_len (pa_1 (pvd nmGo 1))))) ?h4 ?h5 ?h6
     case h4 => exact fun _ _ _ _ _ _ => pgb bsGo 0
     case h5 => exact fun _ _ _ _ _ _ => pts_nil
     case h6 => exact fun _ _ _ _ _ _ => pe_op op_add (pe_op op_sub (pe_ix ix_d (pvb bsGo 2) (pvb bsGo 0) (fun _ _ => rfl)) (pe_ix ix_d (pvb bsGo 3) (pvb bsGo 0) (fun _ _ => rfl))) (pe_ix ix_d (pvb bsGo 1) (pvb bsGo 0) (fun _ _ => rfl))
  case rd =>
   obtain ⟨r, a, b, g1, g2, g3, g4, g5, g6, _⟩ := hR.at i t ht
   walk_at "v"
   refine w_ixT h1 rfl ?_
   walk_at "v"
   refine w_ixT (v := .ref r) h2 (atI_nat (by rw [List.getElem?_map, g1]; rfl)) ?_
   refine w_gtup g2 rfl ?_
   refine ⟨_, _, rfl, ?_⟩
   walk_at "v"
   refine ⟨_, _, rfl, ?_⟩
   walk_at "v"
   refine ⟨rfl, ?_⟩
   walk_at "v"
   refine ⟨s, _, rfl, hs, ?_⟩
   rw [List.length_map]
   refine ⟨_, rfl, by omega, by omega, fun D hD => ?_⟩
   rw [Int.toNat_natCast]
   refine rng_map (ρ := [some (.ref b), some (.ref s), some (.ref a)]) (fun k => st.getD k 0 - t.1.getD k 0 + t.2.getD k 0) (by omega) (fun j H' hj K' R kR => ?_) (fun H1 K1 e1 => ?_) hD
   ·walk_at "v"
    refine w_ixT (K' _ _ hs) (gd_at hj) ?_
    walk_at "v"
    refine w_ixT (K' _ _ g3) (gd_at (by omega)) ?_
    walk_at "v"
    refine w_ixT (K' _ _ g4) (gd_at (by omega)) ?_
    walk_at "v"
    exact kR _ (Same.refl _)
   walk_at "v"
   refine ⟨D, _, rfl, .inl ⟨SqL.of e1, fun q hq => ?_⟩⟩
   exact k q _ (K1.new hq) upd_same
end
theorem zip_mapV {β : Type} (cv : β → V) {D : Addr} {te : TE} {Q : VK} {ρ : St} {H : Hp} {K : PySem.W.Frag} {a b : Addr} {xs ys : List Int} (g : Int → Int → β) (ha : H a = some (.tup (xs.map V.int))) (hb : H b = some (.tup (ys.map V.int))) (hlen : xs.length = ys.length) (hn : xs.length ≤ 1000)
  (step : ∀ (i : Nat) (x y : Int) (H' : Hp), xs[i]? = some x → ys[i]? = some y → Same H H' → ∀ R : V → Hp → Prop, (∀ H'', Same H' H'' → R (cv (g x y)) H'') → te (some (.int x) :: some (.int y) :: ρ) H' R)
  (q : ∀ H', Same H H' → H' D = some (.lst ((List.zipWith g xs ys).map cv)) → Q (.ref D) H') (hD : H D = none) : CGo (Itz K a b) D (gTup K 2 (gCons (gName 0) (gCons (gName 1) gNil))) tAll te Q (none :: none :: ρ) H := by
 refine cgo_zip (xs := xs.map V.int) (zs := ys.map V.int) (by simp [hlen]) (fun i zs H' => zs = ((List.zipWith g xs ys).take i).map cv ∧ Same H H') ⟨rfl, Same.new (Same.refl H) hD⟩ (fun i zs H' _ ⟨_, k'⟩ => ⟨SqT.of (k' _ _ ha), SqT.of (k' _ _ hb)⟩) ?_ ?_
 ·rintro i x z zs H' p hx hz ⟨rfl, K'⟩ hDz hp R S kR _
  have hi1 : i < xs.length := by
   have := (List.getElem?_eq_some_iff.mp hx).1
   simpa using this
  have hi2 : i < ys.length := by omega
  have ex : x = .int xs[i] := by
   rw [List.getElem?_map, List.getElem?_eq_getElem hi1] at hx
   exact (Option.some.inj hx).symm
  have ez : z = .int ys[i] := by
   rw [List.getElem?_map, List.getElem?_eq_getElem hi2] at hz
   exact (Option.some.inj hz).symm
  subst ex ez
  refine w_all ?_
  refine iteT ?_
  have hD' : upd H' p (.tup [.int xs[i], .int ys[i]]) D = some (.lst (((List.zipWith g xs ys).take i).map cv)) := by rw [upd_ne (ne_of_none hDz hp)]; exact hDz
  refine step i _ _ _ (by simp [hi1]) (by simp [hi2]) (K'.new hp) R fun H'' K'' => ?_
  refine kR _ _ (K'' _ _ hD') (by rw [List.length_map, List.length_take]; exact small1000 (by omega)) ⟨?_, ((K'.new hp).trans K'').put hD⟩
  have hz' : (List.zipWith g xs ys)[i]? = some (g xs[i] ys[i]) := by simp [List.getElem?_zipWith, hi1, hi2]
  rw [List.take_add_one, List.map_append, hz']
  rfl
 ·rintro zs H' ⟨rfl, K'⟩ hDz
  refine q H' K' ?_
  rw [hDz, List.take_of_length_le]
  simp
  omega
def thR (st : List Int) (tg : List Row) : List Nat := (List.range tg.length).filter fun i => (tg[i]?.map (canR st)).getD false
def spTh : Sp := fun vs H Q _ => ∃ (p s : Addr) (tg : List Row) (m : Nat) (st : List Int), vs = [.ref p, .ref s] ∧ PotE H p tg m ∧ H s = some (.tup (st.map V.int)) ∧ st.length = m ∧ m ≤ 8 ∧ tg.length ≤ 8 ∧ ∀ l H', Same H H' → H l = none → H' l = some (.lst ((thR st tg).map fun (i : Nat) => V.int (i : Int))) → Q (.ref l) H'
section
variable {P : Program} {w : World} {K : PySem.W.Frag} {mg : Str → Option Value} {base : Heap}
set_option maxHeartbeats 4000000 in
theorem ok_Can {f : Addr} {fd : FuncData} (B : Blt mg) (F : Fun K "_law_can" "_law_can" sCan f fd) : FnOk P w K mg base CX0 1 f fd ["_law_pot_here", "_law_stand", "_law_rule_here"] spCan := by
 refine F.ok scCan (fun vs H Q E h => ?_) (fun cdv A outer s H vs Q E hr h => ?_)
 ·obtain ⟨p, s, tg, m, i, st, t, rfl, _⟩ := h
  rfl
 ·obtain ⟨p, s, tg, m, i, st, t, rfl, ⟨x0, x2, x3, x4, pr, rs, h1, h2, hR⟩, hs, hm, m8, ht, k⟩ := h
  refine' ⟨_, ?hb, ?rd⟩
  case hb =>
   refine' pss_one ?s1
   case' s1 => refine' ps_ret ?b1
   case' b1 => refine' pe_cmpR op_notIn_seq pe_bl ?b2 (by with_unfolding_all rfl)
   case b2 =>
    refine' pe_comp (ix := []) bsCan.toCScope rfl rfl ?h3 ?h4 ?h5 ?h6
    case h3 =>
     refine' pi_zp B.zip ?h7
     case h7 => exact pa_2 (pvd nmCan 1) (pe_ix ix_d (pe_ix ix_d (pe_ix ix_d (pvd nmCan 0) pe_int (fun _ _ => rfl)) (pvd nmCan 2) (fun _ _ => rfl)) pe_int (fun _ _ => rfl))
    case h4 =>
     intro _ _ _ _ _ _
     refine' pgb_tup (n := 2) rfl ?z1
     case' z1 => refine' pgs_cons ?z2 ?z3
     case z2 => exact pgb bsCan 0
     case' z3 => refine' pgs_cons ?z4 pgs_nil
     case z4 => exact pgb bsCan 1
    case h5 => exact fun _ _ _ _ _ _ => pts_nil
    case h6 => exact fun _ _ _ _ _ _ => pe_cmpR op_ge (pvb bsCan 0) (pvb bsCan 1) (nomark _)
  case rd =>
   obtain ⟨r, a, b, g1, g2, g3, g4, g5, g6, _⟩ := hR.at i t ht
   walk_at "v"
   refine w_ixT h1 rfl ?_
   walk_at "v"
   refine w_ixT (v := .ref r) h2 (atI_nat (by rw [List.getElem?_map, g1]; rfl)) ?_
   walk_at "v"
   refine w_ixT g2 rfl ?_
   refine ⟨s, a, rfl, ⟨_, SqT.of hs⟩, ⟨_, SqT.of g3⟩, fun D hD => ?_⟩
   refine zip_mapV V.bl (ρ := []) (fun h k => decide (h ≥ k)) hs g3 (by omega) (by omega) (fun j x y H' hx hy K' R kR => ?_) (fun H1 K1 e1 => ?_) hD
   ·walk_at "v"
    exact kR _ (Same.refl _)
   refine ⟨D, _, rfl, .inl (SqL.of e1), rfl, flat_bl _, ?_⟩
   have := k _ K1
   unfold canR at this
   rw [← in_false] at this
   exact this
set_option maxHeartbeats 4000000 in
theorem ok_Th {f : Addr} {fd : FuncData} (B : Blt mg) (fC : Has P w K mg base 1 "_law_can" ["_law_pot_here", "_law_stand", "_law_rule_here"] spCan) (F : Fun K "_law_there" "_law_there" sTh f fd) : FnOk P w K mg base CX0 2 f fd ["_law_pot_here", "_law_stand"] spTh := by
 refine F.ok scTh (fun vs H Q E h => ?_) (fun cdv A outer s H vs Q E hr h => ?_)
 ·obtain ⟨p, s, tg, m, st, rfl, _⟩ := h
  rfl
 ·obtain ⟨p, s, tg, m, st, rfl, hP, hs, hm, m8, t8, k⟩ := h
  refine' ⟨_, ?hb, ?rd⟩
  case hb =>
   refine' pss_one ?s1
   case' s1 => refine' ps_ret ?b1
   case b1 =>
    refine' pe_comp (ix := [0, 1]) bsTh.toCScope rfl rfl ?h3 ?h4 ?h5 ?h6
    case h3 => exact pi_r1 B.range (pa_1 (pe_cB call_lnT B.len PySem.boot_len (pa_1 (pe_ix ix_d (pvd nmTh 0) pe_int (fun _ _ => rfl)))))
    case h4 => exact fun _ _ _ _ _ _ => pgb bsTh 0
    case h5 =>
     intro _ _ _ _ _ _
     refine' pts_one ?h7
     case' h7 => refine' pt_val ?h8
     case h8 => exact pe_f fC hr (by decide) (pa_c (pvb bsTh 1) (pa_2 (pvb bsTh 2) (pvb bsTh 0))) (bsTh.g 0)
    case h6 => exact fun _ _ _ _ _ _ => pvb bsTh 0
  case rd =>
   obtain ⟨x0, x2, x3, x4, pr, rs, h1, h2, hR⟩ := id hP
   have hrl := hR.len
   walk_at "v"
   refine w_ixT h1 rfl ?_
   refine ⟨pr, _, rfl, h2, ?_⟩
   rw [List.length_map, hrl]
   refine ⟨_, rfl, by omega, by omega, fun D hD => ?_⟩
   rw [Int.toNat_natCast]
   refine cgo_range (ρ := [some (.ref p), some (.ref s)]) (fun i zs H' => zs = (((List.range i).filter fun i => (tg[i]?.map (canR st)).getD false).map fun (i : Nat) => V.int (i : Int)) ∧ Same H H') ⟨rfl, Same.new (Same.refl _) hD⟩ ?_ ?_
   ·rintro i zs H' hi ⟨rfl, K'⟩ hDz R S kR kS
    rw [Int.zero_add]
    obtain ⟨t, ht⟩ : ∃ t, tg[i]? = some t := ⟨tg[i], by simp [hi]⟩
    walk_at "v"
    refine ⟨p, s, tg, m, i, st, t, rfl, hP.tk (TK.same K'), K' _ _ hs, hm, m8, ht, fun H2 K2 => ?_⟩
    walk_at "v"
    have hlen : (((List.range i).filter fun i => (tg[i]?.map (canR st)).getD false).map fun (i : Nat) => V.int (i : Int)).length ≤ 1000 := by
     rw [List.length_map]
     exact Nat.le_trans (List.length_filter_le _ _) (by rw [List.length_range]; omega)
    have hstep : (List.range (i + 1)).filter (fun i => (tg[i]?.map (canR st)).getD false) = (List.range i).filter (fun i => (tg[i]?.map (canR st)).getD false) ++ if canR st t = true then [i] else [] := by
     rw [List.range_succ, List.filter_append]
     congr 1
     simp [ht, List.filter_cons]
    cases hc : canR st t with
    | true =>
     refine iteT ?_
     walk_at "v"
     refine kR _ _ (K2 _ _ hDz) (small1000 hlen) ⟨?_, (K'.trans K2).put hD⟩
     rw [hstep, hc, List.map_append]
     rfl
    | false =>
     refine iteF ?_
     refine kS _ (K2 _ _ hDz) ⟨?_, K'.trans K2⟩
     rw [hstep, hc]
     simp
   ·rintro zs H1 ⟨rfl, K1⟩ e1
    exact k D H1 K1 hD e1
end
end K41
namespace PySem
open Sem (wp)
def EsAt (h : Heap) (d : Addr) (es : Array DictEntry) (ep : Nat) : Prop := ∃ o, h.get? d = some o ∧ o.ExactDict ∧ o.data = .dict es ep
theorem EsAt.at' {h h' : Heap} {d es ep} (x : EsAt h d es ep) (e : ∀ o, h.get? d = some o → h'.get? d = some o) : EsAt h' d es ep := let ⟨o, ho, r⟩ := x; ⟨o, e _ ho, r⟩
theorem EsAt.lt {h : Heap} {d es ep} (x : EsAt h d es ep) : d < h.objs.size := let ⟨_, ho, _⟩ := x; Heap.lt_size ho
theorem EsAt.typeIs {s : Shared} {d es ep} (x : EsAt s.heap d es ep) : s.TypeIs (.ref d) "dict" := let ⟨o, ho, hc, _⟩ := x; ⟨o, ho, hc.1⟩
section
variable {prog : Program} {w : World} {A : Around} {E : Value → Shared → Prop} {s : Shared}
theorem e_wpAny_pyIter_dict {d : Addr} {es : Array DictEntry} {ep : Nat} {Q : Value → Shared → Prop} (hd : (d == sysModules) = false) (hm : EsAt s.heap d es ep)
  (hQ : Q (.ref s.heap.objs.size) { s with heap := s.heap.push { cls := .type "dict_keyiterator", data := .fields #[.ref d, .int 0 0, .int es.size 0, .int ep 0] } }) :
  wpAny (model prog w) A (pyIter (.ref d)) Q E s := by
 obtain ⟨o, ho, hc, hdat⟩ := id hm
 have hT : s.TypeIs (.ref d) "dict" := ⟨o, ho, hc.1⟩
 refine wpAny_pyIter_slot hT F.slot_dict_iter (wpAny_call_entry F.slot_dict_iter hT F.entry_dict_iter ?_ (F.args_dict_iter_1 _))
 unfold Builtin.«dict.__iter__»
 refine wpAny_bind ?_
 unfold Builtin.Dict.dictSlotNone
 refine wpAny_bind (wpAny_notOrdered_dict hT ?_)
 show wpAny _ _ (pure (Value.ref d)) _ _ s
 refine wpAny_pure ?_
 show wpAny _ _ (Builtin.Dict.showsAll d >>= _) _ _ s
 unfold Builtin.Dict.showsAll
 rw [if_neg (by rw [hd]; exact Bool.false_ne_true)]
 refine wpAny_bind (wpAny_pure ?_)
 refine wpAny_bind (wpAny_dictEntries ho hdat ?_)
 refine wpAny_bind (wpAny_dictEpoch ho hdat ?_)
 have hsz : es.size = es.size := rfl
 refine wpAny_bind (wpAny_newObj_type (wpAny_pure ⟨_, rfl, "dict_keyiterator", _, ⟨_, Heap.get?_push_size _ rfl, rfl⟩, F.slot_dict_keyiterator_next.lookup, ?_⟩))
 simpa [rawInt] using hQ
theorem e_wpAny_pyNext_dict_item {it d : Addr} {i ep : Nat} {es : Array DictEntry} {e : DictEntry} {Q : Option Value → Shared → Prop} (hit : s.heap.IsKeyIter it d i es.size ep)
  (hm : EsAt s.heap d es ep) (hx : es[i]? = some e)
  (hQ : ∀ h', h'.IsKeyIter it d (i + 1) es.size ep → Heap.SameBut it s.heap h' → Q (some e.key) { s with heap := h' }) :
  wpAny (model prog w) A (pyNext (.ref it)) Q E s := by
 obtain ⟨o, ho, hc, hd⟩ := id hit
 obtain ⟨od, hod, hcd, hdd⟩ := id hm
 unfold pyNext
 refine wpAny_bind (wpAny_attempt (wpAny_callSpecial?_slot (name := Str.ofString "__next__") hit.typeIs F.slot_dict_keyiterator_next
  (wpAny_call_entry F.slot_dict_keyiterator_next hit.typeIs F.entry_dict_keyiterator_next ?_ (F.args_dict_keyiterator_next_1 _))))
 refine wpAny_bind (wpAny_pure ?_)
 refine wpAny_bind ?_
 refine wpAny_bind ?_
 first | refine wpAny_bind (wpAny_typeNameOfWhole_keyiter hit.typeIs (wpAny_pure ?_)) | refine wpAny_bind (wpAny_typeNameOf_keyiter hit.typeIs (wpAny_pure ?_))
 refine wpAny_bind (wpAny_fieldsOf ho hd ?_)
 have hown : Builtin.Dict_items.ownsTuple "dict_keyiterator" = false := by decide
 simp only [hown, Bool.false_eq_true, if_false]
 show wpAny _ _ (if (Value.ref d == Value.none) = true then _ else _) _ _ s
 rw [if_neg (show ¬ ((Value.ref d == Value.none) = true) from Bool.false_ne_true)]
 refine wpAny_bind (wpAny_pure ?_)
 refine wpAny_bind (wpAny_dictEntries hod hdd ?_)
 have hsz : es.size = es.size := rfl
 rw [if_neg (by simp)]
 refine wpAny_bind (wpAny_pure ?_)
 refine wpAny_bind (wpAny_dictEpoch hod hdd ?_)
 rw [if_neg (by simp)]
 refine wpAny_pure ?_
 have hlt : i < es.size := by
  rcases Nat.lt_or_ge i es.size with h | h
  ·exact h
  ·simp [Array.getElem?_eq_none h] at hx
 have hlt' : i < es.size := hlt
 have heq : es[i] = e := by simpa [hlt'] using hx
 simp only [show ¬ ((i : Int) < 0) from by omega, if_false, Int.toNat_natCast, Array.getElem?_eq_getElem hlt']
 refine wpAny_bind ?_
 first | refine wpAny_bind (wpAny_typeNameOfWhole_keyiter hit.typeIs (wpAny_pure ?_)) | refine wpAny_bind (wpAny_typeNameOf_keyiter hit.typeIs (wpAny_pure ?_))
 refine wpAny_bind (wpAny_isOneOf_keyiter hit.typeIs ?_)
 show wpAny _ _ (setField (.ref it) 1 (rawInt ((i : Int) + 1)) >>= _) _ _ s
 refine wpAny_bind (wpAny_setField ho hd (by simp) ?_)
 have hit' : (s.heap.update it (Obj.mapFields (·.setIfInBounds 1 (rawInt ((i : Int) + 1))))).IsKeyIter it d (i + 1) es.size ep :=
  ⟨_, Heap.get?_update_self _ ho (Obj.isFreed_of_fields (Obj.data_mapFields hd _)), (Obj.cls_mapFields ..).trans hc, by rw [Obj.data_mapFields hd]; simp [rawInt]⟩
 refine wpAny_bind (wpAny_holding ?_)
 refine wpAny_bind (wpAny_isOneOf_keyiter (s := { s with heap := s.heap.update it (Obj.mapFields (·.setIfInBounds 1 (rawInt ((i : Int) + 1)))) }) hit'.typeIs ?_)
 show wpAny _ _ (pure es[i].key) _ _ _
 exact wpAny_pure (wpAny_pure ⟨_, rfl, wpAny_pure (heq ▸ hQ _ hit' (Heap.SameBut.update ..))⟩)
theorem e_wpAny_pyNext_dict_end {it d : Addr} {i ep : Nat} {es : Array DictEntry} {Q : Option Value → Shared → Prop} (hh : A.handled = none) (hit : s.heap.IsKeyIter it d i es.size ep)
  (hm : EsAt s.heap d es ep) (hx : es[i]? = none)
  (hQ : ∀ h', Heap.ExtBut it s.heap h' → Q none { s with heap := h' }) : wpAny (model prog w) A (pyNext (.ref it)) Q E s := by
 obtain ⟨o, ho, hc, hd⟩ := id hit
 obtain ⟨od, hod, hcd, hdd⟩ := id hm
 unfold pyNext
 refine wpAny_bind (wpAny_attempt (wpAny_callSpecial?_slot (name := Str.ofString "__next__") hit.typeIs F.slot_dict_keyiterator_next
  (wpAny_call_entry F.slot_dict_keyiterator_next hit.typeIs F.entry_dict_keyiterator_next ?_ (F.args_dict_keyiterator_next_1 _))))
 refine wpAny_bind (wpAny_pure ?_)
 refine wpAny_bind ?_
 refine wpAny_bind ?_
 first | refine wpAny_bind (wpAny_typeNameOfWhole_keyiter hit.typeIs (wpAny_pure ?_)) | refine wpAny_bind (wpAny_typeNameOf_keyiter hit.typeIs (wpAny_pure ?_))
 refine wpAny_bind (wpAny_fieldsOf ho hd ?_)
 have hown : Builtin.Dict_items.ownsTuple "dict_keyiterator" = false := by decide
 simp only [hown, Bool.false_eq_true, if_false]
 show wpAny _ _ (if (Value.ref d == Value.none) = true then _ else _) _ _ s
 rw [if_neg (show ¬ ((Value.ref d == Value.none) = true) from Bool.false_ne_true)]
 refine wpAny_bind (wpAny_pure ?_)
 refine wpAny_bind (wpAny_dictEntries hod hdd ?_)
 have hsz : es.size = es.size := rfl
 rw [if_neg (by simp)]
 refine wpAny_bind (wpAny_pure ?_)
 refine wpAny_bind (wpAny_dictEpoch hod hdd ?_)
 rw [if_neg (by simp)]
 refine wpAny_pure ?_
 have hge : es.size ≤ i := by simpa using hx
 simp only [show ¬ ((i : Int) < 0) from by omega, if_false, Int.toNat_natCast, Array.getElem?_eq_none hge]
 refine wpAny_bind ?_
 first | refine wpAny_bind (wpAny_typeNameOfWhole_keyiter hit.typeIs (wpAny_pure ?_)) | refine wpAny_bind (wpAny_typeNameOf_keyiter hit.typeIs (wpAny_pure ?_))
 show wpAny _ _ (setField (.ref it) 0 .none >>= _) _ _ s
 refine wpAny_bind (wpAny_setField ho hd (by simp) ?_)
 show wpAny _ _ (newExc (.type "StopIteration") [] >>= _) _ _ _
 refine wpAny_bind ?_
 simp only [newExc, newTuple]
 refine wpAny_bind (wpAny_newObj_type ?_ (by size_fits))
 refine wpAny_bind (m := firstArgMember _ _) (wpAny_of_eq (a := Value.none) (by first | rfl | (simp only [firstArgMember]; rfl)) ?_)
 refine wpAny_newObj_type ?_ (by size_fits)
 simp only [raiseNew]
 refine wpAny_bind (wpAny_handled ?_)
 rw [show A.in1.handled = none from hh]
 refine wpAny_bind (wpAny_pure (wpAny_throw ?_))
 refine wpAny_bind (wpAny_isInstance (T := "StopIteration") (b := true) ⟨_, Heap.get?_push_size _ rfl, rfl⟩ isSubtype_stop ?_)
 exact wpAny_pure (hQ _ (((Heap.SameBut.update ..).extBut.push _).push _))
theorem e_walksD (hh : A.handled = none) (I d : Addr) (hne : d ≠ I) (es : Array DictEntry) (ep : Nat) :
  Walks prog w A I [I, d] [I] es.size (fun i v => ∃ e, es[i]? = some e ∧ v = e.key) (fun i h => h.IsKeyIter I d i es.size ep ∧ EsAt h d es ep) where
 sub := fun b hb => by simp at hb; simp [hb]
 frame := fun _ _ _ st hk => ⟨st.1.at fun o e => hk I (by simp) o e, st.2.at' fun o e => hk d (by simp) o e⟩
 item := fun i s Q E hi st hQ => by
  have hx : es[i]? = some es[i] := by simp [hi]
  refine e_wpAny_pyNext_dict_item st.1 st.2 hx fun h' hit' hs' => ?_
  exact hQ _ h' s.toks ⟨_, hx, rfl⟩ ⟨hit', st.2.at' fun o e => hs'.extBut _ o hne e⟩ fun b o hb e => hs'.extBut b o (fun h => hb (by simp [h])) e
 done := fun s Q E st hQ => e_wpAny_pyNext_dict_end hh st.1 st.2 (by simp) fun h' he' => hQ h' s.toks fun b o hb e => he' b o (fun h => hb (by simp [h])) e
 self := fun _ _ _ _ st hQ => wpAny_pyIter_keyiter st.1 hQ
open PySem.W in
theorem e_srcD {d : Addr} {es : Array DictEntry} {ep : Nat} (lo : (d == sysModules) = false) : KdlSrc prog w "dict" d d es.size (fun i v => ∃ e, es[i]? = some e ∧ v = e.key) (fun h => EsAt h d es ep) where
 type := fun _ hm => hm.typeIs
 there := fun _ hm => ⟨hm.lt, hm.lt⟩
 keep := fun _ _ hm hk => hm.at' fun o e => hk d (.inl rfl) o e
 notList := by decide
 notTuple := by decide
 hint := fun _ _ _ _ hm hq => kdl_hint_dict hm.typeIs hq
 iter := fun _ _ hh hm => ⟨_, _, (fun _ _ hq => e_wpAny_pyIter_dict lo hm hq), e_walksD hh _ d (Nat.ne_of_lt hm.lt) es ep, ⟨⟨_, Heap.get?_push_size _ rfl, rfl, rfl⟩, hm.at' fun o e => Heap.get?_push_of_some _ e⟩⟩
open PySem.W in
end
end PySem
namespace L2
open PySem PySem.Spec PyProof.Rows
def KeyAt (H : Hp) : List (List Key × V) → List Addr → Prop := Paired fun p b => H b = some (.tup (p.1.map kV))
theorem KT.at {H : Hp} {kvs : List (List Key × V)} {xs : List (List Key × Addr × Value)} (r : KT H kvs xs) : KeyAt H kvs (xs.map fun x => x.2.1) ∧ Vals (kvs.map (·.2)) (xs.map fun x => x.2.2) := by
 unfold KeyAt
 induction r with
 | nil => exact ⟨.nil, .nil⟩
 | @cons p q ps qs h t ih => exact ⟨.cons h.2.1 ih.1, .cons h.2.2 ih.2⟩
theorem Vals.refs : ∀ bs : List Addr, Vals (bs.map V.ref) (bs.map Value.ref)
 | [] => .nil
 | _ :: bs => .cons rfl (Vals.refs bs)
theorem items_eq {n : Nat} {P : Nat → Value → Prop} {acc : Array Value} {ys : List Value} (h : ItemsOf P acc n) (hn : ys.length = n) (hp : ∀ i v, P i v → ys[i]? = some v) : acc.toList = ys := by
 apply List.ext_getElem?
 intro i
 rcases Nat.lt_or_ge i n with hi | hi
 ·have hs : i < acc.size := by rw [h.1]; exact hi
  have e : acc[i]? = some acc[i] := by simp [hs]
  have := hp i _ (h.2 i _ e)
  rw [Array.getElem?_toList, e, this]
 ·rw [List.getElem?_eq_none (by rw [Array.length_toList, h.1]; exact hi), List.getElem?_eq_none (by rw [hn]; exact hi)]
section
variable {X : Cx} {k : Nat}
def rListD : List V → Hp → VK → Prop := fun xs H Q => ∃ (d : Addr) (kvs : List (List Key × V)), xs = [.ref d] ∧ H d = some (.dT kvs) ∧ ∀ l bs, KeyAt H kvs bs → H l = none → Q (.ref l) (upd H l (.lst (bs.map V.ref)))
theorem call_listD (hr : Room k X.A) : CallR X (.type "list") rListD := by
 intro pins s σ H xs us Q I r h
 obtain ⟨d, kvs, rfl, hd, q⟩ := h
 obtain ⟨u, rfl, ru⟩ := r.one
 cases ru
 obtain ⟨z, lo, ks, rel, o, es, ep, ho, hc, hdat, he, _, _⟩ := dt_of I.hok hd
 have hsz : es.size = ks.length := size_of_entries he
 have hkl : kvs.length = ks.length := Paired.length rel
 refine PySem.W.kdl_call (e_srcD (es := es) (ep := ep) lo) hr.hd ⟨o, ho, hc, hdat⟩ (by rw [hsz, ← hkl]; exact z) fun h' tk acc' c' hk hS hacc => ?_
 have hacc' := items_eq (ys := ks.map fun x => Value.ref x.2.1) hacc (by rw [List.length_map, hsz]) fun i v ⟨e, h1, h2⟩ => by
  rw [entry_at he i] at h1
  rw [List.getElem?_map]
  cases hx : ks[i]? with
  | none => rw [hx] at h1; cases h1
  | some x => rw [hx] at h1; cases h1; subst h2; rfl
 refine ⟨.ref s.heap.objs.size, _, I.laid (t' := tk) hk (Nat.le_refl _) (show ObjOk X.prog X.w _ h' _ (.lst ((ks.map fun x => x.2.1).map V.ref)) from ⟨by rw [List.length_map, List.length_map, ← hkl]; exact z, acc'.toList, c', ?_, ?_⟩), rfl, q _ _ (KT.at rel).1 (I.hok.fresh (Nat.le_refl _))⟩
 ·rw [hacc', show (ks.map fun x => Value.ref x.2.1) = (ks.map fun x => x.2.1).map Value.ref from by rw [List.map_map]; rfl]
  exact Vals.refs _
 ·simpa using hS
def tDisp1 (tk tv : TE) : TE := fun σ H Q => ∀ p, H p = none → tk σ (upd H p (.dT [])) fun x H1 => tv σ H1 fun y H2 => H2 p = some (.dT []) ∧ ∃ (b : Addr) (ks : List Key), x = .ref b ∧ H2 b = some (.tup (ks.map kV)) ∧ Q (.ref p) (upd H2 p (.dT [(ks, y)]))
theorem pe_disp1 {e f : Expr} {tk tv : TE} {pos : Pos} (hu : X.A.units + 1 < cLine) (hk : PE X e tk) (hv : PE X f tv) : PE X (.Dict [some e] [f] pos) (tDisp1 tk tv) := by
 intro pins s σ H Q I q
 have hn := I.hok.fresh (Nat.le_refl s.heap.objs.size)
 have I1 := I.laid (a := s.heap.objs.size) (o := .dT []) (h' := s.heap.push { cls := .type "dict", data := .dict #[] }) (t' := s.toks) (fun _ _ q => Heap.get?_push_of_some _ q) (Nat.le_refl _) (dt_empty s.heap I.big)
 refine wpAny_Dict_any rfl rfl (by simp) (by simp) ?_
 refine pairTrees_cons_walk (thn (hk pins _ σ _ _ I1 (q _ hn)) fun u s1 ⟨x, H1, I2, rx, q1⟩ => thn (hv pins s1 σ H1 _ I2 q1) fun w2 s2 ⟨y, H2, I3, ry, e, b, ks, ex, eb, q2⟩ => pairTrees_nil_walk ?_)
 subst ex
 cases (show u = Value.ref b from rx)
 obtain ⟨z, hd, xs, rel, dd⟩ := dt_of I3.hok e
 cases rel
 unfold storeAll
 rw [List.forIn_cons]
 refine wpAny_bind (wpAny_bind (wpAny_dictSet_heap (hsz := by simp) (knd := tupleKind (mixKind X.prog X.w)) (show X.A.units < cLine by omega) (key_of I3.hok eb) dd fun h' dd' hs => wpAny_pure ?_))
 refine wpAny_pure ⟨.ref s.heap.objs.size, _, ?_, rfl, q2⟩
 obtain ⟨qo, es, ep, hq, h2, h3, h4, _, h5⟩ := dd'
 refine d_write I3 (by rw [e]; exact True.intro) hs ⟨qo, hq⟩ ⟨by show 1 ≤ sizeLine; rw [sizeLine_eq]; omega, hd, _, ?_, qo, es, ep, hq, h2, h3, h4, h5⟩
 refine (KT.put (H := H2) (kvs := []) (xs := []) .nil ks eb ry).keeps fun c ys ec => ?_
 rw [upd_ne (ne_of ec e (fun z => nomatch z))]
 exact ec
theorem for_zm {K : PySem.W.Frag} {a b : Addr} {xs zs : List V} (hz : zs.length = xs.length) {g : TG} {tb : TS} {D : Ends} {σ : St} {H : Hp} (Pv : Nat → St → Hp → Prop) (h0 : Pv 0 σ H) (hl : ∀ i σ H, Pv i σ H → SqT K H a xs ∧ SqL K H b zs)
  (hs : ∀ (i : Nat) (x y : V) σ H p, xs[i]? = some x → zs[i]? = some y → Pv i σ H → H p = none → g (.ref p) σ (upd H p (.tup [x, y])) fun σ2 H2 => tb { D with nx := Pv (i + 1), ct := Pv (i + 1), bk := D.nx } σ2 H2) (hd : ∀ σ H, Pv xs.length σ H → D.nx σ H) :
  ForJ (Itm K a b) g tb D σ H := by
 refine ⟨fun i m σ H => m = xs.length - i ∧ i ≤ xs.length ∧ Pv i σ H, ⟨xs.length, by simp, Nat.zero_le _, h0⟩, ?_⟩
 rintro i m σ H ⟨rfl, hi, p⟩
 have qa := hl i σ H p
 by_cases hlt : i < xs.length
 ·have hlz : i < zs.length := by omega
  refine .inr ⟨⟨xs, zs, xs[i], zs[i], qa.1, qa.2, by simp [hlt], by simp [hlz]⟩, Pv (i + 1), fun σ' H' p' => ⟨xs.length - (i + 1), by omega, rfl, hlt, p'⟩, fun v H' yv => ?_⟩
  obtain ⟨q, x, y, rfl, hq, rfl, ex, ey⟩ := yv
  exact hs i x y σ H q (ex xs qa.1) (ey zs qa.2) p hq
 ·have e : i = xs.length := by omega
  subst e
  exact .inl ⟨⟨xs, zs, qa.1, qa.2, .inl (Nat.le_refl _)⟩, hd σ H p⟩
end
end L2
namespace K41
open PySem L2 G2
local macro_rules | `(tactic| walk_at "v") => `(tactic| repeat (with_reducible first
  | refine w_seq ?_ | refine w_asg ?_ | refine w_gname ?_ | refine w_op ?_ | refine w_var rfl ?_ | refine w_c ?_ | refine w_rI0 ?_ | refine w_ifs ?_ | refine w_ife ?_ | refine w_test ?_ | refine w_tb ?_ | refine w_bl ?_ | refine w_not ?_ | refine w_ret ?_ | refine w_retN ?_
  | refine w_nil ?_ | refine w_cons ?_ | refine w_lst ?_ | refine w_tup ?_ | refine w_cb ?_ | refine w_call ?_ | refine w_gsub ?_ | refine w_and ?_ | refine w_or ?_ | refine w_next ?_ | refine w_all ?_ | refine w_vals ?_ | refine w_compR ?_ | refine w_compT ?_ | refine w_forR ?_ | refine w_forT ?_ | refine w_forL ?_ | refine w_drop ?_ | refine w_bm ?_ | refine w_compZ ?_ | refine w_compL ?_ | refine w_chain ?_ | refine w_sl ?_ | refine w_nopart ?_ | refine w_part ?_ | refine w_unI ?_ | refine iteT ?_ | refine iteF ?_))
abbrev sPCan : Stmt := top 7
abbrev sPGo : Stmt := top 8
abbrev sPTh : Stmt := top 9
abbrev sBeg : Stmt := top 24
abbrev nPCan : List Str := ["pot", "stand", "rule", "takes"]
theorem nmPCan : Nm nPCan (defScope sPCan) := ⟨by decide +kernel, by decide +kernel⟩
theorem scPCan : FnScope nPCan ["pot", "stand", "rule"] (defScope sPCan) := ⟨rfl, rfl, rfl, by decide +kernel, rfl, by decide +kernel, by decide +kernel⟩
abbrev nPGo : List Str := ["pot", "stand", "rule", "takes", "gives"]
theorem nmPGo : Nm nPGo (defScope sPGo) := ⟨by decide +kernel, by decide +kernel⟩
theorem scPGo : FnScope nPGo ["pot", "stand", "rule"] (defScope sPGo) := ⟨rfl, rfl, rfl, by decide +kernel, rfl, by decide +kernel, by decide +kernel⟩
abbrev nPTh : List Str := ["pot", "stand"]
theorem nmPTh : Nm nPTh (defScope sPTh) := ⟨by decide +kernel, by decide +kernel⟩
theorem scPTh : FnScope nPTh ["pot", "stand"] (defScope sPTh) := ⟨rfl, rfl, rfl, by decide +kernel, rfl, by decide +kernel, by decide +kernel⟩
abbrev nBeg : List Str := ["_law_pot_here", "_law_amounts", "_law_stand", "_law_sort", "_law_many"]
theorem nmBeg : Nm nBeg (defScope sBeg) := ⟨by decide +kernel, by decide +kernel⟩
theorem scBeg : FnScope nBeg ["_law_pot_here", "_law_amounts"] (defScope sBeg) := ⟨rfl, rfl, rfl, by decide +kernel, rfl, by decide +kernel, by decide +kernel⟩
abbrev cPCan : Scope := retCallC ((defBody sPCan).getD 2 (.Pass ⟨0, 0, 0, 0⟩))
abbrev cPGo : Scope := retCallC ((defBody sPGo).getD 3 (.Pass ⟨0, 0, 0, 0⟩))
abbrev cPTh : Scope := retC ((defBody sPTh).getD 0 (.Pass ⟨0, 0, 0, 0⟩))
theorem bsPCan : BScope (defScope sPCan) cPCan ["there", "taken"] [] [] := { okind := by decide +kernel, kind := by decide +kernel, nocell := by decide +kernel, names := by decide +kernel, fr := by decide +kernel, ff := by decide +kernel, nd := by decide +kernel, vis := by decide +kernel, loc := by decide +kernel, gl := by decide +kernel }
theorem bsPGo : BScope (defScope sPGo) cPGo ["there", "taken", "given"] [] [] := { okind := by decide +kernel, kind := by decide +kernel, nocell := by decide +kernel, names := by decide +kernel, fr := by decide +kernel, ff := by decide +kernel, nd := by decide +kernel, vis := by decide +kernel, loc := by decide +kernel, gl := by decide +kernel }
theorem bsPTh : BScope (defScope sPTh) cPTh ["rule"] ["pot", "stand"] ["can_go"] := { okind := by decide +kernel, kind := by decide +kernel, nocell := by decide +kernel, names := by decide +kernel, fr := by decide +kernel, ff := by decide +kernel, nd := by decide +kernel, vis := by decide +kernel, loc := by decide +kernel, gl := by decide +kernel }
def Kn (mg : Str → Option Value) (x : Str) (i : Int) : Prop := ∃ t, mg x = some (Value.int i t)
theorem pe_k {X : Cx} {x : Str} {i : Int} {pos : Pos} (h : Kn X.mg x i) (hg : Gl X x := by rfl) (hd : (x == ("__debug__" : Str)) = false := by decide) : PE X (.Name x pos) (tC (.int i)) := by
 obtain ⟨t, e⟩ := h
 exact pe_glob hg e ⟨t, rfl⟩ hd
structure Blp (mg : Str → Option Value) : Prop extends Blt mg where
 all : mg "all" = none
 repr : mg "repr" = none
 ruK : Kn mg "RULES" 1
 taK : Kn mg "TAKES" 0
 giK : Kn mg "GIVES" 1
def spGoP : Sp := fun vs H Q _ => ∃ (p s : Addr) (tg : List Row) (m i : Nat) (st : List Int) (t : Row), vs = [.ref p, .ref s, .int (i : Int)] ∧ PotE H p tg m ∧ H s = some (.tup (st.map V.int)) ∧ st.length = m ∧ m ≤ 8 ∧ tg[i]? = some t ∧ canR st t = true ∧ ∀ q H', Same H H' → H' q = some (.tup ((goR st t).map V.int)) → Q (.ref q) H'
theorem w_forM {K : PySem.W.Frag} {ta : TA} {g : TG} {tb : TS} {D : Ends} {σ : St} {H : Hp} (h : ta σ H fun vs H1 => ∃ a b, vs = [.ref a, .ref b] ∧ (∃ xs, SqT K H1 a xs) ∧ (∃ ys, SqL K H1 b ys) ∧ ForJ (Itm K a b) g tb D σ H1) : tFor (iZm K ta) g tb D σ H := h
def spBeg : Sp := fun vs H Q _ => ∃ (q am : Addr) (rs : List Addr) (ins beg as : List Int) (ans : Int) (m : Nat), vs = [.ref q, .ref am] ∧ PotD H q rs ins beg ans m ∧ H am = some (.lst (as.map V.int)) ∧ as.length = ins.length ∧ (∀ a ∈ as, 0 ≤ a ∧ a ≤ 3) ∧ ∀ (z : Addr) (st : List Int) (H' : Hp), Same H H' → H' z = some (.tup (st.map V.int)) → st.length = m → (∀ x ∈ st, 0 ≤ x ∧ x ≤ 120) → Q (.ref z) H'
section
variable {P : Program} {w : World} {K : PySem.W.Frag} {mg : Str → Option Value} {base : Heap}
set_option maxHeartbeats 4000000 in
theorem ok_PCan {f : Addr} {fd : FuncData} (B : Blp mg) (F : Fun K "can_go" "can_go" sPCan f fd) : FnOk P w K mg base CX0 1 f fd ["pot", "stand", "rule"] spCan := by
 refine F.ok scPCan (fun vs H Q E h => ?_) (fun cdv A outer s H vs Q E hr h => ?_)
 ·obtain ⟨p, s, tg, m, i, st, t, rfl, _⟩ := h
  rfl
 ·obtain ⟨p, s, tg, m, i, st, t, rfl, ⟨x0, x2, x3, x4, pr, rs, h1, h2, hR⟩, hs, hm, m8, ht, k⟩ := h
  refine' ⟨_, ?hb, ?rd⟩
  case hb =>
   refine' pss_cons ?s1 ?r1
   case' r1 => refine' pss_cons ?s2 ?r2
   case' r2 => refine' pss_one ?s3
   case s1 =>
    refine' ps_if ?c1 (pss_one (ps_ret pe_bl)) pss_nil
    case' c1 => refine' pt_not ?c2
    case' c2 => refine' pt_chain op_le op_lt pe_int (pvd nmPCan 2) ?c3
    case' c3 => refine' pe_cB call_len_seq B.len PySem.boot_len ?c4
    case c4 => exact pa_1 (pe_ix ix_d (pvd nmPCan 0) (pe_k B.ruK) (fun _ _ => rfl))
   case s2 =>
    refine' ps_setD nmPCan 3 ?d1
    case' d1 => refine' pe_ix ix_d ?d2 (pe_k B.taK) (fun _ _ => rfl)
    case d2 => exact (pe_ix ix_d (pe_ix ix_d (pvd nmPCan 0) (pe_k B.ruK) (fun _ _ => rfl)) (pvd nmPCan 2) (fun _ _ => rfl))
   case s3 =>
    refine' ps_ret ?e1
    case' e1 => refine' pe_cB (call_all rfl) B.all PyProof.Rows.boot_all ?e2
    case' e2 => refine' pa_1 ?e3
    case e3 =>
     refine' pe_comp (ix := []) bsPCan.toCScope rfl rfl (pi_zp B.zip (pa_2 (pvd nmPCan 1) (pvd nmPCan 3))) ?h4 ?h5 ?h6
     case h4 =>
      intro _ _ _ _ _ _
      refine' pgb_tup (n := 2) rfl ?z1
      case' z1 => refine' pgs_cons ?z2 ?z3
      case z2 => exact pgb bsPCan 0
      case' z3 => refine' pgs_cons ?z4 pgs_nil
      case z4 => exact pgb bsPCan 1
     case h5 => exact fun _ _ _ _ _ _ => pts_nil
     case h6 => exact fun _ _ _ _ _ _ => pe_cmpR op_ge (pvb bsPCan 0) (pvb bsPCan 1) (nomark _)
  case rd =>
   obtain ⟨r, a, b, g1, g2, g3, g4, g5, g6, _⟩ := hR.at i t ht
   have hrl := hR.len
   have hi : i < tg.length := (List.getElem?_eq_some_iff.mp ht).1
   walk_at "v"
   refine iteD (fun h0 => ?_) (fun h0 => ?_)
   ·walk_at "v"
    refine w_ixT h1 rfl ?_
    walk_at "v"
    refine ⟨pr, _, rfl, .inr (SqT.of h2), ?_⟩
    rw [List.length_map, hrl]
    walk_at "v"
    refine iteDN (fun h => ?_) (fun h => ?_)
    ·omega
    ·walk_at "v"
     refine w_ixT h1 rfl ?_
     walk_at "v"
     refine w_ixT (v := .ref r) h2 (atI_nat (by rw [List.getElem?_map, g1]; rfl)) ?_
     walk_at "v"
     refine w_ixT g2 rfl ?_
     walk_at "v"
     refine ⟨s, a, rfl, ⟨_, SqT.of hs⟩, ⟨_, SqT.of g3⟩, fun D hD => ?_⟩
     refine zip_mapV V.bl (ρ := []) (fun h k => decide (h ≥ k)) hs g3 (by omega) (by omega) (fun j x y H' hx hy K' R kR => ?_) (fun H1 K1 e1 => ?_) hD
     ·walk_at "v"
      exact kR _ (Same.refl _)
     walk_at "v"
     exact ⟨D, _, rfl, e1, k _ K1⟩
   ·omega
set_option maxHeartbeats 4000000 in
theorem ok_PGo {f : Addr} {fd : FuncData} (B : Blp mg) (C : Has P w K mg base 1 "can_go" ["pot", "stand", "rule"] spCan) (F : Fun K "gone" "gone" sPGo f fd) : FnOk P w K mg base CX0 2 f fd ["pot", "stand", "rule"] spGoP := by
 refine F.ok scPGo (fun vs H Q E h => ?_) (fun cdv A outer s H vs Q E hr h => ?_)
 ·obtain ⟨p, s, tg, m, i, st, t, rfl, _⟩ := h
  rfl
 ·obtain ⟨p, s, tg, m, i, st, t, rfl, hP, hs, hm, m8, ht, hc, k⟩ := h
  refine' ⟨_, ?hb, ?rd⟩
  case hb =>
   refine' pss_cons ?s1 ?r1
   case' r1 => refine' pss_cons ?s2 ?r2
   case' r2 => refine' pss_cons ?s3 ?r3
   case' r3 => refine' pss_one ?s4
   case s1 =>
    refine' ps_if ?c1 (pss_one ps_never) pss_nil
    case' c1 => refine' pt_not ?c2
    case' c2 => refine' pt_val ?c3
    case c3 => exact pe_f C hr (by decide) (pa_c (pvd nmPGo 0) (pa_2 (pvd nmPGo 1) (pvd nmPGo 2)))
   case s2 =>
    refine' ps_setD nmPGo 3 ?d1
    case' d1 => refine' pe_ix ix_d ?d2 (pe_k B.taK) (fun _ _ => rfl)
    case d2 => exact (pe_ix ix_d (pe_ix ix_d (pvd nmPGo 0) (pe_k B.ruK) (fun _ _ => rfl)) (pvd nmPGo 2) (fun _ _ => rfl))
   case s3 =>
    refine' ps_setD nmPGo 4 ?f1
    case' f1 => refine' pe_ix ix_d ?f2 (pe_k B.giK) (fun _ _ => rfl)
    case f2 => exact (pe_ix ix_d (pe_ix ix_d (pvd nmPGo 0) (pe_k B.ruK) (fun _ _ => rfl)) (pvd nmPGo 2) (fun _ _ => rfl))
   case s4 =>
    refine' ps_ret ?e1
    case' e1 => refine' pe_cT call_tuple_of B.tuple PyProof.Rows.boot_tuple ?e2
    case' e2 => refine' pa_1 ?e3
    case e3 =>
     refine' pe_comp (ix := []) bsPGo.toCScope rfl rfl (pi_zt B.zip (pa_c (pvd nmPGo 1) (pa_2 (pvd nmPGo 3) (pvd nmPGo 4)))) ?h4 ?h5 ?h6
     case h4 =>
      intro _ _ _ _ _ _
      refine' pgb_tup (n := 3) rfl ?z1
      case' z1 => refine' pgs_cons ?z2 ?z3
      case z2 => exact pgb bsPGo 0
      case' z3 => refine' pgs_cons ?z4 ?z5
      case z4 => exact pgb bsPGo 1
      case' z5 => refine' pgs_cons ?z6 pgs_nil
      case z6 => exact pgb bsPGo 2
     case h5 => exact fun _ _ _ _ _ _ => pts_nil
     case h6 => exact fun _ _ _ _ _ _ => pe_op op_add (pe_op op_sub (pvb bsPGo 0) (pvb bsPGo 1)) (pvb bsPGo 2)
  case rd =>
   walk_at "v"
   refine ⟨p, s, tg, m, i, st, t, rfl, hP, hs, hm, m8, ht, fun H1 K1 => ?_⟩
   rw [hc]
   walk_at "v"
   refine iteF ?_
   obtain ⟨x0, x2, x3, x4, pr, rs, h1, h2, hR⟩ := hP.tk (TK.same K1)
   obtain ⟨r, a, b, g1, g2, g3, g4, g5, g6, _⟩ := hR.at i t ht
   walk_at "v"
   refine w_ixT h1 rfl ?_
   walk_at "v"
   refine w_ixT (v := .ref r) h2 (atI_nat (by rw [List.getElem?_map, g1]; rfl)) ?_
   walk_at "v"
   refine w_ixT g2 rfl ?_
   walk_at "v"
   refine w_ixT h1 rfl ?_
   walk_at "v"
   refine w_ixT (v := .ref r) h2 (atI_nat (by rw [List.getElem?_map, g1]; rfl)) ?_
   walk_at "v"
   refine w_ixT g2 rfl ?_
   walk_at "v"
   refine w_comp3 ?_
   walk_at "v"
   refine ⟨s, a, b, rfl, ⟨_, SqT.of (K1 _ _ hs)⟩, ⟨_, SqT.of g3⟩, ⟨_, SqT.of g4⟩, fun D hD => ?_⟩
   refine zip3_map (ρ := []) (fun x y z => x - y + z) (K1 _ _ hs) g3 g4 (by omega) (by omega) (by omega) (fun x y z H' _ R kR => ?_) (fun H2 K2 hD2 => ?_) hD
   ·walk_at "v"
    exact kR _ (Same.refl _)
   walk_at "v"
   refine ⟨D, _, rfl, .inl ⟨SqL.of hD2, fun q hq => ?_⟩⟩
   exact k q _ ((K1.trans K2).new hq) upd_same
set_option maxHeartbeats 4000000 in
theorem ok_PTh {f : Addr} {fd : FuncData} (B : Blp mg) (fC : Has P w K mg base 1 "can_go" ["pot", "stand", "rule"] spCan) (F : Fun K "rules_there" "rules_there" sPTh f fd) : FnOk P w K mg base CX0 2 f fd ["pot", "stand"] spTh := by
 refine F.ok scPTh (fun vs H Q E h => ?_) (fun cdv A outer s H vs Q E hr h => ?_)
 ·obtain ⟨p, s, tg, m, st, rfl, _⟩ := h
  rfl
 ·obtain ⟨p, s, tg, m, st, rfl, hP, hs, hm, m8, t8, k⟩ := h
  refine' ⟨_, ?hb, ?rd⟩
  case hb =>
   refine' pss_one ?s1
   case' s1 => refine' ps_ret ?b1
   case b1 =>
    refine' pe_comp (ix := [0, 1]) bsPTh.toCScope rfl rfl ?h3 ?h4 ?h5 ?h6
    case h3 => exact pi_r1 B.range (pa_1 (pe_cB call_lnT B.len PySem.boot_len (pa_1 (pe_ix ix_d (pvd nmPTh 0) (pe_k B.ruK) (fun _ _ => rfl)))))
    case h4 => exact fun _ _ _ _ _ _ => pgb bsPTh 0
    case h5 =>
     intro _ _ _ _ _ _
     refine' pts_one ?h7
     case' h7 => refine' pt_val ?h8
     case h8 => exact pe_f fC hr (by decide) (pa_c (pvb bsPTh 1) (pa_2 (pvb bsPTh 2) (pvb bsPTh 0))) (bsPTh.g 0)
    case h6 => exact fun _ _ _ _ _ _ => pvb bsPTh 0
  case rd =>
   obtain ⟨x0, x2, x3, x4, pr, rs, h1, h2, hR⟩ := id hP
   have hrl := hR.len
   walk_at "v"
   refine w_ixT h1 rfl ?_
   refine ⟨pr, _, rfl, h2, ?_⟩
   rw [List.length_map, hrl]
   refine ⟨_, rfl, by omega, by omega, fun D hD => ?_⟩
   rw [Int.toNat_natCast]
   refine cgo_range (ρ := [some (.ref p), some (.ref s)]) (fun i zs H' => zs = (((List.range i).filter fun i => (tg[i]?.map (canR st)).getD false).map fun (i : Nat) => V.int (i : Int)) ∧ Same H H') ⟨rfl, Same.new (Same.refl _) hD⟩ ?_ ?_
   ·rintro i zs H' hi ⟨rfl, K'⟩ hDz R S kR kS
    rw [Int.zero_add]
    obtain ⟨t, ht⟩ : ∃ t, tg[i]? = some t := ⟨tg[i], by simp [hi]⟩
    walk_at "v"
    refine ⟨p, s, tg, m, i, st, t, rfl, hP.tk (TK.same K'), K' _ _ hs, hm, m8, ht, fun H2 K2 => ?_⟩
    walk_at "v"
    have hlen : (((List.range i).filter fun i => (tg[i]?.map (canR st)).getD false).map fun (i : Nat) => V.int (i : Int)).length ≤ 1000 := by
     rw [List.length_map]
     exact Nat.le_trans (List.length_filter_le _ _) (by rw [List.length_range]; omega)
    have hstep : (List.range (i + 1)).filter (fun i => (tg[i]?.map (canR st)).getD false) = (List.range i).filter (fun i => (tg[i]?.map (canR st)).getD false) ++ if canR st t = true then [i] else [] := by
     rw [List.range_succ, List.filter_append]
     congr 1
     simp [ht, List.filter_cons]
    cases hc : canR st t with
    | true =>
     refine iteT ?_
     walk_at "v"
     refine kR _ _ (K2 _ _ hDz) (small1000 hlen) ⟨?_, (K'.trans K2).put hD⟩
     rw [hstep, hc, List.map_append]
     rfl
    | false =>
     refine iteF ?_
     refine kS _ (K2 _ _ hDz) ⟨?_, K'.trans K2⟩
     rw [hstep, hc]
     simp
   ·rintro zs H1 ⟨rfl, K1⟩ e1
    exact k D H1 K1 hD e1
set_option maxHeartbeats 4000000 in
theorem ok_Beg {f : Addr} {fd : FuncData} (B : Blp mg) (F : Fun K "_law_begin" "_law_begin" sBeg f fd) : FnOk P w K mg base CX0 1 f fd ["_law_pot_here", "_law_amounts"] spBeg := by
 refine F.ok scBeg (fun vs H Q E h => ?_) (fun cdv A outer s H vs Q E hr h => ?_)
 ·obtain ⟨q, am, rs, ins, beg, as, ans, m, rfl, _⟩ := h
  rfl
 ·obtain ⟨q, am, rs, ins, beg, as, ans, m, rfl, hP, ham, hal, hab, k⟩ := h
  refine' ⟨_, ?hb, ?rd⟩
  case hb =>
   refine' pss_cons ?s1 ?r1
   case' r1 => refine' pss_cons ?s2 ?r2
   case' r2 => refine' pss_one ?s3
   case s1 => exact ps_setD nmBeg 2 (pe_cT call_list_of B.list PyProof.Rows.boot_list (pa_1 (pe_ix ix_d (pvd nmBeg 0) pe_int (fun _ _ => rfl))))
   case s2 =>
    refine' ps_for PassesOwn.never rfl ?i1 ?g1 ?b1
    case i1 => exact pi_zm B.zip (pa_2 (pe_ix ix_d (pvd nmBeg 0) pe_int (fun _ _ => rfl)) (pvd nmBeg 1))
    case g1 => exact pg_tup (n := 2) rfl (pgs_cons (pgd nmBeg 3) (pgs_cons (pgd nmBeg 4) pgs_nil))
    case b1 =>
     refine' pss_one ?b2
     case' b2 => refine' ps_asg ?b3 (pg_sub (pvd nmBeg 2) (pvd nmBeg 3) set_d)
     case b3 => exact pe_op op_add (pe_ix ix_d (pvd nmBeg 2) (pvd nmBeg 3) (fun _ _ => rfl)) (pvd nmBeg 4)
   case s3 => exact ps_ret (pe_cT call_tuple_of B.tuple PyProof.Rows.boot_tuple (pa_1 (pvd nmBeg 2)))
  case rd =>
   obtain ⟨ps, pr, pin, pb, xs, h1, h2, h3, h4, h5, h6⟩ := hP.ex
   have i3 := hP.i3
   walk_at "v"
   refine w_ixT h1 rfl ?_
   walk_at "v"
   refine ⟨pb, _, rfl, .inr (SqT.of h6), fun a ha => ?_⟩
   have K1 : Same H (upd H a (.lst (beg.map V.int))) := Same.new (Same.refl _) ha
   have e1 : upd H a (.lst (beg.map V.int)) a = some (.lst (beg.map V.int)) := upd_same
   have nqa : q ≠ a := ne_of_none h1 ha
   have nia : pin ≠ a := ne_of_none h5 ha
   have nma : am ≠ a := ne_of_none ham ha
   generalize upd H a (.lst (beg.map V.int)) = H1 at K1 e1 ⊢
   walk_at "v"
   refine w_forM ?_
   walk_at "v"
   refine w_ixT (K1 _ _ h1) rfl ?_
   walk_at "v"
   refine ⟨pin, am, rfl, ⟨_, SqT.of (K1 _ _ h5)⟩, ⟨_, SqL.of (K1 _ _ ham)⟩, ?_⟩
   refine for_zm (xs := ins.map V.int) (zs := as.map V.int) (by simp [hal]) (fun i σ H' => ∃ (u3 u4 : Option V) (ys : List Int), σ = [some (.ref q), some (.ref am), some (.ref a), u3, u4] ∧ H' a = some (.lst (ys.map V.int)) ∧ ys.length = m ∧ i ≤ 3 ∧ (∀ y ∈ ys, 0 ≤ y ∧ y ≤ 99 + 3 * (i : Int)) ∧ Same H H') ⟨_, _, beg, rfl, e1, hP.bl, by omega, (fun y hy => by have := hP.hb y hy; omega), K1⟩ (fun i σ H' ⟨_, _, _, _, _, _, _, _, k'⟩ => ⟨SqT.of (k' _ _ h5), SqL.of (k' _ _ ham)⟩) ?_ ?_
   ·rintro i x y σ H' p hx hy ⟨u3, u4, ys, rfl, ea, hyl, hi3, hyb, K'⟩ hp
    have hi : i < ins.length := by
     have := (List.getElem?_eq_some_iff.mp hx).1
     simpa using this
    have hi' : i < as.length := by omega
    have ex : x = .int ins[i] := by
     rw [List.getElem?_map, List.getElem?_eq_getElem hi] at hx
     exact (Option.some.inj hx).symm
    have ey : y = .int as[i] := by
     rw [List.getElem?_map, List.getElem?_eq_getElem hi'] at hy
     exact (Option.some.inj hy).symm
    subst ex ey
    have b1 := hP.hi _ (List.getElem_mem hi)
    have b2 := hab _ (List.getElem_mem hi')
    have KN := K'.new (o := .tup [.int ins[i], .int as[i]]) hp
    have eN : upd H' p (.tup [.int ins[i], .int as[i]]) p = some (.tup [.int ins[i], .int as[i]]) := upd_same
    have eaN : upd H' p (.tup [.int ins[i], .int as[i]]) a = some (.lst (ys.map V.int)) := by rw [upd_ne (ne_of_none ea hp)]; exact ea
    generalize upd H' p (.tup [.int ins[i], .int as[i]]) = HN at KN eN eaN ⊢
    generalize ins[i] = s at b1 eN ⊢
    generalize as[i] = y at b2 eN ⊢
    refine w_gtup eN rfl ?_
    refine ⟨_, _, rfl, ?_⟩
    walk_at "v"
    refine ⟨_, _, rfl, ?_⟩
    walk_at "v"
    refine ⟨rfl, ?_⟩
    walk_at "v"
    refine w_ixL eaN (v := .int (ys.getD s.toNat 0)) (by
     have := gd_at (c := ys) (k := s.toNat) (by omega)
     rw [Int.toNat_of_nonneg b1.1] at this
     exact this) ?_
    walk_at "v"
    refine w_set eaN (ixK b1.1 (by rw [List.length_map, hyl]; exact b1.2)) ?_
    have hg : ys.getD s.toNat 0 ∈ ys := by
     have hlt : s.toNat < ys.length := by omega
     rw [List.getD_eq_getElem?_getD, List.getElem?_eq_getElem hlt]
     exact List.getElem_mem hlt
    have hgb := hyb _ hg
    refine ⟨_, _, ys.set s.toNat (ys.getD s.toNat 0 + y), rfl, by rw [upd_same, List.map_set], by rw [List.length_set]; exact hyl, by omega, fun z hz => ?_, KN.put ha⟩
    rcases List.mem_or_eq_of_mem_set hz with h | h
    ·have := hyb z h
     omega
    ·rw [h]
     omega
   ·rintro σ H3 ⟨u3, u4, ys, rfl, ea, hyl, hi3, hyb, K3⟩
    walk_at "v"
    refine ⟨a, _, rfl, .inl ⟨SqL.of ea, fun z hz => ?_⟩⟩
    refine k z ys _ (K3.new hz) upd_same hyl fun x hx => ?_
    have := hyb x hx
    rw [List.length_map] at this
    omega
end
abbrev nV : Nat → V := fun (i : Nat) => V.int (i : Int)
abbrev Es := List (List Int × List Nat)
def add1 (tg : List Row) (e : List Int × List Nat) (es : Es) (r : Nat) : Es :=
 if (es.any fun x => decide (x.1 = goR e.1 (tg.getD r ([], [])))) = true then es else es ++ [(goR e.1 (tg.getD r ([], [])), e.2 ++ [r])]
def expd (tg : List Row) (e : List Int × List Nat) (es : Es) : Es := (thR e.1 tg).foldl (add1 tg e) es
def run (tg : List Row) (mo : Nat) : Nat → Nat → Es → Option Es
 | 0, _, es => some es
 | n + 1, i, es => match es[i]? with
  | none => some es
  | some e => if mo < (expd tg e es).length then none else run tg mo n (i + 1) (expd tg e es)
theorem run_end {tg : List Row} {mo n i : Nat} {es : Es} (h : es.length ≤ i) : run tg mo n i es = some es := by
 cases n with
 | zero => rfl
 | succ n => unfold run; rw [List.getElem?_eq_none h]
theorem run_succ {tg : List Row} {mo n i : Nat} {es : Es} {e : List Int × List Nat} (h : es[i]? = some e) : run tg mo (n + 1) i es = if mo < (expd tg e es).length then none else run tg mo n (i + 1) (expd tg e es) := by
 rw [run, h]
theorem add1_len (tg : List Row) (e : List Int × List Nat) (es : Es) (r : Nat) : es.length ≤ (add1 tg e es r).length := by
 unfold add1
 split
 ·exact Nat.le_refl _
 ·simp
theorem fold_len (tg : List Row) (e : List Int × List Nat) : ∀ (rs : List Nat) (es : Es), es.length ≤ (rs.foldl (add1 tg e) es).length
 | [], es => Nat.le_refl _
 | r :: rs, es => Nat.le_trans (add1_len tg e es r) (fold_len tg e rs _)
theorem fold_take (tg : List Row) (e : List Int × List Nat) (rs : List Nat) (j : Nat) (es : Es) : ((rs.take j).foldl (add1 tg e) es).length ≤ (rs.foldl (add1 tg e) es).length := by
 have h : rs.foldl (add1 tg e) es = (rs.drop j).foldl (add1 tg e) ((rs.take j).foldl (add1 tg e) es) := by rw [← List.foldl_append, List.take_append_drop]
 rw [h]
 exact fold_len tg e _ _
theorem fold_step (tg : List Row) (e : List Int × List Nat) (rs : List Nat) {j r : Nat} (hr : rs[j]? = some r) (es : Es) : (rs.take (j + 1)).foldl (add1 tg e) es = add1 tg e ((rs.take j).foldl (add1 tg e) es) r := by
 rw [List.take_add_one, hr, List.foldl_append]
 rfl
def keyOf (s : List Int) : List Key := s.map Sum.inl
theorem keyOf_kV (s : List Int) : (keyOf s).map kV = s.map V.int := by
 unfold keyOf
 rw [List.map_map]
 rfl
theorem keyOf_inj : ∀ {a b : List Int}, keyOf a = keyOf b → a = b
 | [], [], _ => rfl
 | [], _ :: _, h => by simp [keyOf] at h
 | _ :: _, [], h => by simp [keyOf] at h
 | x :: a, y :: b, h => by
  unfold keyOf at h
  rw [List.map_cons, List.map_cons, List.cons.injEq] at h
  have h1 : x = y := by
   have := h.1
   cases this
   rfl
  rw [h1, keyOf_inj (a := a) (b := b) h.2]
structure En where
 st : List Int
 od : List Nat
 f : Addr
 o : Addr
def En.e (x : En) : List Int × List Nat := (x.st, x.od)
structure EnAt (H : Hp) (m : Nat) (x : En) (j : Nat) : Prop where
 hf : H x.f = some (.tup (x.st.map V.int))
 ho : H x.o = some (.tup (x.od.map nV))
 sl : x.st.length = m
 ol : x.od.length ≤ j
 sb : ∀ y ∈ x.st, -(1000 + 9 * (x.od.length : Int)) ≤ y ∧ y ≤ 1000 + 9 * (x.od.length : Int)
 ob : ∀ r ∈ x.od, r < 8
theorem EnAt.tk {H H' : Hp} {m j : Nat} {x : En} (k : TK H H') (h : EnAt H m x j) : EnAt H' m x j := ⟨k.t _ _ h.hf, k.t _ _ h.ho, h.sl, h.ol, h.sb, h.ob⟩
def dE (xs : List En) : List (List Key × V) := xs.map fun x => (keyOf x.st, V.ref x.o)
def fE (xs : List En) : List V := xs.map fun x => V.ref x.f
theorem val_en (b : List Int) : ∀ xs : List En, valV (dE xs) (keyOf b) = (xs.find? fun x => decide (x.st = b)).map fun x => V.ref x.o
 | [] => rfl
 | x :: xs => by
  rw [show dE (x :: xs) = (keyOf x.st, V.ref x.o) :: dE xs from rfl]
  by_cases h : x.st = b
  ·rw [valV_pos (by rw [h]), List.find?_cons_of_pos (by simpa using h)]
   rfl
  ·rw [valV_neg (fun e => h (keyOf_inj e)), val_en b xs, List.find?_cons_of_neg (by simpa using h)]
theorem find_nd : ∀ {xs : List En}, (xs.map En.st).Nodup → ∀ {x : En}, x ∈ xs → xs.find? (fun y => decide (y.st = x.st)) = some x
 | [], _, _, hx => by cases hx
 | y :: xs, nd, x, hx => by
  rw [List.map_cons, List.nodup_cons] at nd
  rcases List.mem_cons.mp hx with rfl | hx
  ·rw [List.find?_cons_of_pos (by simp)]
  ·have hne : ¬ y.st = x.st := fun e => nd.1 (e ▸ List.mem_map_of_mem hx)
   rw [List.find?_cons_of_neg (by simpa using hne)]
   exact find_nd nd.2 hx
theorem any_en (b : List Int) : ∀ xs : List En, ((xs.map En.e).any fun x => decide (x.1 = b)) = (xs.find? fun x => decide (x.st = b)).isSome
 | [] => rfl
 | x :: xs => by
  rw [List.map_cons, List.any_cons, any_en b xs]
  by_cases h : x.st = b
  ·rw [List.find?_cons_of_pos (by simpa using h)]
   simp [En.e, h]
  ·rw [List.find?_cons_of_neg (by simpa using h)]
   simp [En.e, h]
theorem not_mem_en {b : List Int} {xs : List En} (h : (xs.find? fun x => decide (x.st = b)) = none) : b ∉ xs.map En.st := by
 intro hm
 obtain ⟨x, hx, rfl⟩ := List.mem_map.mp hm
 have := List.find?_eq_none.mp h x hx
 simp at this
structure Fd (H : Hp) (fl dl : Addr) (m : Nat) (xs : List En) : Prop where
 hf : H fl = some (.lst (fE xs))
 hd : H dl = some (.dT (dE xs))
 at' : ∀ (j : Nat) (x : En), xs[j]? = some x → EnAt H m x j
 nd : (xs.map En.st).Nodup
def Kp (fl dl : Addr) (H H' : Hp) : Prop := ∀ q o, q ≠ fl → q ≠ dl → H q = some o → H' q = some o
section
variable {H H' H'' : Hp} {fl dl : Addr} {m : Nat} {xs : List En} {o : HO}
theorem Fd.same (k : Same H H') (F : Fd H fl dl m xs) : Fd H' fl dl m xs := ⟨k _ _ F.hf, k _ _ F.hd, fun j x e => (F.at' j x e).tk (TK.same k), F.nd⟩
theorem Fd.ne (F : Fd H fl dl m xs) : fl ≠ dl := ne_of F.hf F.hd (by intro z; cases z)
theorem Kp.of (k : Same H H') : Kp fl dl H H' := fun q o _ _ h => k q o h
theorem Kp.trans (a : Kp fl dl H H') (b : Kp fl dl H' H'') : Kp fl dl H H'' := fun q o h1 h2 h => b q o h1 h2 (a q o h1 h2 h)
theorem Kp.pf (a : Kp fl dl H H') : Kp fl dl H (upd H' fl o) := fun q u h1 h2 h => by rw [upd_ne h1]; exact a q u h1 h2 h
theorem Kp.pd (a : Kp fl dl H H') : Kp fl dl H (upd H' dl o) := fun q u h1 h2 h => by rw [upd_ne h2]; exact a q u h1 h2 h
theorem Kp.tk (a : Kp fl dl H H') (F : Fd H fl dl m xs) : TK H H' := ⟨fun q ys e => a _ _ (ne_of e F.hf (by intro z; cases z)) (ne_of e F.hd (by intro z; cases z)) e, fun q u v e => a _ _ (ne_of e F.hf (by intro z; cases z)) (ne_of e F.hd (by intro z; cases z)) e⟩
theorem Kp.from (a : Kp fl dl H' H'') (s : Same H H') (h1 : H fl = none) (h2 : H dl = none) : Same H H'' := fun q o h => a q o (ne_of_none h h1) (ne_of_none h h2) (s q o h)
theorem Fd.snoc {x : En} (F : Fd H fl dl m xs) (hx : EnAt H m x xs.length) (hn : x.st ∉ xs.map En.st) : Fd (upd (upd H dl (.dT (putK (dE xs) (keyOf x.st) (V.ref x.o)))) fl (.lst (fE xs ++ [V.ref x.f]))) fl dl m (xs ++ [x]) := by
 have hne := F.ne
 have k : Kp fl dl H (upd (upd H dl (.dT (putK (dE xs) (keyOf x.st) (V.ref x.o)))) fl (.lst (fE xs ++ [V.ref x.f]))) := Kp.pf (Kp.pd (Kp.of (Same.refl _)))
 have t := k.tk F
 refine ⟨?_, ?_, fun j y hy => ?_, ?_⟩
 ·rw [upd_same]
  unfold fE
  rw [List.map_append]
  rfl
 ·rw [upd_ne (Ne.symm hne), upd_same, putK_new]
  ·unfold dE
   rw [List.map_append]
   rfl
  ·rw [val_en]
   cases e : (xs.find? fun y => decide (y.st = x.st)) with
   | none => rfl
   | some y =>
    exfalso
    apply hn
    have h1 := List.mem_of_find?_eq_some e
    have h2 := List.find?_some e
    rw [← of_decide_eq_true h2]
    exact List.mem_map_of_mem h1
 ·rcases Nat.lt_or_ge j xs.length with h | h
  ·rw [List.getElem?_append_left h] at hy
   exact (F.at' j y hy).tk t
  ·rw [List.getElem?_append_right h] at hy
   have hj : j - xs.length = 0 := by
    rcases Nat.eq_zero_or_pos (j - xs.length) with z | z
    ·exact z
    ·rw [List.getElem?_eq_none (by simp; omega)] at hy
     cases hy
   rw [hj] at hy
   have : x = y := by simpa using hy
   subst this
   have hx' := hx.tk t
   exact ⟨hx'.hf, hx'.ho, hx'.sl, by have := hx'.ol; omega, hx'.sb, hx'.ob⟩
 ·rw [List.map_append, List.nodup_append]
  refine ⟨F.nd, by simp, fun a ha b hb => ?_⟩
  have : b = x.st := by simpa using hb
  subst this
  intro e
  exact hn (e ▸ ha)
end
theorem goR_len {st : List Int} {t : Row} : (goR st t).length = st.length := by simp [goR]
theorem getD_bd {c : List Int} {P : Int → Prop} (h0 : P 0) (h : ∀ x ∈ c, P x) (k : Nat) : P (c.getD k 0) := by
 rw [List.getD_eq_getElem?_getD]
 rcases Nat.lt_or_ge k c.length with hk | hk
 ·rw [List.getElem?_eq_getElem hk]
  exact h _ (List.getElem_mem hk)
 ·rw [List.getElem?_eq_none hk]
  exact h0
theorem goR_bd {st : List Int} {t : Row} {b : Int} (b0 : 0 ≤ b) (hs : ∀ y ∈ st, -b ≤ y ∧ y ≤ b) (h1 : ∀ y ∈ t.1, 0 ≤ y ∧ y ≤ 9) (h2 : ∀ y ∈ t.2, 0 ≤ y ∧ y ≤ 9) : ∀ y ∈ goR st t, -(b + 9) ≤ y ∧ y ≤ b + 9 := by
 intro y hy
 obtain ⟨k, _, rfl⟩ := List.mem_map.mp hy
 have a1 := getD_bd (P := fun y => -b ≤ y ∧ y ≤ b) ⟨by omega, by omega⟩ hs k
 have a2 := getD_bd (P := fun y => 0 ≤ y ∧ y ≤ 9) ⟨by decide, by decide⟩ h1 k
 have a3 := getD_bd (P := fun y => 0 ≤ y ∧ y ≤ 9) ⟨by decide, by decide⟩ h2 k
 omega
theorem PotE.bd {H : Hp} {q : Addr} {tg : List Row} {m i : Nat} {t : Row} (h : PotE H q tg m) (ht : tg[i]? = some t) : (∀ y ∈ t.1, 0 ≤ y ∧ y ≤ 9) ∧ (∀ y ∈ t.2, 0 ≤ y ∧ y ≤ 9) := by
 obtain ⟨_, _, _, _, _, rs, _, _, hR⟩ := h
 obtain ⟨_, _, _, _, _, _, _, _, _, h1, h2⟩ := hR.at i t ht
 exact ⟨h1, h2⟩
theorem thR_mem {st : List Int} {tg : List Row} {r : Nat} (h : r ∈ thR st tg) : ∃ t, tg[r]? = some t ∧ canR st t = true := by
 have h1 := (List.mem_filter.mp h).2
 cases e : tg[r]? with
 | none => rw [e] at h1; simp at h1
 | some t =>
  rw [e] at h1
  exact ⟨t, rfl, by simpa using h1⟩
theorem getD_row {tg : List Row} {r : Nat} {t : Row} (h : tg[r]? = some t) : tg.getD r ([], []) = t := by rw [List.getD_eq_getElem?_getD, h]; rfl
theorem add1_old {tg : List Row} {x : En} {ys : List En} {r : Nat} {t : Row} (ht : tg[r]? = some t) {y : En} (h : (ys.find? fun y => decide (y.st = goR x.st t)) = some y) : add1 tg x.e (ys.map En.e) r = ys.map En.e := by
 unfold add1
 rw [getD_row ht, if_pos (by rw [any_en]; show (ys.find? fun y => decide (y.st = goR x.st t)).isSome = true; rw [h]; rfl)]
theorem add1_new {tg : List Row} {x : En} {ys : List En} {r : Nat} {t : Row} (ht : tg[r]? = some t) (h : (ys.find? fun y => decide (y.st = goR x.st t)) = none) {b o : Addr} : add1 tg x.e (ys.map En.e) r = (ys ++ [(⟨goR x.st t, x.od ++ [r], b, o⟩ : En)]).map En.e := by
 unfold add1
 rw [getD_row ht, if_neg (by rw [any_en]; show ¬ (ys.find? fun y => decide (y.st = goR x.st t)).isSome = true; rw [h]; simp), List.map_append]
 rfl
theorem EnAt.go {H : Hp} {m i j r : Nat} {x : En} {t : Row} {b o : Addr} (h : EnAt H m x i) (hij : i < j) (hb : H b = some (.tup ((goR x.st t).map V.int))) (ho : H o = some (.tup (x.od.map nV ++ [nV r]))) (h1 : ∀ y ∈ t.1, 0 ≤ y ∧ y ≤ 9) (h2 : ∀ y ∈ t.2, 0 ≤ y ∧ y ≤ 9) (hr : r < 8) :
  EnAt H m ⟨goR x.st t, x.od ++ [r], b, o⟩ j := by
 refine ⟨hb, by rw [ho, List.map_append]; rfl, by rw [goR_len]; exact h.sl, ?_, ?_, ?_⟩
 ·have := h.ol
  rw [List.length_append]
  simp
  omega
 ·intro y hy
  have := goR_bd (by omega) h.sb h1 h2 y hy
  rw [List.length_append]
  simp
  omega
 ·intro q hq
  rcases List.mem_append.mp hq with z | z
  ·exact h.ob q z
  ·rw [List.mem_singleton.mp z]
   exact hr
structure EsOk (es : Es) : Prop where
 n : es.length ≤ 60
 s : ∀ e ∈ es, e.1.length ≤ 8 ∧ (∀ y ∈ e.1, Sm y)
 o : ∀ e ∈ es, e.2.length ≤ 60 ∧ ∀ r ∈ e.2, r < 8
abbrev sAll : Stmt := top 25
abbrev nAll : List Str := ["_law_pot_here", "_law_stand", "_law_most", "_law_found", "_law_orders", "_law_place", "_law_rule_here", "_law_behind"]
theorem nmAll : Nm nAll (defScope sAll) := ⟨by decide +kernel, by decide +kernel⟩
theorem scAll : FnScope nAll ["_law_pot_here", "_law_stand", "_law_most"] (defScope sAll) := ⟨rfl, rfl, rfl, by decide +kernel, rfl, by decide +kernel, by decide +kernel⟩
abbrev cAll : Scope := retC ((defBody sAll).getD 4 (.Pass ⟨0, 0, 0, 0⟩))
theorem bsAll : BScope (defScope sAll) cAll ["_law_one"] ["_law_orders"] [] := { okind := by decide +kernel, kind := by decide +kernel, nocell := by decide +kernel, names := by decide +kernel, fr := by decide +kernel, ff := by decide +kernel, nd := by decide +kernel, vis := by decide +kernel, loc := by decide +kernel, gl := by decide +kernel }
theorem w_while {c : TT} {tb : TS} {D : Ends} {σ : St} {H : Hp} (h : ∃ W : Nat → St → Hp → Prop, (∃ m, W m σ H) ∧ ∀ m σ H, W m σ H → c σ H fun b H1 => if b = true then ∃ N : St → Hp → Prop, (∀ σ' H', N σ' H' → ∃ m', m' < m ∧ W m' σ' H') ∧ tb { D with nx := N, ct := N, bk := D.nx } σ H1 else D.nx σ H1) : tWhile c tb D σ H := h
theorem w_disp1 {tk tv : TE} {σ : St} {H : Hp} {Q : VK} (h : ∀ p, H p = none → tk σ (upd H p (.dT [])) fun x H1 => tv σ H1 fun y H2 => H2 p = some (.dT []) ∧ ∃ (b : Addr) (ks : List Key), x = .ref b ∧ H2 b = some (.tup (ks.map kV)) ∧ Q (.ref p) (upd H2 p (.dT [(ks, y)]))) : tDisp1 tk tv σ H Q := h
theorem w_dput {td ty tv : TE} {D : Ends} {σ : St} {H : Hp} (h : tv σ H fun v H1 => td σ H1 fun x H2 => ty σ H2 fun y H3 => ∃ a H4, x = .ref a ∧ DPut H3 a y v H4 ∧ D.nx σ H4) : sDPut td ty tv D σ H := h
theorem w_dget {td ty : TE} {σ : St} {H : Hp} {Q : VK} (h : td σ H fun x H1 => ty σ H1 fun y H2 => ∃ a v, x = .ref a ∧ DGet H2 a y (some v) ∧ Q v H2) : tDGet td ty σ H Q := h
theorem w_dnotin {ty td : TE} {σ : St} {H : Hp} {Q : VK} (h : ty σ H fun y H1 => td σ H1 fun x H2 => ∃ a o, x = .ref a ∧ DGet H2 a y o ∧ Q (.bl (!o.isSome)) H2) : tDNotIn ty td σ H Q := h
def spAll : Sp := fun vs H Q _ => ∃ (p s : Addr) (tg : List Row) (m mo : Nat) (st : List Int), vs = [.ref p, .ref s, .int (mo : Int)] ∧ PotE H p tg m ∧ H s = some (.tup (st.map V.int)) ∧ st.length = m ∧ m ≤ 8 ∧ tg.length ≤ 8 ∧ (∀ y ∈ st, -1000 ≤ y ∧ y ≤ 1000) ∧ 1 ≤ mo ∧ mo ≤ 60 ∧ (run tg mo mo 0 [(st, [])] = none → ∀ H', Same H H' → Q .non H') ∧
 ∀ (xs : List En) (z : Addr) (ps : List Addr) (H' : Hp), run tg mo mo 0 [(st, [])] = some (xs.map En.e) → Same H H' → H' z = some (.lst (ps.map V.ref)) → ps.length = xs.length → (∀ (i : Nat) (q : Addr) (x : En), ps[i]? = some q → xs[i]? = some x → H' q = some (.tup [.ref x.f, .ref x.o])) → (∀ (j : Nat) (x : En), xs[j]? = some x → EnAt H' m x j) → xs.length ≤ mo → 1 ≤ xs.length → Q (.ref z) H'
section
variable {P : Program} {w : World} {K : PySem.W.Frag} {mg : Str → Option Value} {base : Heap}
set_option maxHeartbeats 4000000 in
theorem ok_All {f : Addr} {fd : FuncData} (B : Blp mg) (fT : Has P w K mg base 2 "_law_there" ["_law_pot_here", "_law_stand"] spTh) (fG : Has P w K mg base 1 "_law_gone" ["_law_pot_here", "_law_stand", "_law_rule_here"] spGo) (F : Fun K "_law_all" "_law_all" sAll f fd) : FnOk P w K mg base CX0 3 f fd ["_law_pot_here", "_law_stand", "_law_most"] spAll := by
 refine F.ok scAll (fun vs H Q E h => ?_) (fun cdv A outer s H vs Q E hr h => ?_)
 ·obtain ⟨p, s, tg, m, mo, st, rfl, _⟩ := h
  rfl
 ·obtain ⟨p, s, tg, m, mo, st, rfl, hP, hs, hm, m8, t8, hsb, m1, m60, kN, kS⟩ := h
  refine' ⟨_, ?hb, ?rd⟩
  case hb =>
   have hu := hu_of hr
   refine' pss_cons ?s1 ?r1
   case' r1 => refine' pss_cons ?s2 ?r2
   case' r2 => refine' pss_cons ?s3 ?r3
   case' r3 => refine' pss_cons ?s4 ?r4
   case' r4 => refine' pss_one ?s5
   case s1 => exact ps_setD nmAll 3 (pe_lst (pa_1 (pvd nmAll 1)))
   case s2 => exact ps_setD nmAll 4 (pe_disp1 hu (pvd nmAll 1) (pe_tup pa_nil))
   case s3 => exact ps_setD nmAll 5 pe_int
   case s4 =>
    refine' ps_while PassesOwn.never ?w1 ?w2
    case w1 => exact pt_cmpR op_lt (pvd nmAll 5) (pe_cB call_lnL B.len PySem.boot_len (pa_1 (pvd nmAll 3))) (nomark _)
    case' w2 => refine' pss_cons ?w3 ?w4
    case' w4 => refine' pss_one ?w5
    case w5 => exact ps_setD nmAll 5 (pe_op op_add (pvd nmAll 5) pe_int)
    case w3 =>
     refine' ps_for PassesOwn.never rfl ?f1 (pgd nmAll 6) ?f2
     case f1 => exact pi_list (pe_f fT hr (by decide) (pa_2 (pvd nmAll 0) (pe_ix ix_d (pvd nmAll 3) (pvd nmAll 5) (fun _ _ => rfl))))
     case' f2 => refine' pss_cons ?a1 ?a2
     case a1 => exact ps_setD nmAll 7 (pe_f fG hr (by decide) (pa_c (pvd nmAll 0) (pa_2 (pe_ix ix_d (pvd nmAll 3) (pvd nmAll 5) (fun _ _ => rfl)) (pvd nmAll 6))))
     case' a2 => refine' pss_one ?a3
     case' a3 => refine' ps_if (pt_cmp (pc_dnotin hu (pvd nmAll 7) (pvd nmAll 4))) ?b1 pss_nil
     case' b1 => refine' pss_cons ?b2 ?b3
     case b2 => exact ps_dput hu (pvd nmAll 4) (pvd nmAll 7) (pe_op op_catG (pe_dget hu (pvd nmAll 4) (pe_ix ix_d (pvd nmAll 3) (pvd nmAll 5) (fun _ _ => rfl)) (fun _ _ => rfl)) (pe_tup (pa_1 (pvd nmAll 6)))) rfl
     case' b3 => refine' pss_cons ?b4 ?b5
     case b4 => exact ps_expr (pe_bm PySem.F.plainAttrs_list PySem.F.slot_list_append PySem.F.type_list_append mt_append (pvd nmAll 3) (pa_1 (pvd nmAll 7)))
     case' b5 => refine' pss_one ?b6
     case b6 => exact ps_if (pt_cmpR op_gt (pe_cB call_lnL B.len PySem.boot_len (pa_1 (pvd nmAll 3))) (pvd nmAll 2) (nomark _)) (pss_one (ps_ret pe_non)) pss_nil
   case s5 =>
    refine' ps_ret ?c1
    case c1 =>
     refine' pe_comp (ix := [4]) bsAll.toCScope rfl rfl (pi_list (pvd nmAll 3)) ?h4 ?h5 ?h6
     case h4 => exact fun _ _ _ _ _ _ => pgb bsAll 0
     case h5 => exact fun _ _ _ _ _ _ => pts_nil
     case h6 => exact fun _ _ _ _ _ _ => pe_tup (pa_2 (pvb bsAll 0) (pe_dget hu (pvb bsAll 1) (pvb bsAll 0) (fun _ _ => rfl)))
  case rd =>
   walk_at "v"
   refine ⟨by show 1 ≤ sizeLine; decide, fun fl hfl => ?_⟩
   obtain ⟨H1, q, K1, e1⟩ := nob (.lst [.ref s]) hfl; rw [q]; clear q
   walk_at "v"
   refine w_disp1 fun dl hdl => ?_
   have hdl0 : H dl = none := Same.free K1 hdl
   have hfl' : H fl = none := hfl
   have K2 : Same H1 (upd H1 dl (.dT [])) := Same.new (Same.refl _) hdl
   have e2 : upd H1 dl (.dT []) dl = some (.dT []) := upd_same
   have nfd : fl ≠ dl := ne_of_none e1 hdl
   generalize upd H1 dl (.dT []) = H2 at K2 e2 ⊢
   walk_at "v"
   refine ⟨Nat.zero_le _, fun o ho => ?_⟩
   obtain ⟨H3, q, K3, e3⟩ := nob (.tup []) ho; rw [q]; clear q
   have K13 := (K1.trans K2).trans K3
   refine ⟨K3 _ _ e2, s, keyOf st, rfl, by rw [keyOf_kV]; exact K13 _ _ hs, ?_⟩
   have K4 : Same H (upd H3 dl (.dT [(keyOf st, .ref o)])) := K13.put hdl0
   have F4 : Fd (upd H3 dl (.dT [(keyOf st, .ref o)])) fl dl m [⟨st, [], s, o⟩] := by
    refine ⟨by rw [upd_ne nfd]; exact (K2.trans K3) _ _ e1, upd_same, fun j x hx => ?_, by simp⟩
    have hj : j = 0 := by
     rcases Nat.eq_zero_or_pos j with z | z
     ·exact z
     ·rw [List.getElem?_eq_none (by simp; omega)] at hx
      cases hx
    subst hj
    have hx' : (⟨st, [], s, o⟩ : En) = x := by simpa using hx
    subst hx'
    refine ⟨K4 _ _ hs, by rw [upd_ne (ne_of e3 (K3 _ _ e2) (by intro z; cases z))]; exact e3, hm, Nat.zero_le _, fun y hy => ?_, fun r hr' => by cases hr'⟩
    have := hsb y hy
    simp
    omega
   generalize upd H3 dl (.dT [(keyOf st, .ref o)]) = H4 at K4 F4 ⊢
   walk_at "v"
   refine w_while ⟨fun n σ H' => ∃ (u6 u7 : Option V) (xs : List En) (i : Nat), σ = [some (.ref p), some (.ref s), some (.int (mo : Int)), some (.ref fl), some (.ref dl), some (.int (i : Int)), u6, u7] ∧ Fd H' fl dl m xs ∧ xs.length ≤ mo ∧ i ≤ xs.length ∧ 0 < xs.length ∧ n + i = mo ∧ run tg mo n i (xs.map En.e) = run tg mo mo 0 [(st, [])] ∧ Same H H', ⟨mo, _, _, _, 0, rfl, F4, m1, Nat.zero_le _, Nat.zero_lt_one, rfl, rfl, K4⟩, ?_⟩
   rintro n σ H5 ⟨u6, u7, xs, i, rfl, F5, hx, hi, hx0, hni, hrun, K5⟩
   walk_at "v"
   refine ⟨fl, _, rfl, F5.hf, ?_⟩
   rw [show (fE xs).length = xs.length from List.length_map _]
   walk_at "v"
   refine iteD (fun hlt => ?_) (fun hge => ?_)
   ·have hlt' : i < xs.length := by omega
    obtain ⟨n', rfl⟩ : ∃ n', n = n' + 1 := ⟨n - 1, by omega⟩
    obtain ⟨x, hxi⟩ : ∃ x, xs[i]? = some x := ⟨xs[i], by simp [hlt']⟩
    have hE := F5.at' i x hxi
    rw [run_succ (e := x.e) (by rw [List.getElem?_map, hxi]; rfl)] at hrun
    refine ⟨_, fun σ' H' w => ⟨n', Nat.lt_succ_self _, w⟩, ?_⟩
    walk_at "v"
    refine w_ixL F5.hf (v := .ref x.f) (atI_nat (by unfold fE; rw [List.getElem?_map, hxi]; rfl)) ?_
    refine ⟨p, x.f, tg, m, x.st, rfl, hP.tk (TK.same K5), hE.hf, hE.sl, m8, t8, fun l H6 K6 hl e6 => ?_⟩
    have nlf : l ≠ fl := Ne.symm (ne_of_none F5.hf hl)
    have nld : l ≠ dl := Ne.symm (ne_of_none F5.hd hl)
    have F6 := F5.same K6
    refine ⟨l, rfl, ⟨_, SqL.of e6⟩, ?_⟩
    refine for_list (xs := (thR x.st tg).map nV) (fun j σ H' => ∃ (u6 u7 : Option V) (ys zs : List En), σ = [some (.ref p), some (.ref s), some (.int (mo : Int)), some (.ref fl), some (.ref dl), some (.int (i : Int)), u6, u7] ∧ Fd H' fl dl m ys ∧ ys.length ≤ mo ∧ ys = xs ++ zs ∧ ys.map En.e = ((thR x.st tg).take j).foldl (add1 tg x.e) (xs.map En.e) ∧ Kp fl dl H6 H') ⟨_, _, xs, [], rfl, F6, hx, by simp, rfl, Kp.of (Same.refl _)⟩ (fun j σ H' _ ⟨_, _, _, _, _, _, _, _, _, k'⟩ => SqL.of (k' _ _ nlf nld e6)) ?_ ?_
    ·rintro j v σ H7 hv ⟨w6, w7, ys, zs, rfl, F7, hy, hyz, hfold, K7⟩
     have hj : j < (thR x.st tg).length := by
      have := (List.getElem?_eq_some_iff.mp hv).1
      simpa using this
     obtain ⟨r, hrj⟩ : ∃ r, (thR x.st tg)[j]? = some r := ⟨(thR x.st tg)[j], by simp [hj]⟩
     have ev : v = .int (r : Int) := by
      rw [List.getElem?_map, hrj] at hv
      exact (Option.some.inj hv).symm
     subst ev
     obtain ⟨t, ht, hc⟩ := thR_mem (List.mem_of_getElem? hrj)
     have hr8 : r < 8 := by
      have := (List.getElem?_eq_some_iff.mp ht).1
      omega
     obtain ⟨tb1, tb2⟩ := hP.bd ht
     have hyi : ys[i]? = some x := by rw [hyz, List.getElem?_append_left hlt']; exact hxi
     have hiy : i < ys.length := (List.getElem?_eq_some_iff.mp hyi).1
     have hE7 := F7.at' i x hyi
     have hP7 : PotE H7 p tg m := (hP.tk (TK.same (K5.trans K6))).tk (K7.tk F6)
     walk_at "v"
     refine w_ixL F7.hf (v := .ref x.f) (atI_nat (by unfold fE; rw [List.getElem?_map, hyi]; rfl)) ?_
     walk_at "v"
     refine ⟨p, x.f, tg, m, r, x.st, t, rfl, hP7, hE7.hf, hE7.sl, m8, ht, fun b H8 K8 e8 => ?_⟩
     have F8 := F7.same K8
     walk_at "v"
     refine w_dnotin ?_
     walk_at "v"
     refine ⟨dl, _, rfl, DGet.t (k := keyOf (goR x.st t)) F8.hd (by rw [keyOf_kV]; exact e8), ?_⟩
     rw [val_en]
     cases hfind : (ys.find? fun y => decide (y.st = goR x.st t)) with
     | some y =>
      walk_at "v"
      refine iteF ?_
      walk_at "v"
      refine ⟨_, _, ys, zs, rfl, F8, hy, hyz, ?_, K7.trans (Kp.of K8)⟩
      rw [fold_step _ _ _ hrj, ← hfold, add1_old ht hfind]
     | none =>
      walk_at "v"
      refine iteT ?_
      walk_at "v"
      refine w_dput ?_
      walk_at "v"
      refine w_dget ?_
      walk_at "v"
      refine w_ixL F8.hf (v := .ref x.f) (atI_nat (by unfold fE; rw [List.getElem?_map, hyi]; rfl)) ?_
      have hg := DGet.t (k := keyOf x.st) (b := x.f) F8.hd (by rw [keyOf_kV]; exact (F8.at' i x hyi).hf)
      rw [val_en, find_nd F8.nd (List.mem_of_getElem? hyi)] at hg
      refine ⟨dl, .ref x.o, rfl, hg, ?_⟩
      walk_at "v"
      refine ⟨by show 1 ≤ sizeLine; decide, fun z hz => ?_⟩
      obtain ⟨H9, q, K9, e9⟩ := nob (.tup [.int (r : Int)]) hz; rw [q]; clear q
      have hE9 := (F8.same K9).at' i x hyi
      refine ⟨x.o, z, _, _, rfl, rfl, hE9.ho, e9, by have := hE9.ol; rw [List.length_map]; show _ + 1 ≤ 1000; omega, fun oo HA KA eA => ?_⟩
      have FA := (F8.same K9).same KA
      have K8A := K9.trans KA
      walk_at "v"
      refine ⟨dl, _, rfl, DPut.t (k := keyOf (goR x.st t)) (v := .ref oo) FA.hd (by rw [keyOf_kV]; exact K8A _ _ e8) (by rw [show (dE ys).length = ys.length from List.length_map _]; exact small1000 (by omega)), ?_⟩
      have FB := FA.snoc (x := ⟨goR x.st t, x.od ++ [r], b, oo⟩) (EnAt.go (FA.at' i x hyi) hiy (K8A _ _ e8) eA tb1 tb2 hr8) (not_mem_en hfind)
      have KB : Kp fl dl H6 (upd (upd HA dl (.dT (putK (dE ys) (keyOf (goR x.st t)) (V.ref oo)))) fl (.lst (fE ys ++ [V.ref b]))) := Kp.pf (Kp.pd (K7.trans ((Kp.of K8).trans (Kp.of K8A))))
      have hfl : upd HA dl (.dT (putK (dE ys) (keyOf (goR x.st t)) (V.ref oo))) fl = some (.lst (fE ys)) := by rw [upd_ne nfd]; exact FA.hf
      have hstep : (ys ++ [(⟨goR x.st t, x.od ++ [r], b, oo⟩ : En)]).map En.e = ((thR x.st tg).take (j + 1)).foldl (add1 tg x.e) (xs.map En.e) := by
       rw [fold_step _ _ _ hrj, ← hfold, add1_new ht hfind]
      walk_at "v"
      refine ⟨.inl ⟨rfl, _, SqL.of hfl⟩, ?_⟩
      walk_at "v"
      refine ⟨fl, _, _, rfl, rfl, hfl, by rw [show (fE ys).length = ys.length from List.length_map _]; exact small1000 (by omega), ?_⟩
      generalize upd (upd HA dl (.dT (putK (dE ys) (keyOf (goR x.st t)) (V.ref oo)))) fl (.lst (fE ys ++ [V.ref b])) = HB at FB KB ⊢
      walk_at "v"
      refine ⟨fl, _, rfl, FB.hf, ?_⟩
      rw [show (fE (ys ++ [(⟨goR x.st t, x.od ++ [r], b, oo⟩ : En)])).length = ys.length + 1 from by unfold fE; simp]
      walk_at "v"
      refine iteD (fun hgt => ?_) (fun hle => ?_)
      ·walk_at "v"
       refine kN ?_ _ (KB.from (K5.trans K6) hfl' hdl0)
       rw [← hrun, if_pos]
       have h1 := fold_take tg x.e (thR x.st tg) (j + 1) (xs.map En.e)
       rw [← hstep] at h1
       have h2 : ((ys ++ [(⟨goR x.st t, x.od ++ [r], b, oo⟩ : En)]).map En.e).length = ys.length + 1 := by simp
       unfold expd
       show mo < (List.foldl (add1 tg x.e) (xs.map En.e) (thR x.st tg)).length
       omega
      ·exact ⟨_, _, _, zs ++ [⟨goR x.st t, x.od ++ [r], b, oo⟩], rfl, FB, by simp; omega, by rw [hyz, List.append_assoc], hstep, KB⟩
    ·rintro σ H7 ⟨w6, w7, ys, zs, rfl, F7, hy, hyz, hfold, K7⟩
     rw [List.length_map, List.take_of_length_le (Nat.le_refl _)] at hfold
     have hnot : ¬ mo < (expd tg x.e (xs.map En.e)).length := by
      unfold expd
      show ¬ mo < (List.foldl (add1 tg x.e) (xs.map En.e) (thR x.st tg)).length
      rw [← hfold, List.length_map]
      omega
     rw [if_neg hnot] at hrun
     have hlen : xs.length ≤ ys.length := by rw [hyz]; simp
     walk_at "v"
     refine ⟨_, _, ys, i + 1, rfl, F7, hy, by omega, by omega, by omega, ?_, K7.from (K5.trans K6) hfl' hdl0⟩
     rw [← hrun, hfold]
     rfl
   ·have hend : xs.length ≤ i := by omega
    rw [run_end (by rw [List.length_map]; exact hend)] at hrun
    walk_at "v"
    refine ⟨fl, rfl, ⟨_, SqL.of F5.hf⟩, fun D hD => ?_⟩
    refine cgo_list (xs := fE xs) (ρ := [some (.ref dl)]) (fun i zs H' => ∃ ps : List Addr, zs = ps.map V.ref ∧ ps.length = i ∧ (∀ (j : Nat) (q : Addr) (x : En), ps[j]? = some q → xs[j]? = some x → H' q = some (.tup [.ref x.f, .ref x.o])) ∧ Same H5 H') ⟨[], rfl, rfl, (fun j q x h => by simp at h), Same.new (Same.refl _) hD⟩ (fun j zs H' _ ⟨_, _, _, _, k'⟩ => SqL.of (k' _ _ F5.hf)) ?_ ?_
    ·rintro j v zs H' hv ⟨ps, rfl, hpl, hps, K'⟩ hDz R S kR _
     have hj : j < xs.length := by
      have := (List.getElem?_eq_some_iff.mp hv).1
      simpa [fE] using this
     obtain ⟨x, hxj⟩ : ∃ x, xs[j]? = some x := ⟨xs[j], by simp [hj]⟩
     have ev : v = .ref x.f := by
      unfold fE at hv
      rw [List.getElem?_map, hxj] at hv
      exact (Option.some.inj hv).symm
     subst ev
     have F' := F5.same K'
     walk_at "v"
     refine w_dget ?_
     walk_at "v"
     have hg := DGet.t (k := keyOf x.st) (b := x.f) F'.hd (by rw [keyOf_kV]; exact (F'.at' j x hxj).hf)
     rw [val_en, find_nd F'.nd (List.mem_of_getElem? hxj)] at hg
     refine ⟨dl, .ref x.o, rfl, hg, ?_⟩
     walk_at "v"
     refine ⟨by show 2 ≤ sizeLine; decide, fun q hq => ?_⟩
     have KQ : Same H' (upd H' q (.tup [.ref x.f, .ref x.o])) := Same.new (Same.refl _) hq
     have eQ : upd H' q (.tup [.ref x.f, .ref x.o]) q = some (.tup [.ref x.f, .ref x.o]) := upd_same
     generalize upd H' q (.tup [.ref x.f, .ref x.o]) = HQ at KQ eQ ⊢
     have hDq := KQ _ _ hDz
     have tk : TK HQ (upd HQ D (.lst (ps.map V.ref ++ [.ref q]))) := TK.lst hDq
     refine kR _ _ hDq (by rw [List.length_map]; exact small1000 (by omega)) ⟨ps ++ [q], by rw [List.map_append]; rfl, by simp [hpl], fun a b y ha hb => ?_, (K'.trans KQ).put hD⟩
     rcases Nat.lt_or_ge a ps.length with h | h
     ·rw [List.getElem?_append_left h] at ha
      exact tk.t _ _ (KQ _ _ (hps a b y ha hb))
     ·rw [List.getElem?_append_right h] at ha
      have ha0 : a - ps.length = 0 := by
       rcases Nat.eq_zero_or_pos (a - ps.length) with z | z
       ·exact z
       ·rw [List.getElem?_eq_none (by simp; omega)] at ha
        cases ha
      rw [ha0] at ha
      have hqb : q = b := by simpa using ha
      subst hqb
      have haj : a = j := by omega
      subst haj
      rw [hxj] at hb
      cases hb
      exact tk.t _ _ eQ
    ·rintro zs H' ⟨ps, rfl, hpl, hps, K'⟩ hDz
     exact kS xs D ps H' hrun.symm (K5.trans K') hDz (by rw [hpl]; unfold fE; simp) hps (fun j x hx => (F5.at' j x hx).tk (TK.same K')) hx hx0
end
end K41
namespace PySem.W
open PySem PySem.Calls PyProof.Rows
def KasT.eval {α : Type} (lt : Nat → Nat → Bool) : KasT α → α
 | .ret a => a
 | .ask i j k => (k (lt i j)).eval lt
def KasT.okFor {α : Type} (lt : Nat → Nat → Bool) (n : Nat) : KasT α → Bool
 | .ret _ => true
 | .ask i j k => decide (i < n) && (decide (j < n) && (k (lt i j)).okFor lt n)
theorem KasT.eval_wp {α : Type} {cmp : Nat → Nat → (Bool → Shared → Prop) → Shared → Prop} {lt : Nat → Nat → Bool} {n : Nat} {Q : α → Shared → Prop} {s : Shared} (hc : ∀ i j C, C (lt i j) s → i < n → j < n → cmp i j C s) : ∀ t : KasT α, t.okFor lt n = true → Q (t.eval lt) s → t.kasWp cmp Q s
 | .ret _, _, h => h
 | .ask i j k, ok, h => by
  unfold KasT.okFor at ok
  rw [Bool.and_eq_true, Bool.and_eq_true] at ok
  exact hc i j _ (KasT.eval_wp hc (k (lt i j)) ok.2.2 h) (of_decide_eq_true ok.1) (of_decide_eq_true ok.2.1)
def lexI (fin : Bool) : List Int → List Int → Bool
 | x :: xs, y :: ys => if x = y then lexI fin xs ys else decide (x < y)
 | _, _ => fin
inductive Nums : List Value → List Int → Prop
 | nil : Nums [] []
 | cons {i : Int} {t : Tok} {us : List Value} {ns : List Int} : Nums us ns → Nums (.int i t :: us) (i :: ns)
theorem Nums.len : ∀ {us : List Value} {ns : List Int}, Nums us ns → us.length = ns.length
 | _, _, .nil => rfl
 | _, _, .cons h => by rw [List.length_cons, List.length_cons, Nums.len h]
section
variable {prog : Program} {w : World} {A : Around} {E : Value → Shared → Prop} {s : Shared}
theorem lex_ints {fin : Bool} {Q : Bool → Shared → Prop} : ∀ {us vs : List Value} {xs ys : List Int} (i : Nat), Nums us xs → Nums vs ys → Q (lexI fin xs ys) s → KatLex prog w A true fin Q (us.zip vs) i s
 | _, _, _, _, i, .nil, .nil, h => h
 | _, _, _, _, i, .nil, .cons _, h => h
 | _, _, _, _, i, .cons _, .nil, h => h
 | _, _, x :: xs, y :: ys, i, .cons (t := t) (us := us) h1, .cons (t := u) (us := vs) h2, h => by
  show KatLex prog w A true fin Q ((.int x t, .int y u) :: us.zip vs) i s
  refine kat_cons (SeqAt.EqAt.int_int x t y u prog w _ _ ?_)
  by_cases hxy : x = y
  ·rw [show (x == y) = true by simp [hxy]]
   refine kat_yes (lex_ints (i + 1) h1 h2 ?_)
   unfold lexI at h
   rw [if_pos hxy] at h
   exact h
  ·rw [show (x == y) = false by simp [hxy]]
   unfold lexI at h
   rw [if_neg hxy] at h
   refine kat_no ?_
   rcases Nat.eq_zero_or_pos i with hi | hi
   ·subst hi
    exact oneLt_int h
   ·rw [show (true && i == 0) = false by simp; omega]
    exact kat_one _ _ (lt_int h)
end
end PySem.W
namespace PySem
open Sem (wp)
open AutoSeq1 (wpAny_loadPart')
section
variable {prog : Program} {w : World} {A : Around} {E : Value → Shared → Prop} {s : Shared}
end
end PySem
namespace L2
open PySem PySem.Spec PyProof.Rows
section
variable {X : Cx} {k : Nat}
def RowsAt (H : Hp) : List Addr → List (List Int) → Prop
 | [], [] => True
 | a :: as, ks :: kss => H a = some (.tup (ks.map V.int)) ∧ RowsAt H as kss
 | _, _ => False
theorem RowsAt.tk {H H' : Hp} (k : ∀ q xs, H q = some (.tup xs) → H' q = some (.tup xs)) : ∀ {as : List Addr} {kss : List (List Int)}, RowsAt H as kss → RowsAt H' as kss
 | [], [], _ => trivial
 | a :: as, ks :: kss, h => ⟨k _ _ h.1, RowsAt.tk k h.2⟩
 | [], _ :: _, h => h.elim
 | _ :: _, [], h => h.elim
theorem RowsAt.len {H : Hp} : ∀ {as : List Addr} {kss : List (List Int)}, RowsAt H as kss → as.length = kss.length
 | [], [], _ => rfl
 | a :: as, ks :: kss, h => by rw [List.length_cons, List.length_cons, RowsAt.len h.2]
 | [], _ :: _, h => h.elim
 | _ :: _, [], h => h.elim
theorem RowsAt.at {H : Hp} : ∀ {as : List Addr} {kss : List (List Int)}, RowsAt H as kss → ∀ {i : Nat} {a : Addr}, as[i]? = some a → ∃ ks, kss[i]? = some ks ∧ H a = some (.tup (ks.map V.int))
 | a :: as, ks :: kss, h, 0, b, e => ⟨ks, rfl, by
  have : a = b := by simpa using e
  exact this ▸ h.1⟩
 | a :: as, ks :: kss, h, i + 1, b, e => by
  obtain ⟨k', h1, h2⟩ := RowsAt.at h.2 (i := i) (a := b) (by simpa using e)
  exact ⟨k', by simpa using h1, h2⟩
 | [], [], _, i, b, e => by simp at e
 | [], _ :: _, h, _, _, _ => h.elim
 | _ :: _, [], h, _, _, _ => h.elim
theorem RowsAt.app {H : Hp} : ∀ {as bs : List Addr} {ks ls : List (List Int)}, RowsAt H as ks → RowsAt H bs ls → RowsAt H (as ++ bs) (ks ++ ls)
 | [], _, [], _, _, h => h
 | a :: as, _, k :: ks, _, h, h' => ⟨h.1, RowsAt.app h.2 h'⟩
 | [], _, _ :: _, _, h, _ => h.elim
 | _ :: _, _, [], _, h, _ => h.elim
theorem nums_of : ∀ {ns : List Int} {us : List Value}, Vals (ns.map V.int) us → PySem.W.Nums us ns
 | [], _, r => by
  rw [List.map_nil] at r
  cases r
  exact .nil
 | n :: ns, _, r => by
  rw [List.map_cons] at r
  cases r with
  | cons r1 r2 =>
   obtain ⟨t, rfl⟩ := r1
   exact .cons (nums_of r2)
theorem Vals.getD {xs : List V} {us : List Value} (r : Vals xs us) (i : Nat) : RelV (xs.getD i .non) (us.getD i .none) := by
 induction r generalizing i with
 | nil => rfl
 | cons h _ ih =>
  cases i with
  | zero => simpa using h
  | succ i => simpa using ih i
theorem Vals.perm {xs : List V} {us : List Value} (r : Vals xs us) : ∀ p : List Nat, Vals (p.map fun i => xs.getD i .non) (p.map fun i => us.getD i .none)
 | [] => .nil
 | i :: p => .cons (Vals.getD r i) (Vals.perm r p)
end
end L2
namespace PySem.W
open PySem PySem.Calls PyProof.Rows
def Sat {α : Type} (lt : Nat → Nat → Bool) (n : Nat) : KasT α → (α → Prop) → Prop
 | .ret a, P => P a
 | .ask i j k, P => i < n ∧ j < n ∧ Sat lt n (k (lt i j)) P
theorem Sat.bind {α β : Type} {lt : Nat → Nat → Bool} {n : Nat} {P : α → Prop} {Q : β → Prop} {f : α → KasT β} (hf : ∀ a, P a → Sat lt n (f a) Q) : ∀ {t : KasT α}, Sat lt n t P → Sat lt n (t.bind f) Q
 | .ret a, h => hf a h
 | .ask i j k, h => ⟨h.1, h.2.1, Sat.bind hf h.2.2⟩
theorem Sat.ok {α : Type} {lt : Nat → Nat → Bool} {n : Nat} {P : α → Prop} : ∀ {t : KasT α}, Sat lt n t P → t.okFor lt n = true ∧ P (t.eval lt)
 | .ret a, h => ⟨rfl, h⟩
 | .ask i j k, h => by
  obtain ⟨h1, h2⟩ := Sat.ok h.2.2
  refine ⟨?_, h2⟩
  unfold KasT.okFor
  rw [decide_eq_true h.1, decide_eq_true h.2.1, h1]
  rfl
structure Lin (lt : Nat → Nat → Bool) (n : Nat) : Prop where
 irr : ∀ i, i < n → lt i i = false
 tr : ∀ i j k, i < n → j < n → k < n → lt i j = true → lt j k = true → lt i k = true
 tot : ∀ i j, i < n → j < n → i ≠ j → lt i j = false → lt j i = true
structure Pm (n : Nat) (p : Array Nat) : Prop where
 pm : p.toList.Perm (List.range n)
section
variable {lt : Nat → Nat → Bool} {n : Nat} {p : Array Nat}
theorem Pm.size (h : Pm n p) : p.size = n := by have := h.pm.length_eq; simpa using this
theorem Pm.bd (h : Pm n p) {i : Nat} (hi : i < n) : p.getD i 0 < n := by
 have hs := h.size
 have hi' : i < p.toList.length := by simpa [hs] using hi
 have : p.getD i 0 = p.toList[i] := by simp [Array.getD_eq_getD_getElem?, hs, hi]
 rw [this]
 exact List.mem_range.mp (h.pm.mem_iff.mp (List.getElem_mem hi'))
theorem Pm.ne (h : Pm n p) {i j : Nat} (hi : i < n) (hj : j < n) (hne : i ≠ j) : p.getD i 0 ≠ p.getD j 0 := by
 have hs := h.size
 have nd : p.toList.Nodup := h.pm.nodup_iff.mpr List.nodup_range
 have hi' : i < p.toList.length := by simpa [hs] using hi
 have hj' : j < p.toList.length := by simpa [hs] using hj
 have e1 : p.getD i 0 = p.toList[i] := by simp [Array.getD_eq_getD_getElem?, hs, hi]
 have e2 : p.getD j 0 = p.toList[j] := by simp [Array.getD_eq_getD_getElem?, hs, hj]
 rw [e1, e2]
 exact fun e => hne ((List.getElem_inj nd).mp e)
def So (lt : Nat → Nat → Bool) (p : Array Nat) (k : Nat) : Prop := ∀ i j, i < j → j < k → lt (p.getD i 0) (p.getD j 0) = true
def De (lt : Nat → Nat → Bool) (p : Array Nat) (k : Nat) : Prop := ∀ i j, i < j → j < k → lt (p.getD j 0) (p.getD i 0) = true
theorem So.one : So lt p 1 := fun i j h1 h2 => by omega
theorem So.step (L : Lin lt n) (h : Pm n p) {k : Nat} (h1 : 1 ≤ k) (hk : k < n) (s : So lt p k) (e : lt (p.getD k 0) (p.getD (k - 1) 0) = false) : So lt p (k + 1) := fun i j hij hj => by
 rcases Nat.lt_or_ge j k with w | w
 ·exact s i j hij w
 ·obtain rfl : j = k := by omega
  have t : lt (p.getD (j - 1) 0) (p.getD j 0) = true := L.tot _ _ (h.bd hk) (h.bd (by omega)) (h.ne hk (by omega) (by omega)) e
  by_cases hi : i = j - 1
  ·rw [hi]; exact t
  ·exact L.tr _ _ _ (h.bd (by omega)) (h.bd (by omega)) (h.bd hk) (s i (j - 1) (by omega) (by omega)) t
theorem De.step (L : Lin lt n) (h : Pm n p) {k : Nat} (h1 : 1 ≤ k) (hk : k < n) (s : De lt p k) (t : lt (p.getD k 0) (p.getD (k - 1) 0) = true) : De lt p (k + 1) := fun i j hij hj => by
 rcases Nat.lt_or_ge j k with w | w
 ·exact s i j hij w
 ·obtain rfl : j = k := by omega
  by_cases hi : i = j - 1
  ·rw [hi]; exact t
  ·exact L.tr _ _ _ (h.bd hk) (h.bd (by omega)) (h.bd (by omega)) t (s i (j - 1) (by omega) (by omega))
theorem asc_sat (L : Lin lt n) (h : Pm n p) : ∀ (f k : Nat), 1 ≤ k → k + f ≤ n → So lt p k → Sat lt n (kas_asc p f k) fun m => k ≤ m ∧ m ≤ k + f ∧ So lt p m ∧ (m = k + f ∨ lt (p.getD m 0) (p.getD (m - 1) 0) = true)
 | 0, k, _, _, s => ⟨Nat.le_refl _, Nat.le_refl _, s, .inl rfl⟩
 | f + 1, k, h1, h2, s => by
  refine ⟨h.bd (by omega), h.bd (by omega), ?_⟩
  cases hc : lt (p.getD k 0) (p.getD (k - 1) 0) with
  | true => exact ⟨Nat.le_refl _, by omega, s, .inr hc⟩
  | false =>
   have := asc_sat L h f (k + 1) (by omega) (by omega) (So.step L h h1 (by omega) s hc)
   show Sat lt n (kas_asc p f (k + 1)) _
   have key : ∀ {t : KasT Nat} {P Q : Nat → Prop}, Sat lt n t P → (∀ a, P a → Q a) → Sat lt n t Q := by
    intro t P Q
    induction t with
    | ret a => exact fun x y => y a x
    | ask i j k ih => exact fun x y => ⟨x.1, x.2.1, ih _ x.2.2 y⟩
   exact key this fun m ⟨a1, a2, a3, a4⟩ => ⟨by omega, by omega, a3, a4.imp (fun e => by omega) id⟩
theorem Sat.mono {α : Type} {P Q : α → Prop} : ∀ {t : KasT α}, Sat lt n t P → (∀ a, P a → Q a) → Sat lt n t Q
 | .ret a, x, y => y a x
 | .ask i j k, x, y => ⟨x.1, x.2.1, Sat.mono x.2.2 y⟩
theorem desc_sat (L : Lin lt n) (h : Pm n p) : ∀ (f k : Nat), 2 ≤ k → k + f ≤ n → De lt p k → Sat lt n (kas_desc f p k 0) fun r => r.1 = p ∧ r.2.2 = 0 ∧ k ≤ r.2.1 ∧ r.2.1 ≤ n ∧ De lt p r.2.1
 | 0, k, _, h2, s => ⟨rfl, rfl, Nat.le_refl _, by show k ≤ n; omega, s⟩
 | f + 1, k, h1, h2, s => by
  refine ⟨h.bd (by omega), h.bd (by omega), ?_⟩
  cases hc : lt (p.getD k 0) (p.getD (k - 1) 0) with
  | true =>
   exact (desc_sat L h f (k + 1) (by omega) (by omega) (De.step L h (by omega) (by omega) s hc)).mono fun r ⟨a1, a2, a3, a4, a5⟩ => ⟨a1, a2, by omega, a4, a5⟩
  | false =>
   refine ⟨h.bd (by omega), h.bd (by omega), ?_⟩
   have t : lt (p.getD (k - 1) 0) (p.getD k 0) = true := L.tot _ _ (h.bd (by omega)) (h.bd (by omega)) (h.ne (by omega) (by omega) (by omega)) hc
   rw [t]
   exact ⟨rfl, rfl, Nat.le_refl _, by show k ≤ n; omega, s⟩
theorem rev_pm (h : Pm n p) (i j : Nat) : Pm n (kas_rev p i j) := ⟨(Array.perm_iff_toList_perm.mp (mirror_perm p i j ((j - i) / 2))).trans h.pm⟩
theorem rev_at (h : Pm n p) {m k : Nat} (hm : m ≤ n) (hk : k < m) : (kas_rev p 0 m).getD k 0 = p.getD (m - 1 - k) 0 := by
 have hs := h.size
 have := getElem?_mirror_all (xs := p) (i := 0) (j := m) (by omega) k
 unfold kas_rev
 rw [Array.getD_eq_getD_getElem?, this, if_pos (by omega), Array.getD_eq_getD_getElem?, show 0 + m - 1 - k = m - 1 - k by omega]
theorem De.rev (h : Pm n p) {m : Nat} (hm : m ≤ n) (d : De lt p m) : So lt (kas_rev p 0 m) m := fun i j hij hj => by
 rw [rev_at h hm (by omega), rev_at h hm hj]
 exact d _ _ (by omega) (by omega)
theorem count_sat (L : Lin lt n) (h : Pm n p) (h2 : 2 ≤ n) : Sat lt n (kas_count n p) fun r => 1 ≤ r.1 ∧ r.1 ≤ n ∧ Pm n r.2 ∧ So lt r.2 r.1 := by
 unfold kas_count
 refine Sat.bind (fun m ⟨a1, a2, a3, a4⟩ => ?_) (asc_sat L h (n - 1) 1 (Nat.le_refl _) (by omega) So.one)
 by_cases e : m = n
 ·rw [if_pos (by simpa using e)]
  exact ⟨a1, by show m ≤ n; omega, h, a3⟩
 rw [if_neg (by simpa using e)]
 by_cases e1 : m > 1
 ·rw [if_pos e1]
  refine ⟨h.bd (by omega), h.bd (by omega), ?_⟩
  rw [a3 0 (m - 1) (by omega) (by omega)]
  exact ⟨a1, by show m ≤ n; omega, h, a3⟩
 rw [if_neg e1]
 obtain rfl : m = 1 := by omega
 have t : lt (p.getD 1 0) (p.getD 0 0) = true := a4.resolve_left (by omega)
 unfold kas_descPart
 refine Sat.bind (fun r ⟨b1, b2, b3, b4, b5⟩ => ?_) (desc_sat L h (n - (1 + 1)) 2 (Nat.le_refl _) (by omega) fun i j hij hj => by
  obtain ⟨rfl, rfl⟩ : i = 0 ∧ j = 1 := by omega
  exact t)
 rw [if_neg (by omega), b1]
 unfold kas_tail3
 have hr := rev_pm h 0 r.2.1
 refine Sat.bind (fun m' ⟨c1, c2, c3, _⟩ => ?_) (asc_sat L hr (n - r.2.1) r.2.1 (by omega) (by omega) (De.rev h b4 b5))
 exact ⟨by show 1 ≤ m'; omega, by show m' ≤ n; omega, hr, c3⟩
theorem place_sat (L : Lin lt n) (h : Pm n p) {k : Nat} (hk : k < n) (s : So lt p k) : ∀ (f l r : Nat), l ≤ r → r ≤ k → r - l ≤ f → (∀ i, i < l → lt (p.getD i 0) (p.getD k 0) = true) → (∀ i, r ≤ i → i < k → lt (p.getD k 0) (p.getD i 0) = true) →
  Sat lt n (kas_place p k f l r) fun m => m ≤ k ∧ (∀ i, i < m → lt (p.getD i 0) (p.getD k 0) = true) ∧ ∀ i, m ≤ i → i < k → lt (p.getD k 0) (p.getD i 0) = true
 | 0, l, r, h1, h2, h3, a, b => ⟨by show l ≤ k; omega, a, fun i hi hk' => b i (by omega) hk'⟩
 | f + 1, l, r, h1, h2, h3, a, b => by
  unfold kas_place
  by_cases e : l ≥ r
  ·rw [if_pos e]
   exact ⟨by omega, a, fun i hi hk' => b i (by omega) hk'⟩
  rw [if_neg e]
  have hm : (l + r) / 2 < r := by omega
  refine ⟨h.bd hk, h.bd (by omega), ?_⟩
  cases hc : lt (p.getD k 0) (p.getD ((l + r) / 2) 0) with
  | true =>
   refine place_sat L h hk s f l ((l + r) / 2) (by omega) (by omega) (by omega) a fun i hi hk' => ?_
   by_cases ei : i = (l + r) / 2
   ·rw [ei]; exact hc
   ·exact L.tr _ _ _ (h.bd hk) (h.bd (by omega)) (h.bd (by omega)) hc (s _ i (by omega) hk')
  | false =>
   have t := L.tot _ _ (h.bd hk) (h.bd (by omega)) (h.ne hk (by omega) (by omega)) hc
   refine place_sat L h hk s f ((l + r) / 2 + 1) r (by omega) h2 (by omega) (fun i hi => ?_) b
   by_cases ei : i = (l + r) / 2
   ·rw [ei]; exact t
   ·exact L.tr _ _ _ (h.bd (by omega)) (h.bd (by omega)) (h.bd hk) (s i _ (by omega) (by omega)) t
theorem bub_pm (h : Pm n p) (k d : Nat) : Pm n (bubble p k d) := ⟨(Array.perm_iff_toList_perm.mp (bubble_perm p k d)).trans h.pm⟩
theorem bub_at (h : Pm n p) {k l i : Nat} (hk : k < n) (hl : l ≤ k) : (bubble p k (k - l)).getD i 0 = if i = l then p.getD k 0 else if l < i ∧ i ≤ k then p.getD (i - 1) 0 else p.getD i 0 := by
 have hs := h.size
 have := getElem?_bubble (xs := p) (src := k) (by omega) (k - l) (by omega) i
 rw [Array.getD_eq_getD_getElem?, this, show k - (k - l) = l by omega]
 split
 ·rw [Array.getD_eq_getD_getElem?]
 ·split
  ·rw [Array.getD_eq_getD_getElem?]
  ·rw [Array.getD_eq_getD_getElem?]
theorem bin_sat (L : Lin lt n) : ∀ (f k : Nat) (p : Array Nat), Pm n p → k + f = n → So lt p k → Sat lt n (kas_bin f p k) fun q => Pm n q ∧ So lt q n
 | 0, k, p, h, e, s => ⟨h, by rw [← e]; exact s⟩
 | f + 1, k, p, h, e, s => by
  unfold kas_bin
  refine Sat.bind (fun l ⟨a1, a2, a3⟩ => ?_) (place_sat L h (by omega) s k 0 k (Nat.zero_le _) (Nat.le_refl _) (by omega) (fun i hi => by omega) fun i h1 h2 => by omega)
  refine bin_sat L f (k + 1) _ (bub_pm h _ _) (by omega) fun i j hij hj => ?_
  rw [bub_at h (by omega) a1, bub_at h (by omega) a1]
  by_cases ei : i = l
  ·subst ei
   rw [if_pos rfl, if_neg (by omega), if_pos (by omega)]
   exact a3 _ (by omega) (by omega)
  ·rw [if_neg ei]
   by_cases ej : j = l
   ·subst ej
    rw [if_pos rfl, if_neg (by omega)]
    exact a2 i hij
   ·rw [if_neg ej]
    by_cases hi : l < i ∧ i ≤ k
    ·rw [if_pos hi, if_pos (by omega)]
     exact s _ _ (by omega) (by omega)
    ·rw [if_neg hi]
     by_cases hj' : l < j ∧ j ≤ k
     ·rw [if_pos hj']
      exact s _ _ (by omega) (by omega)
     ·rw [if_neg hj']
      exact s _ _ hij (by omega)
theorem rng_pm (n : Nat) : Pm n (List.toArray (List.range n)) := ⟨by simp⟩
theorem sort_sat (L : Lin lt n) (h2 : 2 ≤ n) : Sat lt n (kas_sort n) fun q => Pm n q ∧ So lt q n := by
 unfold kas_sort
 refine Sat.bind (fun r ⟨a1, a2, a3, a4⟩ => ?_) (count_sat L (rng_pm n) h2)
 by_cases e : r.1 < n
 ·rw [if_pos e]
  exact bin_sat L _ _ _ a3 (by omega) (by rw [Nat.max_eq_left a1]; exact a4)
 ·rw [if_neg e]
  exact ⟨a3, by rw [show n = r.1 by omega]; exact a4⟩
end
section
variable {prog : Program} {w : World} {A : Around} {E : Value → Shared → Prop} {s : Shared}
abbrev ltR (keys : List (List Int)) : Nat → Nat → Bool := fun i j => lexI (decide ((keys.getD i []).length < (keys.getD j []).length)) (keys.getD i []) (keys.getD j [])
theorem sorted_col {u : Value} {C : Shared → Prop} {vs : List Value} {keys : List (List Int)} {Q : Value → Shared → Prop} (hcol : ∀ (A' : Around) (E' : Value → Shared → Prop) (R : List Value → Shared → Prop), A'.handled = A.handled → (∀ s1, C s1 → R vs s1) → wpAny (model prog w) A' (collect u) R E' s)
  (hk : vs.length = keys.length) (h64 : vs.length < 64) (hlin : 2 ≤ vs.length → Lin (ltR keys) vs.length)
  (hrow : ∀ s1, C s1 → ∀ (i : Nat) (v : Value) (ks : List Int), vs[i]? = some v → keys[i]? = some ks → ks ≠ [] ∧ ∃ a o its n, v = .ref a ∧ s1.heap.get? a = some o ∧ o.cls = .type "tuple" ∧ o.data = .seq its n ∧ Nums its.toList ks)
  (h : ∀ s1, C s1 → ∀ D h' c (p : List Nat), s1.heap.objs.size ≤ D → (∀ b o, s1.heap.get? b = some o → h'.get? b = some o) → p.Perm (List.range vs.length) → (∀ i j, i < j → j < vs.length → ltR keys (p.getD i 0) (p.getD j 0) = true) → h'.get? D = some (seqObj "list" (p.map fun i => vs.getD i Value.none).toArray c) → Q (.ref D) { s1 with heap := h' }) :
  wpAny (model prog w) A (call (.builtin "sorted") [u]) Q E s := by
 refine Calls.call_function_entry kind_sorted plain_sorted entry_sorted (args_sorted1 _) ?_
 unfold Builtin.«sorted»
 refine wpAny_bind (m := checkCount "sorted" 1 1 _) (wpAny_pure ?_)
 refine wpAny_bind (hcol _ _ _ rfl fun s1 hs1 => ?_)
 replace hrow := hrow s1 hs1
 replace h := h s1 hs1
 refine wpAny_bind (wpAny_newList ?_ (by rw [sizeLine_eq]; omega))
 have keep1 : ∀ b o, s1.heap.get? b = some o → (s1.heap.push (seqObj "list" vs.toArray 0)).get? b = some o := fun b o q => Heap.get?_push_of_some _ q
 have hoL : (s1.heap.push (seqObj "list" vs.toArray 0)).get? s1.heap.objs.size = some (seqObj "list" vs.toArray 0) := Heap.get?_push_size _ rfl
 show wpAny _ _ _ _ _ { s1 with heap := s1.heap.push (seqObj "list" vs.toArray 0) }
 generalize s1.heap.push (seqObj "list" vs.toArray 0) = g1 at keep1 hoL ⊢
 have hDlt : s1.heap.objs.size < g1.objs.size := Heap.lt_size hoL
 refine wpAny_bind (wpAny_holding (wpAny_call_entry slot_list_sort ⟨_, hoL, rfl⟩ entry_list_sort ?body (args_list_sort _)))
 case body =>
  rw [list_sort_plain]
  refine wpAny_bind (listItems_at hoL rfl ?_)
  refine wpAny_bind (listUpdate_at hoL rfl ?_ (by rw [List.size_toArray, sizeLine_eq]; omega) (Nat.zero_le _))
  obtain ⟨e1, ho1⟩ : ∃ e1, (g1.update s1.heap.objs.size (Obj.mapSeq fun _ => (#[] : Array Value))).get? s1.heap.objs.size = some (seqObj "list" #[] e1) := ⟨_, get?_update_seq hoL fun _ => #[]⟩
  have keep2 : ∀ b o, s1.heap.get? b = some o → (g1.update s1.heap.objs.size (Obj.mapSeq fun _ => (#[] : Array Value))).get? b = some o := fun b o q => by
   rw [Heap.get?_update_ne _ _ _ _ (Nat.ne_of_lt (Heap.lt_size q))]
   exact keep1 b o q
  show wpAny _ _ _ _ _ { s1 with heap := g1.update s1.heap.objs.size (Obj.mapSeq fun _ => (#[] : Array Value)) }
  generalize g1.update s1.heap.objs.size (Obj.mapSeq fun _ => (#[] : Array Value)) = g2 at keep2 ho1 ⊢
  refine wpAny_bind (seqEpoch_at ho1 rfl ?_)
  refine wpAny_bind (wpAny_newTuple ?_ (by show vs.length ≤ _; rw [sizeLine_eq]; omega))
  refine wpAny_bind (wpAny_newList ?_ (Nat.zero_le _))
  refine wpAny_holding ?_
  show wpAny (model prog w) _ _ _ _ { s1 with heap := (g2.push (seqObj "tuple" vs.toArray 0)).push (seqObj "list" #[] 0) }
  dsimp only
  by_cases hn2 : vs.toArray.size < 2
  ·have ho3 : ((g2.push (seqObj "tuple" vs.toArray 0)).push (seqObj "list" #[] 0)).get? s1.heap.objs.size = some (seqObj "list" #[] e1) := Heap.get?_push_of_some _ (Heap.get?_push_of_some _ ho1)
   have keep3 : ∀ b o, s1.heap.get? b = some o → ((g2.push (seqObj "tuple" vs.toArray 0)).push (seqObj "list" #[] 0)).get? b = some o := fun b o q => Heap.get?_push_of_some _ (Heap.get?_push_of_some _ (keep2 b o q))
   generalize (g2.push (seqObj "tuple" vs.toArray 0)).push (seqObj "list" #[] 0) = g3 at keep3 ho3 ⊢
   rw [if_pos hn2, if_pos hn2]
   refine wpAny_bind (wpAny_pure ?_)
   refine wpAny_bind (wpAny_pure (a := ((), SortSt.mk' general' (vs.toArray.zip vs.toArray) #[] 7 none)) ?_)
   dsimp only
   have hl2 : vs.length < 2 := by rw [List.size_toArray] at hn2; exact hn2
   have hout : Array.map (fun x => x.snd) (arrOf (SortSt.mk' general' (vs.toArray.zip vs.toArray) #[] 7 none)) = (List.toArray ((List.range vs.length).map fun i => vs.getD i Value.none)) := by
    show Array.map (fun x => x.snd) (vs.toArray.zip vs.toArray) = _
    match vs, hl2 with
    | [], _ => simp
    | [v], _ => simp
   rw [hout]
   obtain ⟨c2, hc2⟩ : ∃ c2, (g3.update s1.heap.objs.size (Obj.mapSeq fun _ => List.toArray ((List.range vs.length).map fun i => vs.getD i Value.none))).get? s1.heap.objs.size = some (seqObj "list" (List.toArray ((List.range vs.length).map fun i => vs.getD i Value.none)) c2) := ⟨_, get?_update_seq ho3 fun _ => List.toArray ((List.range vs.length).map fun i => vs.getD i Value.none)⟩
   refine wpAny_bind (seqEpoch_at ho3 rfl ?_)
   refine wpAny_bind (listUpdate_at ho3 rfl ?_ (Nat.zero_le _) (by rw [List.size_toArray, List.length_map, List.length_range, sizeLine_eq]; omega))
   simp only [bne_self_eq_false, Bool.false_eq_true, if_false]
   refine wpAny_pure ⟨_, rfl, wpAny_pure ⟨_, rfl, h _ _ c2 (List.range vs.length) (Nat.le_refl _) (fun b o q => ?_) (List.Perm.refl _) (fun i j hij hj => by omega) hc2⟩⟩
   rw [Heap.get?_update_ne _ _ _ _ (Nat.ne_of_lt (Heap.lt_size q))]
   exact keep3 b o q
  rw [if_neg hn2, if_neg hn2]
  have h2 : 2 ≤ vs.length := by rw [List.size_toArray] at hn2; omega
  have L2 := sort_sat (hlin h2) h2
  have hok := L2.ok.1
  have hso := L2.ok.2
  have ho3 : ((g2.push (seqObj "tuple" vs.toArray 0)).push (seqObj "list" #[] 0)).get? s1.heap.objs.size = some (seqObj "list" #[] e1) := Heap.get?_push_of_some _ (Heap.get?_push_of_some _ ho1)
  have keep3 : ∀ b o, s1.heap.get? b = some o → ((g2.push (seqObj "tuple" vs.toArray 0)).push (seqObj "list" #[] 0)).get? b = some o := fun b o q => Heap.get?_push_of_some _ (Heap.get?_push_of_some _ (keep2 b o q))
  generalize (g2.push (seqObj "tuple" vs.toArray 0)).push (seqObj "list" #[] 0) = g3 at keep3 ho3 ⊢
  have rows : ∀ (i : Nat), i < vs.length → ∃ a o its n, vs.getD i Value.none = .ref a ∧ g3.get? a = some o ∧ o.cls = .type "tuple" ∧ o.data = .seq its n ∧ Nums its.toList (keys.getD i []) ∧ keys.getD i [] ≠ [] := fun i hi => by
   have hi' : i < keys.length := by omega
   obtain ⟨h0, a, o, its, n, e1, e2, e3, e4, e5⟩ := hrow i vs[i] keys[i] (by simp [hi]) (by simp [hi'])
   refine ⟨a, o, its, n, by simp [hi, e1], keep3 _ _ e2, e3, e4, by simpa [hi'] using e5, by simpa [hi'] using h0⟩
  have firsts : ∀ (us : List Value), (∀ v ∈ us, v ∈ vs) → ∃ fs, KatTups g3 us fs ∧ fs.length = us.length ∧ ∀ f ∈ fs, ∃ i t, f = Value.int i t := by
   intro us
   induction us with
   | nil => exact fun _ => ⟨[], trivial, rfl, fun f h => nomatch h⟩
   | cons v us ih =>
    intro hm
    obtain ⟨fs, t1, t2, t3⟩ := ih fun x hx => hm x (List.mem_cons_of_mem _ hx)
    obtain ⟨i, hi, rfl⟩ := List.getElem_of_mem (hm v List.mem_cons_self)
    obtain ⟨a, o, its, n, e1, e2, e3, e4, e5, e6⟩ := rows i hi
    have ev : vs[i] = .ref a := by simpa [hi] using e1
    rw [ev]
    generalize keys.getD i [] = kk at e5 e6
    cases its with | mk il =>
    cases e5 with
    | nil => exact absurd rfl e6
    | @cons j t us' ns' hh => exact ⟨.int j t :: fs, KatTups.cons e2 e3 e4 rfl t1, by rw [List.length_cons, t2]; rfl, fun f hf => by
      rcases List.mem_cons.mp hf with rfl | hf
      ·exact ⟨_, _, rfl⟩
      ·exact t3 f hf⟩
  obtain ⟨fs, t1, t2, t3⟩ := firsts vs fun _ h => h
  refine wpAny_bind (kat_kind (T := .type "int") t1 (by omega) (fun f hf => by
   obtain ⟨i, t, rfl⟩ := t3 f hf
   exact Looks.of_pure rfl) (by decide) ?_)
  have hcmp : ∀ i j C, C (lexI (decide ((keys.getD i []).length < (keys.getD j []).length)) (keys.getD i []) (keys.getD j [])) ({ s1 with heap := g3 } : Shared) → i < vs.length → j < vs.length → kas_ask prog w A.in1.in1 (tuples' (Value.type "int" != Value.type "tuple")) vs i j C { s1 with heap := g3 } := fun i j C hC hi hj => by
   unfold kas_ask
   obtain ⟨a, o, its, n, e1, e2, e3, e4, e5, e6⟩ := rows i hi
   obtain ⟨a', o', its', n', e1', e2', e3', e4', e5', e6'⟩ := rows j hj
   rw [e1, e1']
   refine kat_lt e2 e4 e2' e4' ?_
   have hs1 : its.size = (keys.getD i []).length := by rw [← Array.length_toList]; exact e5.len
   have hs2 : its'.size = (keys.getD j []).length := by rw [← Array.length_toList]; exact e5'.len
   rw [hs1, hs2]
   exact lex_ints 0 e5 e5' hC
  refine wpAny_bind (wpAny_mono (kat_run (κ := tuples' (Value.type "int" != Value.type "tuple")) (Q := fun st' s' => ∃ p : Array Nat, p.size = vs.length ∧ arrOf st' = p.map (kas_item (vs.toArray.zip vs.toArray)) ∧ failedOf st' = none ∧ p = (kas_sort vs.length).eval (fun i j => lexI (decide ((keys.getD i []).length < (keys.getD j []).length)) (keys.getD i []) (keys.getD j [])) ∧ s' = { s1 with heap := g3 }) rfl h2 h64 (fun p' st' s' a1 a2 a3 a4 => ⟨p', a1, a2, a3, a4⟩) (KasT.eval_wp (n := vs.length) hcmp _ hok ⟨rfl, rfl⟩)) ?_ fun _ _ e => e)
  rintro ⟨⟨⟩, st'⟩ s' ⟨p, hp, har, hf, rfl, rfl⟩
  dsimp only
  have hout := kat_snds rfl har
  generalize (kas_sort vs.length).eval (fun i j => lexI (decide ((keys.getD i []).length < (keys.getD j []).length)) (keys.getD i []) (keys.getD j [])) = p at hp hout hso
  have ppm : p.toList.Perm (List.range vs.length) := hso.1.pm
  have pso : ∀ i j, i < j → j < vs.length → ltR keys (p.toList.getD i 0) (p.toList.getD j 0) = true := fun i j hij hj => by
   have e := hso.2 i j hij hj
   rwa [show p.getD i 0 = p.toList.getD i 0 by simp [Array.getD_eq_getD_getElem?, List.getD_eq_getElem?_getD], show p.getD j 0 = p.toList.getD j 0 by simp [Array.getD_eq_getD_getElem?, List.getD_eq_getElem?_getD]] at e
  have hsz' : (List.toArray (p.toList.map fun i => vs.getD i Value.none)).size = vs.length := by rw [List.size_toArray, List.length_map, Array.length_toList, hp]
  rw [hout]
  obtain ⟨c2, hc2⟩ : ∃ c2, (g3.update s1.heap.objs.size (Obj.mapSeq fun _ => List.toArray (p.toList.map fun i => vs.getD i Value.none))).get? s1.heap.objs.size = some (seqObj "list" (List.toArray (p.toList.map fun i => vs.getD i Value.none)) c2) := ⟨_, get?_update_seq ho3 fun _ => List.toArray (p.toList.map fun i => vs.getD i Value.none)⟩
  refine wpAny_bind (seqEpoch_at ho3 rfl ?_)
  refine wpAny_bind (listUpdate_at ho3 rfl ?_ (Nat.zero_le _) (Nat.le_trans (Nat.le_of_eq hsz') (by rw [sizeLine_eq]; omega)))
  rw [hf]
  simp only [bne_self_eq_false, Bool.false_eq_true, if_false]
  refine wpAny_pure ⟨_, rfl, wpAny_pure ⟨_, rfl, h _ _ c2 p.toList (Nat.le_refl _) (fun b o q => ?_) ppm pso hc2⟩⟩
  rw [Heap.get?_update_ne _ _ _ _ (Nat.ne_of_lt (Heap.lt_size q))]
  exact keep3 b o q
theorem collect_src {T : String} {r d : Addr} {n : Nat} {P : Nat → Value → Prop} {OK : Heap → Prop} {Q : List Value → Shared → Prop} (K : KdlSrc prog w T r d n P OK) (hh : A.handled = none) (hok : OK s.heap) (hn : n ≤ sizeLine)
  (hQ : ∀ h' tk (acc : Array Value), (∀ b o, s.heap.get? b = some o → h'.get? b = some o) → s.heap.objs.size < h'.objs.size → ItemsOf P acc n → Q acc.toList { s with heap := h', toks := tk }) :
  wpAny (model prog w) A (collect (.ref r)) Q E s := by
 unfold collect
 refine wpAny_bind (wpAny_runValue (codeAny_builtin entry_proto_collect' ?_))
 show wpAny _ _ (do again (.builtin "list.__iadd__" ⟨[← newList [], .ref r], []⟩)) _ _ s
 refine wpAny_bind (wpAny_newList (wpAny_pure ⟨Code.quiet_builtin _ (by decide +kernel), codeAny_builtin entry_list_iadd' ?_⟩))
 show wpAny _ _ (Builtin.List.listExtendWith (.ref s.heap.objs.size) (.ref r) (.ref s.heap.objs.size)) _ _ { s with heap := s.heap.push (seqObj "list" #[] 0) }
 have hS : (s.heap.push (seqObj "list" #[] 0)).get? s.heap.objs.size = some (seqObj "list" #[] 0) := Heap.get?_push_size _ rfl
 have hlt := K.there _ hok
 show wpAny _ A.in1 _ _ _ _
 refine kdl_extend (A := A) (s := { s with heap := s.heap.push (seqObj "list" #[] 0) }) (R := fun r s' => match r with | .ok (.ret v) => wpAny (model prog w) A (match v with | .ref a => (do let o ← load a; match o.data with | .seq xs _ => pure xs.toList | _ => unsupported "internal:collect") | _ => unsupported "internal:collect") Q E s' | .ok _ => False | .error e => E e s') K hh (K.keep _ _ hok fun b _ o e => Heap.get?_push_of_some _ e) s.heap.objs.size (Nat.ne_of_gt hlt.1) (Nat.ne_of_gt hlt.2) _ 0 hS (fun h' tk acc' c' hk hS' hacc => ?_) hn
 show wpAny (model prog w) A (do
   let o ← load s.heap.objs.size
   match o.data with
   | .seq xs _ => pure xs.toList
   | _ => unsupported "internal:collect") Q E { s with heap := h', toks := tk }
 refine wpAny_bind (wpAny_load hS' ?_)
 exact wpAny_pure (hQ h' tk acc' (fun b o e => hk b o (Nat.ne_of_lt (Heap.lt_size e)) (Heap.get?_push_of_some _ e)) (Heap.lt_size hS') hacc)
end
theorem lexI_irr : ∀ xs : List Int, lexI false xs xs = false
 | [] => rfl
 | x :: xs => by unfold lexI; rw [if_pos rfl]; exact lexI_irr xs
theorem lexI_tr : ∀ {xs ys zs : List Int}, lexI false xs ys = true → lexI false ys zs = true → lexI false xs zs = true
 | [], _, _, h, _ => by cases h
 | _ :: _, [], _, h, _ => by cases h
 | _ :: _, _ :: _, [], _, h => by cases h
 | x :: xs, y :: ys, z :: zs, h1, h2 => by
  unfold lexI at h1 h2 ⊢
  by_cases e1 : x = y
  ·rw [if_pos e1] at h1
   by_cases e2 : y = z
   ·rw [if_pos e2] at h2
    rw [if_pos (e1.trans e2)]
    exact lexI_tr h1 h2
   ·rw [if_neg e2] at h2
    have := of_decide_eq_true h2
    rw [if_neg (by omega)]
    exact decide_eq_true (by omega)
  ·rw [if_neg e1] at h1
   have a := of_decide_eq_true h1
   by_cases e2 : y = z
   ·rw [if_neg (by omega)]
    exact decide_eq_true (by omega)
   ·rw [if_neg e2] at h2
    have b := of_decide_eq_true h2
    rw [if_neg (by omega)]
    exact decide_eq_true (by omega)
theorem lexI_tot : ∀ {xs ys : List Int}, xs.length = ys.length → xs ≠ ys → lexI false xs ys = false → lexI false ys xs = true
 | [], [], _, h, _ => absurd rfl h
 | [], _ :: _, h, _, _ => by simp at h
 | _ :: _, [], h, _, _ => by simp at h
 | x :: xs, y :: ys, hl, hne, h => by
  unfold lexI at h ⊢
  by_cases e : x = y
  ·subst e
   rw [if_pos rfl] at h ⊢
   exact lexI_tot (by simpa using hl) (fun z => hne (by rw [z])) h
  ·rw [if_neg e] at h
   have := of_decide_eq_false h
   rw [if_neg (Ne.symm e)]
   exact decide_eq_true (by omega)
theorem lin_rows {keys : List (List Int)} {m : Nat} (hl : ∀ k ∈ keys, k.length = m) (nd : keys.Nodup) : Lin (ltR keys) keys.length := by
 have at' : ∀ i, i < keys.length → (keys.getD i []).length = m := fun i hi => hl _ (by rw [List.getD_eq_getElem?_getD, List.getElem?_eq_getElem hi]; exact List.getElem_mem hi)
 have e : ∀ i j, i < keys.length → j < keys.length → ltR keys i j = lexI false (keys.getD i []) (keys.getD j []) := fun i j hi hj => by
  unfold ltR
  rw [at' i hi, at' j hj, decide_eq_false (Nat.lt_irrefl _)]
 refine ⟨fun i hi => by rw [e i i hi hi]; exact lexI_irr _, fun i j k hi hj hk h1 h2 => ?_, fun i j hi hj hne h => ?_⟩
 ·rw [e _ _ hi hj] at h1
  rw [e _ _ hj hk] at h2
  rw [e _ _ hi hk]
  exact lexI_tr h1 h2
 ·rw [e _ _ hi hj] at h
  rw [e _ _ hj hi]
  refine lexI_tot (by rw [at' i hi, at' j hj]) (fun z => hne ?_) h
  rw [List.getD_eq_getElem?_getD, List.getD_eq_getElem?_getD, List.getElem?_eq_getElem hi, List.getElem?_eq_getElem hj] at z
  exact (List.getElem_inj nd).mp z
end PySem.W
namespace L2
open PySem PySem.Spec PyProof.Rows
section
variable {X : Cx} {k : Nat}
theorem RowsAt.perm {H : Hp} {as : List Addr} {keys : List (List Int)} (h : RowsAt H as keys) : ∀ p : List Nat, (∀ i ∈ p, i < keys.length) → RowsAt H (p.map fun i => as.getD i 0) (p.map fun i => keys.getD i [])
 | [], _ => trivial
 | i :: p, hp => by
  have hi := hp i List.mem_cons_self
  have hi' : i < as.length := by rw [h.len]; exact hi
  refine ⟨?_, RowsAt.perm h p fun j hj => hp j (List.mem_cons_of_mem _ hj)⟩
  show H (as.getD i 0) = some (.tup ((keys.getD i []).map V.int))
  obtain ⟨ks, e1, e2⟩ := h.at (i := i) (a := as[i]) (by simp [hi'])
  rw [show as.getD i 0 = as[i] by simp [hi'], e2, show keys.getD i [] = ks by rw [List.getD_eq_getElem?_getD, e1]; rfl]
theorem perm_rows {keys : List (List Int)} {p : List Nat} (hp : p.Perm (List.range keys.length)) : (p.map fun i => keys.getD i []).Perm keys := by
 refine (hp.map _).trans (List.Perm.of_eq ?_)
 refine List.ext_getElem (by simp) fun i h1 h2 => ?_
 have : i < keys.length := h2
 simp [List.getD_eq_getElem?_getD, this]
theorem pair_rows {keys : List (List Int)} {p : List Nat} (hl : p.length = keys.length) (h : ∀ i j, i < j → j < keys.length → PySem.W.lexI false (keys.getD (p.getD i 0) []) (keys.getD (p.getD j 0) []) = true) : (p.map fun i => keys.getD i []).Pairwise fun a b => PySem.W.lexI false a b = true := by
 rw [List.pairwise_iff_getElem]
 intro i j hi hj hij
 have hi' : i < p.length := by simpa using hi
 have hj' : j < p.length := by simpa using hj
 have := h i j hij (by omega)
 rw [List.getElem_map, List.getElem_map]
 rwa [show p.getD i 0 = p[i] by simp [hi'], show p.getD j 0 = p[j] by simp [hj']] at this
def SortEnd (H : Hp) (Q : VK) (keys : List (List Int)) : Prop := ∀ (D : Addr) (as' : List Addr) (ks' : List (List Int)), H D = none → RowsAt H as' ks' → ks'.Perm keys → (ks'.Pairwise fun a b => PySem.W.lexI false a b = true) → Q (.ref D) (upd H D (.lst (as'.map V.ref)))
theorem sort_end {H : Hp} {Q : VK} {as : List Addr} {keys : List (List Int)} {m : Nat} (hr : RowsAt H as keys) (hl : ∀ ks ∈ keys, ks.length = m) (q : SortEnd H Q keys) {p : List Nat} (hp : p.Perm (List.range keys.length))
  (hs : ∀ i j, i < j → j < keys.length → PySem.W.ltR keys (p.getD i 0) (p.getD j 0) = true) {D : Addr} (hD : H D = none) : Q (.ref D) (upd H D (.lst ((p.map fun i => as.getD i 0).map V.ref))) := by
 have hpl : p.length = keys.length := by rw [hp.length_eq, List.length_range]
 have hlt : ∀ i ∈ p, i < keys.length := fun i hi => List.mem_range.mp (hp.mem_iff.mp hi)
 have at' : ∀ i, i < keys.length → (keys.getD i []).length = m := fun i hi => hl _ (by rw [List.getD_eq_getElem?_getD, List.getElem?_eq_getElem hi]; exact List.getElem_mem hi)
 refine q D _ _ hD (hr.perm p hlt) (perm_rows hp) (pair_rows hpl fun i j hij hj => ?_)
 have e := hs i j hij hj
 have b1 : p.getD i 0 < keys.length := hlt _ (by rw [List.getD_eq_getElem?_getD, List.getElem?_eq_getElem (by omega)]; exact List.getElem_mem _)
 have b2 : p.getD j 0 < keys.length := hlt _ (by rw [List.getD_eq_getElem?_getD, List.getElem?_eq_getElem (by omega)]; exact List.getElem_mem _)
 unfold PySem.W.ltR at e
 rwa [at' _ b1, at' _ b2, decide_eq_false (Nat.lt_irrefl _)] at e
def rSortL : List V → Hp → VK → Prop := fun xs H Q => ∃ (l : Addr) (as : List Addr) (keys : List (List Int)) (m : Nat), xs = [.ref l] ∧ H l = some (.lst (as.map V.ref)) ∧ RowsAt H as keys ∧ 0 < m ∧ (∀ ks ∈ keys, ks.length = m) ∧ keys.Nodup ∧ keys.length < 64 ∧ SortEnd H Q keys
theorem refs_perm {as : List Addr} {n : Nat} (hn : as.length = n) {p : List Nat} (hp : ∀ i ∈ p, i < n) : (p.map fun i => (as.map V.ref).getD i .non) = (p.map fun i => as.getD i 0).map V.ref := by
 rw [List.map_map]
 refine List.map_congr_left fun i hi => ?_
 have : i < as.length := by rw [hn]; exact hp i hi
 simp [this]
theorem call_sortL : CallR X (.builtin "sorted") rSortL := by
 intro pins s σ H xs us Q I r h
 obtain ⟨l, as, keys, m, rfl, hl, hrows, m0, hlen, nd, h64, q⟩ := h
 obtain ⟨u, rfl, ru⟩ := r.one
 cases ru
 obtain ⟨its, rv, pl, hz⟩ := I.list (SqL.of hl)
 have hlen' : its.length = keys.length := by rw [← rv.length, List.length_map, hrows.len]
 have hsz : ((s.heap.push (seqObj "list" #[] 0)).update s.heap.objs.size (Obj.mapSeq (· ++ its.toArray))).objs.size = s.heap.objs.size + 1 := by rw [Heap.size_update, size_push']
 have keep1 : ∀ b o, s.heap.get? b = some o → ((s.heap.push (seqObj "list" #[] 0)).update s.heap.objs.size (Obj.mapSeq (· ++ its.toArray))).get? b = some o := fun b o e => by
  have hlt : b < s.heap.objs.size := Heap.lt_size e
  rw [Heap.get?_update_ne _ _ _ _ (Nat.ne_of_lt hlt), Heap.get?_push_ne _ _ _ (Nat.ne_of_lt hlt)]
  exact e
 refine PySem.W.sorted_col (u := .ref l) (C := fun s1 => s1 = { s with heap := (s.heap.push (seqObj "list" #[] 0)).update s.heap.objs.size (Obj.mapSeq (· ++ its.toArray)) }) (vs := its) (keys := keys) (fun A' E' R hh hR => collect_list pl.isList (hR _ rfl) (by rw [sizeLine_eq]; omega)) hlen' (by omega) (fun _ => by rw [hlen']; exact PySem.W.lin_rows hlen nd) ?_ ?_
 ·rintro _ rfl i v ks hv hk
  have hi : i < as.length := by
   have := (List.getElem?_eq_some_iff.mp hv).1
   rw [hlen', ← hrows.len] at this
   exact this
  obtain ⟨ks', e1, e2⟩ := hrows.at (i := i) (a := as[i]) (by simp [hi])
  rw [hk] at e1
  cases e1
  obtain ⟨jts, r2, pt, _⟩ := I.tuple (SqT.of e2)
  obtain ⟨o, ho, hc, n, hd⟩ := pt
  refine ⟨fun z => by have := hlen ks (List.mem_of_getElem? hk); rw [z] at this; simp at this; omega, as[i], o, jts.toArray, n, ?_, keep1 _ _ ho, hc, hd, by simpa using nums_of r2⟩
  have := Vals.getD rv i
  rw [show (as.map V.ref).getD i .non = V.ref as[i] by simp [hi]] at this
  have hv' : its.getD i .none = v := by rw [List.getD_eq_getElem?_getD, hv]; rfl
  rw [hv'] at this
  exact this
 ·rintro _ rfl D h' c p hD hk hp hs hd
  rw [hlen'] at hp hs
  have hpl : p.length = keys.length := by rw [hp.length_eq, List.length_range]
  have hDs : s.heap.objs.size ≤ D := Nat.le_of_succ_le (Nat.le_trans (Nat.le_of_eq hsz.symm) hD)
  refine ⟨.ref D, _, I.laid (t' := s.toks) (fun b o e => hk b o (keep1 b o e)) hDs ?_, rfl, sort_end hrows hlen q hp hs (I.hok.fresh hDs)⟩
  refine ⟨by rw [List.length_map, List.length_map, hpl]; exact Nat.le_of_lt (small1000 (by omega)), _, c, ?_, hd⟩
  rw [← refs_perm hrows.len fun i hi => List.mem_range.mp (hp.mem_iff.mp hi)]
  exact Vals.perm rv p
def keyI (s : List Int) : List Key := s.map Sum.inl
theorem keyI_kV (s : List Int) : (keyI s).map kV = s.map V.int := by
 unfold keyI
 rw [List.map_map]
 rfl
def rSortD : List V → Hp → VK → Prop := fun xs H Q => ∃ (d : Addr) (kvs : List (List Key × V)) (keys : List (List Int)) (m : Nat), xs = [.ref d] ∧ H d = some (.dT kvs) ∧ kvs.map (·.1) = keys.map keyI ∧ 0 < m ∧ (∀ ks ∈ keys, ks.length = m) ∧ keys.Nodup ∧ keys.length < 64 ∧ SortEnd H Q keys
theorem rows_of {H : Hp} : ∀ {kvs : List (List Key × V)} {bs : List Addr} {keys : List (List Int)}, KeyAt H kvs bs → kvs.map (·.1) = keys.map keyI → RowsAt H bs keys
 | [], [], [], _, _ => trivial
 | [], [], _ :: _, _, e => by simp at e
 | (ks, v) :: kvs, b :: bs, [], _, e => by simp at e
 | (ks, v) :: kvs, b :: bs, key :: keys, h, e => by
  rw [List.map_cons, List.map_cons, List.cons.injEq] at e
  cases h with
  | cons h1 h2 =>
   refine ⟨?_, rows_of h2 e.2⟩
   have h1' : H b = some (.tup (ks.map kV)) := h1
   rw [h1', show ks = keyI key from e.1, keyI_kV]
 | [], _ :: _, _, h, _ => by cases h
 | _ :: _, [], _, h, _ => by cases h
theorem call_sortD (hr : Room k X.A) : CallR X (.builtin "sorted") rSortD := by
 intro pins s σ H xs us Q I r h
 obtain ⟨d, kvs, keys, m, rfl, hd, hkv, m0, hlen, nd, h64, q⟩ := h
 obtain ⟨u, rfl, ru⟩ := r.one
 cases ru
 obtain ⟨z, lo, ks, rel, o, es, ep, ho, hc, hdat, he, _, _⟩ := dt_of I.hok hd
 have hsz : es.size = ks.length := size_of_entries he
 have hkl : kvs.length = ks.length := Paired.length rel
 obtain ⟨kat, _⟩ := KT.at rel
 have hrows := rows_of kat hkv
 have hvl : (ks.map fun x => Value.ref x.2.1).length = keys.length := by
  have := hrows.len
  rw [List.length_map] at this ⊢
  exact this
 refine PySem.W.sorted_col (u := .ref d) (C := fun s1 => ∃ h' tk, s1 = { s with heap := h', toks := tk } ∧ (∀ b o, s.heap.get? b = some o → h'.get? b = some o) ∧ s.heap.objs.size < h'.objs.size) (vs := ks.map fun x => Value.ref x.2.1) (keys := keys) (fun A' E' R hh hR => PySem.W.collect_src (e_srcD (es := es) (ep := ep) lo) (hh.trans hr.hd) ⟨o, ho, hc, hdat⟩ (by rw [hsz, ← hkl]; exact z) fun h' tk acc hk hlt hacc => ?_) hvl (by omega) (fun _ => by rw [hvl]; exact PySem.W.lin_rows hlen nd) ?_ ?_
 ·have hacc' := items_eq (ys := ks.map fun x => Value.ref x.2.1) hacc (by rw [List.length_map, hsz]) fun i v ⟨e, h1, h2⟩ => by
   rw [entry_at he i] at h1
   rw [List.getElem?_map]
   cases hx : ks[i]? with
   | none => rw [hx] at h1; cases h1
   | some x => rw [hx] at h1; cases h1; subst h2; rfl
  rw [hacc']
  exact hR _ ⟨h', tk, rfl, hk, hlt⟩
 ·rintro _ ⟨h1, tk, rfl, hk1, hlt1⟩ i v kk hv hk
  have hi : i < keys.length := (List.getElem?_eq_some_iff.mp hk).1
  obtain ⟨kk', e1, e2⟩ := hrows.at (i := i) (a := (ks.map fun x => x.2.1).getD i 0) (by rw [List.getD_eq_getElem?_getD, List.getElem?_eq_getElem (by rw [hrows.len]; exact hi)]; rfl)
  rw [hk] at e1
  cases e1
  obtain ⟨jts, r2, pt, _⟩ := I.tuple (SqT.of e2)
  obtain ⟨o', ho', hc', n, hd'⟩ := pt
  refine ⟨fun z => by have := hlen kk (List.mem_of_getElem? hk); rw [z] at this; simp at this; omega, (ks.map fun x => x.2.1).getD i 0, o', jts.toArray, n, ?_, hk1 _ _ ho', hc', hd', by simpa using nums_of r2⟩
  rw [List.getElem?_map] at hv
  rw [List.getD_eq_getElem?_getD, List.getElem?_map]
  cases hx : ks[i]? with
  | none => rw [hx] at hv; cases hv
  | some x => rw [hx] at hv; cases hv; rfl
 ·rintro _ ⟨h1, tk, rfl, hk1, hlt1⟩ D h' c p hD hk hp hs hd'
  rw [hvl] at hp hs
  have hpl : p.length = keys.length := by rw [hp.length_eq, List.length_range]
  have hDs : s.heap.objs.size ≤ D := Nat.le_trans (Nat.le_of_lt hlt1) hD
  refine ⟨.ref D, _, I.laid (t' := tk) (fun b o e => hk b o (hk1 b o e)) hDs ?_, rfl, sort_end hrows hlen q hp hs (I.hok.fresh hDs)⟩
  refine ⟨by rw [List.length_map, List.length_map, hpl]; exact Nat.le_of_lt (small1000 (by omega)), _, c, ?_, hd'⟩
  rw [← refs_perm hrows.len fun i hi => List.mem_range.mp (hp.mem_iff.mp hi)]
  have rv : Vals ((ks.map fun x => x.2.1).map V.ref) (ks.map fun x => Value.ref x.2.1) := by
   rw [show (ks.map fun x => Value.ref x.2.1) = (ks.map fun x => x.2.1).map Value.ref from by rw [List.map_map]; rfl]
   exact Vals.refs _
  exact Vals.perm rv p
end
end L2
namespace K41
open PySem L2 G2
def nx (tg : List Row) (s : List Int) : List (List Int) := (thR s tg).map fun r => goR s (tg.getD r ([], []))
inductive Rch (tg : List Row) : List Int → List Int → Prop
 | refl (x : List Int) : Rch tg x x
 | step {x y z : List Int} : y ∈ nx tg x → Rch tg y z → Rch tg x z
theorem Rch.snoc {tg : List Row} {x y z : List Int} (h : Rch tg x y) (hz : z ∈ nx tg y) : Rch tg x z := by
 induction h with
 | refl x => exact .step hz (.refl _)
 | step h1 _ ih => exact .step h1 (ih hz)
def Cls (tg : List Row) (S : List (List Int)) : Prop := ∀ x ∈ S, ∀ y ∈ nx tg x, y ∈ S
theorem Rch.mem {tg : List Row} {S : List (List Int)} (c : Cls tg S) {x y : List Int} (h : Rch tg x y) : x ∈ S → y ∈ S := by
 induction h with
 | refl x => exact id
 | step h1 _ ih => exact fun hx => ih (c _ hx _ h1)
theorem nd_le {α : Type} [DecidableEq α] : ∀ {l S : List α}, l.Nodup → (∀ x ∈ l, x ∈ S) → l.length ≤ S.length
 | [], _, _, _ => Nat.zero_le _
 | x :: l, S, nd, h => by
  rw [List.nodup_cons] at nd
  have hx := h x List.mem_cons_self
  have := nd_le (l := l) (S := S.erase x) nd.2 fun y hy => (List.mem_erase_of_ne (fun (e : y = x) => nd.1 (e ▸ hy))).mpr (h y (List.mem_cons_of_mem _ hy))
  rw [List.length_erase_of_mem hx] at this
  have := List.length_pos_of_mem hx
  rw [List.length_cons]
  omega
abbrev fst' (es : Es) : List (List Int) := es.map (·.1)
theorem add1_fst (tg : List Row) (e : List Int × List Nat) (es : Es) (r : Nat) : fst' (add1 tg e es r) = if goR e.1 (tg.getD r ([], [])) ∈ fst' es then fst' es else fst' es ++ [goR e.1 (tg.getD r ([], []))] := by
 unfold add1 fst'
 by_cases h : goR e.1 (tg.getD r ([], [])) ∈ es.map (·.1)
 ·rw [if_pos h, if_pos]
  rw [List.any_eq_true]
  obtain ⟨x, hx, ex⟩ := List.mem_map.mp h
  exact ⟨x, hx, decide_eq_true ex⟩
 ·rw [if_neg h, if_neg, List.map_append]
  ·rfl
  ·rw [List.any_eq_true]
   rintro ⟨x, hx, ex⟩
   exact h (List.mem_map.mpr ⟨x, hx, of_decide_eq_true ex⟩)
theorem fold_spec (tg : List Row) (e : List Int × List Nat) : ∀ (rs : List Nat) (es : Es), (fst' es).Nodup → (∃ zs, rs.foldl (add1 tg e) es = es ++ zs) ∧ (fst' (rs.foldl (add1 tg e) es)).Nodup ∧ (∀ r ∈ rs, goR e.1 (tg.getD r ([], [])) ∈ fst' (rs.foldl (add1 tg e) es)) ∧
  ∀ y ∈ fst' (rs.foldl (add1 tg e) es), y ∈ fst' es ∨ ∃ r ∈ rs, y = goR e.1 (tg.getD r ([], []))
 | [], es, nd => ⟨⟨[], by simp⟩, nd, (fun r hr => by cases hr), fun y hy => .inl hy⟩
 | r :: rs, es, nd => by
  have e1 := add1_fst tg e es r
  have hpre : ∃ zs, add1 tg e es r = es ++ zs := by
   unfold add1
   split
   ·exact ⟨[], by simp⟩
   ·exact ⟨_, rfl⟩
  have nd1 : (fst' (add1 tg e es r)).Nodup := by
   rw [e1]
   split
   ·exact nd
   ·next h => exact List.nodup_append.mpr ⟨nd, List.nodup_cons.mpr ⟨by simp, List.nodup_nil⟩, fun a ha b hb => by rw [List.mem_singleton.mp hb]; exact fun z => h (z ▸ ha)⟩
  have hin : goR e.1 (tg.getD r ([], [])) ∈ fst' (add1 tg e es r) := by
   rw [e1]
   split
   ·assumption
   ·exact List.mem_append_right _ (List.mem_singleton.mpr rfl)
  obtain ⟨⟨zs, hz⟩, n2, h3, h4⟩ := fold_spec tg e rs (add1 tg e es r) nd1
  obtain ⟨ws, hw⟩ := hpre
  have sub : ∀ y ∈ fst' (add1 tg e es r), y ∈ fst' (rs.foldl (add1 tg e) (add1 tg e es r)) := fun y hy => by
   rw [hz]
   unfold fst'
   rw [List.map_append]
   exact List.mem_append_left _ hy
  refine ⟨⟨ws ++ zs, by show rs.foldl (add1 tg e) (add1 tg e es r) = _; rw [hz, hw, List.append_assoc]⟩, n2, fun q hq => ?_, fun y hy => ?_⟩
  ·rcases List.mem_cons.mp hq with rfl | hq
   ·exact sub _ hin
   ·exact h3 q hq
  ·rcases h4 y hy with z | ⟨q, hq, z⟩
   ·rw [e1] at z
    split at z
    ·exact .inl z
    ·rcases List.mem_append.mp z with z | z
     ·exact .inl z
     ·exact .inr ⟨r, List.mem_cons_self, List.mem_singleton.mp z⟩
   ·exact .inr ⟨q, List.mem_cons_of_mem _ hq, z⟩
structure Bf (tg : List Row) (st : List Int) (i : Nat) (es : Es) : Prop where
 hd : st ∈ fst' es
 nd : (fst' es).Nodup
 rc : ∀ y ∈ fst' es, Rch tg st y
 cl : ∀ j e, j < i → es[j]? = some e → ∀ y ∈ nx tg e.1, y ∈ fst' es
theorem Bf.go {tg : List Row} {st : List Int} {i : Nat} {es : Es} {e : List Int × List Nat} (b : Bf tg st i es) (he : es[i]? = some e) : Bf tg st (i + 1) (expd tg e es) := by
 obtain ⟨⟨zs, hz⟩, n2, h3, h4⟩ := fold_spec tg e (thR e.1 tg) es b.nd
 have hin : e.1 ∈ fst' es := List.mem_map.mpr ⟨e, List.mem_of_getElem? he, rfl⟩
 have sub : ∀ y ∈ fst' es, y ∈ fst' (expd tg e es) := fun y hy => by
  unfold expd
  rw [hz]
  unfold fst'
  rw [List.map_append]
  exact List.mem_append_left _ hy
 refine ⟨sub _ b.hd, n2, fun y hy => ?_, fun j x hj hx y hy => ?_⟩
 ·rcases h4 y hy with z | ⟨r, hr, z⟩
  ·exact b.rc y z
  ·exact (b.rc _ hin).snoc (List.mem_map.mpr ⟨r, hr, z.symm⟩)
 ·have hil : i < es.length := (List.getElem?_eq_some_iff.mp he).1
  have hx' : es[j]? = some x := by
   unfold expd at hx
   rw [hz, List.getElem?_append_left (by omega)] at hx
   exact hx
  by_cases e' : j = i
  ·subst e'
   rw [he] at hx'
   cases hx'
   obtain ⟨r, hr, rfl⟩ := List.mem_map.mp hy
   exact h3 r hr
  ·exact sub _ (b.cl j x (by omega) hx' y hy)
theorem run_spec {tg : List Row} {mo : Nat} {st : List Int} : ∀ (n i : Nat) (es es' : Es), Bf tg st i es → es.length ≤ mo → i + n = mo → run tg mo n i es = some es' → Bf tg st es'.length es'
 | 0, i, es, es', b, hl, hn, h => by
  cases h
  exact ⟨b.hd, b.nd, b.rc, fun j e hj he => b.cl j e (by omega) he⟩
 | n + 1, i, es, es', b, hl, hn, h => by
  unfold run at h
  cases he : es[i]? with
  | none =>
   rw [he] at h
   cases h
   have := List.getElem?_eq_none_iff.mp he
   exact ⟨b.hd, b.nd, b.rc, fun j e hj hj' => b.cl j e (by omega) hj'⟩
  | some e =>
   rw [he] at h
   dsimp only at h
   split at h
   ·cases h
   ·exact run_spec n (i + 1) _ es' (b.go he) (by omega) (by omega) h
theorem run_tot {tg : List Row} {mo : Nat} {S : List (List Int)} (c : Cls tg S) (hS : S.length ≤ mo) : ∀ (n i : Nat) (es : Es), (fst' es).Nodup → (∀ y ∈ fst' es, y ∈ S) → run tg mo n i es ≠ none
 | 0, i, es, _, _ => by unfold run; exact fun h => by cases h
 | n + 1, i, es, nd, h => by
  unfold run
  cases he : es[i]? with
  | none => exact fun h => by cases h
  | some e =>
   dsimp only
   obtain ⟨_, n2, _, h4⟩ := fold_spec tg e (thR e.1 tg) es nd
   have sub : ∀ y ∈ fst' (expd tg e es), y ∈ S := fun y hy => by
    rcases h4 y hy with z | ⟨r, hr, z⟩
    ·exact h y z
    ·exact c e.1 (h _ (List.mem_map.mpr ⟨e, List.mem_of_getElem? he, rfl⟩)) y (List.mem_map.mpr ⟨r, hr, z.symm⟩)
   have := nd_le n2 sub
   rw [List.length_map] at this
   rw [if_neg (by unfold expd at *; omega)]
   exact run_tot c hS n (i + 1) _ n2 sub
theorem bf0 (tg : List Row) (st : List Int) : Bf tg st 0 [(st, [])] := ⟨by simp, by simp, fun y hy => by
 rw [show y = st by simpa using hy]
 exact .refl _, fun j e hj => by omega⟩
theorem run_all {tg : List Row} {mo : Nat} {st : List Int} {es : Es} (h1 : 1 ≤ mo) (h : run tg mo mo 0 [(st, [])] = some es) : (fst' es).Nodup ∧ Cls tg (fst' es) ∧ st ∈ fst' es ∧ ∀ y, y ∈ fst' es ↔ Rch tg st y := by
 have b := run_spec mo 0 _ es (bf0 tg st) (by simpa using h1) (by omega) h
 have c : Cls tg (fst' es) := fun x hx y hy => by
  obtain ⟨e, he, rfl⟩ := List.mem_map.mp hx
  obtain ⟨j, hj, ej⟩ := List.getElem_of_mem he
  exact b.cl j e hj (by rw [List.getElem?_eq_getElem hj, ej]) y hy
 exact ⟨b.nd, c, b.hd, fun y => ⟨b.rc y, fun h => h.mem c b.hd⟩⟩
theorem run_some {tg : List Row} {mo : Nat} {S : List (List Int)} {st : List Int} (c : Cls tg S) (hS : S.length ≤ mo) (hs : st ∈ S) : ∃ es, run tg mo mo 0 [(st, [])] = some es := by
 cases h : run tg mo mo 0 [(st, [])] with
 | some es => exact ⟨es, rfl⟩
 | none => exact absurd h (run_tot c hS mo 0 _ (by simp) fun y hy => by rw [show y = st by simpa using hy]; exact hs)
abbrev lx (a b : List Int) : Prop := PySem.W.lexI false a b = true
theorem lx_irr (a : List Int) : ¬ lx a a := by rw [lx, PySem.W.lexI_irr]; decide
theorem sorted_uniq : ∀ {a b : List (List Int)}, a.Pairwise lx → b.Pairwise lx → (∀ x, x ∈ a ↔ x ∈ b) → a = b
 | [], [], _, _, _ => rfl
 | [], y :: b, _, _, h => absurd ((h y).mpr List.mem_cons_self) (by simp)
 | x :: a, [], _, _, h => absurd ((h x).mp List.mem_cons_self) (by simp)
 | x :: a, y :: b, ha, hb, h => by
  rw [List.pairwise_cons] at ha hb
  have exy : x = y := by
   rcases List.mem_cons.mp ((h x).mp List.mem_cons_self) with e | e
   ·exact e
   ·rcases List.mem_cons.mp ((h y).mpr List.mem_cons_self) with e' | e'
    ·exact e'.symm
    ·exact absurd (PySem.W.lexI_tr (hb.1 x e) (ha.1 y e')) (lx_irr y)
  subst exy
  congr 1
  refine sorted_uniq ha.2 hb.2 fun z => ⟨fun hz => ?_, fun hz => ?_⟩
  ·rcases List.mem_cons.mp ((h z).mp (List.mem_cons_of_mem _ hz)) with e | e
   ·subst e; exact absurd (ha.1 z hz) (lx_irr z)
   ·exact e
  ·rcases List.mem_cons.mp ((h z).mpr (List.mem_cons_of_mem _ hz)) with e | e
   ·subst e; exact absurd (hb.1 z hz) (lx_irr z)
   ·exact e
end K41
namespace PySem.SeqAt
open PySem.MeetsSeq PySem PySem.Spec
section
variable {A : Around} {s : Shared}
end
end PySem.SeqAt
namespace HT
open PySem PySem.Spec PyProof.Rows
section
variable {prog : Program} {w : World} {A : Around} {E : Value → Shared → Prop} {s : Shared}
end
end HT
namespace L2
open PySem PySem.Spec PyProof.Rows
inductive Th where
 | non
 | bl (b : Bool)
 | int (i : Int)
 | str (s : Str)
 | tup (ts : List Th)
 | lst
 | dct
mutual
inductive ThAt (H : Hp) : V → Th → Prop
 | non : ThAt H .non .non
 | bl (b : Bool) : ThAt H (.bl b) (.bl b)
 | int (i : Int) : ThAt H (.int i) (.int i)
 | str (s : Str) : ThAt H (.str s) (.str s)
 | tup {p : Addr} {vs : List V} {ts : List Th} : H p = some (.tup vs) → ThsAt H vs ts → ThAt H (.ref p) (.tup ts)
 | lst {p : Addr} {vs : List V} : H p = some (.lst vs) → ThAt H (.ref p) .lst
 | dct {p : Addr} {kvs : List (Key × V)} : H p = some (.dK kvs) → ThAt H (.ref p) .dct
inductive ThsAt (H : Hp) : List V → List Th → Prop
 | nil : ThsAt H [] []
 | cons {v : V} {t : Th} {vs : List V} {ts : List Th} : ThAt H v t → ThsAt H vs ts → ThsAt H (v :: vs) (t :: ts)
end
structure KS (H H' : Hp) : Prop where
 t : ∀ q xs, H q = some (.tup xs) → H' q = some (.tup xs)
 l : ∀ q xs, H q = some (.lst xs) → ∃ ys, H' q = some (.lst ys)
 d : ∀ q xs, H q = some (.dK xs) → ∃ ys, H' q = some (.dK ys)
section
variable {H H' H'' : Hp} {a : Addr}
mutual
theorem ThAt.ks (k : KS H H') {v : V} {t : Th} : ThAt H v t → ThAt H' v t
 | .non => .non
 | .bl b => .bl b
 | .int i => .int i
 | .str s => .str s
 | .tup h hs => .tup (k.t _ _ h) (ThsAt.ks k hs)
 | .lst h => let ⟨_, h'⟩ := k.l _ _ h; .lst h'
 | .dct h => let ⟨_, h'⟩ := k.d _ _ h; .dct h'
theorem ThsAt.ks (k : KS H H') {vs : List V} {ts : List Th} : ThsAt H vs ts → ThsAt H' vs ts
 | .nil => .nil
 | .cons h hs => .cons (ThAt.ks k h) (ThsAt.ks k hs)
end
end
def Th.tn : Th → String
 | .non => "NoneType"
 | .bl _ => "bool"
 | .int _ => "int"
 | .str _ => "str"
 | .tup _ => "tuple"
 | .lst => "list"
 | .dct => "dict"
def Th.isI : Th → Bool
 | .bl _ => true
 | .int _ => true
 | _ => false
def Th.isT : Th → Bool
 | .tup _ => true
 | _ => false
section
variable {X : Cx} {k : Nat}
end
end L2
namespace L2
open PySem PySem.Spec PyProof.Rows Builtin Builtin.Str
section
variable {X : Cx}
end
end L2
namespace L2
open PySem
end L2
namespace L2
open PySem PyProof.Rows
def sg (x : Str) : List Str := x.cps.toList.map fun c => ⟨#[c]⟩
section
variable {P : Program} {w : World} {K : PySem.W.Frag} {tg : Expr}
end
section
variable {X : Cx} {tg : Expr}
end
end L2
namespace L2
open PySem PySem.Spec PyProof.Rows
section
variable {X : Cx}
end
structure Fly (lo : Nat) (h : Heap) (H : Hp) (a : Addr) (T : Option Addr) (C : Value) (d : Option Addr) (fl : Value) : Prop where
 at_ : ∃ (vs : Array Value) (sl : Array (Option Value)), h.get? a = some ⟨C, d, .fields vs, sl⟩ ∧
  (match T with
   | none => vs[1]? = some .none
   | some t => vs[1]? = some (.ref t) ∧ t ≠ a ∧ ∃ oT ts, h.get? t = some oT ∧ oT.data = .fields ts ∧ ts[3]? = some fl)
 lo : ∀ b ∈ a :: T.toList, lo ≤ b ∧ H b = none
section
variable {M : Model} {A : Around} {E : Value → Shared → Prop} {s : Shared} {base : Heap} {env : Env} {outer : List Env} {L a : Addr} {T : Option Addr} {C : Value} {d : Option Addr} {H : Hp} {lo : Nat} {fl : Value} {Q : Unit → Shared → Prop}
end
section
variable {X : Cx} {EX : St → XK} {k j : Nat} {f : Addr} {fd : FuncData} {ps : List Str} {sp : Sp} {x : Str} {p pos : Pos} {e : Expr} {es : List Expr} {t : TA}
end
open Builtin Builtin.ObjectAttr
abbrev bmV : List Value := [.type "ValueError", .type "Exception", .type "BaseException", .type "object"]
inductive OverV : List Value → Prop
 | base : OverV bmV
 | own (a : Addr) {l : List Value} : OverV l → OverV (.ref a :: l)
structure XC (K : PySem.W.Frag) (C : Addr) (bm : List Value) : Prop where
 at_ : ∃ (nm q : Str) (N : Addr) (bs : List Value) (sn : List Str) (sub : List Value) (ab : Bool) (col : Option Bool) (dd : Option Addr) (k0 k1 k2 k3 k5 : Option Value),
  K.lookup C = some (excClassObj nm q C N bs bm true sn sub ab col dd k0 k1 k2 k3 k5 "ValueError.__new__")
 ov : OverV bm
structure XA (K : PySem.W.Frag) (C : Addr) : Prop where
 bm : ∃ bm, XC K C bm
 ga : PySem.W.findIn K (.ref C) "__getattribute__" = some (some (.builtin "BaseException.__getattribute__"))
 gt : PySem.W.findIn K (.ref C) "__getattr__" = some none
 sa : PySem.W.findIn K (.ref C) "__setattr__" = some (some (.builtin "object.__setattr__"))
 cl : PySem.W.findIn K (.ref C) "__class__" = some (some (.builtin "object.__class__"))
 sg : PySem.W.specialIn K (.builtin "object.__class__") "__get__" = some (some (.builtin "getset_descriptor.__get__"))
 tk : PySem.W.takesIn K (.builtin "object.__class__") = some true
end L2
namespace PySem
open Sem (wp)
open Builtin Builtin.ObjectAttr
open L2 (OverV)
section
variable {prog : Program} {w : World} {A : Around} {E : Value → Shared → Prop} {h : Heap} {g : Array GenState} {d : Drawn} {t : Nat} {os : OsState}
variable {nm q : Str} {C N : Addr} {bs bm : List Value} {sn : List Str} {sub : List Value} {ab : Bool} {col : Option Bool} {dd : Option Addr} {k0 k1 k2 k3 k5 : Option Value}
end
end PySem
namespace PySem
open Sem (wp)
open Builtin Builtin.ObjectAttr
open L2 (OverV XC XA bmV)
section
variable {prog : Program} {w : World} {A : Around} {E : Value → Shared → Prop} {h : Heap} {g : Array GenState} {d : Drawn} {t : Nat} {os : OsState}
variable {nm q : Str} {C N x : Addr} {bs bm : List Value} {sn : List Str} {sub : List Value} {ab : Bool} {col : Option Bool} {dd : Option Addr} {k0 k1 k2 k3 k5 : Option Value}
 {mA : Str → Option Value} {name : Str} {v : Value}
end
section
variable {prog : Program} {w : World} {A : Around} {E : Value → Shared → Prop} {h : Heap} {g : Array GenState} {d : Drawn} {t : Nat} {os : OsState} {K : PySem.W.Frag}
variable {nm q : Str} {C N x : Addr} {bs bm : List Value} {sn : List Str} {sub : List Value} {ab : Bool} {col : Option Bool} {dd : Option Addr} {k0 k1 k2 k3 k5 : Option Value}
 {name : Str} {v : Value} {ox : Obj} {od : Option Obj}
end
end PySem
namespace L2
open PySem PySem.Spec PyProof.Rows
section
variable {P : Program} {w : World} {H : Hp} {h : Heap} {a C dx : Addr} {d : Option Addr} {vs : Array Value} {fs : List (Str × V)}
end
section
variable {X : Cx} {pins : List (Addr × Obj)} {σ : St} {H : Hp} {s : Shared} {h' : Heap}
end
section
variable {X : Cx} {e o value : Expr} {ta tv : TE} {f : Str} {pos pos' : Pos}
end
end L2
namespace PySem
open Sem (wp)
open L2 (OverV)
section
variable {M : Model} {A : Around} {E : Value → Shared → Prop} {env : Env}
variable {nm q : Str} {C N : Addr} {bs bm : List Value} {sn : List Str} {sub : List Value} {ab : Bool} {col : Option Bool} {dd : Option Addr} {k0 k1 k2 k3 k5 : Option Value}
end
end PySem
namespace L2
open PySem PySem.Spec PyProof.Rows
structure XMk (K : PySem.W.Frag) (C f : Addr) : Prop where
 init : PySem.W.findIn K (.ref C) "__init__" = some (some (.ref f))
 fn : PySem.W.isFn K (.ref f) = true
 kp : PySem.W.keepIn K (.ref C) = true
 xa : XA K C
section
variable {X : Cx} {pins : List (Addr × Obj)} {σ : St} {H : Hp} {s : Shared}
end
end L2
namespace PySem
open Sem (wp)
open L2 (OverV)
end PySem
namespace L2
open PySem PySem.Spec PyProof.Rows
abbrev Cx.tr (X : Cx) (pn : List (Addr × Obj)) (xe : Value → Shared → Prop) : Cx := { X with pn := pn, xe := xe }
abbrev Cx.hdl (X : Cx) (a : Addr) : Cx := { X with A := X.A.mark (some (.ref a)), calm := false, xe := fun _ _ => False }
section
variable {X : Cx} {pins q : List (Addr × Obj)} {σ : St} {H : Hp} {s : Shared} {xe : Value → Shared → Prop}
end
end L2
namespace PySem
open Sem (wp)
open Builtin Builtin.ObjectAttr
open L2 (OverV XC XA bmV)
section
variable {prog : Program} {w : World} {A : Around} {E : Value → Shared → Prop} {h : Heap} {g : Array GenState} {d : Drawn} {t : Nat} {os : OsState} {K : PySem.W.Frag}
variable {nm q : Str} {C N x : Addr} {bs bm : List Value} {sn : List Str} {sub : List Value} {ab : Bool} {col : Option Bool} {dd : Option Addr} {k0 k1 k2 k3 k5 : Option Value}
 {ox : Obj} {od : Option Obj}
end
end PySem
namespace L2
open PySem PySem.Spec PyProof.Rows
section
variable {X : Cx} {pins : List (Addr × Obj)} {σ : St} {H : Hp} {s : Shared}
end
def methOf (s : Stmt) (i : Nat) : Stmt := match s with
 | .ClassDef _ _ _ body _ _ _ _ _ _ _ => body.getD i (.Pass ⟨0, 0, 0, 0⟩)
 | _ => .Pass ⟨0, 0, 0, 0⟩
structure XUni (K : PySem.W.Frag) (mg : Str → Option Value) (D : Addr) (cs : List (Str × Addr)) : Prop where
 base : XC K D bmV
 mD : mg "DropError" = some (.ref D)
 cls : ∀ c ∈ cs, mg c.1 = some (.ref c.2) ∧ XC K c.2 (.ref D :: bmV) ∧ XA K c.2
 nd : (D :: cs.map (·.2)).Nodup
end L2
namespace PySem
open Sem (wp)
open L2 (OverV bmV)
section
variable {prog : Program} {w : World} {A : Around} {E : Value → Shared → Prop} {h : Heap} {g : Array GenState} {d : Drawn} {t : Nat} {os : OsState}
variable {nm q : Str} {C N : Addr} {bs : List Value} {sn : List Str} {sub : List Value} {ab : Bool} {col : Option Bool} {dd : Option Addr} {k0 k1 k2 k3 k5 : Option Value}
end
end PySem
namespace L2
open PySem PySem.Spec PyProof.Rows
structure FnOkH (P : Program) (w : World) (K : PySem.W.Frag) (mg : Str → Option Value) (base : Heap) (k : Nat) (f : Addr) (fd : FuncData) (ps : List Str) (sp : Sp) : Prop where
 len : ∀ vs H Q E, sp vs H Q E → vs.length = ps.length
 run : ∀ (A : Around) (a : Addr) (outer : List Env) (s : Shared) (H : Hp) (args : Args) (us : List Value) (vs : List V) (Q : VK), Room k A → Env0 P w K mg base A outer s H → BindsTo s fd args (ps.zip us) → Vals vs us → sp vs H Q E0 →
  codeAny (model P w) (A.mark (some (.ref a))) (.call (.ref f) args) (CR CX0 outer P w H s Q E0) s
section
variable {X : Cx} {k j : Nat} {f a : Addr} {fd : FuncData} {ps : List Str} {sp : Sp} {x : Str} {p pos : Pos} {e : Expr} {es : List Expr} {t : TA}
end
structure XBase (K : PySem.W.Frag) (C : Addr) : Prop where
 at_ : ∃ (nm q : Str) (N : Addr) (bs : List Value) (sn : List Str) (sub : List Value) (ab : Bool) (col : Option Bool) (dd : Option Addr) (k0 k1 k2 k3 k5 : Option Value),
  K.lookup C = some (excClassObj nm q C N bs bmV true sn sub ab col dd k0 k1 k2 k3 k5 "ValueError.__new__")
 fi : PySem.W.findIn K (.ref C) "__init__" = some (some (.builtin "ValueError.__init__"))
 kp : PySem.W.keepIn K (.ref C) = true
section
variable {X : Cx} {k : Nat}
end
section
variable {pr : Program} {wo : World} {Ar : Around} {R : Result → Shared → Prop} {I : Addr} {fp wr : List Addr} {G : Array GenState → Array GenState → Prop} {n : Nat} {P : Nat → Value → Prop} {St : Nat → Shared → Prop}
end
section
variable {pr : Program} {wo : World} {Ar : Around} {E : Value → Shared → Prop} {s : Shared}
end
end L2
namespace L2
open PySem
structure Bl (mg : Str → Option Value) : Prop where
 len : mg "len" = none
 range : mg "range" = none
 tuple : mg "tuple" = none
 int : mg "int" = none
 bool : mg "bool" = none
 list : mg "list" = none
 str : mg "str" = none
 all : mg "all" = none
 any : mg "any" = none
 isi : mg "isinstance" = none
 repr : mg "repr" = none
 zip : mg "zip" = none
 min : mg "min" = none
 max : mg "max" = none
 sum : mg "sum" = none
 enu : mg "enumerate" = none
 sorted : mg "sorted" = none
 set : mg "set" = none
 dict : mg "dict" = none
 abs : mg "abs" = none
def Kn (mg : Str → Option Value) (x : Str) (i : Int) : Prop := ∃ t, mg x = some (Value.int i t)
theorem pe_k {X : Cx} {x : Str} {i : Int} {pos : Pos} (h : Kn X.mg x i) (hg : Gl X x := by rfl) (hd : (x == ("__debug__" : Str)) = false := by decide) : PE X (.Name x pos) (tC (.int i)) := by
 obtain ⟨t, e⟩ := h
 exact pe_glob hg e ⟨t, rfl⟩ hd
end L2
namespace K41
open PySem L2 G2
local macro_rules | `(tactic| walk_at "v") => `(tactic| repeat (with_reducible first
  | refine w_seq ?_ | refine w_asg ?_ | refine w_gname ?_ | refine w_op ?_ | refine w_var rfl ?_ | refine w_c ?_ | refine w_rI0 ?_ | refine w_ifs ?_ | refine w_ife ?_ | refine w_test ?_ | refine w_tb ?_ | refine w_bl ?_ | refine w_not ?_ | refine w_ret ?_ | refine w_retN ?_
  | refine w_nil ?_ | refine w_cons ?_ | refine w_lst ?_ | refine w_tup ?_ | refine w_cb ?_ | refine w_call ?_ | refine w_gsub ?_ | refine w_and ?_ | refine w_or ?_ | refine w_next ?_ | refine w_all ?_ | refine w_vals ?_ | refine w_compR ?_ | refine w_compT ?_ | refine w_forR ?_ | refine w_forT ?_ | refine w_forL ?_ | refine w_drop ?_ | refine w_bm ?_ | refine w_compZ ?_ | refine w_compL ?_ | refine w_chain ?_ | refine w_sl ?_ | refine w_nopart ?_ | refine w_part ?_ | refine w_unI ?_ | refine iteT ?_ | refine iteF ?_))
theorem itR' {as : List Addr} {i : Nat} {v : V} (h : (as.map V.ref)[i]? = some v) : ∃ a, as[i]? = some a ∧ v = .ref a := by
 rw [List.getElem?_map] at h
 cases e : as[i]? with
 | none => rw [e] at h; cases h
 | some a => rw [e] at h; cases h; exact ⟨a, rfl, rfl⟩
theorem zip_at {as : List Addr} {rows : List (List Int)} {i : Nat} {a : Addr} (ha : as[i]? = some a) (hl : as.length = rows.length) : ∃ r, rows[i]? = some r ∧ (as.zip rows)[i]? = some (a, r) := by
 have hi : i < rows.length := by rw [← hl]; exact (List.getElem?_eq_some_iff.mp ha).1
 exact ⟨rows[i], by simp [hi], List.getElem?_zip_eq_some.mpr ⟨ha, by simp [hi]⟩⟩
def endsZ (tg : List Row) (zs : List (Addr × List Int)) : List (Addr × List Int) := zs.filter fun x => (thR x.2 tg).isEmpty
abbrev sHe : Stmt := top 10
abbrev nHe : List Str := ["pot", "stand"]
theorem nmHe : Nm nHe (defScope sHe) := ⟨by decide +kernel, by decide +kernel⟩
theorem scHe : FnScope nHe ["pot", "stand"] (defScope sHe) := ⟨rfl, rfl, rfl, by decide +kernel, rfl, by decide +kernel, by decide +kernel⟩
abbrev sEo : Stmt := top 12
abbrev nEo : List Str := ["pot", "stands"]
theorem nmEo : Nm nEo (defScope sEo) := ⟨by decide +kernel, by decide +kernel⟩
theorem scEo : FnScope nEo ["pot", "stands"] (defScope sEo) := ⟨rfl, rfl, rfl, by decide +kernel, rfl, by decide +kernel, by decide +kernel⟩
def qEoa (s : Stmt) : Scope := match s with
 | .Return (some (.ListComp _ _ sc _)) _ => sc
 | _ => { kind := .function, names := [], isGenerator := false, isCoroutine := false }
abbrev cEoa : Scope := qEoa ((defBody sEo).getD 0 (.Pass ⟨0, 0, 0, 0⟩))
theorem bsEoa : BScope (defScope sEo) cEoa ["stand"] ["pot"] ["has_ended"] := { okind := by decide +kernel, kind := by decide +kernel, nocell := by decide +kernel, names := by decide +kernel, fr := by decide +kernel, ff := by decide +kernel, nd := by decide +kernel, vis := by decide +kernel, loc := by decide +kernel, gl := by decide +kernel }
def spHe : Sp := fun vs H Q _ => ∃ (p s : Addr) (tg : List Row) (m : Nat) (st : List Int), vs = [.ref p, .ref s] ∧ PotE H p tg m ∧ H s = some (.tup (st.map V.int)) ∧ st.length = m ∧ m ≤ 8 ∧ tg.length ≤ 8 ∧ ∀ H', Same H H' → Q (.bl (thR st tg).isEmpty) H'
def spEo : Sp := fun vs H Q _ => ∃ (p l : Addr) (tg : List Row) (m : Nat) (as : List Addr) (rows : List (List Int)), vs = [.ref p, .ref l] ∧ PotE H p tg m ∧ H l = some (.lst (as.map V.ref)) ∧ RowsAt H as rows ∧ (∀ r ∈ rows, r.length = m) ∧ m ≤ 8 ∧ tg.length ≤ 8 ∧ rows.length ≤ 100 ∧ ∀ D H', Same H H' → H D = none → H' D = some (.lst ((endsZ tg (as.zip rows)).map fun x => V.ref x.1)) → Q (.ref D) H'
theorem emp_len {xs : List Nat} : decide (V.int (((xs.map fun (i : Nat) => V.int (i : Int)).length : Nat) : Int) = V.int 0) = xs.isEmpty := by
 cases xs with
 | nil => rfl
 | cons x xs =>
  rw [decide_eq_false]
  ·rfl
  ·intro h
   injection h with h
   simp at h
   omega
section
variable {P : Program} {w : World} {K : PySem.W.Frag} {mg : Str → Option Value} {base : Heap}
set_option maxHeartbeats 4000000 in
theorem ok_He {f : Addr} {fd : FuncData} (B : Bl mg) (fT : Has P w K mg base 2 "rules_there" ["pot", "stand"] spTh) (F : Fun K "has_ended" "has_ended" sHe f fd) : FnOk P w K mg base CX0 3 f fd ["pot", "stand"] spHe := by
 refine F.ok scHe (fun vs H Q E h => ?_) (fun cdv A outer s H vs Q E hr h => ?_)
 ·obtain ⟨p, s', tg, m, st, rfl, _⟩ := h
  rfl
 ·obtain ⟨p, s', tg, m, st, rfl, hP, hs, hm, m8, t8, k⟩ := h
  refine' ⟨_, ?hb, ?rd⟩
  case' hb => skip
  case' hb => refine' pss_one ?g1
  case g1 => exact ps_ret (pe_cmpR op_eq (pe_cB call_len_seq B.len PySem.boot_len (pa_1 (pe_f fT hr (by decide) (pa_2 (pvd nmHe 0) (pvd nmHe 1))))) pe_int (nomark _))
  case rd =>
   walk_at "v"
   refine ⟨p, s', tg, m, st, rfl, hP, hs, hm, m8, t8, fun l H1 K1 hl e1 => ?_⟩
   refine ⟨l, _, rfl, .inl (SqL.of e1), ?_⟩
   walk_at "v"
   refine ⟨rfl, ?_⟩
   rw [emp_len]
   exact k H1 K1
end
section
variable {P : Program} {w : World} {K : PySem.W.Frag} {mg : Str → Option Value} {base : Heap}
set_option maxHeartbeats 4000000 in
theorem ok_Eo {f : Addr} {fd : FuncData} (B : Bl mg) (fH : Has P w K mg base 3 "has_ended" ["pot", "stand"] spHe) (F : Fun K "ended_of" "ended_of" sEo f fd) : FnOk P w K mg base CX0 4 f fd ["pot", "stands"] spEo := by
 refine F.ok scEo (fun vs H Q E h => ?_) (fun cdv A outer s H vs Q E hr h => ?_)
 ·obtain ⟨p, l, tg, m, as, rows, rfl, _⟩ := h
  rfl
 ·obtain ⟨p, l, tg, m, as, rows, rfl, hP, hl, hr', hm, m8, t8, h100, k⟩ := h
  refine' ⟨_, ?hb, ?rd⟩
  case' hb => skip
  case' hb => refine' pss_one ?g1
  case' g1 => refine' ps_ret ?g2
  case' g2 => refine' pe_comp (ix := [0]) bsEoa.toCScope rfl rfl ?g3 ?g4 ?g5 ?g6
  case g3 => exact pi_list (pvd nmEo 1)
  case g4 => exact fun _ _ _ _ _ _ => pgb bsEoa 0
  case g5 => exact fun _ _ _ _ _ _ => pts_one (pt_val (pe_f fH hr (by decide) (pa_2 (pvb bsEoa 1) (pvb bsEoa 0)) (bsEoa.g 0)))
  case g6 => exact fun _ _ _ _ _ _ => pvb bsEoa 0
  case rd =>
   have hal := hr'.len
   walk_at "v"
   refine ⟨l, rfl, ⟨_, SqL.of hl⟩, fun D hD => ?_⟩
   refine cgo_list (xs := as.map V.ref) (fun i ys H' => ys = (endsZ tg ((as.zip rows).take i)).map (fun x => V.ref x.1) ∧ Same H H') ⟨rfl, Same.new (Same.refl H) hD⟩ (fun i ys H' _ ⟨_, k'⟩ => SqL.of (k' _ _ hl)) ?_ ?_
   ·rintro i v ys H1 hv ⟨rfl, K1⟩ hDy R SK kR kS
    obtain ⟨a, ha, rfl⟩ := itR' hv
    obtain ⟨r, hri, hz⟩ := zip_at ha hal
    obtain ⟨r', e1, e2⟩ := hr'.at ha
    rw [hri] at e1
    cases e1
    have hi : i < as.length := (List.getElem?_eq_some_iff.mp ha).1
    have hlen : (endsZ tg ((as.zip rows).take i)).length ≤ i := Nat.le_trans (List.length_filter_le _ _) (by rw [List.length_take]; omega)
    have tk : endsZ tg ((as.zip rows).take (i + 1)) = endsZ tg ((as.zip rows).take i) ++ (if (thR r tg).isEmpty = true then [(a, r)] else []) := by
     unfold endsZ
     rw [List.take_add_one, hz, List.filter_append]
     congr 1
     by_cases h : (thR r tg).isEmpty = true
     ·rw [if_pos h]; simp [h]
     ·rw [if_neg h]; simp [h]
    walk_at "v"
    refine ⟨p, a, tg, m, r, rfl, hP.tk (TK.same K1), K1 _ _ e2, hm r (List.mem_of_getElem? hri), m8, t8, fun H2 K2 => ?_⟩
    walk_at "v"
    cases hb : (thR r tg).isEmpty with
    | true =>
     rw [hb, if_pos rfl] at tk
     refine iteT ?_
     walk_at "v"
     exact kR _ _ (K2 _ _ hDy) (by rw [List.length_map]; exact small1000 (by omega)) ⟨by rw [tk, List.map_append]; rfl, (K1.trans K2).put hD⟩
    | false =>
     rw [hb, if_neg (by decide), List.append_nil] at tk
     refine iteF ?_
     exact kS _ (K2 _ _ hDy) ⟨by rw [tk], K1.trans K2⟩
   rintro ys H1 ⟨rfl, K1⟩ e1
   rw [List.length_map, List.take_of_length_le (by rw [List.length_zip]; omega)] at e1
   exact k D H1 K1 hD e1
end
theorem w_dnewT {σ : St} {H : Hp} {Q : VK} (h : ∀ p, H p = none → Q (.ref p) (upd H p (.dT []))) : tDNewT σ H Q := h
theorem w_din {ty td : TE} {σ : St} {H : Hp} {Q : VK} (h : ty σ H fun y H1 => td σ H1 fun x H2 => ∃ a o, x = .ref a ∧ DGet H2 a y o ∧ Q (.bl o.isSome) H2) : tDIn ty td σ H Q := h
def entS (S : List (List Int)) (las : List Addr) : List (List Key × V) := (S.zip las).map fun x => (keyOf x.1, V.ref x.2)
theorem ent_none : ∀ {S : List (List Int)} {las : List Addr} {y : List Int}, y ∉ S → valV (entS S las) (keyOf y) = none
 | [], _, _, _ => rfl
 | _ :: _, [], _, _ => rfl
 | s :: S, a :: las, y, h => by
  show valV ((keyOf s, V.ref a) :: entS S las) (keyOf y) = none
  rw [valV_neg (fun e => h (by rw [show y = s from (keyOf_inj e).symm]; exact List.mem_cons_self))]
  exact ent_none fun z => h (List.mem_cons_of_mem _ z)
theorem ent_some : ∀ {S : List (List Int)} {las : List Addr} {y : List Int} {j : Nat} {la : Addr}, S.Nodup → S[j]? = some y → las[j]? = some la → valV (entS S las) (keyOf y) = some (V.ref la)
 | [], _, _, _, _, _, h, _ => by simp at h
 | _ :: _, [], _, _, _, _, _, h => by simp at h
 | s :: S, a :: las, y, 0, la, nd, h1, h2 => by
  simp at h1 h2
  subst h1 h2
  show valV ((keyOf s, V.ref a) :: entS S las) (keyOf s) = _
  exact valV_pos rfl
 | s :: S, a :: las, y, j + 1, la, nd, h1, h2 => by
  rw [List.nodup_cons] at nd
  have h1' : S[j]? = some y := by simpa using h1
  show valV ((keyOf s, V.ref a) :: entS S las) (keyOf y) = _
  rw [valV_neg (fun e => nd.1 (by rw [show s = y from keyOf_inj e]; exact List.mem_of_getElem? h1'))]
  exact ent_some nd.2 h1' (by simpa using h2)
theorem ent_keys {S : List (List Int)} {las : List Addr} (h : las.length = S.length) : (entS S las).map (·.1) = S.map keyI := by
 unfold entS
 rw [List.map_map]
 show (S.zip las).map (fun x => keyI x.1) = _
 rw [show (fun x : List Int × Addr => keyI x.1) = keyI ∘ Prod.fst from rfl, ← List.map_map, List.map_fst_zip (by omega)]
structure Src (H : Hp) (sd : Addr) (S : List (List Int)) (las : List Addr) (f : Nat → List (List Int)) : Prop where
 d : H sd = some (.dT (entS S las))
 ll : las.length = S.length
 nd : las.Nodup
 at' : ∀ i la, las[i]? = some la → ∃ as, H la = some (.lst (as.map V.ref)) ∧ RowsAt H as (f i)
theorem Src.keep {H H' : Hp} {sd : Addr} {S : List (List Int)} {las : List Addr} {f : Nat → List (List Int)} (h : Src H sd S las f) (k1 : H' sd = some (.dT (entS S las))) (k2 : ∀ la ∈ las, ∀ o, H la = some o → H' la = some o) (k3 : TK H H') : Src H' sd S las f :=
 ⟨k1, h.ll, h.nd, fun i la e => let ⟨as, e1, e2⟩ := h.at' i la e; ⟨as, k2 la (List.mem_of_getElem? e) _ e1, e2.tk fun q xs e => k3.t _ _ e⟩⟩
theorem Src.same {H H' : Hp} {sd : Addr} {S : List (List Int)} {las : List Addr} {f : Nat → List (List Int)} (h : Src H sd S las f) (k : Same H H') : Src H' sd S las f := h.keep (k _ _ h.d) (fun la _ o e => k _ _ e) (TK.same k)
def spSb : Sp := fun vs H Q _ => ∃ (p l : Addr) (tg : List Row) (m : Nat) (as : List Addr) (S : List (List Int)), vs = [.ref p, .ref l] ∧ PotE H p tg m ∧ H l = some (.lst (as.map V.ref)) ∧ RowsAt H as S ∧ (∀ r ∈ S, r.length = m) ∧ S.Nodup ∧ m ≤ 8 ∧ tg.length ≤ 8 ∧ S.length ≤ 60 ∧
 ∀ (sd : Addr) (las : List Addr) (f : Nat → List (List Int)) (H' : Hp), Same H H' → H sd = none → (∀ la ∈ las, H la = none) → Src H' sd S las f → (∀ j y, S[j]? = some y → ∀ x, x ∈ f j ↔ x ∈ S ∧ y ∈ nx tg x) → (∀ j, (f j).length ≤ 480) → Q (.ref sd) H'
abbrev sSb : Stmt := top 14
abbrev nSb : List Str := ["pot", "stands", "sources", "stand", "rule", "led"]
theorem nmSb : Nm nSb (defScope sSb) := ⟨by decide +kernel, by decide +kernel⟩
theorem scSb : FnScope nSb ["pot", "stands"] (defScope sSb) := ⟨rfl, rfl, rfl, by decide +kernel, rfl, by decide +kernel, by decide +kernel⟩
section
variable {P : Program} {w : World} {K : PySem.W.Frag} {mg : Str → Option Value} {base : Heap}
set_option maxHeartbeats 4000000 in
theorem ok_Sb {f : Addr} {fd : FuncData} (B : Bl mg) (fT : Has P w K mg base 2 "rules_there" ["pot", "stand"] spTh) (fG : Has P w K mg base 2 "gone" ["pot", "stand", "rule"] spGoP) (F : Fun K "sources_by_stand" "sources_by_stand" sSb f fd) : FnOk P w K mg base CX0 4 f fd ["pot", "stands"] spSb := by
 refine F.ok scSb (fun vs H Q E h => ?_) (fun cdv A outer s H vs Q E hr h => ?_)
 ·obtain ⟨p, l, tg, m, as, S, rfl, _⟩ := h
  rfl
 ·obtain ⟨p, l, tg, m, as, S, rfl, hP, hl, hR, hm, nd, m8, t8, s60, k⟩ := h
  refine' ⟨_, ?hb, ?rd⟩
  case' hb => have hu := hu_of hr
  case' hb => refine' pss_cons ?g1 ?g2
  case' g2 => refine' pss_cons ?g3 ?g4
  case' g4 => refine' pss_cons ?g5 ?g6
  case' g6 => refine' pss_one ?g7
  case g1 => exact ps_setD nmSb 2 pe_dnewT
  case' g3 => refine' ps_for PassesOwn.never rfl ?g8 (pgd nmSb 3) ?g9
  case g8 => exact pi_list (pvd nmSb 1)
  case' g9 => refine' pss_one ?g10
  case g10 => exact ps_dput hu (pvd nmSb 2) (pvd nmSb 3) (pe_lst pa_nil) rfl
  case' g5 => refine' ps_for PassesOwn.never rfl ?g11 (pgd nmSb 3) ?g12
  case g11 => exact pi_list (pe_cT (call_listD hr) B.list PyProof.Rows.boot_list (pa_1 (pvd nmSb 2)))
  case' g12 => refine' pss_one ?g13
  case' g13 => refine' ps_for PassesOwn.never rfl ?g14 (pgd nmSb 4) ?g15
  case g14 => exact pi_list (pe_f fT hr (by decide) (pa_2 (pvd nmSb 0) (pvd nmSb 3)))
  case' g15 => refine' pss_cons ?g16 ?g17
  case' g17 => refine' pss_one ?g18
  case g16 => exact ps_setD nmSb 5 (pe_f fG hr (by decide) (pa_c (pvd nmSb 0) (pa_2 (pvd nmSb 3) (pvd nmSb 4))))
  case' g18 => refine' ps_if ?g19 ?g20 pss_nil
  case g19 => exact pt_cmp (pc_din hu (pvd nmSb 5) (pvd nmSb 2))
  case' g20 => refine' pss_one ?g22
  case g22 => exact ps_expr (pe_bm PySem.F.plainAttrs_list PySem.F.slot_list_append PySem.F.type_list_append mt_append (pe_dget hu (pvd nmSb 2) (pvd nmSb 5) (fun _ _ => rfl)) (pa_1 (pvd nmSb 3)))
  case g7 => exact ps_ret (pvd nmSb 2)
  case rd =>
   have hal := hR.len
   walk_at "v"
   refine w_dnewT fun sd hsd => ?_
   have K1 : Same H (upd H sd (.dT [])) := Same.new (Same.refl _) hsd
   have e1 : upd H sd (.dT []) sd = some (.dT []) := upd_same
   have nsd : H sd = none := hsd
   generalize upd H sd (.dT []) = H1 at K1 e1 ⊢
   walk_at "v"
   refine ⟨l, rfl, ⟨_, SqL.of (K1 _ _ hl)⟩, ?_⟩
   refine for_list (xs := as.map V.ref) (fun i σ H' => ∃ (u3 : Option V) (las : List Addr), σ = [some (.ref p), some (.ref l), some (.ref sd), u3, none, none] ∧ Same H H' ∧ Src H' sd (S.take i) las (fun _ => []) ∧ (∀ la ∈ las, H la = none)) ⟨none, [], rfl, K1, ⟨by rw [e1]; rfl, rfl, List.nodup_nil, fun i la e => by simp at e⟩, fun la h => by cases h⟩ (fun i σ H' _ ⟨_, _, _, k', _⟩ => SqL.of (k' _ _ hl)) ?_ ?_
   ·rintro i v σ H2 hv ⟨u3, las, rfl, K2, F2, hla⟩
    obtain ⟨a, ha, rfl⟩ := itR' hv
    obtain ⟨y, hy, ey⟩ := hR.at ha
    have hi : i < S.length := (List.getElem?_eq_some_iff.mp hy).1
    have hyn : y ∉ S.take i := fun hm => by
     obtain ⟨j, hj, e⟩ := List.getElem_of_mem hm
     rw [List.length_take] at hj
     rw [List.getElem_take] at e
     have e' : S[j] = S[i] := by rw [e]; exact ((List.getElem?_eq_some_iff.mp hy).2).symm
     have := (List.getElem_inj nd).mp e'
     omega
    walk_at "v"
    refine w_dput ?_
    walk_at "v"
    refine ⟨Nat.zero_le _, fun z hz => ?_⟩
    have K3 : Same H2 (upd H2 z (.lst [])) := Same.new (Same.refl _) hz
    have e3 : upd H2 z (.lst []) z = some (.lst (([] : List Addr).map V.ref)) := upd_same
    have nz : H z = none := Same.free K2 hz
    have nzs : z ≠ sd := fun e => by rw [e, F2.d] at hz; cases hz
    have nzl : z ∉ las := fun hm => by
     obtain ⟨j, hj, e⟩ := List.getElem_of_mem hm
     obtain ⟨as', e', _⟩ := F2.at' j z (by rw [List.getElem?_eq_getElem hj, e])
     rw [e'] at hz
     cases hz
    generalize upd H2 z (.lst []) = H3 at K3 e3 ⊢
    have F3 := F2.same K3
    walk_at "v"
    refine ⟨sd, _, rfl, DPut.t (k := keyOf y) (v := .ref z) F3.d (by rw [keyOf_kV]; exact K3 _ _ (K2 _ _ ey)) (by unfold entS; rw [List.length_map, List.length_zip, F2.ll]; exact small1000 (by rw [List.length_take]; omega)), ?_⟩
    rw [putK_new _ (ent_none hyn)]
    have et : entS (S.take i) las ++ [(keyOf y, V.ref z)] = entS (S.take (i + 1)) (las ++ [z]) := by
     unfold entS
     rw [List.take_add_one, hy, show (some y).toList = [y] from rfl, List.zip_append (by rw [F2.ll]), List.map_append]
     rfl
    rw [et]
    have tk : TK H3 (upd H3 sd (.dT (entS (S.take (i + 1)) (las ++ [z])))) := ⟨fun q xs e => by rw [upd_ne (ne_of e F3.d (by intro z; cases z))]; exact e, fun q o u e => by rw [upd_ne (ne_of e F3.d (by intro z; cases z))]; exact e⟩
    refine ⟨_, las ++ [z], rfl, (K2.trans K3).put nsd, ⟨upd_same, by rw [List.length_append, F2.ll, List.length_take, List.length_take]; show _ + 1 = _; omega, List.nodup_append.mpr ⟨F2.nd, List.nodup_cons.mpr ⟨by simp, List.nodup_nil⟩, fun x hx y' hy' => by rw [List.mem_singleton.mp hy']; exact fun e => nzl (e ▸ hx)⟩, fun j la e => ?_⟩, fun la hm => ?_⟩
    ·by_cases hj : j < las.length
     ·rw [List.getElem?_append_left hj] at e
      obtain ⟨as', g1, g2⟩ := F3.at' j la e
      exact ⟨as', by rw [upd_ne (ne_of g1 F3.d (by intro z; cases z))]; exact g1, g2.tk fun q xs e => tk.t _ _ e⟩
     ·have hj' : j = las.length := by
       have := (List.getElem?_eq_some_iff.mp e).1
       rw [List.length_append] at this
       have : j < las.length + 1 := this
       omega
      rw [hj', List.getElem?_append_right (Nat.le_refl _), Nat.sub_self] at e
      cases e
      exact ⟨[], by rw [upd_ne nzs]; exact e3, trivial⟩
    ·rcases List.mem_append.mp hm with x | x
     ·exact hla la x
     ·rw [List.mem_singleton.mp x]; exact nz
   rintro σ H2 ⟨u3, las, rfl, K2, F2, hla⟩
   rw [List.length_map, hal, List.take_length] at F2
   walk_at "v"
   refine ⟨sd, _, rfl, F2.d, fun kl bs hkat hkl => ?_⟩
   have hB := rows_of hkat (ent_keys F2.ll)
   have hbl := hB.len
   have K3 : Same H2 (upd H2 kl (.lst (bs.map V.ref))) := Same.new (Same.refl _) hkl
   have e3 : upd H2 kl (.lst (bs.map V.ref)) kl = some (.lst (bs.map V.ref)) := upd_same
   have nkl : H kl = none := Same.free K2 hkl
   have nks : kl ≠ sd := fun e => by rw [e, F2.d] at hkl; cases hkl
   have nkla : kl ∉ las := fun hm => by
    obtain ⟨j, hj, e⟩ := List.getElem_of_mem hm
    obtain ⟨as', e', _⟩ := F2.at' j kl (by rw [List.getElem?_eq_getElem hj, e])
    rw [e'] at hkl
    cases hkl
   generalize upd H2 kl (.lst (bs.map V.ref)) = H3 at K3 e3 ⊢
   have F3 := F2.same K3
   have hB3 : RowsAt H3 bs S := hB.tk fun q xs e => K3 _ _ e
   have K03 := K2.trans K3
   refine ⟨kl, rfl, ⟨_, SqL.of e3⟩, ?_⟩
   refine for_list (xs := bs.map V.ref) (fun i σ H' => ∃ (u3 u4 u5 : Option V) (f : Nat → List (List Int)), σ = [some (.ref p), some (.ref l), some (.ref sd), u3, u4, u5] ∧ Src H' sd S las f ∧ (∀ j y, S[j]? = some y → ∀ x, x ∈ f j ↔ x ∈ S.take i ∧ y ∈ nx tg x) ∧ (∀ j, (f j).length ≤ 8 * i) ∧ ∀ q o, q ∉ las → H3 q = some o → H' q = some o) ⟨u3, none, none, fun _ => [], rfl, F3, (fun j y _ x => by simp), (fun j => Nat.zero_le _), fun q o _ e => e⟩ (fun i σ H' _ ⟨_, _, _, _, _, _, _, _, k'⟩ => SqL.of (k' _ _ nkla e3)) ?_ ?_
   ·rintro i v σ H4 hv ⟨u3, u4, u5, f, rfl, F4, hf, hfl, k4⟩
    obtain ⟨b, hb, rfl⟩ := itR' hv
    obtain ⟨x0, hx0, eb⟩ := hB3.at hb
    have hi : i < S.length := (List.getElem?_eq_some_iff.mp hx0).1
    have lst_la : ∀ {H' : Hp} {g : Nat → List (List Int)}, Src H' sd S las g → ∀ {q : Addr} {o : HO}, H' q = some o → (∀ ys, o ≠ .lst ys) → q ∉ las := fun F q o e hn hm => by
     obtain ⟨j, hj, e'⟩ := List.getElem_of_mem hm
     obtain ⟨as', e'', _⟩ := F.at' j q (by rw [List.getElem?_eq_getElem hj, e'])
     rw [e''] at e
     exact hn _ (Option.some.inj e).symm
    have tk4 : TK H3 H4 := ⟨fun q xs e => k4 q _ (lst_la F3 e (by intro ys z; cases z)) e, fun q o u e => k4 q _ (lst_la F3 e (by intro ys z; cases z)) e⟩
    have hPt : PotE H4 p tg m := (hP.tk (TK.same K03)).tk tk4
    have eb4 := tk4.t _ _ eb
    have hx0m := hm x0 (List.mem_of_getElem? hx0)
    walk_at "v"
    refine ⟨p, b, tg, m, x0, rfl, hPt, eb4, hx0m, m8, t8, fun rl H5 K5 nrl e5 => ?_⟩
    have F5 := F4.same K5
    have nrl' : rl ∉ las := fun hmm => by
     obtain ⟨j, hj, e⟩ := List.getElem_of_mem hmm
     obtain ⟨as', e', _⟩ := F4.at' j rl (by rw [List.getElem?_eq_getElem hj, e])
     rw [e'] at nrl
     cases nrl
    refine ⟨rl, rfl, ⟨_, SqL.of e5⟩, ?_⟩
    refine for_list (xs := (thR x0 tg).map nV) (fun kk σ H' => ∃ (u4 u5 : Option V) (f : Nat → List (List Int)), σ = [some (.ref p), some (.ref l), some (.ref sd), some (.ref b), u4, u5] ∧ Src H' sd S las f ∧ (∀ j y, S[j]? = some y → ∀ x, x ∈ f j ↔ (x ∈ S.take i ∧ y ∈ nx tg x) ∨ (x = x0 ∧ ∃ r ∈ (thR x0 tg).take kk, goR x0 (tg.getD r ([], [])) = y)) ∧ (∀ j, (f j).length ≤ 8 * i + kk) ∧ ∀ q o, q ∉ las → H5 q = some o → H' q = some o) ⟨u4, u5, f, rfl, F5, (fun j y hj x => by rw [hf j y hj x]; simp), (fun j => by have := hfl j; omega), fun q o _ e => e⟩ (fun kk σ H' _ ⟨_, _, _, _, _, _, _, k'⟩ => SqL.of (k' _ _ nrl' e5)) ?_ ?_
    ·rintro kk v σ H6 hv ⟨u4, u5, f, rfl, F6, hf, hfl, k6⟩
     have hkk : kk < (thR x0 tg).length := by
      have := (List.getElem?_eq_some_iff.mp hv).1
      simpa using this
     obtain ⟨r, hrj⟩ : ∃ r, (thR x0 tg)[kk]? = some r := ⟨(thR x0 tg)[kk], by simp [hkk]⟩
     have ev : v = .int (r : Int) := by
      rw [List.getElem?_map, hrj] at hv
      exact (Option.some.inj hv).symm
     subst ev
     obtain ⟨t, ht, hc⟩ := thR_mem (List.mem_of_getElem? hrj)
     have h8 : (thR x0 tg).length ≤ 8 := Nat.le_trans (List.length_filter_le _ _) (by rw [List.length_range]; exact t8)
     have etg : tg.getD r ([], []) = t := by rw [List.getD_eq_getElem?_getD, ht]; rfl
     have tk6 : TK H5 H6 := ⟨fun q xs e => k6 q _ (lst_la F5 e (by intro ys z; cases z)) e, fun q o u e => k6 q _ (lst_la F5 e (by intro ys z; cases z)) e⟩
     have eb6 := tk6.t _ _ (K5 _ _ eb4)
     walk_at "v"
     refine ⟨p, b, tg, m, r, x0, t, rfl, (hPt.tk (TK.same K5)).tk tk6, eb6, hx0m, m8, ht, hc, fun led H7 K7 e7 => ?_⟩
     have F7 := F6.same K7
     walk_at "v"
     refine w_din ?_
     walk_at "v"
     refine ⟨sd, _, rfl, DGet.t (k := keyOf (goR x0 t)) F7.d (by rw [keyOf_kV]; exact e7), ?_⟩
     by_cases hin : goR x0 t ∈ S
     ·obtain ⟨j0, hj0, ej0⟩ := List.getElem_of_mem hin
      have hS0 : S[j0]? = some (goR x0 t) := by rw [List.getElem?_eq_getElem hj0, ej0]
      have hl0 : j0 < las.length := by rw [F7.ll]; exact hj0
      have hla0 : las[j0]? = some las[j0] := List.getElem?_eq_getElem hl0
      rw [ent_some nd hS0 hla0]
      walk_at "v"
      refine iteT ?_
      walk_at "v"
      refine w_dget ?_
      walk_at "v"
      refine ⟨sd, .ref las[j0], rfl, by rw [← ent_some nd hS0 hla0]; exact DGet.t (k := keyOf (goR x0 t)) F7.d (by rw [keyOf_kV]; exact e7), ?_⟩
      obtain ⟨as', g1, g2⟩ := F7.at' j0 las[j0] hla0
      have gl := g2.len
      have gb := hfl j0
      refine ⟨.inl ⟨rfl, _, SqL.of g1⟩, ?_⟩
      walk_at "v"
      refine ⟨las[j0], _, _, rfl, rfl, g1, by rw [List.length_map, gl]; exact small1000 (by omega), ?_⟩
      have tk8 : TK H7 (upd H7 las[j0] (.lst (as'.map V.ref ++ [.ref b]))) := TK.lst g1
      refine ⟨_, _, fun j => if j = j0 then f j ++ [x0] else f j, rfl, ⟨?_, F7.ll, F7.nd, fun j la e => ?_⟩, fun j y hy x => ?_, fun j => ?_, fun q o hq e => ?_⟩
      ·rw [upd_ne (ne_of F7.d g1 (by intro z; cases z))]
       exact F7.d
      ·by_cases hj : j = j0
       ·subst hj
        rw [hla0] at e
        cases e
        refine ⟨as' ++ [b], by rw [upd_same, List.map_append]; rfl, ?_⟩
        rw [if_pos rfl]
        exact RowsAt.app (g2.tk fun q xs e => tk8.t _ _ e) ⟨tk8.t _ _ (K7 _ _ eb6), trivial⟩
       ·rw [if_neg hj]
        have hne : la ≠ las[j0] := fun z => by
         have hj' : j < las.length := (List.getElem?_eq_some_iff.mp e).1
         rw [List.getElem?_eq_getElem hj'] at e
         injection e with e
         exact hj ((List.getElem_inj F7.nd).mp (e.trans z))
        obtain ⟨as'', c1, c2⟩ := F7.at' j la e
        exact ⟨as'', by rw [upd_ne hne]; exact c1, c2.tk fun q xs e => tk8.t _ _ e⟩
      ·show x ∈ (if j = j0 then f j ++ [x0] else f j) ↔ _
       rw [List.take_add_one, hrj]
       by_cases hj : j = j0
       ·subst hj
        rw [hS0] at hy
        cases hy
        rw [if_pos rfl, List.mem_append, hf j _ hS0 x]
        simp only [Option.toList_some, List.mem_append, List.mem_singleton]
        constructor
        ·rintro ((h1 | ⟨h1, r', h2, h3⟩) | h1)
         ·exact .inl h1
         ·exact .inr ⟨h1, r', .inl h2, h3⟩
         ·exact .inr ⟨h1, r, .inr rfl, by rw [etg]⟩
        ·rintro (h1 | ⟨h1, r', h2 | h2, h3⟩)
         ·exact .inl (.inl h1)
         ·exact .inl (.inr ⟨h1, r', h2, h3⟩)
         ·exact .inr h1
       ·rw [if_neg hj, hf j y hy x]
        have hne : y ≠ goR x0 t := fun z => by
         have hj' : j < S.length := (List.getElem?_eq_some_iff.mp hy).1
         rw [List.getElem?_eq_getElem hj'] at hy
         injection hy with hy
         exact hj ((List.getElem_inj nd).mp (by rw [hy, ej0, z]))
        simp only [Option.toList_some, List.mem_append, List.mem_singleton]
        constructor
        ·rintro (h1 | ⟨h1, r', h2, h3⟩)
         ·exact .inl h1
         ·exact .inr ⟨h1, r', .inl h2, h3⟩
        ·rintro (h1 | ⟨h1, r', h2 | h2, h3⟩)
         ·exact .inl h1
         ·exact .inr ⟨h1, r', h2, h3⟩
         ·rw [h2, etg] at h3
          exact absurd h3.symm hne
      ·show (if j = j0 then f j ++ [x0] else f j).length ≤ _
       have := hfl j
       split
       ·rw [List.length_append]; show _ + 1 ≤ _; omega
       ·omega
      ·rw [upd_ne (fun z => hq (by rw [z]; exact List.getElem_mem hl0))]
       exact K7 _ _ (k6 q o hq e)
     ·rw [ent_none hin]
      walk_at "v"
      refine iteF ?_
      walk_at "v"
      refine ⟨_, _, f, rfl, F7, fun j y hy x => ?_, fun j => by have := hfl j; omega, fun q o hq e => K7 _ _ (k6 q o hq e)⟩
      rw [hf j y hy x, List.take_add_one, hrj]
      simp only [Option.toList_some, List.mem_append, List.mem_singleton]
      constructor
      ·rintro (h1 | ⟨h1, r', h2, h3⟩)
       ·exact .inl h1
       ·exact .inr ⟨h1, r', .inl h2, h3⟩
      ·rintro (h1 | ⟨h1, r', h2 | h2, h3⟩)
       ·exact .inl h1
       ·exact .inr ⟨h1, r', h2, h3⟩
       ·rw [h2, etg] at h3
        exact absurd (h3 ▸ List.mem_of_getElem? hy) hin
    rintro σ H6 ⟨u4, u5, f, rfl, F6, hf, hfl, k6⟩
    rw [List.length_map, List.take_length] at hf
    have h8 : (thR x0 tg).length ≤ 8 := Nat.le_trans (List.length_filter_le _ _) (by rw [List.length_range]; exact t8)
    refine ⟨_, _, _, f, rfl, F6, fun j y hy x => ?_, fun j => ?_, fun q o hq e => k6 q o hq (K5 _ _ (k4 q o hq e))⟩
    ·rw [hf j y hy x, List.take_add_one, hx0]
     simp only [Option.toList_some, List.mem_append, List.mem_singleton]
     constructor
     ·rintro (⟨h1, h2⟩ | ⟨h1, r, h2, h3⟩)
      ·exact ⟨.inl h1, h2⟩
      ·exact ⟨.inr h1, by rw [h1]; exact List.mem_map.mpr ⟨r, h2, h3⟩⟩
     ·rintro ⟨h1 | h1, h2⟩
      ·exact .inl ⟨h1, h2⟩
      ·rw [h1] at h2
       obtain ⟨r, h3, h4⟩ := List.mem_map.mp h2
       exact .inr ⟨h1, r, h3, h4⟩
    ·have := hfl j
     rw [List.length_map] at this
     omega
   rintro σ H4 ⟨u3', u4, u5, f, rfl, F4, hf, hfl, k4⟩
   rw [List.length_map, hbl, List.take_length] at hf
   rw [List.length_map, hbl] at hfl
   walk_at "v"
   refine k sd las f H4 (fun q o e => k4 q o (fun hmm => by rw [hla q hmm] at e; cases e) (K03 _ _ e)) nsd hla F4 hf fun j => ?_
   have := hfl j
   omega
end
def entF (fr : List (List Int)) : List (List Key × V) := fr.map fun s => (keyOf s, V.bl true)
theorem entF_val (y : List Int) : ∀ fr : List (List Int), valV (entF fr) (keyOf y) = if y ∈ fr then some (V.bl true) else none
 | [] => rfl
 | s :: fr => by
  show valV ((keyOf s, V.bl true) :: entF fr) (keyOf y) = _
  by_cases h : s = y
  ·rw [valV_pos (by rw [h]), if_pos (by rw [h]; exact List.mem_cons_self)]
  ·rw [valV_neg (fun e => h (keyOf_inj e)), entF_val y fr]
   by_cases h2 : y ∈ fr
   ·rw [if_pos h2, if_pos (List.mem_cons_of_mem _ h2)]
   ·rw [if_neg h2, if_neg fun z => (List.mem_cons.mp z).elim (fun e => h e.symm) h2]
structure CI (tg : List Row) (S G lr fr : List (List Int)) : Prop where
 nd : fr.Nodup
 fs : ∀ x ∈ fr, x ∈ S
 ls : ∀ x ∈ lr, x ∈ S
 fp : ∀ x ∈ fr, ∃ g ∈ G, g ∈ S ∧ Rch tg x g
 lp : ∀ x ∈ lr, ∃ g ∈ G, g ∈ S ∧ Rch tg x g
 go : ∀ g ∈ G, g ∈ S → g ∈ fr ∨ g ∈ lr
 so : ∀ x ∈ fr, ∀ y ∈ S, x ∈ nx tg y → y ∈ fr ∨ y ∈ lr
 sz : lr.length ≤ 100 + 480 * fr.length
theorem CI.end {tg : List Row} {S G fr : List (List Int)} (c : CI tg S G [] fr) (hc : Cls tg S) (x : List Int) : x ∈ fr ↔ x ∈ S ∧ ∃ g ∈ G, g ∈ S ∧ Rch tg x g := by
 refine ⟨fun h => ⟨c.fs x h, c.fp x h⟩, fun ⟨hx, g, hg, hgS, hr⟩ => ?_⟩
 have key : ∀ {a b : List Int}, Rch tg a b → a ∈ S → b ∈ G → b ∈ S → a ∈ fr := by
  intro a b h
  induction h with
  | refl x => exact fun _ hg hgS => (c.go x hg hgS).resolve_right (by simp)
  | step h1 _ ih => exact fun hx hg hgS => (c.so _ (ih (hc _ hx _ h1) hg hgS) _ hx h1).resolve_right (by simp)
 exact key hr hx hg hgS
theorem CI.old {tg : List Row} {S G lr fr : List (List Int)} {x : List Int} (c : CI tg S G (lr ++ [x]) fr) (h : x ∈ fr) : CI tg S G lr fr := by
 refine ⟨c.nd, c.fs, fun y hy => c.ls y (List.mem_append_left _ hy), c.fp, fun y hy => c.lp y (List.mem_append_left _ hy), fun g hg hs => ?_, fun z hz y hy hn => ?_, by have := c.sz; rw [List.length_append] at this; have : lr.length + 1 ≤ _ := this; omega⟩
 ·rcases c.go g hg hs with z | z
  ·exact .inl z
  ·rcases List.mem_append.mp z with z | z
   ·exact .inr z
   ·rw [List.mem_singleton.mp z]; exact .inl h
 ·rcases c.so z hz y hy hn with w | w
  ·exact .inl w
  ·rcases List.mem_append.mp w with w | w
   ·exact .inr w
   ·rw [List.mem_singleton.mp w]; exact .inl h
theorem CI.new {tg : List Row} {S G lr fr src : List (List Int)} {x : List Int} (c : CI tg S G (lr ++ [x]) fr) (h : x ∉ fr) (hs : ∀ y, y ∈ src ↔ y ∈ S ∧ x ∈ nx tg y) (hl : src.length ≤ 480) : CI tg S G (lr ++ src) (fr ++ [x]) := by
 have hx : x ∈ lr ++ [x] := List.mem_append_right _ (List.mem_singleton.mpr rfl)
 obtain ⟨g0, hg0, hg0S, hr0⟩ := c.lp x hx
 refine ⟨List.nodup_append.mpr ⟨c.nd, List.nodup_cons.mpr ⟨by simp, List.nodup_nil⟩, fun a ha b hb => by rw [List.mem_singleton.mp hb]; exact fun e => h (e ▸ ha)⟩, fun y hy => ?_, fun y hy => ?_, fun y hy => ?_, fun y hy => ?_, fun g hg hgS => ?_, fun z hz y hy hn => ?_, ?_⟩
 ·rcases List.mem_append.mp hy with z | z
  ·exact c.fs y z
  ·rw [List.mem_singleton.mp z]; exact c.ls x hx
 ·rcases List.mem_append.mp hy with z | z
  ·exact c.ls y (List.mem_append_left _ z)
  ·exact ((hs y).mp z).1
 ·rcases List.mem_append.mp hy with z | z
  ·exact c.fp y z
  ·rw [List.mem_singleton.mp z]; exact ⟨g0, hg0, hg0S, hr0⟩
 ·rcases List.mem_append.mp hy with z | z
  ·exact c.lp y (List.mem_append_left _ z)
  ·exact ⟨g0, hg0, hg0S, .step ((hs y).mp z).2 hr0⟩
 ·rcases c.go g hg hgS with z | z
  ·exact .inl (List.mem_append_left _ z)
  ·rcases List.mem_append.mp z with z | z
   ·exact .inr (List.mem_append_left _ z)
   ·exact .inl (List.mem_append_right _ z)
 ·rcases List.mem_append.mp hz with w | w
  ·rcases c.so z w y hy hn with v | v
   ·exact .inl (List.mem_append_left _ v)
   ·rcases List.mem_append.mp v with v | v
    ·exact .inr (List.mem_append_left _ v)
    ·exact .inl (List.mem_append_right _ v)
  ·rw [List.mem_singleton.mp w] at hn
   exact .inr (List.mem_append_right _ ((hs y).mpr ⟨hy, hn⟩))
 ·have := c.sz
  rw [List.length_append] at this ⊢
  rw [List.length_append]
  have : lr.length + 1 ≤ 100 + 480 * fr.length := this
  show lr.length + src.length ≤ 100 + 480 * (fr.length + 1)
  omega
theorem rows_last {H : Hp} {lv : List Addr} {lr : List (List Int)} (h : RowsAt H lv lr) (h0 : 0 < lv.length) : ∃ (lv' : List Addr) (b : Addr) (lr' : List (List Int)) (x : List Int), lv = lv' ++ [b] ∧ lr = lr' ++ [x] ∧ RowsAt H lv' lr' ∧ H b = some (.tup (x.map V.int)) := by
 induction lv generalizing lr with
 | nil => simp at h0
 | cons a lv ih =>
  cases lr with
  | nil => exact h.elim
  | cons r lr =>
   cases lv with
   | nil =>
    cases lr with
    | nil => exact ⟨[], a, [], r, rfl, rfl, trivial, h.1⟩
    | cons _ _ => exact h.2.elim
   | cons a2 lv =>
    obtain ⟨lv', b, lr', x, e1, e2, e3, e4⟩ := ih h.2 (by simp)
    exact ⟨a :: lv', b, r :: lr', x, by rw [e1]; rfl, by rw [e2]; rfl, ⟨h.1, e3⟩, e4⟩
theorem w_bm0 {K : PySem.W.Frag} {T : String} {r : V → List V → Hp → VK → Prop} {to : TE} {σ : St} {H : Hp} {Q : VK} (h : to σ H fun x H1 => tyV K T x H1 ∧ r x [] H1 Q) : tBM0 K T r to σ H Q := h
def spCc : Sp := fun vs H Q _ => ∃ (p l gl : Addr) (tg : List Row) (m : Nat) (as : List Addr) (S : List (List Int)) (gs : List Addr) (G : List (List Int)), vs = [.ref p, .ref l, .ref gl] ∧ PotE H p tg m ∧ H l = some (.lst (as.map V.ref)) ∧ RowsAt H as S ∧ (∀ r ∈ S, r.length = m) ∧ S.Nodup ∧ 0 < m ∧ m ≤ 8 ∧ tg.length ≤ 8 ∧ S.length ≤ 60 ∧ H gl = some (.lst (gs.map V.ref)) ∧ RowsAt H gs G ∧ (∀ r ∈ G, r.length = m) ∧ G.length ≤ 100 ∧ Cls tg S ∧
 ∀ (D : Addr) (as' : List Addr) (ks : List (List Int)) (H' : Hp), Same H H' → H D = none → H' D = some (.lst (as'.map V.ref)) → RowsAt H' as' ks → ks.Pairwise lx → (∀ x, x ∈ ks ↔ x ∈ S ∧ ∃ g ∈ G, g ∈ S ∧ Rch tg x g) → ks.length ≤ 60 → Q (.ref D) H'
abbrev sCc : Stmt := top 13
abbrev nCc : List Str := ["pot", "stands", "goals", "sources", "found", "left", "stand"]
theorem nmCc : Nm nCc (defScope sCc) := ⟨by decide +kernel, by decide +kernel⟩
theorem scCc : FnScope nCc ["pot", "stands", "goals"] (defScope sCc) := ⟨rfl, rfl, rfl, by decide +kernel, rfl, by decide +kernel, by decide +kernel⟩
def qCca (s : Stmt) : Scope := match s with
 | .Assign _ (.ListComp _ _ sc _) _ => sc
 | _ => { kind := .function, names := [], isGenerator := false, isCoroutine := false }
abbrev cCca : Scope := qCca ((defBody sCc).getD 2 (.Pass ⟨0, 0, 0, 0⟩))
theorem bsCca : BScope (defScope sCc) cCca ["goal"] ["sources"] [] := { okind := by decide +kernel, kind := by decide +kernel, nocell := by decide +kernel, names := by decide +kernel, fr := by decide +kernel, ff := by decide +kernel, nd := by decide +kernel, vis := by decide +kernel, loc := by decide +kernel, gl := by decide +kernel }
theorem loCc_5 : (defScope sCc).names.lookup ("left" : Str) = some .local := by decide +kernel
section
variable {P : Program} {w : World} {K : PySem.W.Frag} {mg : Str → Option Value} {base : Heap}
set_option maxHeartbeats 4000000 in
theorem ok_Cc {f : Addr} {fd : FuncData} (B : Bl mg) (fS : Has P w K mg base 4 "sources_by_stand" ["pot", "stands"] spSb) (F : Fun K "can_come" "can_come" sCc f fd) : FnOk P w K mg base CX0 5 f fd ["pot", "stands", "goals"] spCc := by
 refine F.ok scCc (fun vs H Q E h => ?_) (fun cdv A outer s H vs Q E hr h => ?_)
 ·obtain ⟨p, l, gl, tg, m, as, S, gs, G, rfl, _⟩ := h
  rfl
 ·obtain ⟨p, l, gl, tg, m, as, S, gs, G, rfl, hP, hl, hR, hm, nd, m0, m8, t8, s60, hgl, hG, hgm, g100, hcl, k⟩ := h
  refine' ⟨_, ?hb, ?rd⟩
  case' hb => have hu := hu_of hr
  case' hb => refine' pss_cons ?g1 ?g2
  case' g2 => refine' pss_cons ?g3 ?g4
  case' g4 => refine' pss_cons ?g5 ?g6
  case' g6 => refine' pss_cons ?g7 ?g8
  case' g8 => refine' pss_one ?g9
  case g1 => exact ps_setD nmCc 3 (pe_f fS hr (by decide) (pa_2 (pvd nmCc 0) (pvd nmCc 1)))
  case g3 => exact ps_setD nmCc 4 pe_dnewT
  case' g5 => refine' ps_setC (i := 5) (ix := [3]) nmCc.nd rfl loCc_5 bsCca.toCScope rfl rfl ?g10 ?g11 ?g12 ?g13
  case g10 => exact pi_list (pvd nmCc 2)
  case g11 => exact fun _ _ _ _ _ _ => pgb bsCca 0
  case g12 => exact fun _ _ _ _ _ _ => pts_one (pt_cmp (pc_din hu (pvb bsCca 0) (pvb bsCca 1)))
  case g13 => exact fun _ _ _ _ _ _ => pvb bsCca 0
  case' g7 => refine' ps_while PassesOwn.never ?g14 ?g15
  case g14 => exact pt_cmpR op_gt (pe_cB call_len_seq B.len PySem.boot_len (pa_1 (pvd nmCc 5))) pe_int (nomark _)
  case' g15 => refine' pss_cons ?g16 ?g17
  case' g17 => refine' pss_one ?g18
  case g16 => exact ps_setD nmCc 6 (pe_bm0 PySem.F.plainAttrs_list PySem.F.slot_list_pop PySem.F.type_list_pop mt_pop (pvd nmCc 5))
  case' g18 => refine' ps_if ?g19 ?g20 pss_nil
  case g19 => exact pt_cmp (pc_dnotin hu (pvd nmCc 6) (pvd nmCc 4))
  case' g20 => refine' pss_cons ?g22 ?g23
  case' g23 => refine' pss_one ?g24
  case g22 => exact ps_dput hu (pvd nmCc 4) (pvd nmCc 6) pe_bl rfl
  case g24 => exact ps_expr (pe_bm PySem.F.plainAttrs_list PySem.F.slot_list_extend PySem.F.type_list_extend mt_extend (pvd nmCc 5) (pa_1 (pe_dget hu (pvd nmCc 3) (pvd nmCc 6) (fun _ _ => rfl))))
  case g9 => exact ps_ret (pe_cB (call_sortD hr) B.sorted PyProof.Rows.boot_sorted (pa_1 (pvd nmCc 4)))
  case rd =>
   have hgal := hG.len
   walk_at "v"
   refine ⟨p, l, tg, m, as, S, rfl, hP, hl, hR, hm, nd, m8, t8, s60, fun sd las ff H1 K1 nsd nla F1 hff hffl => ?_⟩
   walk_at "v"
   refine w_dnewT fun fd hfd => ?_
   have K2 : Same H1 (upd H1 fd (.dT [])) := Same.new (Same.refl _) hfd
   have e2 : upd H1 fd (.dT []) fd = some (.dT (entF [])) := upd_same
   have nfd : H fd = none := Same.free K1 hfd
   have nfs : sd ≠ fd := ne_of_none F1.d hfd
   have nfl : fd ∉ las := fun hmm => by
    obtain ⟨j, hj, e⟩ := List.getElem_of_mem hmm
    obtain ⟨as', e', _⟩ := F1.at' j fd (by rw [List.getElem?_eq_getElem hj, e])
    rw [e'] at hfd
    cases hfd
   generalize upd H1 fd (.dT []) = H2 at K2 e2 ⊢
   have F2 := F1.same K2
   have K02 := K1.trans K2
   walk_at "v"
   refine ⟨gl, rfl, ⟨_, SqL.of (K02 _ _ hgl)⟩, fun lf hlf => ?_⟩
   have nlf : H lf = none := Same.free K02 hlf
   have nlfd : fd ≠ lf := ne_of_none e2 hlf
   have nls : sd ≠ lf := ne_of_none F2.d hlf
   have nll : lf ∉ las := fun hmm => by
    obtain ⟨j, hj, e⟩ := List.getElem_of_mem hmm
    obtain ⟨as', e', _⟩ := F2.at' j lf (by rw [List.getElem?_eq_getElem hj, e])
    rw [e'] at hlf
    cases hlf
   refine cgo_list (xs := gs.map V.ref) (fun i ys H' => ∃ zs : List Addr, ys = zs.map V.ref ∧ RowsAt H' zs ((G.take i).filter fun g => decide (g ∈ S)) ∧ Same H2 H') ⟨[], rfl, trivial, Same.new (Same.refl H2) hlf⟩ (fun i ys H' _ ⟨_, _, _, k'⟩ => SqL.of (k' _ _ (K02 _ _ hgl))) ?_ ?_
   ·rintro i v ys H3 hv ⟨zs, rfl, hz, K3⟩ hDy R SK kR kS
    obtain ⟨b, hb, rfl⟩ := itR' hv
    obtain ⟨g, hgi, eg⟩ := hG.at hb
    have hi : i < G.length := (List.getElem?_eq_some_iff.mp hgi).1
    have hzl : zs.length ≤ i := by
     rw [hz.len]
     exact Nat.le_trans (List.length_filter_le _ _) (by rw [List.length_take]; omega)
    have F3 := F2.same K3
    have eg3 := K3 _ _ (K02 _ _ eg)
    walk_at "v"
    refine w_din ?_
    walk_at "v"
    refine ⟨sd, _, rfl, DGet.t (k := keyOf g) F3.d (by rw [keyOf_kV]; exact eg3), ?_⟩
    have tk : (G.take (i + 1)).filter (fun g => decide (g ∈ S)) = (G.take i).filter (fun g => decide (g ∈ S)) ++ (if g ∈ S then [g] else []) := by
     rw [List.take_add_one, hgi, List.filter_append]
     congr 1
     by_cases h : g ∈ S <;> simp [h]
    by_cases hin : g ∈ S
    ·obtain ⟨j0, hj0, ej0⟩ := List.getElem_of_mem hin
     have hl0 : j0 < las.length := by rw [F3.ll]; exact hj0
     rw [ent_some nd (by rw [List.getElem?_eq_getElem hj0, ej0]) (List.getElem?_eq_getElem hl0)]
     rw [if_pos hin] at tk
     walk_at "v"
     refine iteT ?_
     walk_at "v"
     have tkl : TK H3 (upd H3 lf (.lst (zs.map V.ref ++ [.ref b]))) := TK.lst hDy
     refine kR _ _ hDy (by rw [List.length_map]; exact small1000 (by omega)) ⟨zs ++ [b], by rw [List.map_append]; rfl, ?_, K3.put hlf⟩
     rw [tk]
     exact RowsAt.app (hz.tk fun q xs e => tkl.t _ _ e) ⟨tkl.t _ _ eg3, trivial⟩
    ·rw [ent_none hin]
     rw [if_neg hin, List.append_nil] at tk
     walk_at "v"
     refine iteF ?_
     exact kS _ hDy ⟨zs, rfl, by rw [tk]; exact hz, K3⟩
   rintro ys H3 ⟨zs, rfl, hz, K3⟩ e3
   rw [List.length_map, hgal, List.take_length] at hz
   have ci : CI tg S G (G.filter fun g => decide (g ∈ S)) [] := ⟨List.nodup_nil, (fun x h => by cases h), fun x h => of_decide_eq_true (List.mem_filter.mp h).2, (fun x h => by cases h), fun x h => ⟨x, (List.mem_filter.mp h).1, of_decide_eq_true (List.mem_filter.mp h).2, .refl _⟩, fun g hg hs => .inr (List.mem_filter.mpr ⟨hg, decide_eq_true hs⟩), (fun x h => by cases h), Nat.le_trans (List.length_filter_le _ _) (by show G.length ≤ 100 + 480 * 0; omega)⟩
   walk_at "v"
   refine w_while ⟨fun n σ H' => ∃ (u6 : Option V) (lv : List Addr) (lr fr : List (List Int)), σ = [some (.ref p), some (.ref l), some (.ref gl), some (.ref sd), some (.ref fd), some (.ref lf), u6] ∧ n = (60 - fr.length) * 1000 + lr.length ∧ H' lf = some (.lst (lv.map V.ref)) ∧ RowsAt H' lv lr ∧ H' fd = some (.dT (entF fr)) ∧ Src H' sd S las ff ∧ CI tg S G lr fr ∧ Same H H', ⟨_, none, zs, _, [], rfl, rfl, e3, hz, K3 _ _ e2, F2.same K3, ci, K02.trans K3⟩, ?_⟩
   rintro n σ H4 ⟨u6, lv, lr, fr, rfl, rfl, e4, hv4, f4, F4, ci, K4⟩
   have hvl := hv4.len
   have hsz := ci.sz
   have hfr : fr.length ≤ 60 := Nat.le_trans (nd_le ci.nd ci.fs) s60
   walk_at "v"
   refine ⟨lf, _, rfl, .inl (SqL.of e4), ?_⟩
   rw [List.length_map]
   walk_at "v"
   refine iteD (fun hgt => ?_) (fun hle => ?_)
   ·obtain ⟨lv', b, lr', x, rfl, rfl, hv5, eb⟩ := rows_last hv4 (by omega)
    have hl1 : (lr' ++ [x]).length = lr'.length + 1 := by rw [List.length_append]; rfl
    rw [hl1] at hsz ⊢
    refine ⟨_, fun σ' H' w => w, ?_⟩
    walk_at "v"
    refine w_bm0 ?_
    walk_at "v"
    refine ⟨.inl ⟨rfl, _, SqL.of e4⟩, ?_⟩
    refine ⟨lf, _, .ref b, rfl, rfl, e4, by simp, ?_⟩
    rw [List.map_append, show (lv'.map V.ref ++ [b].map V.ref).dropLast = lv'.map V.ref from List.dropLast_concat]
    have tk5 : TK H4 (upd H4 lf (.lst (lv'.map V.ref))) := TK.lst e4
    have K5 : Same H (upd H4 lf (.lst (lv'.map V.ref))) := K4.put nlf
    have e5 : upd H4 lf (.lst (lv'.map V.ref)) lf = some (.lst (lv'.map V.ref)) := upd_same
    have f5 : upd H4 lf (.lst (lv'.map V.ref)) fd = some (.dT (entF fr)) := by rw [upd_ne nlfd]; exact f4
    have F5 : Src (upd H4 lf (.lst (lv'.map V.ref))) sd S las ff := F4.keep (by rw [upd_ne nls]; exact F4.d) (fun la hla o e => by rw [upd_ne (fun z => nll (by rw [← z]; exact hla))]; exact e) tk5
    replace eb := tk5.t _ _ eb
    replace hv5 := hv5.tk fun q xs e => tk5.t _ _ e
    generalize upd H4 lf (.lst (lv'.map V.ref)) = H5 at tk5 K5 e5 f5 F5 eb hv5 ⊢
    walk_at "v"
    refine w_dnotin ?_
    walk_at "v"
    refine ⟨fd, _, rfl, DGet.t (k := keyOf x) f5 (by rw [keyOf_kV]; exact eb), ?_⟩
    rw [entF_val]
    by_cases hx : x ∈ fr
    ·rw [if_pos hx]
     walk_at "v"
     refine iteF ?_
     walk_at "v"
     exact ⟨_, by omega, _, lv', lr', fr, rfl, rfl, e5, hv5, f5, F5, ci.old hx, K5⟩
    ·rw [if_neg hx]
     have hxS : x ∈ S := ci.ls x (List.mem_append_right _ (List.mem_singleton.mpr rfl))
     obtain ⟨j0, hj0, ej0⟩ := List.getElem_of_mem hxS
     have hS0 : S[j0]? = some x := by rw [List.getElem?_eq_getElem hj0, ej0]
     have hl0 : j0 < las.length := by rw [F5.ll]; exact hj0
     have hla0 : las[j0]? = some las[j0] := List.getElem?_eq_getElem hl0
     have cn := ci.new (src := ff j0) hx (hff j0 x hS0) (hffl j0)
     have hfr1 : (fr ++ [x]).length ≤ 60 := Nat.le_trans (nd_le cn.nd cn.fs) s60
     have hfl1 : (fr ++ [x]).length = fr.length + 1 := by rw [List.length_append]; rfl
     walk_at "v"
     refine iteT ?_
     walk_at "v"
     refine w_dput ?_
     walk_at "v"
     refine ⟨fd, _, rfl, DPut.t (k := keyOf x) (v := .bl true) f5 (by rw [keyOf_kV]; exact eb) (by unfold entF; rw [List.length_map]; exact small1000 (by omega)), ?_⟩
     rw [putK_new _ (by rw [entF_val, if_neg hx])]
     have tk6 : TK H5 (upd H5 fd (.dT (entF fr ++ [(keyOf x, V.bl true)]))) := ⟨fun q xs e => by rw [upd_ne (ne_of e f5 (by intro z; cases z))]; exact e, fun q o u e => by rw [upd_ne (ne_of e f5 (by intro z; cases z))]; exact e⟩
     have K6 : Same H (upd H5 fd (.dT (entF fr ++ [(keyOf x, V.bl true)]))) := K5.put nfd
     have e6 : upd H5 fd (.dT (entF fr ++ [(keyOf x, V.bl true)])) lf = some (.lst (lv'.map V.ref)) := by rw [upd_ne (Ne.symm nlfd)]; exact e5
     have f6 : upd H5 fd (.dT (entF fr ++ [(keyOf x, V.bl true)])) fd = some (.dT (entF (fr ++ [x]))) := by rw [upd_same]; unfold entF; rw [List.map_append]; rfl
     have F6 : Src (upd H5 fd (.dT (entF fr ++ [(keyOf x, V.bl true)]))) sd S las ff := F5.keep (by rw [upd_ne nfs]; exact F5.d) (fun la hla o e => by rw [upd_ne (fun z => nfl (by rw [← z]; exact hla))]; exact e) tk6
     replace eb := tk6.t _ _ eb
     replace hv5 := hv5.tk fun q xs e => tk6.t _ _ e
     generalize upd H5 fd (.dT (entF fr ++ [(keyOf x, V.bl true)])) = H6 at tk6 K6 e6 f6 F6 eb hv5 ⊢
     obtain ⟨as', g1, g2⟩ := F6.at' j0 las[j0] hla0
     have gl' := g2.len
     have gb := hffl j0
     have hvl5 := hv5.len
     walk_at "v"
     refine ⟨.inl ⟨rfl, _, SqL.of e6⟩, ?_⟩
     walk_at "v"
     refine w_dget ?_
     walk_at "v"
     refine ⟨sd, .ref las[j0], rfl, by rw [← ent_some nd hS0 hla0]; exact DGet.t (k := keyOf x) F6.d (by rw [keyOf_kV]; exact eb), ?_⟩
     walk_at "v"
     refine ⟨lf, las[j0], _, _, rfl, rfl, e6, g1, by rw [List.length_map, List.length_map]; exact Nat.le_trans (by omega : _ ≤ 40000) (by decide), ?_⟩
     have tk7 : TK H6 (upd H6 lf (.lst (lv'.map V.ref ++ as'.map V.ref))) := TK.lst e6
     refine ⟨_, ?_, _, lv' ++ as', lr' ++ ff j0, fr ++ [x], rfl, rfl, by rw [upd_same, List.map_append], RowsAt.app (hv5.tk fun q xs e => tk7.t _ _ e) (g2.tk fun q xs e => tk7.t _ _ e), by rw [upd_ne nlfd]; exact f6, F6.keep (by rw [upd_ne nls]; exact F6.d) (fun la hla o e => by rw [upd_ne (fun z => nll (by rw [← z]; exact hla))]; exact e) tk7, cn, K6.put nlf⟩
     rw [hfl1, List.length_append]
     omega
   ·have hl0 : lr = [] := List.eq_nil_of_length_eq_zero (by omega)
    subst hl0
    have hend := ci.end hcl
    walk_at "v"
    refine ⟨fd, _, fr, m, rfl, f4, by unfold entF; rw [List.map_map]; rfl, m0, fun ks hk => hm ks (ci.fs ks hk), ci.nd, by omega, fun D as' ks' hD hrows hperm hpw => ?_⟩
    have hDn : H D = none := Same.free K4 hD
    have K5 : Same H4 (upd H4 D (.lst (as'.map V.ref))) := Same.new (Same.refl _) hD
    exact k D as' ks' _ (K4.trans K5) hDn upd_same (hrows.tk fun q xs e => K5 _ _ e) hpw (fun y => by rw [hperm.mem_iff]; exact hend y) (by rw [hperm.length_eq]; exact hfr)
end
end K41
namespace L2
open PySem
section
variable {X : Cx} {k : Nat}
def rInR : R2 := fun x y H Q => ∃ (b l : Addr) (gs : List Addr) (G : List (List Int)) (row : List Int), x = .ref b ∧ y = .ref l ∧ H l = some (.lst (gs.map V.ref)) ∧ RowsAt H gs G ∧ H b = some (.tup (row.map V.int)) ∧ Q (.bl (decide (row ∈ G))) H
abbrev dRows (G : List (List Int)) : List PyData := G.map fun r => PyData.tuple (r.map PyData.int)
theorem RowsAt.rd {H : Hp} : ∀ {gs : List Addr} {G : List (List Int)}, RowsAt H gs G → RdVs H (gs.map V.ref) (dRows G)
 | [], [], _ => .nil
 | [], _ :: _, h => h.elim
 | _ :: _, [], h => h.elim
 | _ :: _, r :: _, h => .cons (.tup h.1 (rdInts r)) (RowsAt.rd h.2)
theorem lay_rows : ∀ G : List (List Int), PyData.canLayAll0 (dRows G) = true
 | [] => rfl
 | r :: G => by simp [dRows, PyData.canLayAll0, PyData.canLay0, lay_ints r]; simpa [dRows] using lay_rows G
theorem depth_rows : ∀ G : List (List Int), PyData.depthAll (dRows G) ≤ 1
 | [] => by simp [dRows, PyData.depthAll]
 | r :: G => by
  have h := depth_rows G
  have := depth_ints r
  simp only [dRows, List.map_cons, PyData.depthAll, PyData.depth, this] at h ⊢
  omega
theorem any_rows (row : List Int) : ∀ G : List (List Int), ((dRows G).any fun y => PyData.eqv y (.tuple (row.map PyData.int))) = decide (row ∈ G)
 | [] => rfl
 | r :: G => by
  show (PyData.eqv (.tuple (r.map PyData.int)) (.tuple (row.map PyData.int)) || (dRows G).any _) = _
  rw [any_rows row G, show PyData.eqv (.tuple (r.map PyData.int)) (.tuple (row.map PyData.int)) = decide (r = row) by simp only [PyData.eqv]; exact eqv_ints r row]
  by_cases h : r = row
  ·simp [h]
  ·by_cases h2 : row ∈ G
   ·simp [h2]
   ·have : ¬ row = r := fun e => h e.symm
    simp [h, h2, this]
theorem op_inR (hr : Room k X.A) : OpR X (compareOp .In) rInR := by
 intro pins s σ H x y v u Q I rx ry h
 obtain ⟨b, l, gs, G, row, rfl, rfl, hl, hG, hb, q⟩ := h
 obtain ⟨as, ra⟩ := (RdV.tup hb (rdInts row)).reads I rx
 obtain ⟨bs, rb⟩ := (RdV.lst hl hG.rd).reads I ry
 have hu := hr.units
 have hd := depth_rows G
 have hd2 := depth_ints row
 refine SeqAt.in_list_reads rb ra (lay_rows G) (by simp [PyData.canLay0, lay_ints row]) ?_ ⟨.bl _, H, I, rfl, ?_⟩
 ·have : min (PyData.depthAll (dRows G)) (PyData.tuple (row.map PyData.int)).depth ≤ 1 := Nat.le_trans (Nat.min_le_left _ _) hd
  have hc : cLine = cLine := rfl
  omega
 ·rw [any_rows]
  exact q
end
end L2
namespace K41
open PySem L2 G2
def Ob (B : Int) (es : Es) : Prop := ∀ e ∈ es, ∀ y ∈ e.1, -(B + 9 * (e.2.length : Int)) ≤ y ∧ y ≤ B + 9 * (e.2.length : Int)
theorem ob_fold {tg : List Row} {B : Int} (hB : 0 ≤ B) (ht : ∀ (r : Nat) (t : Row), tg[r]? = some t → (∀ y ∈ t.1, 0 ≤ y ∧ y ≤ 9) ∧ (∀ y ∈ t.2, 0 ≤ y ∧ y ≤ 9)) {e : List Int × List Nat} (he : ∀ y ∈ e.1, -(B + 9 * (e.2.length : Int)) ≤ y ∧ y ≤ B + 9 * (e.2.length : Int)) : ∀ (rs : List Nat) (es : Es), (∀ r ∈ rs, ∃ t, tg[r]? = some t) → Ob B es → Ob B (rs.foldl (add1 tg e) es)
 | [], es, _, h => h
 | r :: rs, es, hrs, h => by
  refine ob_fold hB ht he rs _ (fun q hq => hrs q (List.mem_cons_of_mem _ hq)) ?_
  unfold add1
  split
  ·exact h
  ·intro x hx y hy
   rcases List.mem_append.mp hx with z | z
   ·exact h x z y hy
   ·rw [List.mem_singleton.mp z] at hy ⊢
    obtain ⟨t, et⟩ := hrs r List.mem_cons_self
    obtain ⟨h1, h2⟩ := ht r t et
    rw [show tg.getD r ([], []) = t by simp [et]] at hy
    have := goR_bd (by omega) he h1 h2 y hy
    rw [List.length_append]
    simp
    omega
theorem ob_run {tg : List Row} {B : Int} {mo : Nat} (hB : 0 ≤ B) (ht : ∀ (r : Nat) (t : Row), tg[r]? = some t → (∀ y ∈ t.1, 0 ≤ y ∧ y ≤ 9) ∧ (∀ y ∈ t.2, 0 ≤ y ∧ y ≤ 9)) : ∀ (n i : Nat) (es es' : Es), Ob B es → run tg mo n i es = some es' → Ob B es'
 | 0, i, es, es', h, e => by cases e; exact h
 | n + 1, i, es, es', h, e => by
  unfold run at e
  cases he : es[i]? with
  | none => rw [he] at e; cases e; exact h
  | some x =>
   rw [he] at e
   dsimp only at e
   split at e
   ·cases e
   ·exact ob_run hB ht n (i + 1) _ es' (ob_fold hB ht (h x (List.mem_of_getElem? he)) _ es (fun r hr => by obtain ⟨t, e, _⟩ := thR_mem hr; exact ⟨t, e⟩) h) e
theorem run_bd {tg : List Row} {B : Int} {mo : Nat} {st : List Int} {es : Es} (hB : 0 ≤ B) (ht : ∀ (r : Nat) (t : Row), tg[r]? = some t → (∀ y ∈ t.1, 0 ≤ y ∧ y ≤ 9) ∧ (∀ y ∈ t.2, 0 ≤ y ∧ y ≤ 9)) (hs : ∀ y ∈ st, -B ≤ y ∧ y ≤ B) (h : run tg mo mo 0 [(st, [])] = some es) : Ob B es :=
 ob_run hB ht mo 0 _ es (fun e he y hy => by
  rw [List.mem_singleton.mp he] at hy ⊢
  have := hs y hy
  simp
  omega) h
local macro_rules | `(tactic| walk_at "v") => `(tactic| repeat (with_reducible first
  | refine w_seq ?_ | refine w_asg ?_ | refine w_gname ?_ | refine w_op ?_ | refine w_var rfl ?_ | refine w_c ?_ | refine w_rI0 ?_ | refine w_ifs ?_ | refine w_ife ?_ | refine w_test ?_ | refine w_tb ?_ | refine w_bl ?_ | refine w_not ?_ | refine w_ret ?_ | refine w_retN ?_
  | refine w_nil ?_ | refine w_cons ?_ | refine w_lst ?_ | refine w_tup ?_ | refine w_cb ?_ | refine w_call ?_ | refine w_gsub ?_ | refine w_and ?_ | refine w_or ?_ | refine w_next ?_ | refine w_all ?_ | refine w_vals ?_ | refine w_compR ?_ | refine w_compT ?_ | refine w_forR ?_ | refine w_forT ?_ | refine w_forL ?_ | refine w_drop ?_ | refine w_bm ?_ | refine w_compZ ?_ | refine w_compL ?_ | refine w_chain ?_ | refine w_sl ?_ | refine w_nopart ?_ | refine w_part ?_ | refine w_unI ?_ | refine iteT ?_ | refine iteF ?_))
theorem kit_ll (K : PySem.W.Frag) : PySem.W.kitOne K (.type "list") (.type "list") = some true := by rfl
theorem _root_.L2.RowsAt.tkz {H H' : Hp} {as : List Addr} {ks : List (List Int)} (h : RowsAt H as ks) (k : TK H H') : RowsAt H' as ks := RowsAt.tk k.t h
abbrev Pr := List (Addr × List Int)
def PA (H : Hp) (zs : Pr) : Prop := ∀ x ∈ zs, H x.1 = some (.tup (x.2.map V.int))
abbrev rf (zs : Pr) : List V := zs.map fun x => V.ref x.1
abbrev rw' (zs : Pr) : List (List Int) := zs.map (·.2)
theorem rf_eq (zs : Pr) : rf zs = (zs.map (·.1)).map V.ref := by rw [List.map_map]; rfl
theorem PA.rows {H : Hp} : ∀ {zs : Pr}, PA H zs → RowsAt H (zs.map (·.1)) (rw' zs)
 | [], _ => trivial
 | x :: _, h => ⟨h x List.mem_cons_self, PA.rows fun y hy => h y (List.mem_cons_of_mem _ hy)⟩
theorem PA.rd {H : Hp} {zs : Pr} (h : PA H zs) : RdVs H (rf zs) (dRows (rw' zs)) := by rw [rf_eq]; exact h.rows.rd
theorem PA.tk {H H' : Hp} {zs : Pr} (k : TK H H') (h : PA H zs) : PA H' zs := fun x hx => k.t _ _ (h x hx)
theorem PA.zip {H : Hp} {as : List Addr} {S : List (List Int)} (h : RowsAt H as S) : PA H (as.zip S) := fun x hx => by
 obtain ⟨i, hi, e⟩ := List.getElem_of_mem hx
 have h1 : (as.zip S)[i]? = some x := by rw [List.getElem?_eq_getElem hi, e]
 obtain ⟨ha, hs⟩ := List.getElem?_zip_eq_some.mp h1
 obtain ⟨ks, hk, e2⟩ := h.at ha
 rw [hs] at hk
 cases hk
 exact e2
theorem zip_snd {as : List Addr} {S : List (List Int)} (h : as.length = S.length) : rw' (as.zip S) = S := by
 show (as.zip S).map Prod.snd = S
 rw [List.map_snd_zip]
 omega
theorem shw_rows {R : List (List Int)} {m : Nat} (h : ∀ r ∈ R, r.length = m ∧ ∀ y ∈ r, -600 ≤ y ∧ y ≤ 600) (m8 : m ≤ 8) (hl : R.length ≤ 60) : Shw (.list (dRows R)) 10000 2 := by
 have h1 : ∀ d ∈ dRows R, Shw d 147 1 := fun d hd => by
  obtain ⟨r, hr, rfl⟩ := List.mem_map.mp hd
  obtain ⟨hm, hb⟩ := h r hr
  exact (Shw.ints (ns := r) fun y hy => by have := hb y hy; exact ⟨by omega, by omega⟩).up (by omega) (Nat.le_refl _)
 refine (Shw.lsts h1).up ?_ (by decide)
 rw [List.length_map]
 omega
theorem Tq.ns {H : Hp} {p l sl : Addr} {ms : List Int} {n : Nat} {as : List Addr} (T : Tq H p l ms n) (hs : H sl = some (.lst (as.map V.ref))) : sl ≠ p := by
 obtain ⟨c, e, f, hp, _⟩ := T.ex
 refine ne_of hs hp fun z => ?_
 injection z with z
 match as, z with
 | [], z => cases z
 | [_], z => cases z
 | _ :: _ :: _, z => injection z with _ z; injection z with z _; cases z
theorem endsZ_sub {tg : List Row} {zs : Pr} {x : Addr × List Int} (h : x ∈ endsZ tg zs) : x ∈ zs := (List.mem_filter.mp h).1
open Classical in
noncomputable def hitZ (tg : List Row) (G : List (List Int)) (zs : Pr) : Pr := zs.filter fun x => decide (∃ g ∈ G, Rch tg x.2 g)
open Classical in
theorem hitZ_snoc {tg : List Row} {G : List (List Int)} {zs : Pr} {x : Addr × List Int} (h : ∃ g ∈ G, Rch tg x.2 g) : hitZ tg G (zs ++ [x]) = hitZ tg G zs ++ [x] := by
 unfold hitZ
 rw [List.filter_append]
 congr 1
 simp [h]
open Classical in
theorem hitZ_no {tg : List Row} {G : List (List Int)} {zs : Pr} {x : Addr × List Int} (h : ¬ ∃ g ∈ G, Rch tg x.2 g) : hitZ tg G (zs ++ [x]) = hitZ tg G zs := by
 unfold hitZ
 rw [List.filter_append]
 simp [h]
open Classical in
theorem hitZ_mem {tg : List Row} {G : List (List Int)} {zs : Pr} {x : Addr × List Int} : x ∈ hitZ tg G zs ↔ x ∈ zs ∧ ∃ g ∈ G, Rch tg x.2 g := by
 unfold hitZ
 rw [List.mem_filter, decide_eq_true_iff]
theorem hitZ_sorted {tg : List Row} {S G ks : List (List Int)} {as : List Addr} (hl : as.length = ks.length) (hp : ks.Perm S) (hs : ks.Pairwise lx) (hc : Cls tg S) : (rw' (hitZ tg G (as.zip ks))).Pairwise lx ∧ ∀ x, x ∈ rw' (hitZ tg G (as.zip ks)) ↔ x ∈ S ∧ ∃ g ∈ G, g ∈ S ∧ Rch tg x g := by
 have e := zip_snd hl
 refine ⟨?_, fun x => ⟨fun h => ?_, fun ⟨hx, g, hg, hgS, hr⟩ => ?_⟩⟩
 ·have h1 : (rw' (as.zip ks)).Pairwise lx := by rw [e]; exact hs
  have h2 : (rw' (hitZ tg G (as.zip ks))).Sublist (rw' (as.zip ks)) := List.Sublist.map _ List.filter_sublist
  exact h1.sublist h2
 ·obtain ⟨y, hy, rfl⟩ := List.mem_map.mp h
  obtain ⟨hz, g, hg, hr⟩ := hitZ_mem.mp hy
  have hS : y.2 ∈ S := hp.mem_iff.mp (by rw [← e]; exact List.mem_map.mpr ⟨y, hz, rfl⟩)
  exact ⟨hS, g, hg, hr.mem hc hS, hr⟩
 ·have hk : x ∈ rw' (as.zip ks) := by rw [e]; exact hp.mem_iff.mpr hx
  obtain ⟨y, hy, rfl⟩ := List.mem_map.mp hk
  exact List.mem_map.mpr ⟨y, hitZ_mem.mpr ⟨hy, g, hg, hr⟩, rfl⟩
theorem hit_iff {tg : List Row} {G : List (List Int)} {r : List Int} {xs : List En} (h : run tg 60 60 0 [(r, [])] = some (xs.map En.e)) : ((xs.filter fun x => decide (x.st ∈ G)).map En.f = []) ↔ ¬ ∃ g ∈ G, Rch tg r g := by
 obtain ⟨_, _, _, h4⟩ := run_all (by decide) h
 have e : fst' (xs.map En.e) = xs.map En.st := by unfold fst'; rw [List.map_map]; rfl
 rw [List.map_eq_nil_iff, List.filter_eq_nil_iff]
 refine ⟨fun h1 ⟨g, hg, hr⟩ => ?_, fun h1 x hx hd => h1 ⟨x.st, of_decide_eq_true hd, (h4 _).mp (by rw [e]; exact List.mem_map.mpr ⟨x, hx, rfl⟩)⟩⟩
 have := (h4 g).mpr hr
 rw [e] at this
 obtain ⟨x, hx, rfl⟩ := List.mem_map.mp this
 exact h1 x hx (decide_eq_true hg)
theorem w_neR {H : Hp} {Q : VK} {p z : Addr} {ts : List Addr} {ds : List PyData} (hp : H p = some (.lst (ts.map V.ref))) (hd : RdVs H (ts.map V.ref) ds) (hl : PyData.canLayAll0 ds = true) (hd60 : PyData.depthAll ds ≤ 50) (hz : H z = some (.lst [])) (q : Q (.bl (!decide (ts = []))) H) : rNeD (.ref p) (.ref z) H Q := by
 refine ⟨_, _, .lst hp hd, .lst hz .nil, hl, rfl, ?_, ?_⟩
 ·show PyData.depthAll _ + 1 ≤ 60
  omega
 ·show Q (.bl (!PyData.eqvAll ds [])) H
  rw [show PyData.eqvAll ds [] = decide (ts = []) by
   cases hd' : ts with
   | nil => subst hd'; cases hd; rfl
   | cons t ts => subst hd'; cases hd with | cons _ _ => simp [PyData.eqvAll]]
  exact q
theorem stands_rd {H : Hp} : ∀ {ts : List Addr}, (∀ t ∈ ts, ∃ xs : List Int, H t = some (.tup (xs.map V.int))) → ∃ ds, RdVs H (ts.map V.ref) ds ∧ PyData.canLayAll0 ds = true ∧ PyData.depthAll ds ≤ 50
 | [], _ => ⟨[], .nil, rfl, by decide⟩
 | t :: ts, h => by
  obtain ⟨xs, e⟩ := h t List.mem_cons_self
  obtain ⟨ds, h1, h2, h3⟩ := stands_rd (ts := ts) fun q hq => h q (List.mem_cons_of_mem _ hq)
  refine ⟨.tuple (xs.map .int) :: ds, .cons (.tup e (rdInts xs)) h1, ?_, ?_⟩
  ·simp [PyData.canLayAll0, PyData.canLay0, lay_ints xs, h2]
  ·have := depth_ints xs
   simp only [PyData.depthAll, PyData.depth, this]
   omega
theorem fil_snoc {α : Type} {q : α → Bool} {xs : List α} {i : Nat} {x : α} (h : xs[i]? = some x) : (xs.take (i + 1)).filter q = (xs.take i).filter q ++ (if q x = true then [x] else []) := by
 rw [List.take_add_one, h, List.filter_append]
 congr 1
 cases hq : q x <;> simp [hq]
theorem thE {xs : List Nat} : decide (xs.map (fun (i : Nat) => (i : Int)) = []) = xs.isEmpty := by cases xs <;> simp
theorem Bp.sm {H H' H0 : Hp} {p : Addr} (k : Same H0 H) (b : Bp p H H') (h : H0 p = none) : Same H0 H' := fun q o e => b q o (ne_of_none e h) (k q o e)
theorem endsZ_snoc {tg : List Row} {zs : Pr} {a : Addr} {r : List Int} {i : Nat} (hz : zs[i]? = some (a, r)) : endsZ tg (zs.take (i + 1)) = endsZ tg (zs.take i) ++ (if (thR r tg).isEmpty = true then [(a, r)] else []) := by
 unfold endsZ
 rw [List.take_add_one, hz, List.filter_append]
 congr 1
 by_cases h : (thR r tg).isEmpty = true
 ·rw [if_pos h]; simp [h]
 ·rw [if_neg h]; simp [h]
def spRi : Sp := fun vs H Q _ => ∃ (fp fl p sl : Addr) (ms : List Int) (n : Nat) (tg : List Row) (m : Nat) (as : List Addr) (S : List (List Int)), vs = [.ref fp, .ref p, .ref sl] ∧ Tq H fp fl ms n ∧ n ≤ 50000 ∧ PotE H p tg m ∧ H sl = some (.lst (as.map V.ref)) ∧ RowsAt H as S ∧ (∀ r ∈ S, r.length = m) ∧ S.Nodup ∧ 0 < m ∧ m ≤ 8 ∧ tg.length ≤ 8 ∧ S.length ≤ 40 ∧ 0 < S.length ∧ (∀ r ∈ S, ∀ y ∈ r, -600 ≤ y ∧ y ≤ 600) ∧ Cls tg S ∧ ∀ H', Tq H' fp fl ms (n + 50) → Q (.bl true) H'
abbrev sRi : Stmt := top 33
abbrev nRi : List Str := ["_law_feed_here", "_law_pot_here", "_law_stands", "_law_kept", "_law_due", "_law_found", "_law_few", "_law_goals", "_law_stand", "_law_coming", "_law_turn"]
theorem nmRi : Nm nRi (defScope sRi) := ⟨by decide +kernel, by decide +kernel⟩
theorem scRi : FnScope nRi ["_law_feed_here", "_law_pot_here", "_law_stands"] (defScope sRi) := ⟨rfl, rfl, rfl, by decide +kernel, rfl, by decide +kernel, by decide +kernel⟩
def qRia (s : Stmt) : Scope := match s with
 | .Assign _ (.ListComp _ _ sc _) _ => sc
 | _ => { kind := .function, names := [], isGenerator := false, isCoroutine := false }
abbrev cRia : Scope := qRia ((defBody sRi).getD 1 (.Pass ⟨0, 0, 0, 0⟩))
theorem bsRia : BScope (defScope sRi) cRia ["_law_stand"] ["_law_pot_here"] ["_law_there"] := { okind := by decide +kernel, kind := by decide +kernel, nocell := by decide +kernel, names := by decide +kernel, fr := by decide +kernel, ff := by decide +kernel, nd := by decide +kernel, vis := by decide +kernel, loc := by decide +kernel, gl := by decide +kernel }
def qRib (s : Stmt) : Scope := match s with
 | .Assign _ (.ListComp _ _ sc _) _ => sc
 | _ => { kind := .function, names := [], isGenerator := false, isCoroutine := false }
abbrev cRib : Scope := qRib ((defBody sRi).getD 6 (.Pass ⟨0, 0, 0, 0⟩))
theorem bsRib : BScope (defScope sRi) cRib ["_law_stand"] ["_law_feed_here", "_law_few"] ["_law_draw"] := { okind := by decide +kernel, kind := by decide +kernel, nocell := by decide +kernel, names := by decide +kernel, fr := by decide +kernel, ff := by decide +kernel, nd := by decide +kernel, vis := by decide +kernel, loc := by decide +kernel, gl := by decide +kernel }
def qRic (s : Stmt) : Scope := match s with
 | .If _ [(.Expr (.Call _ [(.Call _ [(.ListComp _ _ sc _)] _ _)] _ _) _)] _ _ => sc
 | _ => { kind := .function, names := [], isGenerator := false, isCoroutine := false }
abbrev cRic : Scope := qRic ((defBody sRi).getD 7 (.Pass ⟨0, 0, 0, 0⟩))
theorem bsRic : BScope (defScope sRi) cRic ["_law_one"] [] [] := { okind := by decide +kernel, kind := by decide +kernel, nocell := by decide +kernel, names := by decide +kernel, fr := by decide +kernel, ff := by decide +kernel, nd := by decide +kernel, vis := by decide +kernel, loc := by decide +kernel, gl := by decide +kernel }
def qRid (s : Stmt) : Scope := match s with
 | .For _ _ [(.Assign _ (.ListComp _ _ sc _) _), _] _ _ => sc
 | _ => { kind := .function, names := [], isGenerator := false, isCoroutine := false }
abbrev cRid : Scope := qRid ((defBody sRi).getD 9 (.Pass ⟨0, 0, 0, 0⟩))
theorem bsRid : BScope (defScope sRi) cRid ["_law_one", "_law_order"] [] [] := { okind := by decide +kernel, kind := by decide +kernel, nocell := by decide +kernel, names := by decide +kernel, fr := by decide +kernel, ff := by decide +kernel, nd := by decide +kernel, vis := by decide +kernel, loc := by decide +kernel, gl := by decide +kernel }
def qRie (s : Stmt) : Scope := match s with
 | .For _ _ [_, (.If (.Compare (.ListComp _ _ sc _) _ _ _) _ _ _)] _ _ => sc
 | _ => { kind := .function, names := [], isGenerator := false, isCoroutine := false }
abbrev cRie : Scope := qRie ((defBody sRi).getD 9 (.Pass ⟨0, 0, 0, 0⟩))
theorem bsRie : BScope (defScope sRi) cRie ["_law_one"] ["_law_goals"] [] := { okind := by decide +kernel, kind := by decide +kernel, nocell := by decide +kernel, names := by decide +kernel, fr := by decide +kernel, ff := by decide +kernel, nd := by decide +kernel, vis := by decide +kernel, loc := by decide +kernel, gl := by decide +kernel }
theorem loRi_4 : (defScope sRi).names.lookup ("_law_due" : Str) = some .local := by decide +kernel
theorem loRi_9 : (defScope sRi).names.lookup ("_law_coming" : Str) = some .local := by decide +kernel
section
variable {P : Program} {w : World} {K : PySem.W.Frag} {mg : Str → Option Value} {base : Heap}
set_option maxHeartbeats 4000000 in
theorem ok_Ri {f : Addr} {fd : FuncData} (B : Bl mg) (D : Has P w K mg base 1 "_law_draw" ["_law_feed_here", "_law_many"] spDraw) (fT : Has P w K mg base 2 "_law_there" ["_law_pot_here", "_law_stand"] spTh) (fE : Has P w K mg base 4 "ended_of" ["pot", "stands"] spEo) (fC : Has P w K mg base 5 "can_come" ["pot", "stands", "goals"] spCc) (fA : Has P w K mg base 3 "_law_all" ["_law_pot_here", "_law_stand", "_law_most"] spAll) (F : Fun K "_law_right" "_law_right" sRi f fd) : FnOk P w K mg base CX0 6 f fd ["_law_feed_here", "_law_pot_here", "_law_stands"] spRi := by
 refine F.ok scRi (fun vs H Q E h => ?_) (fun cdv A outer s H vs Q E hr h => ?_)
 ·obtain ⟨fp, fl, p, sl, ms, n, tg, m, as, S, rfl, _⟩ := h
  rfl
 ·obtain ⟨fp, fl, p, sl, ms, n, tg, m, as, S, rfl, hT, hn, hP, hsl, hR, hm, nd, m0, m8, t8, s40, s0, hbd, hcl, k⟩ := h
  refine' ⟨_, ?hb, ?rd⟩
  case' hb => skip
  case' hb => refine' pss_cons ?g1 ?g2
  case' g2 => refine' pss_cons ?g3 ?g4
  case' g4 => refine' pss_cons ?g5 ?g6
  case' g6 => refine' pss_cons ?g7 ?g8
  case' g8 => refine' pss_cons ?g9 ?g10
  case' g10 => refine' pss_cons ?g11 ?g12
  case' g12 => refine' pss_cons ?g13 ?g14
  case' g14 => refine' pss_cons ?g15 ?g16
  case' g16 => refine' pss_cons ?g17 ?g18
  case' g18 => refine' pss_cons ?g19 ?g20
  case' g20 => refine' pss_cons ?g21 ?g22
  case' g22 => refine' pss_one ?g23
  case g1 => exact ps_setD nmRi 3 (pe_cB (call_repr hr) B.repr PyProof.Rows.boot_repr (pa_1 (pvd nmRi 2)))
  case' g3 => refine' ps_setC (i := 4) (ix := [1]) nmRi.nd rfl loRi_4 bsRia.toCScope rfl rfl ?g24 ?g25 ?g26 ?g27
  case g24 => exact pi_list (pvd nmRi 2)
  case g25 => exact fun _ _ _ _ _ _ => pgb bsRia 0
  case g26 => exact fun _ _ _ _ _ _ => pts_one (pt_cmpR (op_eqD hr) (pe_f fT hr (by decide) (pa_2 (pvb bsRia 1) (pvb bsRia 0)) (bsRia.g 0)) (pe_lst pa_nil) (nomark _))
  case g27 => exact fun _ _ _ _ _ _ => pvb bsRia 0
  case g5 => exact ps_setD nmRi 5 (pe_f fE hr (by decide) (pa_2 (pvd nmRi 1) (pvd nmRi 2)))
  case' g7 => refine' ps_if ?g28 ?g29 pss_nil
  case g28 => exact PW.pt (pw_or (pt_not (pt_val (pe_cB call_isI B.isi PyProof.Rows.boot_isinstance (pa_2 (pvd nmRi 5) (pe_bltn (v := .ty "list") rfl B.list PyProof.Rows.boot_list rfl))))) (pw_or1 (pt_cmpR op_ne (pe_cB (call_repr hr) B.repr PyProof.Rows.boot_repr (pa_1 (pvd nmRi 5))) (pe_cB (call_repr hr) B.repr PyProof.Rows.boot_repr (pa_1 (pvd nmRi 4))) (nomark _))))
  case' g29 => refine' pss_one ?g31
  case g31 => exact ps_ret pe_bl
  case g9 => exact ps_expr (pe_bm PySem.F.plainAttrs_list PySem.F.slot_list_append PySem.F.type_list_append mt_append (pvd nmRi 5) (pa_1 (pe_tup pa_nil)))
  case g11 => exact ps_setD nmRi 6 (pe_op op_add pe_int (pe_f D hr (by decide) (pa_2 (pvd nmRi 0) pe_int)))
  case' g13 => refine' ps_setD nmRi 7 ?g32
  case' g32 => refine' pe_comp (ix := [0, 6]) bsRib.toCScope rfl rfl ?g33 ?g34 ?g35 ?g36
  case g33 => exact pi_list (pvd nmRi 2)
  case g34 => exact fun _ _ _ _ _ _ => pgb bsRib 0
  case g35 => exact fun _ _ _ _ _ _ => pts_one (pt_cmpR op_eq (pe_f D hr (by decide) (pa_2 (pvb bsRib 1) (pvb bsRib 2)) (bsRib.g 0)) pe_int (nomark _))
  case g36 => exact fun _ _ _ _ _ _ => pvb bsRib 0
  case' g15 => refine' ps_if ?g37 ?g38 pss_nil
  case g37 => exact pt_cmpR op_eq (pe_f D hr (by decide) (pa_2 (pvd nmRi 0) pe_int)) pe_int (nomark _)
  case' g38 => refine' pss_one ?g40
  case' g40 => refine' ps_expr ?g41
  case' g41 => refine' pe_bm PySem.F.plainAttrs_list PySem.F.slot_list_append PySem.F.type_list_append mt_append (pvd nmRi 7) ?g42
  case' g42 => refine' pa_1 ?g43
  case' g43 => refine' pe_cT call_tupL B.tuple PyProof.Rows.boot_tuple ?g44
  case' g44 => refine' pa_1 ?g45
  case' g45 => refine' pe_comp (ix := []) bsRic.toCScope rfl rfl ?g46 ?g47 ?g48 ?g49
  case g46 => exact pi_tup (pe_ix ix_d (pvd nmRi 2) pe_int (fun _ _ => rfl))
  case g47 => exact fun _ _ _ _ _ _ => pgb bsRic 0
  case g48 => exact fun _ _ _ _ _ _ => pts_nil
  case g49 => exact fun _ _ _ _ _ _ => pe_op op_add (pvb bsRic 0) pe_int
  case g17 => exact ps_setD nmRi 4 (pe_lst pa_nil)
  case' g19 => refine' ps_for PassesOwn.never rfl ?g50 (pgd nmRi 8) ?g51
  case g50 => exact pi_list (pe_cB call_sortL B.sorted PyProof.Rows.boot_sorted (pa_1 (pvd nmRi 2)))
  case' g51 => refine' pss_cons ?g52 ?g53
  case' g53 => refine' pss_one ?g54
  case' g52 => refine' ps_setC (i := 9) (ix := []) nmRi.nd rfl loRi_9 bsRid.toCScope rfl rfl ?g55 ?g56 ?g57 ?g58
  case g55 => exact pi_list (pe_f fA hr (by decide) (pa_c (pvd nmRi 1) (pa_2 (pvd nmRi 8) pe_int)))
  case g56 =>
   intro _ _ _ _ _ _
   refine' pgb_tup (n := 2) rfl ?g59
   case' g59 => refine' pgs_cons ?g63 ?g62
   case g63 => exact pgb bsRid 0
   case' g62 => refine' pgs_cons ?g65 pgs_nil
   case g65 => exact pgb bsRid 1
  case g57 => exact fun _ _ _ _ _ _ => pts_nil
  case g58 => exact fun _ _ _ _ _ _ => pvb bsRid 0
  case' g54 => refine' ps_if ?g66 ?g67 pss_nil
  case' g66 => refine' pt_cmpR (op_neD hr) ?g69 (pe_lst pa_nil) (nomark _)
  case' g69 => refine' pe_comp (ix := [7]) bsRie.toCScope rfl rfl ?g70 ?g71 ?g72 ?g73
  case g70 => exact pi_list (pvd nmRi 9)
  case g71 => exact fun _ _ _ _ _ _ => pgb bsRie 0
  case g72 => exact fun _ _ _ _ _ _ => pts_one (pt_cmpR (op_inR hr) (pvb bsRie 0) (pvb bsRie 1) (by with_unfolding_all rfl))
  case g73 => exact fun _ _ _ _ _ _ => pvb bsRie 0
  case' g67 => refine' pss_one ?g74
  case g74 => exact ps_expr (pe_bm PySem.F.plainAttrs_list PySem.F.slot_list_append PySem.F.type_list_append mt_append (pvd nmRi 4) (pa_1 (pvd nmRi 8)))
  case' g21 => refine' ps_for PassesOwn.never rfl ?g75 (pgd nmRi 10) ?g76
  case g75 => exact pi_r1 B.range (pa_1 pe_int)
  case' g76 => refine' pss_cons ?g77 ?g78
  case' g78 => refine' pss_cons ?g79 ?g80
  case' g80 => refine' pss_one ?g81
  case g77 => exact ps_setD nmRi 5 (pe_f fC hr (by decide) (pa_c (pvd nmRi 1) (pa_2 (pvd nmRi 2) (pvd nmRi 7))))
  case' g79 => refine' ps_if ?g82 ?g83 pss_nil
  case g82 => exact PW.pt (pw_or (pt_not (pt_val (pe_cB call_isI B.isi PyProof.Rows.boot_isinstance (pa_2 (pvd nmRi 5) (pe_bltn (v := .ty "list") rfl B.list PyProof.Rows.boot_list rfl))))) (pw_or1 (pt_cmpR op_ne (pe_cB (call_repr hr) B.repr PyProof.Rows.boot_repr (pa_1 (pvd nmRi 5))) (pe_cB (call_repr hr) B.repr PyProof.Rows.boot_repr (pa_1 (pvd nmRi 4))) (nomark _))))
  case' g83 => refine' pss_one ?g85
  case g85 => exact ps_ret pe_bl
  case g81 => exact ps_expr (pe_bm PySem.F.plainAttrs_list PySem.F.slot_list_append PySem.F.type_list_append mt_append (pvd nmRi 5) (pa_1 (pe_tup pa_nil)))
  case g23 => exact ps_ret (pe_cmpR op_eq (pe_cB (call_repr hr) B.repr PyProof.Rows.boot_repr (pa_1 (pvd nmRi 2))) (pvd nmRi 3) (nomark _))
  case rd =>
   have hal := hR.len
   have hsh : Shw (.list (dRows S)) 10000 2 := shw_rows (fun r hr => ⟨hm r hr, hbd r hr⟩) m8 (by omega)
   walk_at "v"
   refine w_shw (.lst hsl hR.rd) hsh (by decide) (by decide) ?_
   walk_at "v"
   refine ⟨sl, rfl, ⟨_, SqL.of hsl⟩, fun D1 hD1 => ?_⟩
   refine cgo_list (xs := as.map V.ref) (fun i ys H' => ys = rf (endsZ tg ((as.zip S).take i)) ∧ Same H H') ⟨rfl, Same.new (Same.refl H) hD1⟩ (fun i ys H' _ ⟨_, k'⟩ => SqL.of (k' _ _ hsl)) ?_ ?_
   ·rintro i v ys H1 hv ⟨rfl, K1⟩ hDy R SK kR kS
    obtain ⟨a, ha, rfl⟩ := itR' hv
    obtain ⟨r, hri, hz⟩ := zip_at ha hal
    obtain ⟨r', e1, e2⟩ := hR.at ha
    rw [hri] at e1
    cases e1
    have hi : i < as.length := (List.getElem?_eq_some_iff.mp ha).1
    have hlen : (endsZ tg ((as.zip S).take i)).length ≤ i := Nat.le_trans (List.length_filter_le _ _) (by rw [List.length_take]; omega)
    have tk := endsZ_snoc (tg := tg) hz
    walk_at "v"
    refine ⟨p, a, tg, m, r, rfl, hP.tk (TK.same K1), K1 _ _ e2, hm r (List.mem_of_getElem? hri), m8, t8, fun l2 H2 K2 hl2 el2 => ?_⟩
    walk_at "v"
    refine ⟨by show 0 ≤ sizeLine; decide, fun z hz => ?_⟩
    have K3 : Same H2 (upd H2 z (.lst [])) := Same.new (Same.refl _) hz
    have e3 : upd H2 z (.lst []) z = some (.lst (([] : List Int).map V.int)) := upd_same
    generalize upd H2 z (.lst []) = H3 at K3 e3 ⊢
    refine w_eqL (ns := (thR r tg).map fun (i : Nat) => (i : Int)) (by rw [List.map_map]; exact K3 _ _ el2) e3 ?_
    rw [thE]
    walk_at "v"
    have K23 := K2.trans K3
    cases hb : (thR r tg).isEmpty with
    | true =>
     rw [hb, if_pos rfl] at tk
     refine iteT ?_
     walk_at "v"
     exact kR _ _ (K23 _ _ hDy) (by rw [List.length_map]; exact small1000 (by omega)) ⟨by rw [tk]; unfold rf; rw [List.map_append]; rfl, (K1.trans K23).put hD1⟩
    | false =>
     rw [hb, if_neg (by decide), List.append_nil] at tk
     refine iteF ?_
     exact kS _ (K23 _ _ hDy) ⟨by rw [tk], K1.trans K23⟩
   rintro ys H1 ⟨rfl, K1⟩ e1
   rw [List.length_map, List.take_of_length_le (by rw [List.length_zip]; omega)] at e1
   have hE : ∀ x ∈ endsZ tg (as.zip S), x.2 ∈ S := fun x hx => by
    rw [← zip_snd hal]
    exact List.mem_map.mpr ⟨x, endsZ_sub hx, rfl⟩
   have hEl : (endsZ tg (as.zip S)).length ≤ 40 := Nat.le_trans (List.length_filter_le _ _) (by rw [List.length_zip]; omega)
   have hEs : Shw (.list (dRows (rw' (endsZ tg (as.zip S))))) 10000 2 := shw_rows (fun r hr => by
    obtain ⟨x, hx, rfl⟩ := List.mem_map.mp hr
    exact ⟨hm _ (hE x hx), hbd _ (hE x hx)⟩) m8 (by rw [List.length_map]; omega)
   have hEP : PA H (endsZ tg (as.zip S)) := fun x hx => PA.zip hR x (endsZ_sub hx)
   walk_at "v"
   refine ⟨p, sl, tg, m, as, S, rfl, hP.tk (TK.same K1), K1 _ _ hsl, hR.tkz (TK.same K1), hm, m8, t8, by omega, fun D2 H2 K2 hD2 e2 => ?_⟩
   have K12 := K1.trans K2
   walk_at "v"
   refine ⟨_, "list", _, true, rfl, .lst e2, kit_ll _, ?_⟩
   walk_at "v"
   refine iteF ?_
   walk_at "v"
   refine w_shw (.lst e2 (hEP.tk (TK.same K12)).rd) hEs (by decide) (by decide) ?_
   walk_at "v"
   refine w_shw (.lst (K2 _ _ e1) (hEP.tk (TK.same K12)).rd) hEs (by decide) (by decide) ?_
   walk_at "v"
   refine ⟨rfl, ?_⟩
   walk_at "v"
   refine iteNS rfl ?_
   walk_at "v"
   refine ⟨.inl ⟨rfl, _, SqL.of e2⟩, ?_⟩
   walk_at "v"
   refine ⟨by show 0 ≤ sizeLine; decide, fun z hz => ?_⟩
   have K3 : Same H2 (upd H2 z (.tup [])) := Same.new (Same.refl _) hz
   generalize upd H2 z (.tup []) = H3 at K3 ⊢
   refine ⟨D2, _, _, rfl, rfl, K3 _ _ e2, by rw [List.length_map]; exact small1000 (by omega), ?_⟩
   have K4 : Same H (upd H3 D2 (.lst (rf (endsZ tg (as.zip S)) ++ [V.ref z]))) := (K12.trans K3).put (Same.free K1 hD2)
   generalize upd H3 D2 (.lst (rf (endsZ tg (as.zip S)) ++ [V.ref z])) = H4 at K4 ⊢
   clear hD2 e2 hz K3 K12 K2 e1 K1
   have T4 := hT.same K4
   have hsl4 := K4 _ _ hsl
   have TK4 := TK.same K4
   walk_at "v"
   refine ⟨fp, fl, ms, _, 6, rfl, T4, by omega, by decide, by decide, fun r c e f r0 r1 f0 f1 => ?_⟩
   have T5 := T4.draw (n' := n + 1) (c := c) (e := e) (f := f) f0 f1
   have TK5 := TK4.trans (T4.tk (o := .lst [.ref fl, .int c, .int e, .int f]))
   have hsl5 : upd H4 fp (.lst [.ref fl, .int c, .int e, .int f]) sl = some (.lst (as.map V.ref)) := by rw [upd_ne (T4.ns hsl4)]; exact hsl4
   generalize upd H4 fp (.lst [.ref fl, .int c, .int e, .int f]) = H5 at T5 TK5 hsl5 ⊢
   walk_at "v"
   obtain ⟨few, hfew, few0, few1⟩ : ∃ few : Int, 1 + r = few ∧ 0 < few ∧ few < 1000 := ⟨1 + r, rfl, by omega, by omega⟩
   rw [hfew]
   refine ⟨sl, rfl, ⟨_, SqL.of hsl5⟩, fun gl hgl0 => ?_⟩
   have npg := T5.np hgl0
   have nlg := T5.nl hgl0
   have nsg : sl ≠ gl := ne_of_none hsl5 hgl0
   have hR5 := hR.tkz TK5
   refine cgo_list (xs := as.map V.ref) (fun i ys H' => ∃ zs : Pr, ys = rf zs ∧ zs.length ≤ i ∧ (∀ x ∈ zs, x ∈ as.zip S) ∧ i ≤ as.length ∧ Tq H' fp fl ms (n + 1 + i) ∧ Bp fp H5 H') ⟨[], rfl, Nat.le_refl _, (fun x hx => by cases hx), Nat.zero_le _, T5.new hgl0, Bp.refl.new hgl0⟩ (fun i ys H' _ ⟨_, _, _, _, _, _, b'⟩ => SqL.of (b' _ _ (T5.ns hsl5) hsl5)) ?_ ?_
   ·rintro i v ys H6 hv ⟨zs, rfl, hzl, hzs, hia, T6, b6⟩ hDy R SK kR kS
    obtain ⟨a, ha, rfl⟩ := itR' hv
    obtain ⟨r, hri, hz⟩ := zip_at ha hal
    have hi : i < as.length := (List.getElem?_eq_some_iff.mp ha).1
    walk_at "v"
    refine ⟨fp, fl, ms, _, few, rfl, T6, by omega, few0, by omega, fun r' c e f r0 r1 f0 f1 => ?_⟩
    have hD' : upd H6 fp (.lst [.ref fl, .int c, .int e, .int f]) gl = some (.lst (rf zs)) := by rw [upd_ne (Ne.symm npg)]; exact hDy
    have T7 := T6.draw (n' := n + 1 + (i + 1)) (c := c) (e := e) (f := f) f0 (by omega)
    have b7 : Bp fp H5 (upd H6 fp (.lst [.ref fl, .int c, .int e, .int f])) := b6.at
    generalize upd H6 fp (.lst [.ref fl, .int c, .int e, .int f]) = H7 at hD' T7 b7 ⊢
    walk_at "v"
    refine ⟨rfl, ?_⟩
    walk_at "v"
    refine iteD (fun _ => ?_) (fun _ => ?_)
    ·walk_at "v"
     refine kR _ _ hD' (by rw [List.length_map]; exact small1000 (by omega)) ⟨zs ++ [(a, r)], by unfold rf; rw [List.map_append]; rfl, by rw [List.length_append]; exact Nat.add_le_add_right hzl 1, fun x hx => ?_, by omega, T7.put npg nlg, b7.put hgl0⟩
     rcases List.mem_append.mp hx with z | z
     ·exact hzs x z
     ·rw [List.mem_singleton.mp z]
      exact List.mem_of_getElem? hz
    ·exact kS _ hD' ⟨zs, rfl, by omega, hzs, by omega, T7, b7⟩
   rintro ys H6 ⟨zs, rfl, hzl, hzs, _, T6, b6⟩ hgl
   rw [List.length_map] at hzl T6
   have TK6 := TK5.trans (T5.tkb b6)
   have hsl6 := b6 _ _ (T5.ns hsl5) hsl5
   have hzP : PA H6 zs := fun x hx => PA.zip (hR.tkz TK6) x (hzs x hx)
   have hzm : ∀ x ∈ zs, x.2.length = m := fun x hx => hm _ (by
    rw [← zip_snd hal]
    exact List.mem_map.mpr ⟨x, hzs x hx, rfl⟩)
   clear hzs b6 hgl0 hR5 hsl5 TK5 T5 T4 hsl4 TK4 K4
   refine w_gname ?_
   with_reducible refine seq_post (fun σ' H' => ∃ zs : Pr, σ' = [some (.ref fp), some (.ref p), some (.ref sl), some (.str (PyData.list (dRows S)).shown), some (.ref D1), some (.ref D2), some (.int few), some (.ref gl), none, none, none] ∧ Tq H' fp fl ms (n + 50) ∧ TK H H' ∧ H' sl = some (.lst (as.map V.ref)) ∧ H' gl = some (.lst (rf zs)) ∧ PA H' zs ∧ (∀ x ∈ zs, x.2.length = m) ∧ zs.length ≤ 41) ?_ fun rest => ?_
   ·rintro σ' H1 ⟨zs, rfl, T1, TK1, hsl1, hgl, hzP, hzm, hz41⟩
    have hP1 := hP.tk TK1
    have hR1 := hR.tkz TK1
    rw [rf_eq] at hgl
    have hGm : ∀ r ∈ rw' zs, r.length = m := fun r hr => by
     obtain ⟨x, hx, rfl⟩ := List.mem_map.mp hr
     exact hzm x hx
    walk_at "v"
    refine ⟨by show 0 ≤ sizeLine; decide, fun D4 hD4 => ?_⟩
    obtain ⟨H2, q, K2, e4⟩ := nob (.lst []) hD4; rw [q]; clear q
    walk_at "v"
    refine ⟨sl, as, S, m, rfl, K2 _ _ hsl1, hR1.tkz (TK.same K2), m0, hm, nd, by omega, fun D3 as' ks hD3 hR3 hperm hpw => ?_⟩
    obtain ⟨H3, q, K3, e3⟩ := nob (.lst (as'.map V.ref)) hD3; rw [q]; clear q
    have n34 : D3 ≠ D4 := fun z => by rw [z, e4] at hD3; cases hD3
    have K13 := K2.trans K3
    have hal3 := hR3.len
    have hkl : ks.length = S.length := hperm.length_eq
    refine ⟨D3, rfl, ⟨_, SqL.of e3⟩, ?_⟩
    refine for_list (xs := as'.map V.ref) (fun j σ H' => ∃ u8 u9 : Option V, σ = [some (.ref fp), some (.ref p), some (.ref sl), some (.str (PyData.list (dRows S)).shown), some (.ref D4), some (.ref D2), some (.int few), some (.ref gl), u8, u9, none] ∧ Bp D4 H3 H' ∧ H' D4 = some (.lst (rf (hitZ tg (rw' zs) ((as'.zip ks).take j))))) ⟨none, none, rfl, Bp.refl, K3 _ _ e4⟩ (fun j σ H' _ ⟨_, _, _, b', _⟩ => SqL.of (b' _ _ n34 e3)) ?_ ?_
    ·rintro j v σ H4 hv ⟨u8, u9, rfl, b4, hd4⟩
     obtain ⟨a, ha, rfl⟩ := itR' hv
     obtain ⟨r, hri, hz⟩ := zip_at ha hal3
     obtain ⟨r', e1, e2⟩ := hR3.at ha
     rw [hri] at e1
     cases e1
     have hj : j < as'.length := (List.getElem?_eq_some_iff.mp ha).1
     have hrS : r ∈ S := hperm.mem_iff.mp (List.mem_of_getElem? hri)
     have K14 := Bp.sm K13 b4 hD4
     have hlen : (hitZ tg (rw' zs) ((as'.zip ks).take j)).length ≤ j := Nat.le_trans (List.length_filter_le _ _) (by rw [List.length_take]; omega)
     have ea4 : H4 a = some (.tup (r.map V.int)) := b4 _ _ (ne_of e2 e4 (by intro z; cases z)) (K3 _ _ e2)
     walk_at "v"
     refine ⟨p, a, tg, m, 60, r, rfl, hP1.tk (TK.same K14), ea4, hm r hrS, m8, t8, (fun y hy => by have := hbd r hrS y hy; omega), by decide, by decide, fun hno => ?_, fun xs z ps H5 hrun K5 hz' hpl hps hE hxm hx1 => ?_⟩
     ·obtain ⟨es, he⟩ := run_some (mo := 60) hcl (by omega) hrS
      exact absurd (hno.symm.trans he) (by intro z; cases z)
     refine ⟨z, rfl, ⟨_, SqL.of hz'⟩, fun D5 hD5 => ?_⟩
     refine prs_mapL (ρ := []) (fun x => .ref x.f) (fun x => .ref x.o) (fun x => .ref x.f) hz' hpl (by omega) hps (fun i x H' hx K' R kR => ?_) (fun H6 K6 e6 => ?_) hD5
     ·walk_at "v"
      exact kR _ (Same.refl _)
     have K46 := K5.trans K6
     have K16 := K14.trans K46
     walk_at "v"
     refine ⟨D5, rfl, ⟨_, SqL.of e6⟩, fun D6 hD6 => ?_⟩
     refine cgo_list (xs := xs.map fun x => V.ref x.f) (ρ := [some (.ref gl)]) (fun i ys H' => ys = ((xs.take i).filter (fun x => decide (x.st ∈ rw' zs))).map (fun x => V.ref x.f) ∧ Same H6 H') ⟨rfl, Same.new (Same.refl H6) hD6⟩ (fun i ys H' _ ⟨_, k'⟩ => SqL.of (k' _ _ e6)) ?_ ?_
     ·rintro i v ys H7 hv ⟨rfl, K7⟩ hDy R SK kR kS
      have hi : i < xs.length := by
       have := (List.getElem?_eq_some_iff.mp hv).1
       simpa using this
      obtain ⟨x, hxi⟩ : ∃ x, xs[i]? = some x := ⟨xs[i], by simp [hi]⟩
      have ev : v = .ref x.f := by
       rw [List.getElem?_map, hxi] at hv
       exact (Option.some.inj hv).symm
      subst ev
      have K17 := K16.trans K7
      have hf7 := K7 _ _ (K6 _ _ (hE i x hxi).hf)
      have tk := fil_snoc (q := fun x : En => decide (x.st ∈ rw' zs)) hxi
      walk_at "v"
      refine ⟨x.f, gl, zs.map (·.1), rw' zs, x.st, rfl, rfl, K17 _ _ hgl, (hzP.tk (TK.same K17)).rows, hf7, ?_⟩
      walk_at "v"
      refine iteD (fun hin => ?_) (fun hnot => ?_)
      ·rw [if_pos (decide_eq_true hin)] at tk
       walk_at "v"
       refine kR _ _ hDy (by rw [List.length_map]; exact small1000 (Nat.le_trans (List.length_filter_le _ _) (by rw [List.length_take]; omega))) ⟨by rw [tk, List.map_append]; rfl, K7.put hD6⟩
      ·rw [if_neg (by rw [decide_eq_false hnot]; decide), List.append_nil] at tk
       exact kS _ hDy ⟨by rw [tk], K7⟩
     rintro ys H7 ⟨rfl, K7⟩ e7
     rw [List.length_map, List.take_of_length_le (Nat.le_refl _)] at e7
     walk_at "v"
     refine ⟨by show 0 ≤ sizeLine; decide, fun z8 hz8 => ?_⟩
     obtain ⟨H8, q, K8, e8⟩ := nob (.lst []) hz8; rw [q]; clear q
     have K48 := K46.trans (K7.trans K8)
     obtain ⟨ds, h1, h2, h3⟩ := stands_rd (H := H8) (ts := (xs.filter fun x => decide (x.st ∈ rw' zs)).map En.f) fun t ht => by
      obtain ⟨x, hx, rfl⟩ := List.mem_map.mp ht
      obtain ⟨i, hi, rfl⟩ := List.getElem_of_mem (List.mem_filter.mp hx).1
      exact ⟨_, K8 _ _ (K7 _ _ (K6 _ _ (hE i _ (List.getElem?_eq_getElem hi)).hf))⟩
     refine w_neR (ts := (xs.filter fun x => decide (x.st ∈ rw' zs)).map En.f) (by rw [List.map_map]; exact K8 _ _ e7) h1 h2 h3 e8 ?_
     walk_at "v"
     have b8 : Bp D4 H3 H8 := b4.trans (Bp.same K48)
     have hd8 := K48 _ _ hd4
     have tkz : (as'.zip ks).take (j + 1) = (as'.zip ks).take j ++ [(a, r)] := by rw [List.take_add_one, hz]; rfl
     refine iteDN (fun hne => ?_) (fun he => ?_)
     ·have hhit : ∃ g ∈ rw' zs, Rch tg r g := Classical.not_not.mp fun hc => hne ((hit_iff hrun).mpr hc)
      walk_at "v"
      refine ⟨.inl ⟨rfl, _, SqL.of hd8⟩, ?_⟩
      walk_at "v"
      refine ⟨D4, _, _, rfl, rfl, hd8, by rw [List.length_map]; exact small1000 (by omega), ?_⟩
      refine ⟨_, _, rfl, b8.at, ?_⟩
      rw [upd_same, tkz, hitZ_snoc (x := (a, r)) hhit]
      unfold rf
      rw [List.map_append]
      rfl
     ·have hno := (hit_iff hrun).mp he
      walk_at "v"
      refine ⟨_, _, rfl, b8, ?_⟩
      rw [tkz, hitZ_no (x := (a, r)) hno]
      exact hd8
    ·rintro σ H4 ⟨u8, u9, rfl, b4, hd4⟩
     rw [List.length_map, List.take_of_length_le (by rw [List.length_zip]; omega)] at hd4
     have K14 := Bp.sm K13 b4 hD4
     obtain ⟨hs1, hs2⟩ := hitZ_sorted (tg := tg) (G := rw' zs) hal3 hperm hpw hcl
     have hdl : (hitZ tg (rw' zs) (as'.zip ks)).length ≤ 40 := Nat.le_trans (List.length_filter_le _ _) (by rw [List.length_zip]; omega)
     have hdP : PA H4 (hitZ tg (rw' zs) (as'.zip ks)) := fun x hx => by
      have h2 := PA.zip hR3 x (hitZ_mem.mp hx).1
      exact b4 _ _ (ne_of h2 e4 (by intro z; cases z)) (K3 _ _ h2)
     generalize hitZ tg (rw' zs) (as'.zip ks) = dz at hd4 hs1 hs2 hdl hdP
     have hds : Shw (.list (dRows (rw' dz))) 10000 2 := shw_rows (fun r hr => by
      have := ((hs2 r).mp hr).1
      exact ⟨hm _ this, hbd _ this⟩) m8 (by rw [List.length_map]; omega)
     walk_at "v"
     refine ⟨2, rfl, by decide, by decide, ?_⟩
     refine for_range (n := 2) (fun i σ H' => ∃ u5 u10 : Option V, σ = [some (.ref fp), some (.ref p), some (.ref sl), some (.str (PyData.list (dRows S)).shown), some (.ref D4), u5, some (.int few), some (.ref gl), u8, u9, u10] ∧ Same H4 H') ⟨_, _, rfl, Same.refl _⟩ ?_ ?_
     ·rintro i σ H5 hi ⟨u5, u10, rfl, K5⟩
      have K15 := K14.trans K5
      walk_at "v"
      refine ⟨p, sl, gl, tg, m, as, S, zs.map (·.1), rw' zs, rfl, hP1.tk (TK.same K15), K15 _ _ hsl1, hR1.tkz (TK.same K15), hm, nd, m0, m8, t8, by omega, K15 _ _ hgl, (hzP.tk (TK.same K15)).rows, hGm, by rw [List.length_map]; omega, hcl, fun D7 as7 ks7 H6 K6 hD7 e7 hR7 hpw7 hmem7 h60 => ?_⟩
      have hk7 : ks7 = rw' dz := sorted_uniq hpw7 hs1 fun x => (hmem7 x).trans (hs2 x).symm
      subst hk7
      have hal7 := hR7.len
      rw [List.length_map] at hal7
      walk_at "v"
      refine ⟨_, "list", _, true, rfl, .lst e7, kit_ll _, ?_⟩
      walk_at "v"
      refine iteF ?_
      walk_at "v"
      refine w_shw (.lst e7 hR7.rd) hds (by decide) (by decide) ?_
      walk_at "v"
      refine w_shw (.lst (K6 _ _ (K5 _ _ hd4)) (hdP.tk (TK.same (K5.trans K6))).rd) hds (by decide) (by decide) ?_
      walk_at "v"
      refine ⟨rfl, ?_⟩
      walk_at "v"
      refine iteNS rfl ?_
      walk_at "v"
      refine ⟨.inl ⟨rfl, _, SqL.of e7⟩, ?_⟩
      walk_at "v"
      refine ⟨by show 0 ≤ sizeLine; decide, fun z hz => ?_⟩
      have K7 : Same H6 (upd H6 z (.tup [])) := Same.new (Same.refl _) hz
      generalize upd H6 z (.tup []) = H7 at K7 ⊢
      refine ⟨D7, _, _, rfl, rfl, K7 _ _ e7, by rw [List.length_map]; exact small1000 (by omega), ?_⟩
      exact ⟨_, _, rfl, ((K5.trans K6).trans K7).put (Same.free K5 hD7)⟩
     ·rintro σ H5 ⟨u5, u10, rfl, K5⟩
      have K15 := K14.trans K5
      walk_at "v"
      refine w_shw (.lst (K15 _ _ hsl1) (hR1.tkz (TK.same K15)).rd) hsh (by decide) (by decide) ?_
      walk_at "v"
      refine ⟨rfl, ?_⟩
      rw [decide_eq_true rfl]
      exact k _ (T1.same K15)
   ·walk_at "v"
    refine ⟨fp, fl, ms, _, 3, rfl, T6, by omega, by decide, by decide, fun r c e f r0 r1 f0 f1 => ?_⟩
    have hgl7 : upd H6 fp (.lst [.ref fl, .int c, .int e, .int f]) gl = some (.lst (rf zs)) := by rw [upd_ne (Ne.symm npg)]; exact hgl
    have hsl7 : upd H6 fp (.lst [.ref fl, .int c, .int e, .int f]) sl = some (.lst (as.map V.ref)) := by rw [upd_ne (T6.ns hsl6)]; exact hsl6
    have T7 := T6.draw (n' := n + 50) (c := c) (e := e) (f := f) f0 (by omega)
    have TKd := T6.tk (o := .lst [.ref fl, .int c, .int e, .int f])
    generalize upd H6 fp (.lst [.ref fl, .int c, .int e, .int f]) = H7 at hgl7 hsl7 T7 TKd ⊢
    have TK7 := TK6.trans TKd
    have hzP7 := hzP.tk TKd
    walk_at "v"
    refine ⟨rfl, ?_⟩
    walk_at "v"
    refine iteD (fun _ => ?_) (fun _ => ?_)
    ·obtain ⟨a0, ha0⟩ : ∃ a0, as[0]? = some a0 := ⟨as[0], by simp⟩
     obtain ⟨r0', hr0, e0⟩ := (hR.tkz TK7).at ha0
     have hr0m := hm r0' (List.mem_of_getElem? hr0)
     walk_at "v"
     refine ⟨.inl ⟨rfl, _, SqL.of hgl7⟩, ?_⟩
     walk_at "v"
     refine w_ixL hsl7 (v := .ref a0) (atI_nat (j := 0) (by rw [List.getElem?_map, ha0]; rfl)) ?_
     refine ⟨a0, rfl, ⟨_, SqT.of e0⟩, fun D' hD' => ?_⟩
     refine tup_map (ρ := []) (fun x => x + 40) e0 (by omega) (fun i x H' hx K' R kR => ?_) (fun H8 K8 e8 => ?_) hD'
     ·walk_at "v"
      exact kR _ (Same.refl _)
     walk_at "v"
     refine ⟨D', _, rfl, e8, fun q H9 K9 e9 => ?_⟩
     have K79 := K8.trans K9
     refine ⟨gl, _, _, rfl, rfl, K79 _ _ hgl7, by rw [List.length_map]; exact small1000 (by omega), ?_⟩
     have T9 := T7.same K79
     have hgl9 := K79 _ _ hgl7
     have tkg : TK H9 (upd H9 gl (.lst (rf zs ++ [V.ref q]))) := TK.lst hgl9
     refine rest _ _ ⟨zs ++ [(q, r0'.map fun x => x + 40)], rfl, T9.put npg nlg, (TK7.trans (TK.same K79)).trans tkg, ?_, ?_, ?_, ?_, ?_⟩
     ·rw [upd_ne nsg]
      exact K79 _ _ hsl7
     ·rw [upd_same]
      unfold rf
      rw [List.map_append]
      rfl
     ·intro x hx
      rcases List.mem_append.mp hx with z | z
      ·exact tkg.t _ _ (K79 _ _ (hzP7 x z))
      ·rw [List.mem_singleton.mp z]
       exact tkg.t _ _ e9
     ·intro x hx
      rcases List.mem_append.mp hx with z | z
      ·exact hzm x z
      ·rw [List.mem_singleton.mp z]
       simp [hr0m]
     ·rw [List.length_append]
      show zs.length + 1 ≤ 41
      omega
    ·exact rest _ _ ⟨zs, rfl, T7, TK7, hsl7, hgl7, hzP7, hzm, by omega⟩
end
end K41
namespace L2
open PySem PySem.Spec PyProof.Rows Builtin Builtin.Str
section
variable {X : Cx}
def isT (b : Str) : Value → Bool
 | .str a _ => decide (a = b)
 | _ => false
end
section
variable {X : Cx} {tg : Expr}
end
end L2
namespace L2
open PySem PySem.Spec PyProof.Rows
section
variable {X : Cx} {e st : Expr} {te ts : TE} {pos p2 : Pos}
end
section
variable {D : Addr} {te : TE} {Q : VK} {ρ : St} {H : Hp}
end
end L2
namespace EL
open PySem L2
theorem w_while {c : TT} {tb : TS} {D : Ends} {σ : St} {H : Hp} (h : ∃ W : Nat → St → Hp → Prop, (∃ m, W m σ H) ∧ ∀ m σ H, W m σ H → c σ H fun b H1 => if b = true then ∃ N : St → Hp → Prop, (∀ σ' H', N σ' H' → ∃ m', m' < m ∧ W m' σ' H') ∧ tb { D with nx := N, ct := N, bk := D.nx } σ H1 else D.nx σ H1) : tWhile c tb D σ H := h
theorem cut_to {xs : List V} {k : Nat} (h : k ≤ xs.length) : cutV xs none (some (k : Int)) = xs.take k := by
 unfold cutV
 rw [HT.sIx_none, HT.sIx_nat, List.drop_zero, Nat.sub_zero, Nat.min_eq_left h]
theorem cut_from {xs : List V} {k : Nat} (h : k ≤ xs.length) : cutV xs (some (k : Int)) none = xs.drop k := by
 unfold cutV
 rw [HT.sIx_none, HT.sIx_nat, Nat.min_eq_left h]
 exact List.take_of_length_le (by rw [List.length_drop]; exact Nat.le_refl _)
end EL
namespace K41
open PySem L2 G2
local macro_rules | `(tactic| walk_at "v") => `(tactic| repeat (with_reducible first
  | refine w_seq ?_ | refine w_asg ?_ | refine w_gname ?_ | refine w_op ?_ | refine w_var rfl ?_ | refine w_c ?_ | refine w_rI0 ?_ | refine w_ifs ?_ | refine w_ife ?_ | refine w_test ?_ | refine w_tb ?_ | refine w_bl ?_ | refine w_not ?_ | refine w_ret ?_ | refine w_retN ?_
  | refine w_nil ?_ | refine w_cons ?_ | refine w_lst ?_ | refine w_tup ?_ | refine w_cb ?_ | refine w_call ?_ | refine w_gsub ?_ | refine w_and ?_ | refine w_or ?_ | refine w_next ?_ | refine w_all ?_ | refine w_vals ?_ | refine w_compR ?_ | refine w_compT ?_ | refine w_forR ?_ | refine w_forT ?_ | refine w_forL ?_ | refine w_drop ?_ | refine w_bm ?_ | refine w_compZ ?_ | refine w_compL ?_ | refine w_chain ?_ | refine w_sl ?_ | refine w_nopart ?_ | refine w_part ?_ | refine w_unI ?_ | refine iteT ?_ | refine iteF ?_))
theorem w_notN {ta : TE} {σ : St} {H : Hp} {Q : VK} (h : ta σ H fun x H1 => Q (.bl (!decide (x = .non))) H1) : tNotN ta σ H Q := h
def spLaw (K : PySem.W.Frag) : Sp := fun vs H Q _ => ∃ (a : Addr) (ns : List Int), vs = [.ref a] ∧ SqF K H a (ns.map V.int) ∧ ns.length ≤ 63 ∧ ∀ H', Q (.bl true) H'
theorem draws_of {D : Addr} {te : TE} {Q : VK} {ρ : St} {H : Hp} {K : PySem.W.Frag} {a p l : Addr} {ms : List Int} {vs : List V} {n : Nat} {b : Nat → Int → Prop} (ha : H a = some (.tup vs)) (hv : vs.length ≤ 8) (T : Tq H p l ms n) (hD : H D = none)
  (step : ∀ (i : Nat) (v : V) (H' : Hp), vs[i]? = some v → Tq H' p l ms (n + i) → Bp p H H' → ∀ R : V → Hp → Prop, (∀ (y c e f : Int), b i y → 0 ≤ f → f ≤ ((n + i + 1 : Nat) : Int) → R (.int y) (upd H' p (.lst [.ref l, .int c, .int e, .int f]))) → te (some v :: ρ) H' R)
  (q : ∀ H' (as : List Int), Bp p H H' → Tq H' p l ms (n + 8) → H' D = some (.lst (as.map V.int)) → as.length = vs.length → (∀ (i : Nat) (y : Int), as[i]? = some y → b i y) → Q (.ref D) H') : CGo (Itt K a) D (gName 0) tAll te Q (none :: ρ) H := by
 have npD := T.np hD
 have nlD := T.nl hD
 refine cgo_tup (xs := vs) (ρ := ρ) (fun i zs H' => ∃ as : List Int, zs = as.map V.int ∧ as.length = i ∧ (∀ (j : Nat) (y : Int), as[j]? = some y → b j y) ∧ Tq H' p l ms (n + i) ∧ Bp p H H' ∧ i ≤ vs.length) ⟨[], rfl, rfl, (fun j y h => by simp at h), T.new hD, Bp.refl.new hD, Nat.zero_le _⟩ (fun i zs H' _ ⟨_, _, _, _, _, bp, _⟩ => SqT.of (bp _ _ (by obtain ⟨_, _, _, e, _⟩ := T.ex; exact ne_of ha e (by intro z; cases z)) ha)) ?_ ?_
 ·rintro i v zs H' hv' ⟨as, rfl, hal, hab, T', bp, hi⟩ hDz R S kR _
  have hi' : i < vs.length := (List.getElem?_eq_some_iff.mp hv').1
  refine w_all ?_
  refine iteT ?_
  refine step i v H' hv' T' bp R fun y c e f hy f0 f1 => ?_
  have hD' : upd H' p (.lst [.ref l, .int c, .int e, .int f]) D = some (.lst (as.map V.int)) := by rw [upd_ne (Ne.symm npD)]; exact hDz
  refine kR _ _ hD' (by rw [List.length_map]; exact small1000 (by omega)) ⟨as ++ [y], by rw [List.map_append]; rfl, by simp [hal], fun j x hj => ?_, (T'.draw (n' := n + (i + 1)) f0 (by omega)).put npD nlD, (Bp.at bp).put hD, by omega⟩
  rcases Nat.lt_or_ge j as.length with h | h
  ·rw [List.getElem?_append_left h] at hj
   exact hab j x hj
  ·rw [List.getElem?_append_right h] at hj
   have h0 : j - as.length = 0 := by
    rcases Nat.eq_zero_or_pos (j - as.length) with z | z
    ·exact z
    ·rw [List.getElem?_eq_none (by simp; omega)] at hj
     cases hj
   rw [h0] at hj
   have hxy : y = x := by simpa using hj
   subst hxy
   have hji : j = i := by omega
   rw [hji]
   exact hy
 ·rintro zs H' ⟨as, rfl, hal, hab, T', bp, hi⟩ hDz
  exact q H' as bp (T'.up (by omega)) hDz hal hab
theorem rows_drop {H : Hp} : ∀ {as : List Addr} {S : List (List Int)} (k : Nat), RowsAt H as S → RowsAt H (as.drop k) (S.drop k)
 | as, S, 0, h => by simpa using h
 | [], [], k + 1, _ => trivial
 | [], _ :: _, _ + 1, h => h.elim
 | _ :: _, [], _ + 1, h => h.elim
 | _ :: as, _ :: S, k + 1, h => by simpa using rows_drop (as := as) (S := S) k h.2
theorem rows_take {H : Hp} : ∀ {as : List Addr} {S : List (List Int)} (k : Nat), RowsAt H as S → RowsAt H (as.take k) (S.take k)
 | _, _, 0, _ => trivial
 | [], [], k + 1, _ => trivial
 | [], _ :: _, _ + 1, h => h.elim
 | _ :: _, [], _ + 1, h => h.elim
 | _ :: as, _ :: S, k + 1, h => ⟨h.1, rows_take (as := as) (S := S) k h.2⟩
theorem rows_en {H : Hp} {m : Nat} : ∀ {xs : List En}, (∀ x ∈ xs, H x.f = some (.tup (x.st.map V.int))) → RowsAt H (xs.map En.f) (xs.map En.st)
 | [], _ => trivial
 | x :: xs, h => ⟨h x List.mem_cons_self, rows_en (m := m) fun y hy => h y (List.mem_cons_of_mem _ hy)⟩
theorem turn_perm (S : List (List Int)) (k : Nat) : (S.drop k ++ S.take k).Perm S := by
 have h := List.perm_append_comm (l₁ := S.drop k) (l₂ := S.take k)
 rwa [List.take_append_drop] at h
abbrev sLaw : Stmt := top 34
abbrev nLaw : List Str := ["_law_script", "_law_feed_here", "_law_k", "_law_pot_here", "_law_told", "_law_stands", "_law_at"]
theorem nmLaw : Nm nLaw (defScope sLaw) := ⟨by decide +kernel, by decide +kernel⟩
theorem scLaw : FnScope nLaw ["_law_script"] (defScope sLaw) := ⟨rfl, rfl, rfl, by decide +kernel, rfl, by decide +kernel, by decide +kernel⟩
def qLawa (s : Stmt) : Scope := match s with
 | .For _ _ [_, (.Assign _ (.Call _ [_, (.Call _ [_, (.ListComp _ _ sc _)] _ _), _] _ _) _), _] _ _ => sc
 | _ => { kind := .function, names := [], isGenerator := false, isCoroutine := false }
abbrev cLawa : Scope := qLawa ((defBody sLaw).getD 1 (.Pass ⟨0, 0, 0, 0⟩))
theorem bsLawa : BScope (defScope sLaw) cLawa ["_law_sort"] ["_law_feed_here"] ["_law_draw"] := { okind := by decide +kernel, kind := by decide +kernel, nocell := by decide +kernel, names := by decide +kernel, fr := by decide +kernel, ff := by decide +kernel, nd := by decide +kernel, vis := by decide +kernel, loc := by decide +kernel, gl := by decide +kernel }
def qLawb (s : Stmt) : Scope := match s with
 | .For _ _ [_, _, (.If _ [(.Assign _ (.ListComp _ _ sc _) _), _, _] _ _)] _ _ => sc
 | _ => { kind := .function, names := [], isGenerator := false, isCoroutine := false }
abbrev cLawb : Scope := qLawb ((defBody sLaw).getD 1 (.Pass ⟨0, 0, 0, 0⟩))
theorem bsLawb : BScope (defScope sLaw) cLawb ["_law_one", "_law_order"] [] [] := { okind := by decide +kernel, kind := by decide +kernel, nocell := by decide +kernel, names := by decide +kernel, fr := by decide +kernel, ff := by decide +kernel, nd := by decide +kernel, vis := by decide +kernel, loc := by decide +kernel, gl := by decide +kernel }
theorem loLaw_5 : (defScope sLaw).names.lookup ("_law_stands" : Str) = some .local := by decide +kernel
section
variable {P : Program} {w : World} {K : PySem.W.Frag} {mg : Str → Option Value} {base : Heap}
set_option maxHeartbeats 4000000 in
theorem ok_Law {f : Addr} {fd : FuncData} (B : Bl mg) (fF : Has P w K mg base 1 "_law_feed" ["_law_script"] (spFeed K)) (D : Has P w K mg base 1 "_law_draw" ["_law_feed_here", "_law_many"] spDraw) (fP : Has P w K mg base 5 "_law_pot" ["_law_feed_here"] spPo) (fB : Has P w K mg base 1 "_law_begin" ["_law_pot_here", "_law_amounts"] spBeg) (fA : Has P w K mg base 3 "_law_all" ["_law_pot_here", "_law_stand", "_law_most"] spAll) (fR : Has P w K mg base 6 "_law_right" ["_law_feed_here", "_law_pot_here", "_law_stands"] spRi) (F : Fun K "law" "law" sLaw f fd) : FnOk P w K mg base CX0 7 f fd ["_law_script"] (spLaw K) := by
 refine F.ok scLaw (fun vs H Q E h => ?_) (fun cdv A outer s H vs Q E hr h => ?_)
 ·obtain ⟨a, ns, rfl, _⟩ := h
  rfl
 ·obtain ⟨a, ns, rfl, hS, hl, k⟩ := h
  refine' ⟨_, ?hb, ?rd⟩
  case' hb => skip
  case' hb => refine' pss_cons ?g1 ?g2
  case' g2 => refine' pss_cons ?g3 ?g4
  case' g4 => refine' pss_one ?g5
  case g1 => exact ps_setD nmLaw 1 (pe_f fF hr (by decide) (pa_1 (pvd nmLaw 0)))
  case' g3 => refine' ps_for PassesOwn.never rfl ?g6 (pgd nmLaw 2) ?g7
  case g6 => exact pi_r1 B.range (pa_1 pe_int)
  case' g7 => refine' pss_cons ?g8 ?g9
  case' g9 => refine' pss_cons ?g10 ?g11
  case' g11 => refine' pss_one ?g12
  case g8 => exact ps_setD nmLaw 3 (pe_ix ix_d (pe_f fP hr (by decide) (pa_1 (pvd nmLaw 1))) pe_int (fun _ _ => rfl))
  case' g10 => refine' ps_setD nmLaw 4 ?g13
  case' g13 => refine' pe_f fA hr (by decide) ?g14
  case' g14 => refine' pa_c (pvd nmLaw 3) ?g15
  case' g15 => refine' pa_2 ?g16 pe_int
  case' g16 => refine' pe_f fB hr (by decide) ?g17
  case' g17 => refine' pa_2 (pvd nmLaw 3) ?g18
  case' g18 => refine' pe_comp (ix := [1]) bsLawa.toCScope rfl rfl ?g19 ?g20 ?g21 ?g22
  case g19 => exact pi_tup (pe_ix ix_d (pvd nmLaw 3) pe_int (fun _ _ => rfl))
  case g20 => exact fun _ _ _ _ _ _ => pgb bsLawa 0
  case g21 => exact fun _ _ _ _ _ _ => pts_nil
  case g22 => exact fun _ _ _ _ _ _ => pe_f D hr (by decide) (pa_2 (pvb bsLawa 1) pe_int) (bsLawa.g 0)
  case' g12 => refine' ps_if ?g23 ?g24 pss_nil
  case g23 => exact pt_cmp (pc_notN (pvd nmLaw 4))
  case' g24 => refine' pss_cons ?g26 ?g27
  case' g27 => refine' pss_cons ?g28 ?g29
  case' g29 => refine' pss_one ?g30
  case' g26 => refine' ps_setC (i := 5) (ix := []) nmLaw.nd rfl loLaw_5 bsLawb.toCScope rfl rfl ?g31 ?g32 ?g33 ?g34
  case g31 => exact pi_list (pvd nmLaw 4)
  case g32 =>
   intro _ _ _ _ _ _
   refine' pgb_tup (n := 2) rfl ?g35
   case' g35 => refine' pgs_cons ?g39 ?g38
   case g39 => exact pgb bsLawb 0
   case' g38 => refine' pgs_cons ?g41 pgs_nil
   case g41 => exact pgb bsLawb 1
  case g33 => exact fun _ _ _ _ _ _ => pts_nil
  case g34 => exact fun _ _ _ _ _ _ => pvb bsLawb 0
  case' g28 => refine' ps_if ?g42 ?g43 pss_nil
  case g42 => exact pt_cmpR op_eq (pe_f D hr (by decide) (pa_2 (pvd nmLaw 1) pe_int)) pe_int (nomark _)
  case' g43 => refine' pss_cons ?g45 ?g46
  case' g46 => refine' pss_one ?g47
  case g45 => exact ps_setD nmLaw 6 (pe_f D hr (by decide) (pa_2 (pvd nmLaw 1) (pe_cB call_len_seq B.len PySem.boot_len (pa_1 (pvd nmLaw 5)))))
  case g47 => exact ps_setD nmLaw 5 (pe_op op_cat (pe_slice sl_list (pvd nmLaw 5) (po_some (pvd nmLaw 6)) po_none) (pe_slice sl_list (pvd nmLaw 5) po_none (po_some (pvd nmLaw 6))))
  case' g30 => refine' ps_if ?g48 ?g49 pss_nil
  case g48 => exact pt_not (pt_val (pe_f fR hr (by decide) (pa_c (pvd nmLaw 1) (pa_2 (pvd nmLaw 3) (pvd nmLaw 5)))))
  case' g49 => refine' pss_one ?g51
  case g51 => exact ps_ret pe_bl
  case g5 => exact ps_ret pe_bl
  case rd =>
   walk_at "v"
   refine ⟨a, ns, rfl, hS.sq, fun p l ms H1 T1 _ => ?_⟩
   walk_at "v"
   refine ⟨3, rfl, by decide, by decide, ?_⟩
   refine for_range (n := 3) (fun j σ H' => ∃ u2 u3 u4 u5 u6 : Option V, σ = [some (.ref a), some (.ref p), u2, u3, u4, u5, u6] ∧ Tq H' p l ms (250 * j)) ⟨none, none, none, none, none, rfl, T1⟩ ?_ ?_
   ·rintro j σ H2 hj ⟨u2, u3, u4, u5, u6, rfl, T2⟩
    rw [Int.zero_add]
    walk_at "v"
    refine ⟨p, l, ms, _, rfl, T2, by omega, fun r q ak rs ins beg ans m A H3 er P3 _ _ _ T3 _ => ?_⟩
    have i3 := P3.i3
    obtain ⟨ps, pr, pin, pb, xs, h1, h2, h3, h4, h5, h6⟩ := id P3.ex
    refine w_ixT er rfl ?_
    walk_at "v"
    refine w_ixT h1 rfl ?_
    refine ⟨pin, rfl, ⟨_, SqT.of h5⟩, fun D' hD' => ?_⟩
    refine draws_of (ρ := [some (.ref p)]) (b := fun _ y => 0 ≤ y ∧ y ≤ 3) h5 (by rw [List.length_map]; omega) T3 hD' (fun i v H' hv T' bp R kR => ?_) (fun H4 as b4 T4 e4 hal hab => ?_)
    ·have hi9 := (List.getElem?_eq_some_iff.mp hv).1
     rw [List.length_map] at hi9
     walk_at "v"
     refine ⟨p, l, ms, _, 4, rfl, T', by omega, by decide, by decide, fun r c e f r0 r1 f0 f1 => ?_⟩
     exact kR r c e f ⟨r0, by omega⟩ f0 (by omega)
    have TK4 := T3.tkb b4
    have P4 := P3.tk TK4
    walk_at "v"
    refine ⟨q, D', rs, ins, beg, as, ans, m, rfl, P4, e4, by rw [hal, List.length_map], fun y hy => ?_, fun z0 st0 H5 K5 ez0 hst0 hsb0 => ?_⟩
    ·obtain ⟨i, hi, rfl⟩ := List.getElem_of_mem hy
     exact hab i as[i] (by simp [hi])
    have T5 := T4.same K5
    have P5 := P4.tk (TK.same K5)
    obtain ⟨tg, hE, t8⟩ := P5.pe
    have m8 := P5.m8
    have m0 := P5.m0
    walk_at "v"
    refine ⟨q, z0, tg, m, 40, st0, rfl, hE, ez0, hst0, m8, t8, (fun y hy => by have := hsb0 y hy; omega), by decide, by decide, fun _ H6 K6 => ?_, fun xs z ps H6 hrun K6 ez hpl hps hEn hxm hx1 => ?_⟩
    ·walk_at "v"
     refine w_notN ?_
     walk_at "v"
     refine iteNS rfl ?_
     walk_at "v"
     exact ⟨_, _, _, _, _, rfl, (T5.same K6).up (by omega)⟩
    have T6 := T5.same K6
    have hE6 := hE.tk (TK.same K6)
    walk_at "v"
    refine w_notN ?_
    walk_at "v"
    refine iteDN (fun _ => ?_) (fun h => by cases h)
    walk_at "v"
    refine ⟨z, rfl, ⟨_, SqL.of ez⟩, fun D1 hD1 => ?_⟩
    refine prs_mapL (ρ := []) (fun x => .ref x.f) (fun x => .ref x.o) (fun x => .ref x.f) ez hpl (by omega) hps (fun i x H' hx K' R kR => ?_) (fun H7 K7 e7 => ?_) hD1
    ·walk_at "v"
     exact kR _ (Same.refl _)
    have T7 := T6.same K7
    have hE7 := hE6.tk (TK.same K7)
    obtain ⟨nd0, cl0, in0, _⟩ := run_all (by decide) hrun
    have hob := run_bd (B := 120) (by decide) (fun r t ht => hE.bd ht) (fun y hy => by have := hsb0 y hy; omega) hrun
    have est : fst' (xs.map En.e) = xs.map En.st := by unfold fst'; rw [List.map_map]; rfl
    rw [est] at nd0 cl0 in0
    have hR7 : RowsAt H7 (xs.map En.f) (xs.map En.st) := rows_en (m := m) fun x hx => by
     obtain ⟨i, hi, rfl⟩ := List.getElem_of_mem hx
     exact K7 _ _ (hEn i _ (List.getElem?_eq_getElem hi)).hf
    have hm0 : ∀ r ∈ xs.map En.st, r.length = m := fun r hr => by
     obtain ⟨x, hx, rfl⟩ := List.mem_map.mp hr
     obtain ⟨i, hi, rfl⟩ := List.getElem_of_mem hx
     exact (hEn i _ (List.getElem?_eq_getElem hi)).sl
    have hb0 : ∀ r ∈ xs.map En.st, ∀ y ∈ r, -600 ≤ y ∧ y ≤ 600 := fun r hr y hy => by
     obtain ⟨x, hx, rfl⟩ := List.mem_map.mp hr
     have h1 := hob x.e (List.mem_map.mpr ⟨x, hx, rfl⟩) y hy
     obtain ⟨i, hi, rfl⟩ := List.getElem_of_mem hx
     have h2 := (hEn i _ (List.getElem?_eq_getElem hi)).ol
     have h3 : (xs[i]).e.2.length = (xs[i]).od.length := rfl
     rw [h3] at h1
     omega
    have hl0 : (xs.map En.st).length = xs.length := List.length_map _
    have hl1 : (xs.map En.f).length = xs.length := List.length_map _
    have e7' : H7 D1 = some (.lst ((xs.map En.f).map V.ref)) := by rw [e7, List.map_map]; rfl
    generalize xs.map En.st = S0 at nd0 cl0 in0 hR7 hm0 hb0 hl0
    generalize xs.map En.f = as0 at hR7 hl1 e7'
    refine w_gname ?_
    with_reducible refine seq_post (fun σ' H' => ∃ (sl : Addr) (as : List Addr) (S : List (List Int)) (u6 : Option V), σ' = [some (.ref a), some (.ref p), some (.int (j : Int)), some (.ref q), some (.ref z), some (.ref sl), u6] ∧ Tq H' p l ms (250 * j + 165) ∧ PotE H' q tg m ∧ H' sl = some (.lst (as.map V.ref)) ∧ RowsAt H' as S ∧ S.Perm S0) ?_ fun rest => ?_
    ·rintro σ' H8 ⟨sl, as, S, u6, rfl, T8, hE8, hsl8, hR8, hp8⟩
     have hl8 := hp8.length_eq
     walk_at "v"
     refine ⟨p, l, q, sl, ms, _, tg, m, as, S, rfl, T8, by omega, hE8, hsl8, hR8, (fun r hr => hm0 r (hp8.mem_iff.mp hr)), hp8.nodup_iff.mpr nd0, m0, m8, t8, by omega, by omega, (fun r hr => hb0 r (hp8.mem_iff.mp hr)), (fun x hx y hy => hp8.mem_iff.mpr (cl0 x (hp8.mem_iff.mp hx) y hy)), fun H9 T9 => ?_⟩
     walk_at "v"
     refine iteF ?_
     walk_at "v"
     exact ⟨_, _, _, _, _, rfl, T9.up (by omega)⟩
    ·walk_at "v"
     refine ⟨p, l, ms, _, 2, rfl, T7, by omega, by decide, by decide, fun r c e f r0 r1 f0 f1 => ?_⟩
     have T8 := T7.draw (n' := 250 * j + 159) (c := c) (e := e) (f := f) f0 (by omega)
     have TK8 : TK H7 (upd H7 p (.lst [.ref l, .int c, .int e, .int f])) := T7.tk
     have e8 : upd H7 p (.lst [.ref l, .int c, .int e, .int f]) D1 = some (.lst (as0.map V.ref)) := by rw [upd_ne (T7.ns e7')]; exact e7'
     generalize upd H7 p (.lst [.ref l, .int c, .int e, .int f]) = H8 at T8 TK8 e8 ⊢
     have hE8 := hE7.tk TK8
     have hR8 := hR7.tkz TK8
     walk_at "v"
     refine ⟨rfl, ?_⟩
     walk_at "v"
     refine iteD (fun _ => ?_) (fun _ => ?_)
     ·walk_at "v"
      refine ⟨D1, _, rfl, .inl (SqL.of e8), ?_⟩
      rw [List.length_map, hl1]
      walk_at "v"
      refine ⟨p, l, ms, _, (xs.length : Int), rfl, T8, by omega, by omega, by omega, fun r c e f r0 r1 f0 f1 => ?_⟩
      have T9 := T8.draw (n' := 250 * j + 160) (c := c) (e := e) (f := f) f0 (by omega)
      have TK9 : TK H8 (upd H8 p (.lst [.ref l, .int c, .int e, .int f])) := T8.tk
      have e9 : upd H8 p (.lst [.ref l, .int c, .int e, .int f]) D1 = some (.lst (as0.map V.ref)) := by rw [upd_ne (T8.ns e8)]; exact e8
      generalize upd H8 p (.lst [.ref l, .int c, .int e, .int f]) = H9 at T9 TK9 e9 ⊢
      obtain ⟨t, rfl⟩ := ofI r0
      have ht : t ≤ (as0.map V.ref).length := by rw [List.length_map]; omega
      walk_at "v"
      refine ⟨_, rfl, ?_⟩
      walk_at "v"
      refine ⟨D1, _, rfl, SqL.of e9, fun zA hA => ?_⟩
      rw [EL.cut_from ht, ← List.map_drop]
      obtain ⟨HA, q, KA, eA⟩ := nob (.lst ((as0.drop t).map V.ref)) hA; rw [q]; clear q
      walk_at "v"
      refine ⟨_, rfl, ?_⟩
      walk_at "v"
      refine ⟨D1, _, rfl, SqL.of (KA _ _ e9), fun zB hB => ?_⟩
      rw [EL.cut_to ht, ← List.map_take]
      obtain ⟨HB, q, KB, eB⟩ := nob (.lst ((as0.take t).map V.ref)) hB; rw [q]; clear q
      refine ⟨zA, zB, _, _, rfl, rfl, KB _ _ eA, eB, by rw [List.length_map, List.length_map, List.length_drop, List.length_take]; exact Nat.le_of_lt (small1000 (by omega)), fun zC hC => ?_⟩
      have KC : Same HB (upd HB zC (.lst ((as0.drop t).map V.ref ++ (as0.take t).map V.ref))) := Same.new (Same.refl _) hC
      have eC : upd HB zC (.lst ((as0.drop t).map V.ref ++ (as0.take t).map V.ref)) zC = some (.lst ((as0.drop t ++ as0.take t).map V.ref)) := by rw [upd_same, List.map_append]
      generalize upd HB zC (.lst ((as0.drop t).map V.ref ++ (as0.take t).map V.ref)) = HC at KC eC ⊢
      have K9C := (KA.trans KB).trans KC
      have TK9C := TK9.trans (TK.same K9C)
      have hRC := hR8.tkz TK9C
      refine w_gname ?_
      exact rest _ _ ⟨zC, _, _, _, rfl, (T9.same K9C).up (by omega), hE8.tk TK9C, eC, RowsAt.app (rows_drop t hRC) (rows_take t hRC), turn_perm S0 t⟩
     ·exact rest _ _ ⟨D1, as0, S0, _, rfl, T8.up (by omega), hE8, e8, hR8, List.Perm.refl _⟩
   ·rintro σ H2 ⟨u2, u3, u4, u5, u6, rfl, T2⟩
    walk_at "v"
    exact k _
end
theorem all_mk {l : PySem.W.OpenLaw} {w : World} {K : PySem.W.Frag} {h : Heap} {mg : Str → Option Value} {fa f1 f2 f3 f4 f5 f6 f7 f8 f9 f10 f11 f12 f13 f14 f15 f16 f17 f18 f19 f20 f21 f22 f23 f24 f25 : Addr} (X : K.In h) (G : h.Ns mainGlobals mg) (hfa : mg "law" = some (.ref fa))
  {od1 an1 od2 an2 od3 an3 od4 an4 od5 an5 od6 an6 od7 an7 od8 an8 od9 an9 od10 an10 od11 an11 od12 an12 od13 an13 od14 an14 od15 an15 od16 an16 od17 an17 od18 an18 od19 an19 od20 an20 od21 an21 od22 an22 od23 an23 od24 an24 od25 an25 : Option Addr} {sl1 sl2 sl3 sl4 sl5 sl6 sl7 sl8 sl9 sl10 sl11 sl12 sl13 sl14 sl15 sl16 sl17 sl18 sl19 sl20 sl21 sl22 sl23 sl24 sl25 : Array (Option Value)} {oc1 kV1 dc1 pm1 cd1 ct1 oc2 kV2 dc2 pm2 cd2 ct2 oc3 kV3 dc3 pm3 cd3 ct3 oc4 kV4 dc4 pm4 cd4 ct4 oc5 kV5 dc5 pm5 cd5 ct5 oc6 kV6 dc6 pm6 cd6 ct6 oc7 kV7 dc7 pm7 cd7 ct7 oc8 kV8 dc8 pm8 cd8 ct8 oc9 kV9 dc9 pm9 cd9 ct9 oc10 kV10 dc10 pm10 cd10 ct10 oc11 kV11 dc11 pm11 cd11 ct11 oc12 kV12 dc12 pm12 cd12 ct12 oc13 kV13 dc13 pm13 cd13 ct13 oc14 kV14 dc14 pm14 cd14 ct14 oc15 kV15 dc15 pm15 cd15 ct15 oc16 kV16 dc16 pm16 cd16 ct16 oc17 kV17 dc17 pm17 cd17 ct17 oc18 kV18 dc18 pm18 cd18 ct18 oc19 kV19 dc19 pm19 cd19 ct19 oc20 kV20 dc20 pm20 cd20 ct20 oc21 kV21 dc21 pm21 cd21 ct21 oc22 kV22 dc22 pm22 cd22 ct22 oc23 kV23 dc23 pm23 cd23 ct23 oc24 kV24 dc24 pm24 cd24 ct24 oc25 kV25 dc25 pm25 cd25 ct25 : Value} {t1 t2 t3 : Tok}
  (a1 : PySem.W.nsIn K mainGlobals "_law_feed" = some (some (.ref f1))) (l1 : K.lookup f1 = some ⟨oc1, od1, .func (PySem.W.fnOf "_law_feed" "_law_feed" (defArgs sFeed) (defBody sFeed) (defScope sFeed) .none kV1 dc1 pm1 an1 cd1 ct1), sl1⟩) (c1 : PySem.W.codeIn K cd1 "_law_feed" = true) (k1 : PySem.W.keepIn K (.ref f1) = true)
  (a2 : PySem.W.nsIn K mainGlobals "_law_draw" = some (some (.ref f2))) (l2 : K.lookup f2 = some ⟨oc2, od2, .func (PySem.W.fnOf "_law_draw" "_law_draw" (defArgs sDraw) (defBody sDraw) (defScope sDraw) .none kV2 dc2 pm2 an2 cd2 ct2), sl2⟩) (c2 : PySem.W.codeIn K cd2 "_law_draw" = true) (k2 : PySem.W.keepIn K (.ref f2) = true)
  (a3 : PySem.W.nsIn K mainGlobals "_law_row" = some (some (.ref f3))) (l3 : K.lookup f3 = some ⟨oc3, od3, .func (PySem.W.fnOf "_law_row" "_law_row" (defArgs sRow) (defBody sRow) (defScope sRow) .none kV3 dc3 pm3 an3 cd3 ct3), sl3⟩) (c3 : PySem.W.codeIn K cd3 "_law_row" = true) (k3 : PySem.W.keepIn K (.ref f3) = true)
  (a4 : PySem.W.nsIn K mainGlobals "_law_rule" = some (some (.ref f4))) (l4 : K.lookup f4 = some ⟨oc4, od4, .func (PySem.W.fnOf "_law_rule" "_law_rule" (defArgs sRule) (defBody sRule) (defScope sRule) .none kV4 dc4 pm4 an4 cd4 ct4), sl4⟩) (c4 : PySem.W.codeIn K cd4 "_law_rule" = true) (k4 : PySem.W.keepIn K (.ref f4) = true)
  (a5 : PySem.W.nsIn K mainGlobals "_law_names" = some (some (.ref f5))) (l5 : K.lookup f5 = some ⟨oc5, od5, .func (PySem.W.fnOf "_law_names" "_law_names" (defArgs sNames) (defBody sNames) (defScope sNames) .none kV5 dc5 pm5 an5 cd5 ct5), sl5⟩) (c5 : PySem.W.codeIn K cd5 "_law_names" = true) (k5 : PySem.W.keepIn K (.ref f5) = true)
  (a6 : PySem.W.nsIn K mainGlobals "_law_drawn" = some (some (.ref f6))) (l6 : K.lookup f6 = some ⟨oc6, od6, .func (PySem.W.fnOf "_law_drawn" "_law_drawn" (defArgs sDrawn) (defBody sDrawn) (defScope sDrawn) .none kV6 dc6 pm6 an6 cd6 ct6), sl6⟩) (c6 : PySem.W.codeIn K cd6 "_law_drawn" = true) (k6 : PySem.W.keepIn K (.ref f6) = true)
  (a7 : PySem.W.nsIn K mainGlobals "_law_line" = some (some (.ref f7))) (l7 : K.lookup f7 = some ⟨oc7, od7, .func (PySem.W.fnOf "_law_line" "_law_line" (defArgs sLine) (defBody sLine) (defScope sLine) .none kV7 dc7 pm7 an7 cd7 ct7), sl7⟩) (c7 : PySem.W.codeIn K cd7 "_law_line" = true) (k7 : PySem.W.keepIn K (.ref f7) = true)
  (a8 : PySem.W.nsIn K mainGlobals "_law_ask" = some (some (.ref f8))) (l8 : K.lookup f8 = some ⟨oc8, od8, .func (PySem.W.fnOf "_law_ask" "_law_ask" (defArgs sAsk) (defBody sAsk) (defScope sAsk) .none kV8 dc8 pm8 an8 cd8 ct8), sl8⟩) (c8 : PySem.W.codeIn K cd8 "_law_ask" = true) (k8 : PySem.W.keepIn K (.ref f8) = true)
  (a9 : PySem.W.nsIn K mainGlobals "_law_shaped" = some (some (.ref f9))) (l9 : K.lookup f9 = some ⟨oc9, od9, .func (PySem.W.fnOf "_law_shaped" "_law_shaped" (defArgs sShp) (defBody sShp) (defScope sShp) .none kV9 dc9 pm9 an9 cd9 ct9), sl9⟩) (c9 : PySem.W.codeIn K cd9 "_law_shaped" = true) (k9 : PySem.W.keepIn K (.ref f9) = true)
  (a10 : PySem.W.nsIn K mainGlobals "_law_bent" = some (some (.ref f10))) (l10 : K.lookup f10 = some ⟨oc10, od10, .func (PySem.W.fnOf "_law_bent" "_law_bent" (defArgs sBe) (defBody sBe) (defScope sBe) .none kV10 dc10 pm10 an10 cd10 ct10), sl10⟩) (c10 : PySem.W.codeIn K cd10 "_law_bent" = true) (k10 : PySem.W.keepIn K (.ref f10) = true)
  (a11 : PySem.W.nsIn K mainGlobals "_law_pot" = some (some (.ref f11))) (l11 : K.lookup f11 = some ⟨oc11, od11, .func (PySem.W.fnOf "_law_pot" "_law_pot" (defArgs sPo) (defBody sPo) (defScope sPo) .none kV11 dc11 pm11 an11 cd11 ct11), sl11⟩) (c11 : PySem.W.codeIn K cd11 "_law_pot" = true) (k11 : PySem.W.keepIn K (.ref f11) = true)
  (a12 : PySem.W.nsIn K mainGlobals "_law_gone" = some (some (.ref f12))) (l12 : K.lookup f12 = some ⟨oc12, od12, .func (PySem.W.fnOf "_law_gone" "_law_gone" (defArgs sGo) (defBody sGo) (defScope sGo) .none kV12 dc12 pm12 an12 cd12 ct12), sl12⟩) (c12 : PySem.W.codeIn K cd12 "_law_gone" = true) (k12 : PySem.W.keepIn K (.ref f12) = true)
  (a13 : PySem.W.nsIn K mainGlobals "_law_can" = some (some (.ref f13))) (l13 : K.lookup f13 = some ⟨oc13, od13, .func (PySem.W.fnOf "_law_can" "_law_can" (defArgs sCan) (defBody sCan) (defScope sCan) .none kV13 dc13 pm13 an13 cd13 ct13), sl13⟩) (c13 : PySem.W.codeIn K cd13 "_law_can" = true) (k13 : PySem.W.keepIn K (.ref f13) = true)
  (a14 : PySem.W.nsIn K mainGlobals "_law_there" = some (some (.ref f14))) (l14 : K.lookup f14 = some ⟨oc14, od14, .func (PySem.W.fnOf "_law_there" "_law_there" (defArgs sTh) (defBody sTh) (defScope sTh) .none kV14 dc14 pm14 an14 cd14 ct14), sl14⟩) (c14 : PySem.W.codeIn K cd14 "_law_there" = true) (k14 : PySem.W.keepIn K (.ref f14) = true)
  (a15 : PySem.W.nsIn K mainGlobals "can_go" = some (some (.ref f15))) (l15 : K.lookup f15 = some ⟨oc15, od15, .func (PySem.W.fnOf "can_go" "can_go" (defArgs sPCan) (defBody sPCan) (defScope sPCan) .none kV15 dc15 pm15 an15 cd15 ct15), sl15⟩) (c15 : PySem.W.codeIn K cd15 "can_go" = true) (k15 : PySem.W.keepIn K (.ref f15) = true)
  (a16 : PySem.W.nsIn K mainGlobals "gone" = some (some (.ref f16))) (l16 : K.lookup f16 = some ⟨oc16, od16, .func (PySem.W.fnOf "gone" "gone" (defArgs sPGo) (defBody sPGo) (defScope sPGo) .none kV16 dc16 pm16 an16 cd16 ct16), sl16⟩) (c16 : PySem.W.codeIn K cd16 "gone" = true) (k16 : PySem.W.keepIn K (.ref f16) = true)
  (a17 : PySem.W.nsIn K mainGlobals "rules_there" = some (some (.ref f17))) (l17 : K.lookup f17 = some ⟨oc17, od17, .func (PySem.W.fnOf "rules_there" "rules_there" (defArgs sPTh) (defBody sPTh) (defScope sPTh) .none kV17 dc17 pm17 an17 cd17 ct17), sl17⟩) (c17 : PySem.W.codeIn K cd17 "rules_there" = true) (k17 : PySem.W.keepIn K (.ref f17) = true)
  (a18 : PySem.W.nsIn K mainGlobals "_law_begin" = some (some (.ref f18))) (l18 : K.lookup f18 = some ⟨oc18, od18, .func (PySem.W.fnOf "_law_begin" "_law_begin" (defArgs sBeg) (defBody sBeg) (defScope sBeg) .none kV18 dc18 pm18 an18 cd18 ct18), sl18⟩) (c18 : PySem.W.codeIn K cd18 "_law_begin" = true) (k18 : PySem.W.keepIn K (.ref f18) = true)
  (a19 : PySem.W.nsIn K mainGlobals "_law_all" = some (some (.ref f19))) (l19 : K.lookup f19 = some ⟨oc19, od19, .func (PySem.W.fnOf "_law_all" "_law_all" (defArgs sAll) (defBody sAll) (defScope sAll) .none kV19 dc19 pm19 an19 cd19 ct19), sl19⟩) (c19 : PySem.W.codeIn K cd19 "_law_all" = true) (k19 : PySem.W.keepIn K (.ref f19) = true)
  (a20 : PySem.W.nsIn K mainGlobals "has_ended" = some (some (.ref f20))) (l20 : K.lookup f20 = some ⟨oc20, od20, .func (PySem.W.fnOf "has_ended" "has_ended" (defArgs sHe) (defBody sHe) (defScope sHe) .none kV20 dc20 pm20 an20 cd20 ct20), sl20⟩) (c20 : PySem.W.codeIn K cd20 "has_ended" = true) (k20 : PySem.W.keepIn K (.ref f20) = true)
  (a21 : PySem.W.nsIn K mainGlobals "ended_of" = some (some (.ref f21))) (l21 : K.lookup f21 = some ⟨oc21, od21, .func (PySem.W.fnOf "ended_of" "ended_of" (defArgs sEo) (defBody sEo) (defScope sEo) .none kV21 dc21 pm21 an21 cd21 ct21), sl21⟩) (c21 : PySem.W.codeIn K cd21 "ended_of" = true) (k21 : PySem.W.keepIn K (.ref f21) = true)
  (a22 : PySem.W.nsIn K mainGlobals "sources_by_stand" = some (some (.ref f22))) (l22 : K.lookup f22 = some ⟨oc22, od22, .func (PySem.W.fnOf "sources_by_stand" "sources_by_stand" (defArgs sSb) (defBody sSb) (defScope sSb) .none kV22 dc22 pm22 an22 cd22 ct22), sl22⟩) (c22 : PySem.W.codeIn K cd22 "sources_by_stand" = true) (k22 : PySem.W.keepIn K (.ref f22) = true)
  (a23 : PySem.W.nsIn K mainGlobals "can_come" = some (some (.ref f23))) (l23 : K.lookup f23 = some ⟨oc23, od23, .func (PySem.W.fnOf "can_come" "can_come" (defArgs sCc) (defBody sCc) (defScope sCc) .none kV23 dc23 pm23 an23 cd23 ct23), sl23⟩) (c23 : PySem.W.codeIn K cd23 "can_come" = true) (k23 : PySem.W.keepIn K (.ref f23) = true)
  (a24 : PySem.W.nsIn K mainGlobals "_law_right" = some (some (.ref f24))) (l24 : K.lookup f24 = some ⟨oc24, od24, .func (PySem.W.fnOf "_law_right" "_law_right" (defArgs sRi) (defBody sRi) (defScope sRi) .none kV24 dc24 pm24 an24 cd24 ct24), sl24⟩) (c24 : PySem.W.codeIn K cd24 "_law_right" = true) (k24 : PySem.W.keepIn K (.ref f24) = true)
  (a25 : PySem.W.nsIn K mainGlobals "law" = some (some (.ref f25))) (l25 : K.lookup f25 = some ⟨oc25, od25, .func (PySem.W.fnOf "law" "law" (defArgs sLaw) (defBody sLaw) (defScope sLaw) .none kV25 dc25 pm25 an25 cd25 ct25), sl25⟩) (c25 : PySem.W.codeIn K cd25 "law" = true) (k25 : PySem.W.keepIn K (.ref f25) = true)
  (z1 : PySem.W.nsIn K mainGlobals "len" = some none) (z2 : PySem.W.nsIn K mainGlobals "range" = some none) (z3 : PySem.W.nsIn K mainGlobals "tuple" = some none) (z4 : PySem.W.nsIn K mainGlobals "int" = some none) (z5 : PySem.W.nsIn K mainGlobals "bool" = some none) (z6 : PySem.W.nsIn K mainGlobals "list" = some none) (z7 : PySem.W.nsIn K mainGlobals "str" = some none) (z8 : PySem.W.nsIn K mainGlobals "all" = some none) (z9 : PySem.W.nsIn K mainGlobals "any" = some none) (z10 : PySem.W.nsIn K mainGlobals "isinstance" = some none) (z11 : PySem.W.nsIn K mainGlobals "repr" = some none) (z12 : PySem.W.nsIn K mainGlobals "zip" = some none) (z13 : PySem.W.nsIn K mainGlobals "min" = some none) (z14 : PySem.W.nsIn K mainGlobals "max" = some none) (z15 : PySem.W.nsIn K mainGlobals "sum" = some none) (z16 : PySem.W.nsIn K mainGlobals "enumerate" = some none) (z17 : PySem.W.nsIn K mainGlobals "sorted" = some none) (z18 : PySem.W.nsIn K mainGlobals "set" = some none) (z19 : PySem.W.nsIn K mainGlobals "dict" = some none) (z20 : PySem.W.nsIn K mainGlobals "abs" = some none)
  (g1 : PySem.W.nsIn K mainGlobals "RULES" = some (some (.int (1) t1))) (g2 : PySem.W.nsIn K mainGlobals "TAKES" = some (some (.int (0) t2))) (g3 : PySem.W.nsIn K mainGlobals "GIVES" = some (some (.int (1) t3))) :
  ∃ fd : FuncData, (∀ (s : Shared) (v : Value), BindsTo s fd ⟨[v], []⟩ [("_law_script", v)]) ∧ ∀ base : Heap, K.In base → base.Ns mainGlobals mg → FnOk l.prog w K mg base CX0 7 fa fd ["_law_script"] (spLaw K) := by
 have e := hfa.symm.trans (PySem.W.mg_of X G a25)
 cases e
 have F1 := fun_mk (st := sFeed) l1 c1 k1
 have b1 := F1.binds (ps := ["_law_script"]) fun _ _ _ _ _ _ us hl => match us, hl with | [_], _ => rfl
 have m1 := PySem.W.mg_of X G a1
 have F2 := fun_mk (st := sDraw) l2 c2 k2
 have b2 := F2.binds (ps := ["_law_feed_here", "_law_many"]) fun _ _ _ _ _ _ us hl => match us, hl with | [_, _], _ => rfl
 have m2 := PySem.W.mg_of X G a2
 have F3 := fun_mk (st := sRow) l3 c3 k3
 have b3 := F3.binds (ps := ["_law_feed_here", "_law_many", "_law_sides"]) fun _ _ _ _ _ _ us hl => match us, hl with | [_, _, _], _ => rfl
 have m3 := PySem.W.mg_of X G a3
 have F4 := fun_mk (st := sRule) l4 c4 k4
 have b4 := F4.binds (ps := ["_law_feed_here", "_law_many"]) fun _ _ _ _ _ _ us hl => match us, hl with | [_, _], _ => rfl
 have m4 := PySem.W.mg_of X G a4
 have F5 := fun_mk (st := sNames) l5 c5 k5
 have b5 := F5.binds (ps := ["_law_feed_here", "_law_many"]) fun _ _ _ _ _ _ us hl => match us, hl with | [_, _], _ => rfl
 have m5 := PySem.W.mg_of X G a5
 have F6 := fun_mk (st := sDrawn) l6 c6 k6
 have b6 := F6.binds (ps := ["_law_feed_here", "_law_most"]) fun _ _ _ _ _ _ us hl => match us, hl with | [_, _], _ => rfl
 have m6 := PySem.W.mg_of X G a6
 have F7 := fun_mk (st := sLine) l7 c7 k7
 have b7 := F7.binds (ps := ["_law_feed_here", "_law_many", "_law_most"]) fun _ _ _ _ _ _ us hl => match us, hl with | [_, _, _], _ => rfl
 have m7 := PySem.W.mg_of X G a7
 have F8 := fun_mk (st := sAsk) l8 c8 k8
 have b8 := F8.binds (ps := ["_law_feed_here", "_law_many", "_law_most"]) fun _ _ _ _ _ _ us hl => match us, hl with | [_, _, _], _ => rfl
 have m8 := PySem.W.mg_of X G a8
 have F9 := fun_mk (st := sShp) l9 c9 k9
 have b9 := F9.binds (ps := ["_law_ask_here"]) fun _ _ _ _ _ _ us hl => match us, hl with | [_], _ => rfl
 have m9 := PySem.W.mg_of X G a9
 have F10 := fun_mk (st := sBe) l10 c10 k10
 have b10 := F10.binds (ps := ["_law_feed_here", "_law_rules", "_law_begin_here"]) fun _ _ _ _ _ _ us hl => match us, hl with | [_, _, _], _ => rfl
 have m10 := PySem.W.mg_of X G a10
 have F11 := fun_mk (st := sPo) l11 c11 k11
 have b11 := F11.binds (ps := ["_law_feed_here"]) fun _ _ _ _ _ _ us hl => match us, hl with | [_], _ => rfl
 have m11 := PySem.W.mg_of X G a11
 have F12 := fun_mk (st := sGo) l12 c12 k12
 have b12 := F12.binds (ps := ["_law_pot_here", "_law_stand", "_law_rule_here"]) fun _ _ _ _ _ _ us hl => match us, hl with | [_, _, _], _ => rfl
 have m12 := PySem.W.mg_of X G a12
 have F13 := fun_mk (st := sCan) l13 c13 k13
 have b13 := F13.binds (ps := ["_law_pot_here", "_law_stand", "_law_rule_here"]) fun _ _ _ _ _ _ us hl => match us, hl with | [_, _, _], _ => rfl
 have m13 := PySem.W.mg_of X G a13
 have F14 := fun_mk (st := sTh) l14 c14 k14
 have b14 := F14.binds (ps := ["_law_pot_here", "_law_stand"]) fun _ _ _ _ _ _ us hl => match us, hl with | [_, _], _ => rfl
 have m14 := PySem.W.mg_of X G a14
 have F15 := fun_mk (st := sPCan) l15 c15 k15
 have b15 := F15.binds (ps := ["pot", "stand", "rule"]) fun _ _ _ _ _ _ us hl => match us, hl with | [_, _, _], _ => rfl
 have m15 := PySem.W.mg_of X G a15
 have F16 := fun_mk (st := sPGo) l16 c16 k16
 have b16 := F16.binds (ps := ["pot", "stand", "rule"]) fun _ _ _ _ _ _ us hl => match us, hl with | [_, _, _], _ => rfl
 have m16 := PySem.W.mg_of X G a16
 have F17 := fun_mk (st := sPTh) l17 c17 k17
 have b17 := F17.binds (ps := ["pot", "stand"]) fun _ _ _ _ _ _ us hl => match us, hl with | [_, _], _ => rfl
 have m17 := PySem.W.mg_of X G a17
 have F18 := fun_mk (st := sBeg) l18 c18 k18
 have b18 := F18.binds (ps := ["_law_pot_here", "_law_amounts"]) fun _ _ _ _ _ _ us hl => match us, hl with | [_, _], _ => rfl
 have m18 := PySem.W.mg_of X G a18
 have F19 := fun_mk (st := sAll) l19 c19 k19
 have b19 := F19.binds (ps := ["_law_pot_here", "_law_stand", "_law_most"]) fun _ _ _ _ _ _ us hl => match us, hl with | [_, _, _], _ => rfl
 have m19 := PySem.W.mg_of X G a19
 have F20 := fun_mk (st := sHe) l20 c20 k20
 have b20 := F20.binds (ps := ["pot", "stand"]) fun _ _ _ _ _ _ us hl => match us, hl with | [_, _], _ => rfl
 have m20 := PySem.W.mg_of X G a20
 have F21 := fun_mk (st := sEo) l21 c21 k21
 have b21 := F21.binds (ps := ["pot", "stands"]) fun _ _ _ _ _ _ us hl => match us, hl with | [_, _], _ => rfl
 have m21 := PySem.W.mg_of X G a21
 have F22 := fun_mk (st := sSb) l22 c22 k22
 have b22 := F22.binds (ps := ["pot", "stands"]) fun _ _ _ _ _ _ us hl => match us, hl with | [_, _], _ => rfl
 have m22 := PySem.W.mg_of X G a22
 have F23 := fun_mk (st := sCc) l23 c23 k23
 have b23 := F23.binds (ps := ["pot", "stands", "goals"]) fun _ _ _ _ _ _ us hl => match us, hl with | [_, _, _], _ => rfl
 have m23 := PySem.W.mg_of X G a23
 have F24 := fun_mk (st := sRi) l24 c24 k24
 have b24 := F24.binds (ps := ["_law_feed_here", "_law_pot_here", "_law_stands"]) fun _ _ _ _ _ _ us hl => match us, hl with | [_, _, _], _ => rfl
 have m24 := PySem.W.mg_of X G a24
 have F25 := fun_mk (st := sLaw) l25 c25 k25
 have y1 := PySem.W.mg_none_of X G z1
 have y2 := PySem.W.mg_none_of X G z2
 have y3 := PySem.W.mg_none_of X G z3
 have y4 := PySem.W.mg_none_of X G z4
 have y5 := PySem.W.mg_none_of X G z5
 have y6 := PySem.W.mg_none_of X G z6
 have y7 := PySem.W.mg_none_of X G z7
 have y8 := PySem.W.mg_none_of X G z8
 have y9 := PySem.W.mg_none_of X G z9
 have y10 := PySem.W.mg_none_of X G z10
 have y11 := PySem.W.mg_none_of X G z11
 have y12 := PySem.W.mg_none_of X G z12
 have y13 := PySem.W.mg_none_of X G z13
 have y14 := PySem.W.mg_none_of X G z14
 have y15 := PySem.W.mg_none_of X G z15
 have y16 := PySem.W.mg_none_of X G z16
 have y17 := PySem.W.mg_none_of X G z17
 have y18 := PySem.W.mg_none_of X G z18
 have y19 := PySem.W.mg_none_of X G z19
 have y20 := PySem.W.mg_none_of X G z20
 have B : Blp mg := ⟨⟨y1, y2, y3, y6, y4, y13, y14, y12⟩, y8, y11, ⟨_, PySem.W.mg_of X G g1⟩, ⟨_, PySem.W.mg_of X G g2⟩, ⟨_, PySem.W.mg_of X G g3⟩⟩
 have BL : L2.Bl mg := ⟨y1, y2, y3, y4, y5, y6, y7, y8, y9, y10, y11, y12, y13, y14, y15, y16, y17, y18, y19, y20⟩
 refine ⟨PySem.W.fnOf "law" "law" (defArgs sLaw) (defBody sLaw) (defScope sLaw) .none kV25 dc25 pm25 an25 cd25 ct25, fun s v => .of_eq rfl, fun base _ _ => ?_⟩
 have H1 : Has l.prog w K mg base 1 "_law_feed" ["_law_script"] (spFeed K) := ⟨_, _, ok_Feed B.toBlt F1, m1, k1, b1⟩
 have H2 : Has l.prog w K mg base 1 "_law_draw" ["_law_feed_here", "_law_many"] spDraw := ⟨_, _, ok_Draw B.toBlt F2, m2, k2, b2⟩
 have H3 : Has l.prog w K mg base 2 "_law_row" ["_law_feed_here", "_law_many", "_law_sides"] spRow := ⟨_, _, ok_Row B.toBlt H2 F3, m3, k3, b3⟩
 have H4 : Has l.prog w K mg base 3 "_law_rule" ["_law_feed_here", "_law_many"] spRule := ⟨_, _, ok_Rule B.toBlt H2 H3 F4, m4, k4, b4⟩
 have H5 : Has l.prog w K mg base 2 "_law_names" ["_law_feed_here", "_law_many"] spNames := ⟨_, _, ok_Names B.toBlt H2 F5, m5, k5, b5⟩
 have H6 : Has l.prog w K mg base 4 "_law_drawn" ["_law_feed_here", "_law_most"] spDrawn := ⟨_, _, ok_Drawn B.toBlt H2 H5 H4 F6, m6, k6, b6⟩
 have H7 : Has l.prog w K mg base 2 "_law_line" ["_law_feed_here", "_law_many", "_law_most"] spLine := ⟨_, _, ok_Line B.toBlt H2 F7, m7, k7, b7⟩
 have H8 : Has l.prog w K mg base 3 "_law_ask" ["_law_feed_here", "_law_many", "_law_most"] spAsk := ⟨_, _, ok_Ask H2 H7 F8, m8, k8, b8⟩
 have H9 : Has l.prog w K mg base 1 "_law_shaped" ["_law_ask_here"] spShp := ⟨_, _, ok_Shp F9, m9, k9, b9⟩
 have H10 : Has l.prog w K mg base 2 "_law_bent" ["_law_feed_here", "_law_rules", "_law_begin_here"] spBe := ⟨_, _, ok_Be B.toBlt y19 H2 F10, m10, k10, b10⟩
 have H11 : Has l.prog w K mg base 5 "_law_pot" ["_law_feed_here"] spPo := ⟨_, _, ok_Po B.toBlt H2 H6 H8 H9 H10 H5 F11, m11, k11, b11⟩
 have H12 : Has l.prog w K mg base 1 "_law_gone" ["_law_pot_here", "_law_stand", "_law_rule_here"] spGo := ⟨_, _, ok_Go B.toBlt F12, m12, k12, b12⟩
 have H13 : Has l.prog w K mg base 1 "_law_can" ["_law_pot_here", "_law_stand", "_law_rule_here"] spCan := ⟨_, _, ok_Can B.toBlt F13, m13, k13, b13⟩
 have H14 : Has l.prog w K mg base 2 "_law_there" ["_law_pot_here", "_law_stand"] spTh := ⟨_, _, ok_Th B.toBlt H13 F14, m14, k14, b14⟩
 have H15 : Has l.prog w K mg base 1 "can_go" ["pot", "stand", "rule"] spCan := ⟨_, _, ok_PCan B F15, m15, k15, b15⟩
 have H16 : Has l.prog w K mg base 2 "gone" ["pot", "stand", "rule"] spGoP := ⟨_, _, ok_PGo B H15 F16, m16, k16, b16⟩
 have H17 : Has l.prog w K mg base 2 "rules_there" ["pot", "stand"] spTh := ⟨_, _, ok_PTh B H15 F17, m17, k17, b17⟩
 have H18 : Has l.prog w K mg base 1 "_law_begin" ["_law_pot_here", "_law_amounts"] spBeg := ⟨_, _, ok_Beg B F18, m18, k18, b18⟩
 have H19 : Has l.prog w K mg base 3 "_law_all" ["_law_pot_here", "_law_stand", "_law_most"] spAll := ⟨_, _, ok_All B H14 H12 F19, m19, k19, b19⟩
 have H20 : Has l.prog w K mg base 3 "has_ended" ["pot", "stand"] spHe := ⟨_, _, ok_He BL H17 F20, m20, k20, b20⟩
 have H21 : Has l.prog w K mg base 4 "ended_of" ["pot", "stands"] spEo := ⟨_, _, ok_Eo BL H20 F21, m21, k21, b21⟩
 have H22 : Has l.prog w K mg base 4 "sources_by_stand" ["pot", "stands"] spSb := ⟨_, _, ok_Sb BL H17 H16 F22, m22, k22, b22⟩
 have H23 : Has l.prog w K mg base 5 "can_come" ["pot", "stands", "goals"] spCc := ⟨_, _, ok_Cc BL H22 F23, m23, k23, b23⟩
 have H24 : Has l.prog w K mg base 6 "_law_right" ["_law_feed_here", "_law_pot_here", "_law_stands"] spRi := ⟨_, _, ok_Ri BL H2 H14 H21 H23 H19 F24, m24, k24, b24⟩
 exact ok_Law BL H1 H2 H11 H18 H19 H24 F25
theorem walk {l : PySem.W.OpenLaw} {q : Program} {loose : List Str} {XP : (Str → Option Value) → Heap → Prop} {YP : World → Heap → Prop} {d : DefRec} {K : Params → PySem.W.Frag} (hn : l.most = some 63) (hdf : d.params.defaults = [])
  (hY : ∀ (w : World) (h : Heap), YP w h → (K w.params).In h)
  (F : ∀ (w : World) (mg : Str → Option Value) (fa : Addr) (h : Heap), (K w.params).In h → h.Ns mainGlobals mg → mg d.name = some (.ref fa) →
   ∃ fd : FuncData, (∀ (s : Shared) (u : Value), BindsTo s fd ⟨[u], []⟩ [("_law_script", u)]) ∧ ∀ base : Heap, (K w.params).In base → base.Ns mainGlobals mg → FnOk l.prog w (K w.params) mg base CX0 7 fa fd ["_law_script"] (spLaw (K w.params))) :
  PySem.W.WalkO q loose XP YP l.row.toRowW d [] (fun f vs => PySem.call f vs) :=
 L2.walk_of (n := 63) (k := 7) (x := "_law_script") (CX := fun _ => CX0) (sp := fun w => spLaw (K w.params)) hn (by decide) hdf ⟨rfl, by decide, by decide, rfl⟩ hY F (fun _ H a ns hl hO hS => ⟨a, ns, rfl, SqF.of hO hS, hl, fun _ => rfl⟩) fun _ _ _ _ _ z => z
def dEo (P : Params) (x : Str) (t : Nat) (v : Value) : DictEntry := ⟨PyData.keyHash P x, .str x t, v⟩
def cO (n : Str) (t : Nat) (q : Str) (t1 t2 : Nat) (l a f : Int) (r s x y z : Value) (k : Int) (t3 : Nat) : Obj :=
 ⟨.type "code", none, .fields #[.str n t, .str q t1, .str "/claim/cut.py" t2, .int l 0, .int a 0, .int 0 0, .int 0 0, .int f 0, r, .bool true, .int 181 0, s, .none, x, y, z, .int k 0, .int l 0, .str "/claim/cut.py" t3], #[]⟩
def fO (n q : Str) (s : Stmt) (m : Str) (t c : Nat) : Obj := ⟨.type "function", none, .func (PySem.W.fnOf n q (defArgs s) (defBody s) (defScope s) .none .none .none (.str m t) none (.ref c) .none), #[]⟩
def KK : Params → PySem.W.Frag := fun P =>
 (nat_lit 3, ⟨(.type "dict"), none, (.dict #[dEo P "__name__" 165 (.str "law_dropsums_k41_ended_and_what_can_still_co" 292), dEo P "__doc__" 166 .none, dEo P "__package__" 167 .none, dEo P "__loader__" 168 (.builtin "__main__.__loader__#opaque"), dEo P "__spec__" 169 .none, dEo P "__annotations__" 170 (.ref 6), dEo P "__builtins__" 171 (.ref 4), dEo P "__file__" 173 (.str "/claim/cut.py" 172), dEo P "__cached__" 174 .none, dEo P "DropError" 206 (.ref 24), dEo P "NoStep" 231 (.ref 44), dEo P "RULES" 233 (.int 1 232), dEo P "TAKES" 235 (.int 0 234), dEo P "GIVES" 237 (.int 1 236), dEo P "can_go" 245 (.ref 51), dEo P "gone" 251 (.ref 56), dEo P "rules_there" 257 (.ref 61), dEo P "has_ended" 265 (.ref 68), dEo P "ended_of" 273 (.ref 73), dEo P "can_come" 279 (.ref 78), dEo P "sources_by_stand" 291 (.ref 85), dEo P "_law_feed" 300 (.ref 92), dEo P "_law_draw" 312 (.ref 99), dEo P "_law_line" 318 (.ref 104), dEo P "_law_ask" 329 (.ref 111), dEo P "_law_asked" 335 (.ref 116), dEo P "_law_can" 341 (.ref 121), dEo P "_law_gone" 347 (.ref 126), dEo P "_law_there" 353 (.ref 131), dEo P "_law_begin" 364 (.ref 138), dEo P "_law_all" 370 (.ref 143), dEo P "_law_row" 381 (.ref 150), dEo P "_law_rule" 387 (.ref 155), dEo P "_law_names" 397 (.ref 162), dEo P "_law_drawn" 403 (.ref 167), dEo P "_law_shaped" 414 (.ref 174), dEo P "_law_bent" 425 (.ref 181), dEo P "_law_pot" 431 (.ref 186), dEo P "_law_right" 437 (.ref 191), dEo P "law" 443 (.ref 196)] 40), #[]⟩) ::
 (nat_lit 23, ⟨(.type "dict"), none, (.dict #[dEo P "__module__" 196 (.str "dropsums.errors" 187), dEo P "__firstlineno__" 200 (.int 2 199), dEo P "__static_attributes__" 201 (.ref 22), dEo P "__weakref__" 203 (.ref 25), dEo P "__doc__" 204 .none] 3), #[]⟩) ::
 (nat_lit 24, ⟨(.type "type"), none, (.cls ⟨"DropError", [(.type "ValueError")], [(.ref 24), (.type "ValueError"), (.type "Exception"), (.type "BaseException"), (.type "object")], 23, "DropError", true, [], [(.ref 44)], false, none, false⟩), #[(some (.ref 15)), none, (some (.str "DropError" 189)), (some (.str "DropError" 197)), (some (.builtin "ValueError.__new__")), (some (.bool true))]⟩) ::
 (nat_lit 40, cO "__init__" 219 "NoStep.__init__" 220 221 6 2 3 (.ref 35) (.ref 36) (.ref 37) (.ref 38) (.ref 39) 224 225) ::
 (nat_lit 41, fO "__init__" "NoStep.__init__" (methOf (top 2) 0) "dropsums.errors" 187 40) ::
 (nat_lit 43, ⟨(.type "dict"), none, (.dict #[dEo P "__module__" 214 (.str "dropsums.errors" 187), dEo P "__firstlineno__" 218 (.int 4 217), dEo P "__init__" 226 (.ref 41), dEo P "__static_attributes__" 228 (.ref 42), dEo P "__doc__" 229 .none] 2), #[]⟩) ::
 (nat_lit 44, ⟨(.type "type"), none, (.cls ⟨"NoStep", [(.ref 24)], [(.ref 44), (.ref 24), (.type "ValueError"), (.type "Exception"), (.type "BaseException"), (.type "object")], 43, "NoStep", true, [], [], false, none, false⟩), #[(some (.ref 28)), none, (some (.str "NoStep" 207)), (some (.str "NoStep" 215)), (some (.builtin "ValueError.__new__")), (some (.bool true))]⟩) ::
 (nat_lit 50, cO "can_go" 240 "can_go" 241 242 12 3 3 (.ref 47) (.ref 48) .none .none (.ref 49) 243 244) ::
 (nat_lit 51, fO "can_go" "can_go" (top 7) "dropsums.steps" 238 50) ::
 (nat_lit 55, cO "gone" 246 "gone" 247 248 17 3 3 (.ref 52) (.ref 53) .none .none (.ref 54) 249 250) ::
 (nat_lit 56, fO "gone" "gone" (top 8) "dropsums.steps" 238 55) ::
 (nat_lit 60, cO "rules_there" 252 "rules_there" 253 254 23 2 3 (.ref 57) (.ref 58) .none .none (.ref 59) 255 256) ::
 (nat_lit 61, fO "rules_there" "rules_there" (top 9) "dropsums.steps" 238 60) ::
 (nat_lit 67, cO "has_ended" 258 "has_ended" 259 260 25 2 3 (.ref 62) (.ref 63) (.ref 64) (.ref 65) (.ref 66) 263 264) ::
 (nat_lit 68, fO "has_ended" "has_ended" (top 10) "dropsums.steps" 238 67) ::
 (nat_lit 72, cO "ended_of" 268 "ended_of" 269 270 28 2 3 (.ref 69) (.ref 70) .none .none (.ref 71) 271 272) ::
 (nat_lit 73, fO "ended_of" "ended_of" (top 12) "dropsums.coming" 266 72) ::
 (nat_lit 77, cO "can_come" 274 "can_come" 275 276 30 3 3 (.ref 74) (.ref 75) .none .none (.ref 76) 277 278) ::
 (nat_lit 78, fO "can_come" "can_come" (top 13) "dropsums.coming" 266 77) ::
 (nat_lit 84, cO "sources_by_stand" 280 "sources_by_stand" 281 282 40 2 3 (.ref 79) (.ref 80) (.ref 81) (.ref 82) (.ref 83) 289 290) ::
 (nat_lit 85, fO "sources_by_stand" "sources_by_stand" (top 14) "dropsums.coming" 266 84) ::
 (nat_lit 91, cO "_law_feed" 294 "_law_feed" 295 296 51 1 3 (.ref 86) (.ref 87) (.ref 88) (.ref 89) (.ref 90) 298 299) ::
 (nat_lit 92, fO "_law_feed" "_law_feed" (top 16) "law_dropsums_k41_ended_and_what_can_still_co" 292 91) ::
 (nat_lit 98, cO "_law_draw" 301 "_law_draw" 302 303 53 2 3 (.ref 93) (.ref 94) (.ref 95) (.ref 96) (.ref 97) 310 311) ::
 (nat_lit 99, fO "_law_draw" "_law_draw" (top 17) "law_dropsums_k41_ended_and_what_can_still_co" 292 98) ::
 (nat_lit 103, cO "_law_line" 313 "_law_line" 314 315 68 3 3 (.ref 100) (.ref 101) .none .none (.ref 102) 316 317) ::
 (nat_lit 104, fO "_law_line" "_law_line" (top 18) "law_dropsums_k41_ended_and_what_can_still_co" 292 103) ::
 (nat_lit 110, cO "_law_ask" 319 "_law_ask" 320 321 70 3 3 (.ref 105) (.ref 106) (.ref 107) (.ref 108) (.ref 109) 327 328) ::
 (nat_lit 111, fO "_law_ask" "_law_ask" (top 19) "law_dropsums_k41_ended_and_what_can_still_co" 292 110) ::
 (nat_lit 120, cO "_law_can" 336 "_law_can" 337 338 87 3 3 (.ref 117) (.ref 118) .none .none (.ref 119) 339 340) ::
 (nat_lit 121, fO "_law_can" "_law_can" (top 21) "law_dropsums_k41_ended_and_what_can_still_co" 292 120) ::
 (nat_lit 125, cO "_law_gone" 342 "_law_gone" 343 344 89 3 3 (.ref 122) (.ref 123) .none .none (.ref 124) 345 346) ::
 (nat_lit 126, fO "_law_gone" "_law_gone" (top 22) "law_dropsums_k41_ended_and_what_can_still_co" 292 125) ::
 (nat_lit 130, cO "_law_there" 348 "_law_there" 349 350 92 2 3 (.ref 127) (.ref 128) .none .none (.ref 129) 351 352) ::
 (nat_lit 131, fO "_law_there" "_law_there" (top 23) "law_dropsums_k41_ended_and_what_can_still_co" 292 130) ::
 (nat_lit 137, cO "_law_begin" 354 "_law_begin" 355 356 94 2 3 (.ref 132) (.ref 133) (.ref 134) (.ref 135) (.ref 136) 362 363) ::
 (nat_lit 138, fO "_law_begin" "_law_begin" (top 24) "law_dropsums_k41_ended_and_what_can_still_co" 292 137) ::
 (nat_lit 142, cO "_law_all" 365 "_law_all" 366 367 99 3 3 (.ref 139) (.ref 140) .none .none (.ref 141) 368 369) ::
 (nat_lit 143, fO "_law_all" "_law_all" (top 25) "law_dropsums_k41_ended_and_what_can_still_co" 292 142) ::
 (nat_lit 149, cO "_law_row" 371 "_law_row" 372 373 113 3 3 (.ref 144) (.ref 145) (.ref 146) (.ref 147) (.ref 148) 379 380) ::
 (nat_lit 150, fO "_law_row" "_law_row" (top 26) "law_dropsums_k41_ended_and_what_can_still_co" 292 149) ::
 (nat_lit 154, cO "_law_rule" 382 "_law_rule" 383 384 118 2 3 (.ref 151) (.ref 152) .none .none (.ref 153) 385 386) ::
 (nat_lit 155, fO "_law_rule" "_law_rule" (top 27) "law_dropsums_k41_ended_and_what_can_still_co" 292 154) ::
 (nat_lit 161, cO "_law_names" 388 "_law_names" 389 390 126 2 3 (.ref 156) (.ref 157) (.ref 158) (.ref 159) (.ref 160) 395 396) ::
 (nat_lit 162, fO "_law_names" "_law_names" (top 28) "law_dropsums_k41_ended_and_what_can_still_co" 292 161) ::
 (nat_lit 166, cO "_law_drawn" 398 "_law_drawn" 399 400 130 2 3 (.ref 163) (.ref 164) .none .none (.ref 165) 401 402) ::
 (nat_lit 167, fO "_law_drawn" "_law_drawn" (top 29) "law_dropsums_k41_ended_and_what_can_still_co" 292 166) ::
 (nat_lit 173, cO "_law_shaped" 404 "_law_shaped" 405 406 139 1 3 (.ref 168) (.ref 169) (.ref 170) (.ref 171) (.ref 172) 412 413) ::
 (nat_lit 174, fO "_law_shaped" "_law_shaped" (top 30) "law_dropsums_k41_ended_and_what_can_still_co" 292 173) ::
 (nat_lit 180, cO "_law_bent" 415 "_law_bent" 416 417 158 3 3 (.ref 175) (.ref 176) (.ref 177) (.ref 178) (.ref 179) 423 424) ::
 (nat_lit 181, fO "_law_bent" "_law_bent" (top 31) "law_dropsums_k41_ended_and_what_can_still_co" 292 180) ::
 (nat_lit 185, cO "_law_pot" 426 "_law_pot" 427 428 168 1 3 (.ref 182) (.ref 183) .none .none (.ref 184) 429 430) ::
 (nat_lit 186, fO "_law_pot" "_law_pot" (top 32) "law_dropsums_k41_ended_and_what_can_still_co" 292 185) ::
 (nat_lit 190, cO "_law_right" 432 "_law_right" 433 434 184 3 3 (.ref 187) (.ref 188) .none .none (.ref 189) 435 436) ::
 (nat_lit 191, fO "_law_right" "_law_right" (top 33) "law_dropsums_k41_ended_and_what_can_still_co" 292 190) ::
 (nat_lit 195, cO "law" 438 "law" 439 440 206 1 3 (.ref 192) (.ref 193) .none .none (.ref 194) 441 442) ::
 (nat_lit 196, fO "law" "law" (top 34) "law_dropsums_k41_ended_and_what_can_still_co" 292 195) :: []
def KA : List Addr := 3 :: 23 :: 24 :: 40 :: 41 :: 43 :: 44 :: 50 :: 51 :: 55 :: 56 :: 60 :: 61 :: 67 :: 68 :: 72 :: 73 :: 77 :: 78 :: 84 :: 85 :: 91 :: 92 :: 98 :: 99 :: 103 :: 104 :: 110 :: 111 :: 120 :: 121 :: 125 :: 126 :: 130 :: 131 :: 137 :: 138 :: 142 :: 143 :: 149 :: 150 :: 154 :: 155 :: 161 :: 162 :: 166 :: 167 :: 173 :: 174 :: 180 :: 181 :: 185 :: 186 :: 190 :: 191 :: 195 :: 196 :: []
theorem ke : ∀ P, KA = (KK P).map (·.1) := fun _ => by kernel_rfl
def VW : Program := { PySem.Challenge.pw_dropsums_k41_ended_and_what_can_still_co with main := { PySem.Challenge.pw_dropsums_k41_ended_and_what_can_still_co.main with body := ([1, 2, 3, 4, 5, 7, 8, 9, 10, 12, 13, 14, 16, 17, 18, 19, 20, 21, 22, 23, 24, 25, 26, 27, 28, 29, 30, 31, 32, 33, 34] : List Nat).map top } }
abbrev RR := PySem.Challenge.rw_dropsums_k41_ended_and_what_can_still_co.row
theorem said0 : PySem.Challenge.rw_dropsums_k41_ended_and_what_can_still_co.wellSaid = true := by decide +kernel
theorem left0 : PySem.W.LeftO RR.prog VW [] (fun s => PySem.W.xlAt VW [] s && PySem.W.recOk (PySem.W.RowW.records RR.toRowW) s) (PySem.W.Hook.obs (PySem.W.kHook KK KA ke)) (PySem.W.Hook.val (PySem.W.kHook KK KA ke)) 2594 := fun w => by kernel_rfl
end K41
open PySem PySem.W PyProof.Rows
set_option maxRecDepth 100000 in
set_option maxHeartbeats 0 in
theorem PySem.Challenge.cw_dropsums_k41_ended_and_what_can_still_co_holds : PySem.Challenge.rw_dropsums_k41_ended_and_what_can_still_co.Holds := by
 w_on
 refine PySem.W.holds_law K41.said0 fun said => ?_
 refine PySem.W.holds_open (q := K41.VW) (loose := []) (Xt := fun s => PySem.W.xlAt K41.VW [] s && PySem.W.recOk (PySem.W.RowW.records K41.RR.toRowW) s) (XP := PySem.W.XL K41.VW []) (Yf := PySem.W.Hook.obs (PySem.W.kHook K41.KK K41.KA K41.ke)) (Ya := PySem.W.Hook.val (PySem.W.kHook K41.KK K41.KA K41.ke)) (YP := PySem.W.Hook.says (PySem.W.kHook K41.KK K41.KA K41.ke)) (N := 2594) K41.left0 (PySem.W.Hook.of _) (PySem.W.Hook.keeps _) (fun s e => PySem.W.xl_of s (Bool.and_eq_true_iff.mp e).1) PySem.W.XL.keeps (by rfl) (by rfl) (by rfl) (fun s e => PySem.W.recFacts_of (Bool.and_eq_true_iff.mp e).2) (by rfl) said (by decide +kernel) ⟨rfl, rfl, rfl, rfl, rfl, by decide +kernel⟩ ?hw ?hc
 case hw => w_witness2
 k_fill
 refine K41.walk (l := PySem.Challenge.rw_dropsums_k41_ended_and_what_can_still_co) rfl rfl (fun w h Y => PySem.W.kIn_of Y) ?F
 case F =>
  intro w mg fa h KX G hmg
  refine' K41.all_mk KX G hmg ?a1 ?l1 ?c1 ?k1 ?a2 ?l2 ?c2 ?k2 ?a3 ?l3 ?c3 ?k3 ?a4 ?l4 ?c4 ?k4 ?a5 ?l5 ?c5 ?k5 ?a6 ?l6 ?c6 ?k6 ?a7 ?l7 ?c7 ?k7 ?a8 ?l8 ?c8 ?k8 ?a9 ?l9 ?c9 ?k9 ?a10 ?l10 ?c10 ?k10 ?a11 ?l11 ?c11 ?k11 ?a12 ?l12 ?c12 ?k12 ?a13 ?l13 ?c13 ?k13 ?a14 ?l14 ?c14 ?k14 ?a15 ?l15 ?c15 ?k15 ?a16 ?l16 ?c16 ?k16 ?a17 ?l17 ?c17 ?k17 ?a18 ?l18 ?c18 ?k18 ?a19 ?l19 ?c19 ?k19 ?a20 ?l20 ?c20 ?k20 ?a21 ?l21 ?c21 ?k21 ?a22 ?l22 ?c22 ?k22 ?a23 ?l23 ?c23 ?k23 ?a24 ?l24 ?c24 ?k24 ?a25 ?l25 ?c25 ?k25 ?z1 ?z2 ?z3 ?z4 ?z5 ?z6 ?z7 ?z8 ?z9 ?z10 ?z11 ?z12 ?z13 ?z14 ?z15 ?z16 ?z17 ?z18 ?z19 ?z20 ?g1 ?g2 ?g3
  (case a1 => k_is)
  (case l1 => k_is)
  (case c1 => k_is)
  (case k1 => k_is)
  (case a2 => k_is)
  (case l2 => k_is)
  (case c2 => k_is)
  (case k2 => k_is)
  (case a3 => k_is)
  (case l3 => k_is)
  (case c3 => k_is)
  (case k3 => k_is)
  (case a4 => k_is)
  (case l4 => k_is)
  (case c4 => k_is)
  (case k4 => k_is)
  (case a5 => k_is)
  (case l5 => k_is)
  (case c5 => k_is)
  (case k5 => k_is)
  (case a6 => k_is)
  (case l6 => k_is)
  (case c6 => k_is)
  (case k6 => k_is)
  (case a7 => k_is)
  (case l7 => k_is)
  (case c7 => k_is)
  (case k7 => k_is)
  (case a8 => k_is)
  (case l8 => k_is)
  (case c8 => k_is)
  (case k8 => k_is)
  (case a9 => k_is)
  (case l9 => k_is)
  (case c9 => k_is)
  (case k9 => k_is)
  (case a10 => k_is)
  (case l10 => k_is)
  (case c10 => k_is)
  (case k10 => k_is)
  (case a11 => k_is)
  (case l11 => k_is)
  (case c11 => k_is)
  (case k11 => k_is)
  (case a12 => k_is)
  (case l12 => k_is)
  (case c12 => k_is)
  (case k12 => k_is)
  (case a13 => k_is)
  (case l13 => k_is)
  (case c13 => k_is)
  (case k13 => k_is)
  (case a14 => k_is)
  (case l14 => k_is)
  (case c14 => k_is)
  (case k14 => k_is)
  (case a15 => k_is)
  (case l15 => k_is)
  (case c15 => k_is)
  (case k15 => k_is)
  (case a16 => k_is)
  (case l16 => k_is)
  (case c16 => k_is)
  (case k16 => k_is)
  (case a17 => k_is)
  (case l17 => k_is)
  (case c17 => k_is)
  (case k17 => k_is)
  (case a18 => k_is)
  (case l18 => k_is)
  (case c18 => k_is)
  (case k18 => k_is)
  (case a19 => k_is)
  (case l19 => k_is)
  (case c19 => k_is)
  (case k19 => k_is)
  (case a20 => k_is)
  (case l20 => k_is)
  (case c20 => k_is)
  (case k20 => k_is)
  (case a21 => k_is)
  (case l21 => k_is)
  (case c21 => k_is)
  (case k21 => k_is)
  (case a22 => k_is)
  (case l22 => k_is)
  (case c22 => k_is)
  (case k22 => k_is)
  (case a23 => k_is)
  (case l23 => k_is)
  (case c23 => k_is)
  (case k23 => k_is)
  (case a24 => k_is)
  (case l24 => k_is)
  (case c24 => k_is)
  (case k24 => k_is)
  (case a25 => k_is)
  (case l25 => k_is)
  (case c25 => k_is)
  (case k25 => k_is)
  (case z1 => k_is)
  (case z2 => k_is)
  (case z3 => k_is)
  (case z4 => k_is)
  (case z5 => k_is)
  (case z6 => k_is)
  (case z7 => k_is)
  (case z8 => k_is)
  (case z9 => k_is)
  (case z10 => k_is)
  (case z11 => k_is)
  (case z12 => k_is)
  (case z13 => k_is)
  (case z14 => k_is)
  (case z15 => k_is)
  (case z16 => k_is)
  (case z17 => k_is)
  (case z18 => k_is)
  (case z19 => k_is)
  (case z20 => k_is)
  (case g1 => k_is)
  (case g2 => k_is)
  (case g3 => k_is)
