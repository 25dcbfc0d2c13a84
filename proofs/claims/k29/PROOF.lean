import PyProof.Rows.All
import Wide.All
import OpenK.AllK
import Wide.FinOn
import Lean
import PyProof.EqAt
import PyProof.EqKinds
import PyProof.TupleCall
import PyProof.Rows.SumAny
import PyProof.Draws
import PyProof.ZipIter
import PyProof.EnumMake
import PyProof.Rows.ZipGen
import PyProof.FitsInt
import PyProof.ReprLen
import KE.IntBitsLaws
import PyProof.NeData
import PyProof.ConsumeWalk
import PyProof.WalkInts
import PyProof.Rows.SeqMore
import PyProof.ListMulRoad
import PyProof.DictUpdate
import KE.KRevSl
import PyProof.MeetsStr
import PyProof.StrBlockG
import PyProof.CallStr
import KE.KIntText
import PyProof.StrLawsTight
import PyProof.StrLawsChain
import PyProof.StrLawsJoin
import PyProof.StrWalks
import KE.KSortTup
import PyProof.TupleOfStr
import PyProof.ListRange
import PyProof.SliceStr
import PyProof.StrBlockI
import PyProof.SeqRoads
import PyProof.NsDelKeeps
import PyProof.RulesAs
import KE.KIsAll
import PyProof.Rows.SetFrom
import PyProof.WalksMore
import PyProof.FactsAll.subtypes_4
import PyProof.MeetsStr2
import PyProof.Rows.Range3
import PyProof.StrLawsRepr
import PySem.Challenge.RW_dropsums_k29_whole_facts_hold
-- CHANGE: your row's module here, as the last of these rows
set_option Elab.async false
set_option linter.all false
set_option maxRecDepth 100000
namespace L2
open PySem PySem.Spec PyProof.Rows
abbrev Key := Sum Int Str
def keyIs : Key → Value → Bool
 | .inl k, v => Value.isInt k v
 | .inr x, v => Value.isStrOf x v
def keyH (w : World) : Key → Int
 | .inl k => hashInt k
 | .inr x => hashStr w x
theorem keyIs_shape : ∀ {k : Key} {v : Value}, keyIs k v = true → (∃ i t, k = Sum.inl i ∧ v = Value.int i t) ∨ (∃ x t, k = Sum.inr x ∧ v = Value.str x t)
 | .inl i, v, h => by
  obtain ⟨t, e⟩ := Value.isInt_shape (k := i) (v := v) h
  exact .inl ⟨i, t, rfl, e⟩
 | .inr x, v, h => by
  obtain ⟨t, e⟩ := Value.isStrOf_shape (x := x) (v := v) h
  exact .inr ⟨x, t, rfl, e⟩
theorem keyIs_int (i : Int) (t : Tok) : keyIs (.inl i) (.int i t) = true := by simp [keyIs, Value.isInt]
theorem keyIs_str (x : Str) (t : Tok) : keyIs (.inr x) (.str x t) = true := by simp [keyIs, Value.isStrOf]
theorem key_ll (a b : Int) : decide ((Sum.inl a : Key) = Sum.inl b) = (a == b) := by
 by_cases e : a = b
 ·subst e; simp
 ·have h : ¬ (Sum.inl a : Key) = Sum.inl b := fun q => e (Sum.inl.inj q)
  rw [decide_eq_false h]
  exact (beq_eq_false_iff_ne.mpr e).symm
theorem key_rr (a b : Str) : decide ((Sum.inr a : Key) = Sum.inr b) = decide (a = b) := by
 by_cases e : a = b
 ·subst e; simp
 ·have h : ¬ (Sum.inr a : Key) = Sum.inr b := fun q => e (Sum.inr.inj q)
  rw [decide_eq_false h, decide_eq_false e]
theorem key_lr (a : Int) (b : Str) : decide ((Sum.inl a : Key) = Sum.inr b) = false := decide_eq_false (fun q => nomatch q)
theorem key_rl (a : Str) (b : Int) : decide ((Sum.inr a : Key) = Sum.inl b) = false := decide_eq_false (fun q => nomatch q)
def mixKind (prog : Program) (w : World) : PySem.KeyKind prog w Key where
 is := keyIs
 hash := keyH w
 inj := fun v a b ha hb => by
  rcases keyIs_shape ha with ⟨i, t, rfl, rfl⟩ | ⟨x, t, rfl, rfl⟩
  ·rcases keyIs_shape hb with ⟨j, u, rfl, e⟩ | ⟨y, u, rfl, e⟩
   ·injection e with e1 _; rw [e1]
   ·exact nomatch e
  ·rcases keyIs_shape hb with ⟨j, u, rfl, e⟩ | ⟨y, u, rfl, e⟩
   ·exact nomatch e
   ·injection e with e1 _; rw [e1]
 byValue := fun k v h => by
  rcases keyIs_shape h with ⟨i, t, rfl, rfl⟩ | ⟨x, t, rfl, rfl⟩ <;> rfl
 pyHash := fun hv h => by
  rcases keyIs_shape hv with ⟨i, t, rfl, rfl⟩ | ⟨x, t, rfl, rfl⟩
  ·exact wpAny_pyHash_int h
  ·exact wpAny_pyHash_str h
 eqBool := fun hu hv h => by
  rcases keyIs_shape hu with ⟨i, t, rfl, rfl⟩ | ⟨x, t, rfl, rfl⟩
  ·rcases keyIs_shape hv with ⟨j, u, rfl, rfl⟩ | ⟨y, u, rfl, rfl⟩
   ·rw [key_ll] at h; exact wpAny_eqBool_int h
   ·rw [key_lr] at h; exact SeqAt.EqAt.int_str i t y u _ _ _ _ h
  ·rcases keyIs_shape hv with ⟨j, u, rfl, rfl⟩ | ⟨y, u, rfl, rfl⟩
   ·rw [key_rl] at h; exact SeqAt.EqAt.str_int x t j u _ _ _ _ h
   ·rw [key_rr] at h; exact wpAny_eqBool_str h
 «strs» := fun k x t v h => by
  rcases keyIs_shape h with ⟨i, u, rfl, e⟩ | ⟨y, u, rfl, e⟩
  ·exact nomatch e
  ·injection e with e1 _
   subst e1
   cases v <;> rfl
theorem mixKind_int (prog : Program) (w : World) (i : Int) (t : Tok) : (mixKind prog w).is (.inl i) (.int i t) = true := keyIs_int i t
theorem mixKind_str (prog : Program) (w : World) (x : Str) (t : Tok) : (mixKind prog w).is (.inr x) (.str x t) = true := keyIs_str x t
inductive V where
 | non | bl (b : Bool) | int (i : Int) | str (x : Str) | byt (b : Array UInt8) | flt (b : UInt64) | ref (a : Addr) | ty (n : String)
 deriving DecidableEq
def RelV : V → Value → Prop
 | .non, u => u = Value.none
 | .bl b, u => u = Value.bool b
 | .int i, u => ∃ t, u = Value.int i t
 | .str x, u => ∃ t, u = Value.str x t
 | .byt b, u => ∃ t, u = Value.bytes b t
 | .flt b, u => ∃ t, u = Value.float b t
 | .ref a, u => u = Value.ref a
 | .ty n, u => u = Value.type n
abbrev Vals : List V → List Value → Prop := Paired RelV
theorem Vals.length {xs : List V} {us : List Value} (r : Vals xs us) : xs.length = us.length := Paired.length r
theorem Vals.get : ∀ {xs : List V} {us : List Value} {i : Nat} {x : V}, Vals xs us → xs[i]? = some x → ∃ u, us[i]? = some u ∧ RelV x u
 | _, _, _, _, .nil, e => by simp at e
 | _, _, 0, _, .cons r _, e => by simp at e; subst e; exact ⟨_, rfl, r⟩
 | _, _, i + 1, x, .cons _ t, e => by
  obtain ⟨u, h1, h2⟩ := Vals.get (i := i) (x := x) t (by simpa using e)
  exact ⟨u, by simpa using h1, h2⟩
theorem Vals.set {x : V} {u : Value} (r : RelV x u) : ∀ {xs : List V} {us : List Value} (i : Nat), Vals xs us → Vals (xs.set i x) (us.set i u)
 | _, _, _, .nil => .nil
 | _, _, 0, .cons _ t => .cons r t
 | _, _, i + 1, .cons q t => .cons q (Vals.set r i t)
theorem Vals.append : ∀ {xs ys : List V} {us ws : List Value}, Vals xs us → Vals ys ws → Vals (xs ++ ys) (us ++ ws)
 | _, _, _, _, .nil, s => s
 | _, _, _, _, .cons r t, s => .cons r (Vals.append t s)
theorem Vals.take : ∀ {xs : List V} {us : List Value} (n : Nat), Vals xs us → Vals (xs.take n) (us.take n)
 | _, _, 0, _ => .nil
 | _, _, _ + 1, .nil => .nil
 | _, _, n + 1, .cons r t => .cons r (Vals.take n t)
theorem Vals.drop : ∀ {xs : List V} {us : List Value} (n : Nat), Vals xs us → Vals (xs.drop n) (us.drop n)
 | _, _, 0, r => r
 | _, _, _ + 1, .nil => .nil
 | _, _, n + 1, .cons _ t => Vals.drop n t
def RelO : Option V → Option Value → Prop
 | some v, some u => RelV v u
 | none, none => True
 | _, _ => False
def KV {κ : Type} : List (κ × V) → List (κ × Value) → Prop := Paired fun (p : κ × V) (q : κ × Value) => p.1 = q.1 ∧ RelV p.2 q.2
def kV : Key → V
 | .inl i => .int i
 | .inr x => .str x
inductive HO where
 | lst (xs : List V)
 | tup (xs : List V)
 | dK (kvs : List (Key × V)) | dT (kvs : List (List Key × V))
 | set (S : Int → Bool) (n : Nat)
 | ins (C dx : Addr) (fs : List (Str × V))
 | own (x : Addr)
 | xd (fs : List (Str × V))
 | met (f x : Addr)
 | rng (lo hi : Int)
 | frz (o : Obj) (u : HO)
 | tbl (ps : Array Value)
 | ext (φ : Heap → Prop)
abbrev Hp := Addr → Option HO
def upd (H : Hp) (a : Addr) (o : HO) : Hp := fun b => if b = a then some o else H b
theorem upd_same {H : Hp} {a : Addr} {o : HO} : upd H a o a = some o := by unfold upd; rw [if_pos rfl]
theorem upd_ne {H : Hp} {a b : Addr} {o : HO} (h : b ≠ a) : upd H a o b = H b := by unfold upd; rw [if_neg h]
theorem upd_upd {H : Hp} {a : Addr} {o u : HO} : upd (upd H a o) a u = upd H a u := by
 funext b; unfold upd; split <;> rfl
theorem ne_of {H : Hp} {a b : Addr} {o u : HO} (h : H a = some o) (h' : H b = some u) (d : o ≠ u) : a ≠ b := by
 intro e; subst e; rw [h] at h'; exact d (Option.some.inj h')
theorem ne_of_none {H : Hp} {a b : Addr} {o : HO} (h : H a = some o) (h' : H b = none) : a ≠ b := by
 intro e; subst e; rw [h] at h'; cases h'
section
variable (P : Program) (w : World)
def ObjOk (H : Hp) (h : Heap) (a : Addr) : HO → Prop
 | .lst xs => xs.length ≤ sizeLine ∧ ∃ (its : List Value) (n : Nat), Vals xs its ∧ h.get? a = some { cls := .type "list", data := .seq its.toArray n }
 | .tup xs => xs.length ≤ sizeLine ∧ ∃ its : List Value, Vals xs its ∧ IsTup h a its.toArray
 | .dK kvs => kvs.length ≤ sizeLine ∧ (a == sysModules) = false ∧ ∃ vs, KV kvs vs ∧ h.DictOf (mixKind P w) a vs
 | .dT kvs => kvs.length ≤ sizeLine ∧ (a == sysModules) = false ∧ ∃ xs : List (List Key × Addr × Value),
   Paired (fun (p : List Key × V) (q : List Key × Addr × Value) => p.1 = q.1 ∧ H q.2.1 = some (.tup (p.1.map kV)) ∧ RelV p.2 q.2.2) kvs xs ∧
   ∃ o es ep, h.get? a = some o ∧ o.ExactDict ∧ o.data = .dict es ep ∧ es.toList = xs.map (entryOfKey (tupleKind (mixKind P w))) ∧ (xs.map (·.1)).Nodup
 | .set S n => h.SetOf (intKind P w) a S n
 | .ins C dx fs => H dx = some (.own a) ∧ fs.length ≤ 1000 ∧ dx ≠ a ∧ h.get? a = some (PySem.W.instObj C dx) ∧
   ∃ mA, h.Ns1 dx mA ∧ (∀ f, RelO (fs.lookup f) (mA f)) ∧ PySem.Within mA (fs.map (·.1))
 | .own _ => ∃ o, h.get? a = some o
 | .xd fs => ∃ mA, h.Ns1 a mA ∧ ∀ f, RelO (fs.lookup f) (mA f)
 | .rng lo hi => ∃ t u v, h.get? a = some { cls := .type "range", data := .fields #[.int lo t, .int hi u, .int 1 v] }
 | .frz o u => h.get? a = some o ∧ ObjOk H h a u
 | .tbl ps => h.get? a = some { cls := .none, data := .fields ps }
 | .met f x => h.get? a = some (PySem.W.methodObj (.ref f) (.ref x))
 | .ext φ => φ h ∧ (∃ o, h.get? a = some o) ∧ ∀ h1 h2 : Heap, φ h1 → (∀ o, h1.get? a = some o → h2.get? a = some o) → φ h2
def HOk (H : Hp) (h : Heap) : Prop := ∀ a o, H a = some o → ObjOk P w H h a o
end
section
variable {P : Program} {w : World} {H H' : Hp} {h h' : Heap} {a : Addr} {o : HO}
theorem ObjOk.lt (x : ObjOk P w H h a o) : a < h.objs.size := by
 cases o with
 | lst xs => obtain ⟨_, _, _, _, e⟩ := x; exact Heap.lt_size e
 | tup xs => obtain ⟨_, _, _, p⟩ := x; exact p.lt
 | dK kvs => obtain ⟨_, _, _, _, o, _, _, e, _⟩ := x; exact Heap.lt_size e
 | dT kvs => obtain ⟨_, _, _, _, o, _, _, e, _⟩ := x; exact Heap.lt_size e
 | set S n => obtain ⟨o, _, _, _, e, _⟩ := x; exact Heap.lt_size e
 | ins C dx fs => obtain ⟨_, _, _, e, _⟩ := x; exact Heap.lt_size e
 | own y => obtain ⟨_, e⟩ := x; exact Heap.lt_size e
 | xd fs => obtain ⟨_, ⟨_, _, _, e, _⟩, _⟩ := x; exact Heap.lt_size e
 | rng lo hi => obtain ⟨_, _, _, e⟩ := x; exact Heap.lt_size e
 | frz ob u => obtain ⟨e, _⟩ := x; exact Heap.lt_size e
 | tbl ps => exact Heap.lt_size (show h.get? a = some _ from x)
 | met f y => exact Heap.lt_size (show h.get? a = some _ from x)
 | ext φ => obtain ⟨_, ⟨_, e⟩, _⟩ := x; exact Heap.lt_size e
theorem Paired.mapP {α β : Type} {F G : α → β → Prop} : ∀ {l₁ : List α} {l₂ : List β}, Paired F l₁ l₂ → (∀ a b, F a b → G a b) → Paired G l₁ l₂
 | _, _, .nil, _ => .nil
 | _, _, .cons r t, f => .cons (f _ _ r) (Paired.mapP t f)
theorem ObjOk.stay (x : ObjOk P w H h a o) (k : ∀ b u, (b = a ∨ H b = some (.own a)) → h.get? b = some u → h'.get? b = some u)
  (ho : ∀ b, H b = some (.own a) → H' b = some (.own a)) (ht : ∀ b xs, H b = some (.tup xs) → H' b = some (.tup xs)) : ObjOk P w H' h' a o := by
 induction o with
 | lst xs => obtain ⟨z, its, n, r, e⟩ := x; exact ⟨z, its, n, r, k _ _ (.inl rfl) e⟩
 | tup xs => obtain ⟨z, its, r, ob, e, c⟩ := x; exact ⟨z, its, r, ob, k _ _ (.inl rfl) e, c⟩
 | dK kvs => obtain ⟨z, y, vs, r, ob, es, ep, e, c⟩ := x; exact ⟨z, y, vs, r, ob, es, ep, k _ _ (.inl rfl) e, c⟩
 | dT kvs =>
  obtain ⟨z, y, xs, r, ob, es, ep, e, c⟩ := x
  exact ⟨z, y, xs, Paired.mapP r fun p q z => ⟨z.1, ht _ _ z.2.1, z.2.2⟩, ob, es, ep, k _ _ (.inl rfl) e, c⟩
 | set S n => obtain ⟨ob, es, ep, t, e, c⟩ := x; exact ⟨ob, es, ep, t, k _ _ (.inl rfl) e, c⟩
 | ins C dx fs =>
  obtain ⟨d, z, ne, e, mA, ⟨od, es, ep, e2, c⟩, r⟩ := x
  exact ⟨ho _ d, z, ne, k _ _ (.inl rfl) e, mA, ⟨od, es, ep, k _ _ (.inr d) e2, c⟩, r⟩
 | own y => obtain ⟨ob, e⟩ := x; exact ⟨ob, k _ _ (.inl rfl) e⟩
 | xd fs => obtain ⟨mA, ⟨od, es, ep, e, c⟩, r⟩ := x; exact ⟨mA, ⟨od, es, ep, k _ _ (.inl rfl) e, c⟩, r⟩
 | rng lo hi => obtain ⟨t, u, v, e⟩ := x; exact ⟨t, u, v, k _ _ (.inl rfl) e⟩
 | frz ob u ih => obtain ⟨e, q⟩ := x; exact ⟨k _ _ (.inl rfl) e, ih q⟩
 | tbl ps =>
  have e : h.get? a = some { cls := .none, data := .fields ps } := x
  show h'.get? a = some { cls := .none, data := .fields ps }
  exact k a _ (.inl rfl) e
 | met f y =>
  have e : h.get? a = some (PySem.W.methodObj (.ref f) (.ref y)) := x
  show h'.get? a = some (PySem.W.methodObj (.ref f) (.ref y))
  exact k a _ (.inl rfl) e
 | ext φ => obtain ⟨p, ⟨o, e⟩, st⟩ := x; exact ⟨st _ _ p fun o q => k _ _ (.inl rfl) q, ⟨o, k _ _ (.inl rfl) e⟩, st⟩
theorem HOk.lt (x : HOk P w H h) (e : H a = some o) : a < h.objs.size := (x a o e).lt
theorem HOk.fresh (x : HOk P w H h) (e : h.objs.size ≤ a) : H a = none := by
 cases q : H a with
 | none => rfl
 | some u => exact absurd (Nat.lt_of_lt_of_le (x.lt q) e) (Nat.lt_irrefl _)
theorem HOk.kept (x : HOk P w H h) (k : ∀ b u, h.get? b = some u → h'.get? b = some u) : HOk P w H h' := fun a o e =>
 (x a o e).stay (fun b u _ q => k b u q) (fun _ q => q) fun _ _ q => q
theorem HOk.laid (x : HOk P w H h) (k : ∀ b u, h.get? b = some u → h'.get? b = some u) (hp : h.objs.size ≤ a) (new : ObjOk P w (upd H a o) h' a o) : HOk P w (upd H a o) h' := fun b u e => by
 have hn := x.fresh hp
 by_cases hb : b = a
 ·subst hb; rw [upd_same] at e; cases e; exact new
 ·rw [upd_ne hb] at e
  exact (x b u e).stay (fun c v _ q => k c v q) (fun c q => by rw [upd_ne (ne_of_none q hn)]; exact q) fun c xs q => by rw [upd_ne (ne_of_none q hn)]; exact q
end
def Rd (H : Hp) (a : Addr) (u : HO) : Prop := H a = some u ∨ ∃ o, H a = some (.frz o u)
theorem Rd.ok {P : Program} {w : World} {H : Hp} {h : Heap} {a : Addr} {u : HO} (r : Rd H a u) (x : HOk P w H h) : ObjOk P w H h a u := by
 rcases r with r | ⟨o, r⟩
 ·exact x a u r
 ·obtain ⟨_, q⟩ := x a _ r
  exact q
def Mut : Option HO → Prop
 | some (.lst _) => True
 | some (.dK _) => True
 | some (.dT _) => True
 | some (.set _ _) => True
 | some (.ins _ _ _) => True
 | some (.ext _) => True
 | _ => False
section
variable {P : Program} {w : World} {H : Hp} {h h' : Heap} {x e : Addr} {o' : HO}
theorem HOk.write (ok : HOk P w H h) (mu : Mut (H x)) (he : e = x ∨ H e = some (.own x)) (k : ∀ b u, b ≠ e → h.get? b = some u → h'.get? b = some u) (heo : ∃ u, h'.get? e = some u)
  (new : ObjOk P w (upd H x o') h' x o') : HOk P w (upd H x o') h' := fun b u q => by
 have nown : ∀ c y, H c = some (.own y) → c ≠ x := fun c y r z => by subst z; rw [r] at mu; exact mu
 have ntup : ∀ c xs, H c = some (.tup xs) → c ≠ x := fun c xs r z => by subst z; rw [r] at mu; exact mu
 by_cases hb : b = x
 ·subst hb; rw [upd_same] at q; cases q; exact new
 ·rw [upd_ne hb] at q
  by_cases hbe : b = e
  ·have q' : H b = some (.own x) := by
    rcases he with z | z
    ·exact absurd (hbe.trans z) hb
    ·rw [hbe]; exact z
   rw [q] at q'; cases q'
   obtain ⟨v, hv⟩ := heo
   exact ⟨v, by rw [hbe]; exact hv⟩
  ·refine (ok b u q).stay (fun c v hc r => k c v ?_ r) (fun c r => by rw [upd_ne (nown c b r)]; exact r) fun c xs r => by rw [upd_ne (ntup c xs r)]; exact r
   rcases hc with rfl | hc
   ·exact hbe
   ·rintro rfl
    rcases he with z | z
    ·exact nown c b hc z
    ·rw [hc] at z; cases z; exact hb rfl
end
structure Un (fs ex : List Addr) (H H' : Hp) (h h' : Heap) : Prop where
 keep : ∀ b o, h.get? b = some o → H b = none → b ∉ fs → b ∉ ex → h'.get? b = some o
 slot : ∀ b o, h.get? b = some o → H b = none → b ∈ fs → b ∉ ex → ∃ sl, h'.get? b = some { o with slots := sl }
 free : ∀ b o, h.get? b = some o → H b = none → b ∉ ex → H' b = none
 there : ∀ b o, h.get? b = some o → b ∉ ex → ∃ o', h'.get? b = some o'
 tups : ∀ b xs, H b = some (.tup xs) → H' b = some (.tup xs)
 frzs : ∀ b o u, H b = some (.frz o u) → H' b = some (.frz o u)
 tbls : ∀ b ps, H b = some (.tbl ps) → ∃ more, H' b = some (.tbl (ps ++ more))
section
variable {fs fs' ex ex' : List Addr} {H H1 H2 : Hp} {h h1 h2 h' : Heap} {a x e : Addr} {o : HO}
theorem Un.any (u : Un fs ex H H1 h h1) {b : Addr} {ob : Obj} (q : h.get? b = some ob) (n : H b = none) (hx : b ∉ ex) : ∃ sl, h1.get? b = some { ob with slots := sl } := by
 by_cases hb : b ∈ fs
 ·exact u.slot b ob q n hb hx
 ·exact ⟨ob.slots, u.keep b ob q n hb hx⟩
theorem Un.kept (k : ∀ b u, h.get? b = some u → h'.get? b = some u) : Un fs ex H H h h' :=
 ⟨fun b ob q _ _ _ => k b ob q, fun b ob q _ _ _ => ⟨ob.slots, k b ob q⟩, fun _ _ _ n _ => n, fun b ob q _ => ⟨ob, k b ob q⟩, fun _ _ q => q, fun _ _ _ q => q, fun _ ps q => ⟨#[], by rw [q]; simp⟩⟩
theorem Un.refl : Un fs ex H H h h := Un.kept fun _ _ q => q
theorem Un.laid (k : ∀ b u, h.get? b = some u → h'.get? b = some u) (hp : h.objs.size ≤ a) (hn : H a = none) : Un fs ex H (upd H a o) h h' where
 keep := fun b u q _ _ _ => k b u q
 slot := fun b u q _ _ _ => ⟨u.slots, k b u q⟩
 free := fun b u q n _ => by rw [upd_ne (Nat.ne_of_lt (Nat.lt_of_lt_of_le (Heap.lt_size q) hp))]; exact n
 there := fun b u q _ => ⟨u, k b u q⟩
 tups := fun b xs q => by rw [upd_ne (ne_of_none q hn)]; exact q
 frzs := fun b u xs q => by rw [upd_ne (ne_of_none q hn)]; exact q
 tbls := fun b ps q => ⟨#[], by rw [upd_ne (ne_of_none q hn), q]; simp⟩
theorem Un.write (mu : Mut (H x)) (he : e = x ∨ H e = some (.own x)) (k : ∀ b u, b ≠ e → h.get? b = some u → h'.get? b = some u) (heo : ∃ u, h'.get? e = some u) : Un fs ex H (upd H x o) h h' := by
 have hx : ∀ b, H b = none → b ≠ x := fun b n z => by subst z; rw [n] at mu; exact mu
 have hb : ∀ b, H b = none → b ≠ e := fun b n z => by
  subst z
  rcases he with r | r
  ·exact hx b n r
  ·rw [n] at r; cases r
 have hm : ∀ b u, H b = some u → ¬ Mut (some u) → b ≠ x := fun b u q nm z => by subst z; rw [q] at mu; exact nm mu
 refine ⟨fun b u q n _ _ => k b u (hb b n) q, fun b u q n _ _ => ⟨u.slots, k b u (hb b n) q⟩, fun b u q n _ => by rw [upd_ne (hx b n)]; exact n, fun b u q _ => ?_,
  fun b xs q => by rw [upd_ne (hm b _ q fun z => z)]; exact q, fun b u xs q => by rw [upd_ne (hm b _ q fun z => z)]; exact q, fun b ps q => ⟨#[], by rw [upd_ne (hm b _ q fun z => z), q]; simp⟩⟩
 by_cases hbe : b = e
 ·subst hbe; exact heo
 ·exact ⟨u, k b u hbe q⟩
end
def trk (h : Heap) (H : Hp) : List Addr := (List.range h.objs.size).filter fun a => (H a).isSome
def hidT (h : Heap) (H : Hp) : Heap := PySem.W.hideAll h (trk h H)
theorem hidT_size (h : Heap) (H : Hp) : (hidT h H).objs.size = h.objs.size := PySem.W.hideAll_size _ _
theorem hidT_get {h : Heap} {H : Hp} {b : Addr} {o : Obj} (e : h.get? b = some o) (n : H b = none) : (hidT h H).get? b = some o :=
 PySem.W.hideAll_get _ e fun hm => by
  have q : (H b).isSome = true := (List.mem_filter.mp hm).2
  rw [n] at q; simp at q
theorem of_hidT {h : Heap} {H : Hp} {b : Addr} {o : Obj} (e : (hidT h H).get? b = some o) : h.get? b = some o ∧ H b = none := by
 have e' : h.get? b = some o := PySem.W.of_hideAll (trk h H) e
 refine ⟨e', ?_⟩
 cases q : H b with
 | none => rfl
 | some x =>
  have hm : b ∈ trk h H := List.mem_filter.mpr ⟨List.mem_range.mpr (Heap.lt_size e'), by simp [q]⟩
  have z : (hidT h H).get? b = none := PySem.W.hideAll_none (trk h H) hm
  rw [z] at e; cases e
def allNews (g h : Heap) (L : Addr) : List (Addr × Obj) := (List.range h.objs.size).filterMap fun a => if a = L ∨ (g.get? a).isSome = true then none else (h.get? a).map fun o => (a, o)
def rest (g h : Heap) (L d : Addr) : List (Addr × Obj) := (allNews g h L).filter fun p => decide (p.1 ≠ d)
structure Mod (K : PySem.W.Frag) (mg : Str → Option Value) (base : Heap) : Prop where
 kin : K.In base
 glob : base.Ns mainGlobals mg
 blt : ∃ mb, base.Ns builtinsNs mb ∧ ∀ x : Str, x ≠ "__name__" → mb x = bootBuiltins x
 nolimit : base.NoLimit
structure Cx where
 prog : Program
 w : World
 K : PySem.W.Frag
 mg : Str → Option Value
 base : Heap
 A : Around
 N : List Str
 s₀ : Shared
 H₀ : Hp
 env : Env
 outer : List Env
 stack : List Env
 ex : List Addr
 fn : Str → Bool
 calm : Bool
 pn : List (Addr × Obj)
 xe : Value → Shared → Prop
def frs (l : List Env) : List Addr := l.filterMap (·.frame)
abbrev Cx.fs (X : Cx) : List Addr := frs X.outer
def Vis (sc : Scope) (x : Str) : Prop := sc.names.lookup x = some .local ∨ sc.names.lookup x = some .cell ∨ sc.names.lookup x = some .free
def Loc (sc : Scope) (x : Str) : Prop := sc.names.lookup x = some .local ∨ sc.names.lookup x = some .cell
def Look (env : Env) (h : Heap) (m : Str → Option Value) (x : Str) (u : Value) : Prop :=
 (env.kindOf x = some .local ∧ m x = some u) ∨ ((env.kindOf x = some .cell ∨ env.kindOf x = some .free) ∧ ∃ c, env.cells.lookup x = some c ∧ h.IsCell c (some u))
structure Cx.Ok (X : Cx) : Prop where
 mod : Mod X.K X.mg X.base
 kind : X.env.scope.kind = .function
 glob : X.env.globals = mainGlobals
 blt : X.env.builtins = builtinsNs
 above : X.s₀.heap.objs.size ≤ X.env.locals
 inj : ∀ x y c, X.env.cells.lookup x = some c → X.env.cells.lookup y = some c → x = y
 has : ∀ x, (X.env.kindOf x = some .cell ∨ X.env.kindOf x = some .free) → ∃ c, X.env.cells.lookup x = some c
 cab : ∀ x c, X.fn x = true → X.env.cells.lookup x = some c → X.s₀.heap.objs.size ≤ c
 hd : X.calm = true → X.A.handled = none
 frames : X.A.frames = some X.stack
 stk : X.stack = X.outer ∨ (X.stack = X.env :: X.outer ∧ X.env.frame = some X.env.locals)
 exf : ∀ b ∈ X.ex, b ≠ X.env.locals ∧ ∀ x c, X.env.cells.lookup x = some c → c ≠ b
 bs : ∀ b o, X.base.get? b = some o → X.s₀.heap.get? b = some o ∧ X.H₀ b = none
 bsz : X.base.objs.size ≤ X.s₀.heap.objs.size
 noex : ∀ b o, X.base.get? b = some o → b ∉ X.ex
 exfs : ∀ b ∈ X.ex, b ∉ X.fs
 funs : X.s₀.heap.FunFrames X.base X.outer
 frf : ∀ b ∈ X.fs, X.H₀ b = none
structure Inv (X : Cx) (pins : List (Addr × Obj)) (σ : List (Option V)) (H : Hp) (s : Shared) : Prop where
 ok : X.Ok
 os : s.os = X.s₀.os
 bare : AllBare s.gens
 base : Un X.fs X.ex X.H₀ H X.s₀.heap s.heap
 loc : ∃ m, s.heap.Ns X.env.locals m ∧ ∀ (i : Nat) (x : Str) (v : V), X.N[i]? = some x → σ[i]? = some (some v) → Vis X.env.scope x → ∃ u, RelV v u ∧ Look X.env s.heap m x u
 cell : ∀ x c, X.env.cells.lookup x = some c → ∃ v, s.heap.IsCell c v
 free : H X.env.locals = none
 freeC : ∀ x c, X.env.cells.lookup x = some c → H c = none
 pin : ∀ p ∈ X.pn ++ pins, s.heap.get? p.1 = some p.2 ∧ H p.1 = none ∧ p.1 ≠ X.env.locals ∧ p.1 ∉ X.fs ∧ ∀ v, p.2.data ≠ .cell v
 hok : HOk X.prog X.w H s.heap
 len : σ.length = X.N.length
section
variable {X : Cx} {pins : List (Addr × Obj)} {σ : List (Option V)} {H H' : Hp} {s : Shared} {h' : Heap}
theorem Cx.Ok.nofr (ok : X.Ok) {b : Addr} {o : Obj} (e : X.base.get? b = some o) : b ∉ X.fs := fun hb => by
 have := (ok.funs.mem hb).1
 rw [e] at this; cases this
theorem Inv.bs (I : Inv X pins σ H s) : ∀ b o, X.base.get? b = some o → s.heap.get? b = some o ∧ H b = none := fun b o e =>
 ⟨I.base.keep b o (I.ok.bs b o e).1 (I.ok.bs b o e).2 (I.ok.nofr e) (I.ok.noex b o e), I.base.free b o (I.ok.bs b o e).1 (I.ok.bs b o e).2 (I.ok.noex b o e)⟩
theorem Inv.bk (I : Inv X pins σ H s) : ∀ b o, X.base.get? b = some o → s.heap.get? b = some o := fun b o e => (I.bs b o e).1
theorem Inv.mod (I : Inv X pins σ H s) : Mod X.K X.mg X.base := I.ok.mod
theorem Inv.kIn (I : Inv X pins σ H s) : X.K.In s.heap := I.ok.mod.kin.keeps I.bk
theorem Inv.lt (I : Inv X pins σ H s) : X.env.locals < s.heap.objs.size := let ⟨_, hn, _⟩ := I.loc; hn.lt
theorem Inv.sz (I : Inv X pins σ H s) : X.s₀.heap.objs.size ≤ s.heap.objs.size := Nat.le_trans I.ok.above (Nat.le_of_lt I.lt)
theorem Inv.nofs (I : Inv X pins σ H s) {a : Addr} (h : s.heap.objs.size ≤ a) : a ∉ X.fs := fun hb => by
 obtain ⟨_, o, ho, _⟩ := I.ok.funs.mem hb
 exact absurd (Nat.lt_of_lt_of_le (Heap.lt_size ho) (Nat.le_trans I.sz h)) (Nat.lt_irrefl _)
theorem Inv.cne (I : Inv X pins σ H s) : ∀ x c, X.env.cells.lookup x = some c → c ≠ X.env.locals := fun x c e z => by
 obtain ⟨v, o, ho, hd⟩ := I.cell x c e
 obtain ⟨m, ⟨o', es, ep, ho', hd', _⟩, _⟩ := I.loc
 rw [z, ho'] at ho; cases ho; rw [hd'] at hd; cases hd
theorem Inv.funs (I : Inv X pins σ H s) : s.heap.FunFrames X.base X.outer := by
 have all : ∀ (l : List Env), (∀ b ∈ frs l, b ∈ X.fs) → X.s₀.heap.FunFrames X.base l → s.heap.FunFrames X.base l := by
  intro l
  induction l with
  | nil => intro _ _; trivial
  | cons env r ih =>
   intro hs hl
   obtain ⟨hk, ⟨L, o, hf, hn, ho, hd⟩, hr⟩ := hl
   have hL : L ∈ X.fs := hs L (by unfold frs; rw [List.filterMap_cons, hf]; exact List.mem_cons_self)
   obtain ⟨sl, e⟩ := I.base.slot L o ho (I.ok.frf L hL) hL fun z => I.ok.exfs L z hL
   exact ⟨hk, ⟨L, _, hf, hn, e, hd⟩, ih (fun b hb => hs b (by unfold frs; rw [List.filterMap_cons, hf]; exact List.mem_cons_of_mem _ hb)) hr⟩
 exact all X.outer (fun _ hb => hb) I.ok.funs
theorem Inv.stack (I : Inv X pins σ H s) : s.heap.FunFrames X.base X.stack := by
 rcases I.ok.stk with e | ⟨e, hf⟩
 ·rw [e]; exact I.funs
 ·rw [e]
  obtain ⟨m, hn, _⟩ := I.loc
  refine .cons (by rw [I.ok.kind]; decide) hf hn ?_ I.funs
  exact Heap.get?_none_of_le (Nat.le_trans I.ok.bsz I.ok.above)
theorem Inv.stkSub (I : Inv X pins σ H s) : ∀ b ∈ frs X.stack, b ∈ X.env.locals :: X.fs := fun b hb => by
 rcases I.ok.stk with e | ⟨e, hf⟩
 ·rw [e] at hb; exact List.mem_cons_of_mem _ hb
 ·rw [e] at hb
  unfold frs at hb
  rw [List.filterMap_cons, hf] at hb
  exact hb
theorem Inv.stkFree (I : Inv X pins σ H s) : ∀ b ∈ frs X.stack, H b = none := fun b hb => by
 rcases List.mem_cons.mp (I.stkSub b hb) with e | hb
 ·rw [e]; exact I.free
 ·obtain ⟨_, o, ho, _⟩ := I.ok.funs.mem hb
  exact I.base.free b o ho (I.ok.frf b hb) fun z => I.ok.exfs b z hb
theorem Inv.step {g' : Array GenState} {t' : Nat} {d' : Drawn} {ch : List Addr} (I : Inv X pins σ H s)
  (hch : ∀ b ∈ ch, (b ∈ X.ex ∨ X.s₀.heap.objs.size ≤ b) ∧ b ≠ X.env.locals ∧ (∀ x c, X.env.cells.lookup x = some c → c ≠ b) ∧ ∀ p ∈ X.pn ++ pins, p.1 ≠ b)
  (keep : ∀ b o, b ≠ X.env.locals → b ∉ X.fs → b ∉ ch → s.heap.get? b = some o → H b = none → h'.get? b = some o)
  (slot : ∀ b o, b ≠ X.env.locals → b ∈ X.fs → b ∉ ch → s.heap.get? b = some o → H b = none → ∃ sl, h'.get? b = some { o with slots := sl }) (free : ∀ b o, b ∉ ch → s.heap.get? b = some o → H b = none → H' b = none)
  (there : ∀ b o, b ∉ ch → s.heap.get? b = some o → ∃ o', h'.get? b = some o')
  (tups : ∀ b xs, H b = some (.tup xs) → H' b = some (.tup xs)) (frzs : ∀ b o u, H b = some (.frz o u) → H' b = some (.frz o u)) (tbls : ∀ b ps, H b = some (.tbl ps) → ∃ more, H' b = some (.tbl (ps ++ more)))
  (ns : ∀ m, s.heap.Ns X.env.locals m → h'.Ns X.env.locals m) (hok : HOk X.prog X.w H' h') (hg : AllBare g') :
  Inv X pins σ H' { s with heap := h', gens := g', drawn := d', toks := t' } := by
 have neL : ∀ b o, X.s₀.heap.get? b = some o → b ≠ X.env.locals := fun b o e => Nat.ne_of_lt (Nat.lt_of_lt_of_le (Heap.lt_size e) I.ok.above)
 have neC : ∀ b o, X.s₀.heap.get? b = some o → b ∉ X.ex → b ∉ ch := fun b o e hx hb => by
  rcases (hch b hb).1 with z | z
  ·exact hx z
  ·exact absurd (Nat.lt_of_lt_of_le (Heap.lt_size e) z) (Nat.lt_irrefl _)
 have cellK : ∀ x c, X.env.cells.lookup x = some c → ∀ v, s.heap.IsCell c v → h'.IsCell c v := fun x c e v ⟨o, ho, hd⟩ => by
  have nch : c ∉ ch := fun z => (hch c z).2.2.1 x c e rfl
  by_cases hc : c ∈ X.fs
  ·obtain ⟨sl, q⟩ := slot c o (I.cne x c e) hc nch ho (I.freeC x c e)
   exact ⟨_, q, hd⟩
  ·exact ⟨o, keep c o (I.cne x c e) hc nch ho (I.freeC x c e), hd⟩
 refine ⟨I.ok, I.os, hg, ⟨fun b o e n hb hx => ?_, fun b o e n hb hx => ?_, fun b o e n hx => ?_, fun b o e hx => ?_, fun b xs e => tups b xs (I.base.tups b xs e), fun b o xs e => frzs b o xs (I.base.frzs b o xs e), fun b ps e => ?_⟩, ?_, fun x c e => ?_, ?_, fun x c e => ?_, fun p hp => ?_, hok, I.len⟩
 ·exact keep b o (neL b o e) hb (neC b o e hx) (I.base.keep b o e n hb hx) (I.base.free b o e n hx)
 ·obtain ⟨sl, e1⟩ := I.base.slot b o e n hb hx
  obtain ⟨sl', e2⟩ := slot b _ (neL b o e) hb (neC b o e hx) e1 (I.base.free b o e n hx)
  exact ⟨sl', e2⟩
 ·obtain ⟨o', e1⟩ := I.base.there b o e hx
  exact free b o' (neC b o e hx) e1 (I.base.free b o e n hx)
 ·obtain ⟨o', e1⟩ := I.base.there b o e hx
  exact there b o' (neC b o e hx) e1
 ·obtain ⟨m1, e1⟩ := I.base.tbls b ps e
  obtain ⟨m2, e2⟩ := tbls b _ e1
  exact ⟨m1 ++ m2, by rw [e2, Array.append_assoc]⟩
 ·obtain ⟨m, hn, hl⟩ := I.loc
  refine ⟨m, ns m hn, fun i x v e1 e2 e3 => ?_⟩
  obtain ⟨u, r, l⟩ := hl i x v e1 e2 e3
  refine ⟨u, r, ?_⟩
  rcases l with l | ⟨k, c, e, z⟩
  ·exact .inl l
  ·exact .inr ⟨k, c, e, cellK x c e _ z⟩
 ·obtain ⟨v, z⟩ := I.cell x c e
  exact ⟨v, cellK x c e v z⟩
 ·obtain ⟨m, ⟨o, _, _, ho, _⟩, _⟩ := I.loc
  exact free _ o (fun z => (hch _ z).2.1 rfl) ho I.free
 ·obtain ⟨v, o, ho, hd⟩ := I.cell x c e
  exact free c o (fun z => (hch c z).2.2.1 x c e rfl) ho (I.freeC x c e)
 ·obtain ⟨e, n, ne, nf, d⟩ := I.pin p hp
  have nch : p.1 ∉ ch := fun z => (hch p.1 z).2.2.2 p hp rfl
  exact ⟨keep p.1 p.2 ne nf nch e n, free p.1 p.2 nch e n, ne, nf, d⟩
theorem Inv.un {t' : Nat} (I : Inv X pins σ H s) (u : Un X.fs [] H H' s.heap h') (hok : HOk X.prog X.w H' h') : Inv X pins σ H' { s with heap := h', toks := t' } := by
 obtain ⟨m, ⟨o, es, ep, ho, r⟩, _⟩ := id I.loc
 obtain ⟨sl, hL⟩ := u.any ho I.free (by simp)
 exact I.step (g' := s.gens) (d' := s.drawn) (ch := []) (fun _ z => nomatch z) (fun b o _ hb _ e n => u.keep b o e n hb (by simp)) (fun b o _ hb _ e n => u.slot b o e n hb (by simp)) (fun b o _ e n => u.free b o e n (by simp)) (fun b o _ e => u.there b o e (by simp)) u.tups u.frzs u.tbls (fun m' hm => by
  obtain ⟨o', es', ep', ho', r'⟩ := hm
  rw [ho] at ho'; cases ho'
  exact ⟨_, es', ep', hL, r'⟩) hok I.bare
theorem Inv.call {g' : Array GenState} {t' : Nat} {d' : Drawn} {ch : List Addr} (I : Inv X pins σ H s) (u : Un (frs X.stack) ch H H' s.heap h') (hok : HOk X.prog X.w H' h') (hg : AllBare g')
  (hch : ∀ b ∈ ch, (b ∈ X.ex ∨ X.s₀.heap.objs.size ≤ b) ∧ b ≠ X.env.locals ∧ (∀ x c, X.env.cells.lookup x = some c → c ≠ b) ∧ ∀ p ∈ X.pn ++ pins, p.1 ≠ b) :
  Inv X pins σ H' { s with heap := h', gens := g', drawn := d', toks := t' } := by
 obtain ⟨m, ⟨o, es, ep, ho, r⟩, _⟩ := id I.loc
 obtain ⟨sl, hL⟩ := u.any ho I.free fun z => (hch _ z).2.1 rfl
 exact I.step (ch := ch) hch (fun b o hL hb hc e n => u.keep b o e n (fun z => (List.mem_cons.mp (I.stkSub b z)).elim hL hb) hc) (fun b o _ _ hc e n => u.any e n hc) (fun b o hc e n => u.free b o e n hc) (fun b o hc e => u.there b o e hc) u.tups u.frzs u.tbls (fun m' hm => by
  obtain ⟨o', es', ep', ho', r'⟩ := hm
  rw [ho] at ho'; cases ho'
  exact ⟨_, es', ep', hL, r'⟩) hok hg
theorem Inv.turned {t' : Nat} {it : Addr} (I : Inv X pins σ H s) (k : ∀ b o, b ≠ it → s.heap.get? b = some o → h'.get? b = some o) (hn : H it = none) (hL : it ≠ X.env.locals)
  (h1 : it ∈ X.ex ∨ X.s₀.heap.objs.size ≤ it) (h2 : ∀ x c, X.env.cells.lookup x = some c → c ≠ it) (h3 : ∀ p ∈ X.pn ++ pins, p.1 ≠ it) : Inv X pins σ H { s with heap := h', toks := t' } := by
 have nit : ∀ b u, H b = some u → b ≠ it := fun b u e z => by rw [z, hn] at e; cases e
 refine I.step (g' := s.gens) (d' := s.drawn) (ch := [it]) (fun b hb => ?_) (fun b o _ _ hc e _ => k b o (fun z => hc (by simp [z])) e) (fun b o _ _ hc e _ => ⟨o.slots, k b o (fun z => hc (by simp [z])) e⟩) (fun _ _ _ _ n => n)
  (fun b o hc e => ⟨o, k b o (fun z => hc (by simp [z])) e⟩) (fun _ _ e => e) (fun _ _ _ e => e) (fun b ps e => ⟨#[], by rw [e]; simp⟩) (fun m hm => ?_) (fun b u e => ?_) I.bare
 ·have e : b = it := by simpa using hb
  subst e
  exact ⟨h1, hL, h2, h3⟩
 ·obtain ⟨o, es, ep, ho, r⟩ := hm
  exact ⟨o, es, ep, k _ o (Ne.symm hL) ho, r⟩
 ·refine (I.hok b u e).stay (fun c v hc q => k c v ?_ q) (fun _ q => q) fun _ _ q => q
  rcases hc with z | z
  ·rw [z]; exact nit b u e
  ·exact nit c _ z
theorem Inv.tok (I : Inv X pins σ H s) (t : Nat) : Inv X pins σ H { s with toks := t } := I.un (h' := s.heap) (t' := t) Un.refl I.hok
theorem Inv.kept {t' : Nat} (I : Inv X pins σ H s) (k : ∀ b u, s.heap.get? b = some u → h'.get? b = some u) : Inv X pins σ H { s with heap := h', toks := t' } := I.un (Un.kept k) (I.hok.kept k)
theorem Inv.laid {a : Addr} {o : HO} {t' : Nat} (I : Inv X pins σ H s) (k : ∀ b u, s.heap.get? b = some u → h'.get? b = some u) (hp : s.heap.objs.size ≤ a) (new : ObjOk X.prog X.w (upd H a o) h' a o) :
  Inv X pins σ (upd H a o) { s with heap := h', toks := t' } := I.un (Un.laid k hp (I.hok.fresh hp)) (I.hok.laid k hp new)
theorem Inv.write {x e : Addr} {o : HO} {t' : Nat} (I : Inv X pins σ H s) (mu : Mut (H x)) (he : e = x ∨ H e = some (.own x)) (k : ∀ b u, b ≠ e → s.heap.get? b = some u → h'.get? b = some u) (heo : ∃ u, h'.get? e = some u)
  (new : ObjOk X.prog X.w (upd H x o) h' x o) : Inv X pins σ (upd H x o) { s with heap := h', toks := t' } := I.un (Un.write mu he k heo) (I.hok.write mu he k heo new)
theorem Inv.pins_of {pins' : List (Addr × Obj)} (I : Inv X pins σ H s) (h : ∀ p ∈ pins', s.heap.get? p.1 = some p.2 ∧ H p.1 = none ∧ p.1 ≠ X.env.locals ∧ p.1 ∉ X.fs ∧ ∀ v, p.2.data ≠ .cell v) : Inv X pins' σ H s :=
 ⟨I.ok, I.os, I.bare, I.base, I.loc, I.cell, I.free, I.freeC, fun p hp => (List.mem_append.mp hp).elim (fun z => I.pin p (List.mem_append_left _ z)) (h p), I.hok, I.len⟩
theorem nodup_ix {N : List Str} (hN : N.Nodup) {i j : Nat} {x : Str} (a : N[i]? = some x) (b : N[j]? = some x) : i = j := by
 obtain ⟨h1, e1⟩ := List.getElem?_eq_some_iff.mp a
 obtain ⟨h2, e2⟩ := List.getElem?_eq_some_iff.mp b
 exact (List.getElem_inj hN).mp (e1.trans e2.symm)
theorem store_ok2 {M : Model} {A : Around} {E : Value → Shared → Prop} {i : Nat} {x : Str} {v : V} {u : Value} {Q : Unit → Shared → Prop} (I : Inv X pins σ H s) (hN : X.N.Nodup) (hi : X.N[i]? = some x) (hx : Loc X.env.scope x) (r : RelV v u)
  (h : ∀ s', Inv X pins (σ.set i (some v)) H s' → (∃ a, Heap.SameBut a s.heap s'.heap ∧ (a = X.env.locals ∨ X.env.cells.lookup x = some a)) → Q () s') (hf : X.fn x = true ∨ X.env.scope.names.lookup x = some .local := by first | exact .inl rfl | exact .inr rfl | assumption) : wpAny M A (storeName X.env x u) Q E s := by
 obtain ⟨m, hn, hl⟩ := id I.loc
 have hcls : (X.env.scope.kind == .class || (X.env.scope.kind == .module && X.env.locals != X.env.globals)) = false := by rw [I.ok.kind]; rfl
 have hiσ : i < σ.length := by rw [I.len]; exact (List.getElem?_eq_some_iff.mp hi).1
 have cne := I.cne
 have tracked : ∀ {a : Addr} {h' : Heap}, (∃ o, s.heap.get? a = some o ∧ H a = none) → Heap.SameBut a s.heap h' → HOk X.prog X.w H h' := fun {a h'} ha hs b ob e => by
  obtain ⟨_, _, hfree⟩ := ha
  refine (I.hok b ob e).stay (fun c w' hc q => (hs.2 c ?_).trans q) (fun _ q => q) fun _ _ q => q
  rintro rfl
  rcases hc with rfl | hc
  ·rw [hfree] at e; cases e
  ·rw [hfree] at hc; cases hc
 rcases hx with hk | hk
 ·refine wpAny_storeName_local hk hn (fun h' hn' hs => ?_) hcls
  obtain ⟨oL, _, _, hoL, _⟩ := id hn
  refine h _ ⟨I.ok, I.os, I.bare, ⟨fun b o e n hb hx => ?_, fun b o e n hb hx => ?_, I.base.free, fun b o e hx => ?_, I.base.tups, I.base.frzs, I.base.tbls⟩, ⟨_, hn', fun j y v' e1 e2 e3 => ?_⟩, fun y c e => ?_, I.free, I.freeC, fun p hp => ?_, tracked ⟨oL, hoL, I.free⟩ hs, by simpa using I.len⟩ ⟨_, hs, .inl rfl⟩
  ·exact (hs.2 b (Nat.ne_of_lt (Nat.lt_of_lt_of_le (Heap.lt_size e) I.ok.above))).trans (I.base.keep b o e n hb hx)
  ·obtain ⟨sl, e1⟩ := I.base.slot b o e n hb hx
   exact ⟨sl, (hs.2 b (Nat.ne_of_lt (Nat.lt_of_lt_of_le (Heap.lt_size e) I.ok.above))).trans e1⟩
  ·obtain ⟨o', e1⟩ := I.base.there b o e hx
   exact ⟨o', (hs.2 b (Nat.ne_of_lt (Nat.lt_of_lt_of_le (Heap.lt_size e) I.ok.above))).trans e1⟩
  ·by_cases hj : j = i
   ·subst hj
    rw [hi] at e1; cases e1
    rw [List.getElem?_set_self hiσ] at e2
    cases e2
    exact ⟨u, r, .inl ⟨hk, by simp⟩⟩
   ·rw [List.getElem?_set_ne (Ne.symm hj)] at e2
    obtain ⟨u', r', q⟩ := hl j y v' e1 e2 e3
    refine ⟨u', r', ?_⟩
    rcases q with ⟨k, e⟩ | ⟨k, c, e, z⟩
    ·refine .inl ⟨k, ?_⟩
     have : y ≠ x := fun e => hj (nodup_ix hN e1 (e ▸ hi))
     simp [this, e]
    ·exact .inr ⟨k, c, e, z.sameBut hs (cne y c e)⟩
  ·obtain ⟨w', z⟩ := I.cell y c e
   exact ⟨w', z.sameBut hs (cne y c e)⟩
  ·obtain ⟨e, n, ne, nf, d⟩ := I.pin p hp
   exact ⟨(hs.2 p.1 ne).trans e, n, ne, nf, d⟩
 ·have hfn : X.fn x = true := by
   rcases hf with z | z
   ·exact z
   ·rw [z] at hk; cases hk
  obtain ⟨c, hc⟩ := I.ok.has x (.inl hk)
  obtain ⟨w', z⟩ := I.cell x c hc
  refine wpAny_storeName_cell I.ok.kind hk hc z (fun h' hc' hs => ?_)
  obtain ⟨oc, hoc, hocd⟩ := id z
  refine h { s with heap := h' } ⟨I.ok, I.os, I.bare, ⟨fun b o e n hb hx => ?_, fun b o e n hb hx => ?_, I.base.free, fun b o e hx => ?_, I.base.tups, I.base.frzs, I.base.tbls⟩, ⟨m, hn.sameBut hs (Ne.symm (cne x c hc)), fun j y v' e1 e2 e3 => ?_⟩, fun y c' e => ?_, I.free, I.freeC, fun p hp => ?_, tracked ⟨oc, hoc, I.freeC x c hc⟩ hs, by simpa using I.len⟩ ⟨c, hs, .inr hc⟩
  ·exact (hs.2 b (Nat.ne_of_lt (Nat.lt_of_lt_of_le (Heap.lt_size e) (I.ok.cab x c hfn hc)))).trans (I.base.keep b o e n hb hx)
  ·obtain ⟨sl, e1⟩ := I.base.slot b o e n hb hx
   exact ⟨sl, (hs.2 b (Nat.ne_of_lt (Nat.lt_of_lt_of_le (Heap.lt_size e) (I.ok.cab x c hfn hc)))).trans e1⟩
  ·obtain ⟨o', e1⟩ := I.base.there b o e hx
   exact ⟨o', (hs.2 b (Nat.ne_of_lt (Nat.lt_of_lt_of_le (Heap.lt_size e) (I.ok.cab x c hfn hc)))).trans e1⟩
  ·by_cases hj : j = i
   ·subst hj
    rw [hi] at e1; cases e1
    rw [List.getElem?_set_self hiσ] at e2
    cases e2
    exact ⟨u, r, .inr ⟨.inl hk, c, hc, hc'⟩⟩
   ·rw [List.getElem?_set_ne (Ne.symm hj)] at e2
    obtain ⟨u', r', q⟩ := hl j y v' e1 e2 e3
    refine ⟨u', r', ?_⟩
    rcases q with q | ⟨k, c', e, z'⟩
    ·exact .inl q
    ·refine .inr ⟨k, c', e, z'.sameBut hs ?_⟩
     rintro rfl
     exact hj (nodup_ix hN e1 (I.ok.inj _ _ _ e hc ▸ hi))
  ·by_cases hcc : c' = c
   ·subst hcc; exact ⟨_, hc'⟩
   ·obtain ⟨w2, z2⟩ := I.cell y c' e
    exact ⟨w2, z2.sameBut hs hcc⟩
  ·obtain ⟨e, n, ne, nf, d⟩ := I.pin p hp
   refine ⟨(hs.2 p.1 ?_).trans e, n, ne, nf, d⟩
   intro q
   rw [q, hoc] at e
   have q' : oc = p.2 := Option.some.inj e
   exact d w' (by rw [← q']; exact hocd)
theorem store_ok {M : Model} {A : Around} {E : Value → Shared → Prop} {i : Nat} {x : Str} {v : V} {u : Value} {Q : Unit → Shared → Prop} (I : Inv X pins σ H s) (hN : X.N.Nodup) (hi : X.N[i]? = some x) (hx : Loc X.env.scope x) (r : RelV v u)
  (h : ∀ s', Inv X pins (σ.set i (some v)) H s' → Q () s') (hf : X.fn x = true ∨ X.env.scope.names.lookup x = some .local := by first | exact .inl rfl | exact .inr rfl | assumption) : wpAny M A (storeName X.env x u) Q E s :=
 store_ok2 I hN hi hx r (fun s' I' _ => h s' I') hf
theorem Inv.call' {s' : Shared} {ch : List Addr} (I : Inv X pins σ H s) (ho : s'.os = s.os) (u : Un (frs X.stack) ch H H' s.heap s'.heap) (hok : HOk X.prog X.w H' s'.heap) (hg : AllBare s'.gens)
  (hch : ∀ b ∈ ch, (b ∈ X.ex ∨ X.s₀.heap.objs.size ≤ b) ∧ b ≠ X.env.locals ∧ (∀ x c, X.env.cells.lookup x = some c → c ≠ b) ∧ ∀ p ∈ X.pn ++ pins, p.1 ≠ b) : Inv X pins σ H' s' := by
 obtain ⟨h', g', d', t', o'⟩ := s'
 have e : o' = s.os := ho
 subst e
 exact I.call (g' := g') (t' := t') (d' := d') u hok hg hch
end
abbrev XK := Value → Option Addr → Hp → Prop
abbrev St := List (Option V)
abbrev VK := V → Hp → Prop
abbrev TE := St → Hp → VK → Prop
abbrev TT := St → Hp → (Bool → Hp → Prop) → Prop
abbrev TA := St → Hp → (List V → Hp → Prop) → Prop
structure Ends where
 nx : St → Hp → Prop
 rt : VK
 bk : St → Hp → Prop := fun _ _ => False
 ct : St → Hp → Prop := fun _ _ => False
abbrev TS := Ends → St → Hp → Prop
def EP (X : Cx) (pins : List (Addr × Obj)) (σ : St) (Q : VK) (u : Value) (s' : Shared) : Prop := ∃ v H', Inv X pins σ H' s' ∧ RelV v u ∧ Q v H'
def TP (X : Cx) (pins : List (Addr × Obj)) (σ : St) (Q : Bool → Hp → Prop) (b : Bool) (s' : Shared) : Prop := ∃ H', Inv X pins σ H' s' ∧ Q b H'
def AP (X : Cx) (pins : List (Addr × Obj)) (σ : St) (Q : List V → Hp → Prop) (us : List Value) (s' : Shared) : Prop := ∃ vs H', Inv X pins σ H' s' ∧ Vals vs us ∧ Q vs H'
def SP (X : Cx) (pins : List (Addr × Obj)) (D : Ends) (f : Flow) (s' : Shared) : Prop :=
 match f with
 | .next => ∃ σ' H', Inv X pins σ' H' s' ∧ D.nx σ' H'
 | .brk => ∃ σ' H', Inv X pins σ' H' s' ∧ D.bk σ' H'
 | .cont => ∃ σ' H', Inv X pins σ' H' s' ∧ D.ct σ' H'
 | .ret u => ∃ v σ' H', Inv X pins σ' H' s' ∧ RelV v u ∧ D.rt v H'
def PE (X : Cx) (e : Expr) (t : TE) : Prop :=
 ∀ (pins : List (Addr × Obj)) (s : Shared) (σ : St) (H : Hp) (Q : VK), Inv X pins σ H s → t σ H Q → wpAny (model X.prog X.w) X.A (eval e X.env) (EP X pins σ Q) X.xe s
def PT (X : Cx) (e : Expr) (t : TT) : Prop :=
 ∀ (pins : List (Addr × Obj)) (s : Shared) (σ : St) (H : Hp) (Q : Bool → Hp → Prop), Inv X pins σ H s → t σ H Q → wpAny (model X.prog X.w) X.A (isTrue e X.env (eval e X.env)) (TP X pins σ Q) X.xe s
def PA (X : Cx) (es : List Expr) (t : TA) : Prop :=
 ∀ (pos : Pos) (pins : List (Addr × Obj)) (s : Shared) (σ : St) (H : Hp) (Q : List V → Hp → Prop), Inv X pins σ H s → t σ H Q → wpAny (model X.prog X.w) X.A (spliced (backTo pos (starEach es X.env))) (AP X pins σ Q) X.xe s
def PS (X : Cx) (st : Stmt) (t : TS) : Prop :=
 ∀ (pins : List (Addr × Obj)) (s : Shared) (σ : St) (H : Hp) (D : Ends), Inv X pins σ H s → t D σ H → wpAny (model X.prog X.w) X.A (exec st X.env) (SP X pins D) X.xe s
def PSs (X : Cx) (st : List Stmt) (t : TS) : Prop :=
 ∀ (pins : List (Addr × Obj)) (s : Shared) (σ : St) (H : Hp) (D : Ends), Inv X pins σ H s → t D σ H → wpAny (model X.prog X.w) X.A (execs st X.env) (SP X pins D) X.xe s
theorem thn {α : Type} {t : Sem α} {Q Q' : α → Shared → Prop} {M : Model} {A : Around} {E : Value → Shared → Prop} {s : Shared} (h : wpAny M A t Q E s) (hQ : ∀ a s, Q a s → Q' a s) : wpAny M A t Q' E s := wpAny_mono h hQ fun _ _ x => x
section
variable {X : Cx}
def tVar (i : Nat) : TE := fun σ H Q => ∃ v, σ[i]? = some (some v) ∧ Q v H
def tC (v : V) : TE := fun _ H Q => Q v H
theorem pe_var {i : Nat} {x : Str} {pos : Pos} (hN : X.N[i]? = some x) (hv : Vis X.env.scope x) (hd : (x == ("__debug__" : Str)) = false := by decide) (hcd : (x == ("__classdict__" : Str)) = false := by decide) : PE X (.Name x pos) (tVar i) := by
 intro pins s σ H Q I h
 obtain ⟨v, e, h⟩ := h
 obtain ⟨m, hn, hl⟩ := I.loc
 obtain ⟨u, r, l⟩ := hl i x v hN e hv
 have fin : EP X pins σ Q u s := ⟨v, H, I, r, h⟩
 rcases l with ⟨hk, hm⟩ | ⟨hk, c, hc, hcell⟩
 ·exact wpAny_Name (wpAny_loadName_local I.ok.kind hk hn hm fin) hd
 ·rcases hk with hk | hk
  ·exact wpAny_Name (wpAny_loadName_cell I.ok.kind hk hc hcell fin) hd
  ·exact wpAny_Name (wpAny_loadName_free I.ok.kind hk hc hcell fin hcd) hd
theorem pe_int {i j pos} : PE X (.Constant (.int i) j pos) (tC (.int i)) := fun _ _ _ H _ I h => wpAny_Constant_int ⟨.int i, H, I.tok _, ⟨_, rfl⟩, h⟩
theorem pe_bl {b j pos} : PE X (.Constant (.bool b) j pos) (tC (.bl b)) := fun _ _ _ H _ I h => Constant_bool ⟨.bl b, H, I, rfl, h⟩
theorem pe_non {j pos} : PE X (.Constant .none j pos) (tC .non) := fun _ _ _ H _ I h => Constant_none ⟨.non, H, I, rfl, h⟩
theorem pe_str {x j pos} : PE X (.Constant (.str x) j pos) (tC (.str x)) := fun _ _ _ H _ I h => Calls.Constant_str ⟨.str x, H, I.tok _, ⟨_, rfl⟩, h⟩
def Gl (X : Cx) (x : Str) : Prop := X.env.kindOf x = some .globalImplicit
theorem ld_glob {E : Value → Shared → Prop} {pins : List (Addr × Obj)} {s : Shared} {σ : St} {H : Hp} {x : Str} {u : Value} {pos : Pos} {Q : Value → Shared → Prop} (I : Inv X pins σ H s) (hg : Gl X x) (hm : X.mg x = some u) (h : Q u s)
  (hd : (x == ("__debug__" : Str)) = false := by decide) : wpAny (model X.prog X.w) X.A (eval (.Name x pos) X.env) Q E s :=
 Calls.Name_function_global I.ok.kind hg (Calls.loadGlobal_global (by rw [I.ok.glob]; exact I.mod.glob.keeps I.bk) hm h) hd
theorem ld_blt {E : Value → Shared → Prop} {pins : List (Addr × Obj)} {s : Shared} {σ : St} {H : Hp} {x : Str} {u : Value} {pos : Pos} {Q : Value → Shared → Prop} (I : Inv X pins σ H s) (hg : Gl X x) (hm : X.mg x = none) (hv : bootBuiltins x = some u) (h : Q u s)
  (hn : x ≠ "__name__" := by decide) (hd : (x == ("__debug__" : Str)) = false := by decide) : wpAny (model X.prog X.w) X.A (eval (.Name x pos) X.env) Q E s := by
 obtain ⟨mb, h1, h2⟩ := I.mod.blt
 exact Calls.Name_function_global I.ok.kind hg (Calls.loadGlobal_builtin (by rw [I.ok.glob]; exact I.mod.glob.keeps I.bk) hm (by rw [I.ok.blt]; exact h1.keeps I.bk) ((h2 x hn).trans hv) h) hd
theorem pe_glob {x : Str} {v : V} {u : Value} {pos : Pos} (hg : Gl X x) (hm : X.mg x = some u) (r : RelV v u) (hd : (x == ("__debug__" : Str)) = false := by decide) : PE X (.Name x pos) (tC v) :=
 fun _ _ _ H _ I h => ld_glob I hg hm ⟨v, H, I, r, h⟩ hd
variable {a b : Expr} {ta tb : TE} {pos : Pos}
def PC (X : Cx) (op : CmpOp) (a b : Expr) (t : TE) : Prop :=
 ∀ (pins : List (Addr × Obj)) (s : Shared) (σ : St) (H : Hp) (Q : VK), Inv X pins σ H s → t σ H Q →
  wpAny (model X.prog X.w) X.A (eval a X.env) (fun v s₁ => wpAny (model X.prog X.w) X.A (eval b X.env) (fun u s₂ => wpAny (model X.prog X.w) X.A (compareOp op v u) (EP X pins σ Q) X.xe s₂) X.xe s₁) X.xe s
theorem nobehind (b : Expr) {op : CmpOp} (h : op ≠ .In) (h2 : op ≠ .NotIn) : behindInMarks op b = false := by
 have e1 : (op == CmpOp.In) = false := by cases op <;> first | rfl | exact absurd rfl h
 have e2 : (op == CmpOp.NotIn) = false := by cases op <;> first | rfl | exact absurd rfl h2
 cases b <;> simp [behindInMarks, e1, e2]
def tIsN (ta : TE) : TE := fun σ H Q => ta σ H fun x H1 => Q (.bl (decide (x = .non))) H1
theorem RelV.none_iff {x : V} {v : Value} (r : RelV x v) : (v == Value.none) = decide (x = .non) := by
 cases x with
 | non => cases r; rfl
 | bl _ => cases r; rfl
 | int _ => obtain ⟨t, rfl⟩ := r; rfl
 | str _ => obtain ⟨t, rfl⟩ := r; rfl
 | byt _ => obtain ⟨t, rfl⟩ := r; rfl
 | flt _ => obtain ⟨t, rfl⟩ := r; rfl
 | ref _ => cases r; rfl
 | ty _ => cases r; rfl
theorem pc_isN {j pos'} (ha : PE X a ta) : PC X .Is a (.Constant .none j pos') (tIsN ta) := by
 intro pins s σ H Q I h
 refine thn (ha pins s σ H _ I h) fun v s1 ⟨x, H1, I1, r1, q1⟩ => ?_
 exact Constant_none (is_none_gen ⟨.bl _, H1, I1, by rw [r1.none_iff]; rfl, q1⟩)
def tB (t : TE) : TT := fun σ H Q => t σ H fun x H1 => ∃ c, x = .bl c ∧ Q c H1
theorem pt_cmp {op : CmpOp} {t : TE} (h : PC X op a b t) (h1 : behindInMarks op b = false := by first | exact nobehind _ (by decide) (by decide) | rfl) : PT X (.Compare a [op] [b] pos) (tB t) := by
 intro pins s σ H Q I hw
 refine wpAny_isTrue_Compare1 (thn (h pins s σ H _ I hw) fun v s1 h1 => thn h1 fun u s2 h2 => thn h2 fun c s3 ⟨x, H1, I1, r1, q1⟩ => ?_) h1
 obtain ⟨d, rfl, q⟩ := q1
 cases r1
 exact wpAny_truthy_bool ⟨H1, I1, q⟩
variable {tA tB' : TT} {rest : List Expr}
def tNot (t : TT) : TT := fun σ H Q => t σ H fun c H1 => Q (!c) H1
def tIf (t : TT) (ta tb : TE) : TE := fun σ H Q => t σ H fun c H1 => if c = true then ta σ H1 Q else tb σ H1 Q
theorem pe_ifExp {c : Expr} (hc : PT X c tA) (ha : PE X a ta) (hb : PE X b tb) : PE X (.IfExp c a b pos) (tIf tA ta tb) := by
 intro pins s σ H Q I h
 refine wpAny_IfExp (thn (hc pins s σ H _ I h) fun d s1 ⟨H1, I1, q1⟩ => ?_)
 cases d with
 | true => exact ha pins s1 σ H1 Q I1 q1
 | false => exact hb pins s1 σ H1 Q I1 q1
end
def SqL (K : PySem.W.Frag) (H : Hp) (a : Addr) (xs : List V) : Prop :=
 Rd H a (.lst xs) ∨
  ∃ (o : Obj) (its : Array Value) (n : Nat), K.lookup a = some o ∧ o.cls = .type "list" ∧ o.dict = none ∧ o.data = .seq its n ∧ its.size ≤ sizeLine ∧ Vals xs its.toList
def SqT (K : PySem.W.Frag) (H : Hp) (a : Addr) (xs : List V) : Prop :=
 Rd H a (.tup xs) ∨
  ∃ (o : Obj) (its : Array Value) (n : Nat), K.lookup a = some o ∧ o.cls = .type "tuple" ∧ o.data = .seq its n ∧ its.size ≤ sizeLine ∧ Vals xs its.toList
def absV : Value → Option V
 | .none => some .non
 | .bool b => some (.bl b)
 | .int i _ => some (.int i)
 | .str x _ => some (.str x)
 | .bytes b _ => some (.byt b)
 | .float b _ => some (.flt b)
 | .ref a => some (.ref a)
 | .type n => some (.ty n)
 | _ => none
theorem RelV.abs {x : V} {u : Value} (r : RelV x u) : absV u = some x := by
 cases x with
 | non => cases r; rfl
 | bl _ => cases r; rfl
 | int _ => obtain ⟨t, rfl⟩ := r; rfl
 | str _ => obtain ⟨t, rfl⟩ := r; rfl
 | byt _ => obtain ⟨t, rfl⟩ := r; rfl
 | flt _ => obtain ⟨t, rfl⟩ := r; rfl
 | ref _ => cases r; rfl
 | ty _ => cases r; rfl
theorem RelV.inj {x y : V} {u : Value} (r : RelV x u) (q : RelV y u) : x = y := Option.some.inj (r.abs.symm.trans q.abs)
theorem Vals.inj : ∀ {xs ys : List V} {us : List Value}, Vals xs us → Vals ys us → xs = ys
 | _, _, _, .nil, .nil => rfl
 | _, _, _, .cons r t, .cons r' t' => by rw [r.inj r', Vals.inj t t']
section
variable {X : Cx} {pins : List (Addr × Obj)} {σ : St} {H : Hp} {s : Shared} {a : Addr} {xs ys : List V}
theorem SqL.of {K : PySem.W.Frag} (h : H a = some (.lst xs)) : SqL K H a xs := .inl (.inl h)
theorem SqT.of {K : PySem.W.Frag} (h : H a = some (.tup xs)) : SqT K H a xs := .inl (.inl h)
theorem Inv.list (I : Inv X pins σ H s) (h : SqL X.K H a xs) : ∃ its : List Value, Vals xs its ∧ PlainL s.heap a its.toArray ∧ xs.length ≤ sizeLine := by
 rcases h with h | ⟨o, its, n, hk, hc, hd, hs, hz, r⟩
 ·obtain ⟨z, its, n, r, e⟩ := h.ok I.hok
  exact ⟨its, r, ⟨_, n, e, rfl, rfl, rfl⟩, z⟩
 ·refine ⟨its.toList, r, ⟨o, n, I.kIn a o hk, hc, hd, by simpa using hs⟩, ?_⟩
  have e := r.length
  simp only [Array.length_toList] at e
  omega
theorem Inv.tuple (I : Inv X pins σ H s) (h : SqT X.K H a xs) : ∃ its : List Value, Vals xs its ∧ IsTup s.heap a its.toArray ∧ xs.length ≤ sizeLine := by
 rcases h with h | ⟨o, its, n, hk, hc, hs, hz, r⟩
 ·obtain ⟨z, its, r, p⟩ := h.ok I.hok
  exact ⟨its, r, p, z⟩
 ·refine ⟨its.toList, r, ⟨o, I.kIn a o hk, hc, n, by simpa using hs⟩, ?_⟩
  have e := r.length
  simp only [Array.length_toList] at e
  omega
theorem Inv.list_inj (I : Inv X pins σ H s) (h : SqL X.K H a xs) (h' : SqL X.K H a ys) : xs = ys := by
 obtain ⟨its, r, ⟨o, n, e, _, _, d⟩, _⟩ := I.list h
 obtain ⟨its', r', ⟨o', n', e', _, _, d'⟩, _⟩ := I.list h'
 rw [e] at e'; cases e'
 rw [d] at d'
 injection d' with d1 _
 have : its = its' := by simpa using congrArg Array.toList d1
 subst this
 exact r.inj r'
theorem Inv.tuple_inj (I : Inv X pins σ H s) (h : SqT X.K H a xs) (h' : SqT X.K H a ys) : xs = ys := by
 obtain ⟨its, r, ⟨o, e, _, n, d⟩, _⟩ := I.tuple h
 obtain ⟨its', r', ⟨o', e', _, n', d'⟩, _⟩ := I.tuple h'
 rw [e] at e'; cases e'
 rw [d] at d'
 injection d' with d1 _
 have : its = its' := by simpa using congrArg Array.toList d1
 subst this
 exact r.inj r'
end
abbrev Cx.wish (X : Cx) (E : Value → Shared → Prop) : Cx := { X with xe := E }
abbrev Cx.nox (X : Cx) : Cx := X.wish fun _ _ => False
theorem Cx.Ok.wish {X : Cx} (ok : X.Ok) (E : Value → Shared → Prop) : (X.wish E).Ok :=
 ⟨ok.mod, ok.kind, ok.glob, ok.blt, ok.above, ok.inj, ok.has, ok.cab, ok.hd, ok.frames, ok.stk, ok.exf, ok.bs, ok.bsz, ok.noex, ok.exfs, ok.funs, ok.frf⟩
theorem Cx.Ok.unwish {X : Cx} {E : Value → Shared → Prop} (ok : (X.wish E).Ok) : X.Ok :=
 ⟨ok.mod, ok.kind, ok.glob, ok.blt, ok.above, ok.inj, ok.has, ok.cab, ok.hd, ok.frames, ok.stk, ok.exf, ok.bs, ok.bsz, ok.noex, ok.exfs, ok.funs, ok.frf⟩
section
variable {X : Cx} {pins : List (Addr × Obj)} {σ : St} {H : Hp} {s : Shared} {E : Value → Shared → Prop}
theorem Inv.wish (I : Inv X pins σ H s) (E : Value → Shared → Prop) : Inv (X.wish E) pins σ H s := ⟨I.ok.wish E, I.os, I.bare, I.base, I.loc, I.cell, I.free, I.freeC, I.pin, I.hok, I.len⟩
theorem Inv.unwish (I : Inv (X.wish E) pins σ H s) : Inv X pins σ H s := ⟨I.ok.unwish, I.os, I.bare, I.base, I.loc, I.cell, I.free, I.freeC, I.pin, I.hok, I.len⟩
theorem SP.unwish {D : Ends} {f : Flow} {s' : Shared} (h : SP (X.wish E) pins D f s') : SP X pins D f s' := by
 cases f with
 | next => obtain ⟨σ', H', I, q⟩ := h; exact ⟨σ', H', I.unwish, q⟩
 | brk => obtain ⟨σ', H', I, q⟩ := h; exact ⟨σ', H', I.unwish, q⟩
 | cont => obtain ⟨σ', H', I, q⟩ := h; exact ⟨σ', H', I.unwish, q⟩
 | ret u => obtain ⟨v, σ', H', I, r, q⟩ := h; exact ⟨v, σ', H', I.unwish, r, q⟩
theorem PSs.nox {st : List Stmt} {t : TS} (h : PSs X.nox st t) : PSs X st t := fun pins s σ H D I hw =>
 wpAny_mono (h pins s σ H D (I.wish _) hw) (fun _ _ q => q.unwish) fun _ _ z => False.elim z
end
section
variable {X : Cx} {st : Stmt} {rest : List Stmt} {t u : TS} {e : Expr} {te : TE} {pos : Pos}
def tNext : TS := fun D σ H => D.nx σ H
def tSeq (t u : TS) : TS := fun D σ H => t { D with nx := u D } σ H
theorem pss_nil : PSs X [] tNext := fun _ _ σ H _ I h => wpAny_execs_nil ⟨σ, H, I, h⟩
theorem pss_cons (h1 : PS X st t) (h2 : PSs X rest u) : PSs X (st :: rest) (tSeq t u) := by
 intro pins s σ H D I h
 refine wpAny_execs_cons (thn (h1 pins s σ H { D with nx := u D } I h) fun f s1 q => ?_)
 cases f with
 | next =>
  obtain ⟨σ', H', I', q⟩ := q
  exact h2 pins s1 σ' H' D I' q
 | ret v => exact q
 | brk => exact q
 | cont => exact q
theorem pss_one (h1 : PS X st t) : PSs X [st] t := by
 intro pins s σ H D I h
 refine wpAny_execs_cons (thn (h1 pins s σ H D I h) fun f s1 q => ?_)
 cases f with
 | next => exact wpAny_execs_nil q
 | ret v => exact q
 | brk => exact q
 | cont => exact q
def tCont : TS := fun D σ H => D.ct σ H
theorem ps_continue : PS X (.Continue pos) tCont := fun _ _ σ H _ I h => wpAny_Continue ⟨σ, H, I, h⟩
theorem Inv.quiet {pins : List (Addr × Obj)} {σ : St} {H : Hp} {s : Shared} (I : Inv X pins σ H s) : interactive X.env = false := by simp [interactive, I.ok.kind]
def tDrop (te : TE) : TS := fun D σ H => te σ H fun _ H1 => D.nx σ H1
theorem ps_expr (he : PE X e te) (hs : swapsWith e none pos.line X.env = pure false := by rfl) : PS X (.Expr e pos) (tDrop te) := by
 intro pins s σ H D I h
 exact wpAny_Expr_any (thn (he pins s σ H _ I h) fun v s1 ⟨x, H1, I1, r1, q1⟩ => ⟨σ, H1, I1, q1⟩) I.quiet hs
def tRet (te : TE) : TS := fun D σ H => te σ H D.rt
theorem ps_ret (he : PE X e te) : PS X (.Return (some e) pos) (tRet te) := by
 intro pins s σ H D I h
 exact wpAny_Return_some (thn (he pins s σ H _ I h) fun v s1 ⟨x, H1, I1, r1, q1⟩ => ⟨x, σ, H1, I1, r1, q1⟩)
def tIfS (c : TT) (t u : TS) : TS := fun D σ H => c σ H fun b H1 => if b = true then t D σ H1 else u D σ H1
theorem ps_if {c : Expr} {a b : List Stmt} {tc : TT} (hc : PT X c tc) (ha : PSs X a t) (hb : PSs X b u) : PS X (.If c a b pos) (tIfS tc t u) := by
 intro pins s σ H D I h
 refine wpAny_If (thn (hc pins s σ H _ I h) fun d s1 ⟨H1, I1, q1⟩ => ?_)
 cases d with
 | true => exact ha pins s1 σ H1 D I1 q1
 | false => exact hb pins s1 σ H1 D I1 q1
end
abbrev TG := V → St → Hp → (St → Hp → Prop) → Prop
abbrev TGs := List V → St → Hp → (St → Hp → Prop) → Prop
def PG (X : Cx) (target : Expr) (t : TG) : Prop :=
 ∀ (pins : List (Addr × Obj)) (s : Shared) (σ : St) (H : Hp) (v : V) (u : Value) (Q : St → Hp → Prop), Inv X pins σ H s → RelV v u → t v σ H Q →
  wpAny (model X.prog X.w) X.A (assign target X.env u) (fun _ s' => ∃ σ' H', Inv X pins σ' H' s' ∧ Q σ' H') X.xe s
def PGs (X : Cx) (ts : List Expr) (t : TGs) : Prop :=
 ∀ (pins : List (Addr × Obj)) (s : Shared) (σ : St) (H : Hp) (vs : List V) (us : List Value) (Q : St → Hp → Prop), Inv X pins σ H s → Vals vs us → t vs σ H Q →
  wpAny (model X.prog X.w) X.A (assignInOrder ((assignEach ts X.env).map (·.2)) us) (fun _ s' => ∃ σ' H', Inv X pins σ' H' s' ∧ Q σ' H') X.xe s
abbrev TSet := V → V → V → Hp → (Hp → Prop) → Prop
def PSet (X : Cx) (t : TSet) : Prop :=
 ∀ (pins : List (Addr × Obj)) (s : Shared) (σ : St) (H : Hp) (o i v : V) (ov iv u : Value) (Q : Hp → Prop), Inv X pins σ H s → RelV o ov → RelV i iv → RelV v u → t o i v H Q →
  wpAny (model X.prog X.w) X.A (setItem ov iv u) (fun _ s' => ∃ H', Inv X pins σ H' s' ∧ Q H') X.xe s
section
variable {X : Cx} {pos : Pos}
def gName (i : Nat) : TG := fun v σ H Q => Q (σ.set i (some v)) H
theorem pg_name {i : Nat} {x : Str} (hN : X.N.Nodup) (hi : X.N[i]? = some x) (hx : Loc X.env.scope x) (hf : X.fn x = true ∨ X.env.scope.names.lookup x = some .local := by first | exact .inl rfl | exact .inr rfl | assumption) : PG X (.Name x pos) (gName i) := by
 intro pins s σ H v u Q I r h
 exact wpAny_assign_Name (store_ok I hN hi hx r (fun s' I' => ⟨_, H, I', h⟩) hf)
def gNil : TGs := fun vs σ H Q => vs = [] ∧ Q σ H
def gCons (t : TG) (u : TGs) : TGs := fun vs σ H Q => ∃ v r, vs = v :: r ∧ t v σ H fun σ' H' => u r σ' H' Q
theorem pgs_nil : PGs X [] gNil := by
 intro pins s σ H vs us Q I r h
 obtain ⟨e, h⟩ := h
 subst e
 cases r
 exact assignInOrder_nil ⟨σ, H, I, h⟩
theorem pgs_cons {e : Expr} {es : List Expr} {t : TG} {u : TGs} (h1 : PG X e t) (h2 : PGs X es u)
  (hs : (assignEach (e :: es) X.env).map (·.2) = assign e X.env :: (assignEach es X.env).map (·.2) := by rfl) : PGs X (e :: es) (gCons t u) := by
 intro pins s σ H vs us Q I r h
 obtain ⟨v, vr, e1, h⟩ := h
 subst e1
 cases r with
 | cons r rr =>
  rw [hs]
  refine assignInOrder_cons (thn (h1 pins s σ H _ _ _ I r h) fun _ s1 ⟨σ1, H1, I1, q1⟩ => ?_)
  exact h2 pins s1 σ1 H1 _ _ Q I1 rr q1
def gTup (K : PySem.W.Frag) (n : Nat) (t : TGs) : TG := fun v σ H Q => ∃ a xs, v = .ref a ∧ SqT K H a xs ∧ xs.length = n ∧ t xs σ H Q
theorem pg_tup {es : List Expr} {k : Nat} {t : TGs} {n : Nat} (hc : X.calm = true) (h : PGs X es t)
  (hn : (assignEach es X.env).length = n := by rfl) (hst : (assignEach es X.env).findIdx? (·.1) = none := by rfl) : PG X (.Tuple es k pos) (gTup X.K n t) := by
 intro pins s σ H v u Q I r hw
 obtain ⟨a, xs, e1, hq, hl, hw⟩ := hw
 subst e1
 cases r
 obtain ⟨its, rv, ht, hz⟩ := I.tuple hq
 refine assign_Tuple_tuple (I.ok.hd hc) ht (by simp [hn, ← hl, rv.length]) hst fun h' hx => ?_
 have I1 : Inv X pins σ H { s with heap := h' } := I.kept (t' := s.toks) fun b o e => hx b o (Nat.ne_of_lt (Heap.lt_size e)) e
 exact h pins _ σ H xs _ Q I1 (by simpa using rv) hw
def gSub (to ti : TE) (t : TSet) : TG := fun v σ H Q => to σ H fun o H1 => ti σ H1 fun i H2 => t o i v H2 fun H3 => Q σ H3
theorem pg_sub {o i : Expr} {to ti : TE} {t : TSet} (ho : PE X o to) (hi : PE X i ti) (hs : PSet X t)
  (ha : ∀ v, assign (.Subscript o i pos) X.env v = (do
   let ov ← holding [v] (eval o X.env)
   let iv ← holding [v, ov] (eval i X.env)
   standAt pos
   holding [v, ov, iv] (setItem ov iv v)
   release [v, ov, iv] []) := by intro _; rfl) : PG X (.Subscript o i pos) (gSub to ti t) := by
 intro pins s σ H v u Q I r h
 rw [ha]
 refine wpAny_bind (wpAny_holding (thn (ho pins s σ H _ I h) fun ov s1 ⟨x, H1, I1, r1, q1⟩ => ?_))
 refine wpAny_bind (wpAny_holding (thn (hi pins s1 σ H1 _ I1 q1) fun iv s2 ⟨y, H2, I2, r2, q2⟩ => ?_))
 refine wpAny_bind (wpAny_standAt (wpAny_bind (wpAny_holding (thn (hs pins s2 σ H2 x y v ov iv u _ I2 r1 r2 r q2) fun _ s3 ⟨H3, I3, q3⟩ => ?_))))
 exact wpAny_release ⟨σ, H3, I3, q3⟩
def tAsg (te : TE) (g : TG) : TS := fun D σ H => te σ H fun x H1 => g x σ H1 D.nx
theorem ps_asg {tg e : Expr} {te : TE} {g : TG} (he : PE X e te) (hg : PG X tg g) (hs : swapsWithSole [tg] e pos.line X.env = pure false := by rfl) (hw : swappedStores [tg] e X.env = pure none := by rfl)
  (h1 : (assignEach [tg] X.env).map (·.2) = [assign tg X.env] := by rfl) : PS X (.Assign [tg] e pos) (tAsg te g) := by
 intro pins s σ H D I h
 refine wpAny_Assign_stores (thn (he pins s σ H _ I h) fun v s1 ⟨x, H1, I1, r1, q1⟩ => ?_) hs hw
 rw [h1]
 exact thn (hg pins s1 σ H1 x v _ I1 r1 q1) fun _ s2 q => q
theorem ps_set {i : Nat} {x : Str} {e : Expr} {te : TE} {pos' : Pos} (hN : X.N.Nodup) (hi : X.N[i]? = some x) (hx : Loc X.env.scope x) (he : PE X e te) (hs : swapsWith e (some (.Name x pos')) pos.line X.env = pure false := by rfl) (hf : X.fn x = true ∨ X.env.scope.names.lookup x = some .local := by first | exact .inl rfl | exact .inr rfl | assumption) :
  PS X (.Assign [.Name x pos'] e pos) (tAsg te (gName i)) := by
 intro pins s σ H D I h
 refine wpAny_Assign_Name (thn (he pins s σ H _ I h) fun v s1 ⟨y, H1, I1, r1, q1⟩ => ?_) hs
 exact store_ok I1 hN hi hx r1 (fun s2 I2 => ⟨_, H1, I2, q1⟩) hf
end
section
variable {X : Cx} {pos : Pos}
def tWhile (c : TT) (tb : TS) : TS := fun D σ H => ∃ W : Nat → St → Hp → Prop, (∃ m, W m σ H) ∧ ∀ m σ H, W m σ H →
 c σ H fun b H1 => if b = true then ∃ N : St → Hp → Prop, (∀ σ' H', N σ' H' → ∃ m', m' < m ∧ W m' σ' H') ∧ tb { D with nx := N, ct := N, bk := D.nx } σ H1 else D.nx σ H1
theorem ps_while {c : Expr} {body : List Stmt} {tc : TT} {tb : TS} (hp : PassesOwn (model X.prog X.w) X.A X.env X.xe) (hc : PT X c tc) (hb : PSs X body tb) : PS X (.While c body [] pos) (tWhile tc tb) := by
 intro pins s σ H D I h
 obtain ⟨W, ⟨m0, w0⟩, turn⟩ := h
 refine wpAny_While (codeAny_whileLoop (fun n s' => ∃ σ' H', Inv X pins σ' H' s' ∧ W n σ' H') ?_ m0 ⟨σ, H, I, w0⟩)
 rintro n s1 ⟨σ1, H1, I1, w1⟩
 refine wpAny_passesOwn hp (thn (hc pins s1 σ1 H1 _ I1 (turn n σ1 H1 w1)) fun b s2 ⟨H2, I2, q2⟩ => ?_)
 cases b with
 | true =>
  obtain ⟨N, hN, q2⟩ := q2
  rw [if_pos rfl]
  refine wpAny_passesOwn hp (thn (hb pins s2 σ1 H2 _ I2 q2) fun f s3 q3 => ?_)
  cases f with
  | next =>
   obtain ⟨σ3, H3, I3, n3⟩ := q3
   obtain ⟨m', hm, w3⟩ := hN σ3 H3 n3
   exact ⟨m', hm, σ3, H3, I3, w3⟩
  | cont =>
   obtain ⟨σ3, H3, I3, n3⟩ := q3
   obtain ⟨m', hm, w3⟩ := hN σ3 H3 n3
   exact ⟨m', hm, σ3, H3, I3, w3⟩
  | brk => exact q3
  | ret v => exact q3
 | false =>
  rw [if_neg Bool.false_ne_true]
  exact wpAny_execs_nil ⟨σ1, H2, I2, q2⟩
end
structure It where
 go : Nat → Hp → Prop
 yld : Nat → Hp → V → Hp → Prop
 stop : Nat → Hp → Prop
def FpOk (X : Cx) (pins : List (Addr × Obj)) (H : Hp) (b : Addr) : Prop :=
 H b = none ∧ b ≠ X.env.locals ∧ b ∉ X.fs ∧ (b ∈ X.ex ∨ X.s₀.heap.objs.size ≤ b) ∧ (∀ x c, X.env.cells.lookup x = some c → c ≠ b) ∧ ∀ p ∈ X.pn ++ pins, p.1 ≠ b
theorem Inv.fpOk {X : Cx} {pins : List (Addr × Obj)} {σ : St} {H H' : Hp} {s : Shared} {b : Addr} (I : Inv X pins σ H s) (hb : s.heap.objs.size ≤ b) (hn : H' b = none) : FpOk X pins H' b := by
 refine ⟨hn, Nat.ne_of_gt (Nat.lt_of_lt_of_le I.lt hb), I.nofs hb, .inr (Nat.le_trans I.sz hb), fun x c e z => ?_, fun p hp z => ?_⟩
 ·obtain ⟨v, q⟩ := I.cell x c e
  exact absurd (Nat.lt_of_lt_of_le q.lt (by rw [z]; exact hb)) (Nat.lt_irrefl _)
 ·exact absurd (Nat.lt_of_lt_of_le (Heap.lt_size (I.pin p hp).1) (by rw [z]; exact hb)) (Nat.lt_irrefl _)
structure Turn (P : Program) (w : World) (K : PySem.W.Frag) (tg : Expr) (J : It) (fp : List Addr) (it : Addr) (tn : Nat → Heap → Prop) : Prop where
 mem : it ∈ fp
 obj : ∀ i h, tn i h → ∀ b ∈ fp, ∃ o, h.get? b = some o ∧ ∀ v, o.data ≠ .cell v
 keep : ∀ i h h', tn i h → (∀ b ∈ fp, ∀ o, h.get? b = some o → h'.get? b = some o) → tn i h'
 item : ∀ (X : Cx), X.prog = P → X.w = w → X.K = K → X.calm = true → ∀ (i : Nat) (pins : List (Addr × Obj)) (s : Shared) (σ : St) (H : Hp) (E : Value → Shared → Prop), Inv X pins σ H s → (∀ b ∈ fp, FpOk X pins H b) → tn i s.heap → J.go i H →
  wpAny (model P w) X.A (pyNext (.ref it)) (fun r s1 => ∃ u, r = some u ∧
   wpAny (model P w) X.A (letOwnedTupleGo tg (.ref it) u) (fun _ s2 => ∃ x H', Inv X pins σ H' s2 ∧ RelV x u ∧ J.yld i H x H' ∧ tn (i + 1) s2.heap ∧ ∀ b ∈ fp, H' b = none) E s1) E s
 done : ∀ (X : Cx), X.prog = P → X.w = w → X.K = K → X.calm = true → ∀ (i : Nat) (pins : List (Addr × Obj)) (s : Shared) (σ : St) (H : Hp) (E : Value → Shared → Prop), Inv X pins σ H s → (∀ b ∈ fp, FpOk X pins H b) → tn i s.heap → J.stop i H →
  wpAny (model P w) X.A (pyNext (.ref it)) (fun r s1 => r = none ∧ Inv X pins σ H s1) E s
 self : ∀ (A : Around) (i : Nat) (s : Shared) (Q : Value → Shared → Prop) (E : Value → Shared → Prop), tn i s.heap → Q (.ref it) s → wpAny (model P w) A (pyIter (.ref it)) Q E s
abbrev TI := St → Hp → (It → Hp → Prop) → Prop
def PIE (X : Cx) (pins : List (Addr × Obj)) (σ : St) (tg : Expr) (R : It → Hp → Prop) (itv : Value) (s2 : Shared) : Prop :=
 ∃ (it : Addr) (fp : List Addr) (tn : Nat → Heap → Prop) (J : It) (H' : Hp), itv = .ref it ∧ Inv X pins σ H' s2 ∧ Turn X.prog X.w X.K tg J fp it tn ∧ tn 0 s2.heap ∧ (∀ b ∈ fp, FpOk X pins H' b) ∧ R J H'
def PI (X : Cx) (tg iter : Expr) (wi : TI) : Prop :=
 ∀ (pins : List (Addr × Obj)) (s : Shared) (σ : St) (H : Hp) (R : It → Hp → Prop), Inv X pins σ H s → wi σ H R →
  wpAny (model X.prog X.w) X.A (eval iter X.env) (fun v s1 => wpAny (model X.prog X.w) X.A (pyIter v) (PIE X pins σ tg R) X.xe s1) X.xe s
theorem go_of {M : Model} {A : Around} {E : Value → Shared → Prop} {s : Shared} {tg : Expr} {it : Addr} {u : Value} {o : Obj} {n : String} {vs : Array Value} {Q : Unit → Shared → Prop} (ho : s.heap.get? it = some o) (hc : o.cls = .type n) (hd : o.data = .fields vs)
    (hn : ["enumerate", "zip", "dict_itemiterator", "dict_reverseitemiterator", "odict_iterator", "itertools.zip_longest", "itertools.pairwise"].contains n = false) (hQ : Q () s) : wpAny M A (letOwnedTupleGo tg (.ref it) u) Q E s := by
  unfold letOwnedTupleGo
  cases tg <;> first
    | exact wpAny_pure hQ
    | (cases u <;> first
        | exact wpAny_pure hQ
        | (refine wpAny_bind (wpAny_load ho ?_)
           rw [hc, hd]
           show wpAny M A (if (["enumerate", "zip", "dict_itemiterator", "dict_reverseitemiterator", "odict_iterator", "itertools.zip_longest", "itertools.pairwise"].contains n && vs[0]? == some (rawInt _)) = true then _ else _) Q E s
           rw [if_neg (by intro h; rw [hn, Bool.false_and] at h; cases h)]
           exact wpAny_pure hQ))
def Itl (K : PySem.W.Frag) (a : Addr) : It :=
 ⟨fun i H => ∃ xs x, SqL K H a xs ∧ xs[i]? = some x, fun i H x H' => H' = H ∧ ∀ xs, SqL K H a xs → xs[i]? = some x, fun i H => ∃ xs, SqL K H a xs ∧ xs.length ≤ i⟩
def Itt (K : PySem.W.Frag) (a : Addr) : It :=
 ⟨fun i H => ∃ xs x, SqT K H a xs ∧ xs[i]? = some x, fun i H x H' => H' = H ∧ ∀ xs, SqT K H a xs → xs[i]? = some x, fun i H => ∃ xs, SqT K H a xs ∧ xs.length ≤ i⟩
def Itr (lo : Int) (n : Nat) : It := ⟨fun i _ => i < n, fun i H x H' => H' = H ∧ x = .int (lo + i), fun i _ => n ≤ i⟩
theorem turn_list {P : Program} {w : World} {K : PySem.W.Frag} {tg : Expr} (a it : Addr) : Turn P w K tg (Itl K a) [it] it (fun i h => h.IsListIter it a i) where
 mem := by simp
 obj := fun i h st b hb => by
  have e : b = it := by simpa using hb
  subst e
  obtain ⟨o, e, c, d⟩ := st
  exact ⟨o, e, fun v z => by rw [d] at z; cases z⟩
 keep := fun i h h' st k => st.at fun o e => k it (by simp) o e
 item := by
  intro X hP hw hK hc i pins s σ H E I hf st hg
  subst hP hw hK
  obtain ⟨xs, x, hq, hx⟩ := hg
  obtain ⟨its, rv, p, hz⟩ := I.list hq
  obtain ⟨u, hu, ru⟩ := rv.get hx
  obtain ⟨f0, f1, f2, f3, f4, f5⟩ := hf it (by simp)
  refine wpAny_pyNext_list_item st p.isList (x := u) (by simpa using hu) fun h' st' sb => ?_
  have I1 : Inv X pins σ H { s with heap := h' } := I.turned (t' := s.toks) (fun b o hb e => (sb.2 b hb).trans e) f0 f1 f3 f4 f5
  obtain ⟨o, e, c, d⟩ := id st'
  exact ⟨u, rfl, go_of (s := { s with heap := h' }) e c d (by decide) ⟨x, H, I1, ru, ⟨rfl, fun ys hy => by rw [I.list_inj hy hq]; exact hx⟩, st', fun b hb => (hf b hb).1⟩⟩
 done := by
  intro X hP hw hK hc i pins s σ H E I hf st hg
  subst hP hw hK
  obtain ⟨xs, hq, hx⟩ := hg
  obtain ⟨its, rv, p, hz⟩ := I.list hq
  obtain ⟨f0, f1, f2, f3, f4, f5⟩ := hf it (by simp)
  have hl := rv.length
  exact wpAny_pyNext_list_end (I.ok.hd hc) st p.isList (by simp; omega) fun h' eb => ⟨rfl, I.turned (t' := s.toks) (fun b o hb e => eb b o hb e) f0 f1 f3 f4 f5⟩
 self := fun _ _ _ _ _ st h => wpAny_pyIter_listiter st h
theorem turn_tuple {P : Program} {w : World} {K : PySem.W.Frag} {tg : Expr} (a it : Addr) : Turn P w K tg (Itt K a) [it] it (fun i h => h.IsTupleIter it a i) where
 mem := by simp
 obj := fun i h st b hb => by
  have e : b = it := by simpa using hb
  subst e
  obtain ⟨o, e, c, d⟩ := st
  exact ⟨o, e, fun v z => by rw [d] at z; cases z⟩
 keep := fun i h h' st k => st.at fun o e => k it (by simp) o e
 item := by
  intro X hP hw hK hc i pins s σ H E I hf st hg
  subst hP hw hK
  obtain ⟨xs, x, hq, hx⟩ := hg
  obtain ⟨its, rv, p, hz⟩ := I.tuple hq
  obtain ⟨u, hu, ru⟩ := rv.get hx
  obtain ⟨f0, f1, f2, f3, f4, f5⟩ := hf it (by simp)
  refine wpAny_pyNext_tuple_item st (show s.heap.IsTuple a its.toArray from p) (x := u) (by simpa using hu) fun h' st' sb => ?_
  have I1 : Inv X pins σ H { s with heap := h' } := I.turned (t' := s.toks) (fun b o hb e => (sb.2 b hb).trans e) f0 f1 f3 f4 f5
  obtain ⟨o, e, c, d⟩ := id st'
  exact ⟨u, rfl, go_of (s := { s with heap := h' }) e c d (by decide) ⟨x, H, I1, ru, ⟨rfl, fun ys hy => by rw [I.tuple_inj hy hq]; exact hx⟩, st', fun b hb => (hf b hb).1⟩⟩
 done := by
  intro X hP hw hK hc i pins s σ H E I hf st hg
  subst hP hw hK
  obtain ⟨xs, hq, hx⟩ := hg
  obtain ⟨its, rv, p, hz⟩ := I.tuple hq
  obtain ⟨f0, f1, f2, f3, f4, f5⟩ := hf it (by simp)
  have hl := rv.length
  exact wpAny_pyNext_tuple_end (I.ok.hd hc) st (show s.heap.IsTuple a its.toArray from p) (by simp; omega) fun h' eb => ⟨rfl, I.turned (t' := s.toks) (fun b o hb e => eb b o hb e) f0 f1 f3 f4 f5⟩
 self := fun _ _ _ _ _ st h => wpAny_pyIter_tupleiter st h
theorem turn_range {P : Program} {w : World} {K : PySem.W.Frag} {tg : Expr} (it : Addr) (lo : Int) (n : Nat) : Turn P w K tg (Itr lo n) [it] it (fun i h => IsRangeIter h it (lo + (i : Nat) * 1) ((n : Int) - (i : Nat)) 1) where
 mem := by simp
 obj := fun i h st b hb => by
  have e : b = it := by simpa using hb
  subst e
  exact ⟨_, st, fun v z => by
   have z' : Data.fields _ = Data.cell v := z
   cases z'⟩
 keep := fun i h h' st k => k it (by simp) _ st
 item := by
  intro X hP hw hK hc i pins s σ H E I hf st hg
  subst hP hw hK
  obtain ⟨f0, f1, f2, f3, f4, f5⟩ := hf it (by simp)
  have W := Walks.range (prog := X.prog) (w := X.w) (I.ok.hd hc) it lo 1 n
  refine W.item i s _ _ hg st fun v h' tk hv st' kk => ?_
  obtain ⟨t, rfl⟩ := hv
  have I1 : Inv X pins σ H { s with heap := h', toks := tk } := I.turned (fun b o hb e => kk b o (by simpa using hb) e) f0 f1 f3 f4 f5
  refine ⟨_, rfl, go_of (s := { s with heap := h', toks := tk }) (n := "range_iterator") st' rfl rfl (by decide) ⟨.int (lo + i), H, I1, ⟨t, ?_⟩, ⟨rfl, rfl⟩, st', fun b hb => (hf b hb).1⟩⟩
  rw [Int.mul_one]
 done := by
  intro X hP hw hK hc i pins s σ H E I hf st hg
  subst hP hw hK
  obtain ⟨f0, f1, f2, f3, f4, f5⟩ := hf it (by simp)
  exact wpAny_pyNext_range_end (I.ok.hd hc) st (by have : n ≤ i := hg; omega) fun h' eb => ⟨rfl, I.turned (t' := s.toks) (fun b o hb e => eb b o hb e) f0 f1 f3 f4 f5⟩
 self := fun _ _ _ _ _ st h => wpAny_pyIter_rangeiter st h
section
variable {X : Cx} {tg : Expr}
def iList (K : PySem.W.Frag) (tl : TE) : TI := fun σ H R => tl σ H fun x H1 => ∃ a, x = .ref a ∧ (∃ xs, SqL K H1 a xs) ∧ R (Itl K a) H1
def iTup (K : PySem.W.Frag) (tl : TE) : TI := fun σ H R => tl σ H fun x H1 => ∃ a, x = .ref a ∧ (∃ xs, SqT K H1 a xs) ∧ R (Itt K a) H1
theorem pi_list {l : Expr} {tl : TE} (hl : PE X l tl) : PI X tg l (iList X.K tl) := by
 intro pins s σ H R I h
 refine thn (hl pins s σ H _ I h) fun v s1 ⟨x, H1, I1, r1, q1⟩ => ?_
 obtain ⟨a, e, ⟨xs, hq⟩, q⟩ := q1
 subst e
 cases r1
 obtain ⟨its, rv, p, hz⟩ := I1.list hq
 refine wpAny_pyIter_list p.isList ?_
 refine ⟨s1.heap.objs.size, [s1.heap.objs.size], _, _, H1, rfl, I1.kept (t' := s1.toks) fun b o e => Heap.get?_push_of_some _ e, turn_list a _, ⟨_, Heap.get?_push_size _ rfl, rfl, rfl⟩, fun b hb => ?_, q⟩
 have e : b = s1.heap.objs.size := by simpa using hb
 subst e
 exact I1.fpOk (Nat.le_refl _) (I1.hok.fresh (Nat.le_refl _))
theorem pi_tup {l : Expr} {tl : TE} (hl : PE X l tl) : PI X tg l (iTup X.K tl) := by
 intro pins s σ H R I h
 refine thn (hl pins s σ H _ I h) fun v s1 ⟨x, H1, I1, r1, q1⟩ => ?_
 obtain ⟨a, e, ⟨xs, hq⟩, q⟩ := q1
 subst e
 cases r1
 obtain ⟨its, rv, p, hz⟩ := I1.tuple hq
 refine wpAny_pyIter_tuple (show s1.heap.IsTuple a its.toArray from p) ?_
 refine ⟨s1.heap.objs.size, [s1.heap.objs.size], _, _, H1, rfl, I1.kept (t' := s1.toks) fun b o e => Heap.get?_push_of_some _ e, turn_tuple a _, ⟨_, Heap.get?_push_size _ rfl, rfl, rfl⟩, fun b hb => ?_, q⟩
 have e : b = s1.heap.objs.size := by simpa using hb
 subst e
 exact I1.fpOk (Nat.le_refl _) (I1.hok.fresh (Nat.le_refl _))
theorem range_it {pins : List (Addr × Obj)} {σ : St} {H : Hp} {s : Shared} {R : It → Hp → Prop} {E : Value → Shared → Prop} {lo hi : Int} {t u v : Tok} {tk : Nat} (I : Inv X pins σ H s) (h1 : -(2 ^ 62) ≤ lo) (h2 : lo < 2 ^ 62) (h3 : -(2 ^ 62) ≤ hi) (h4 : hi < 2 ^ 62)
  (q : R (Itr lo (hi - lo).toNat) H) : wpAny (model X.prog X.w) X.A (pyIter (.ref s.heap.objs.size)) (PIE X pins σ tg R) E { s with heap := s.heap.push { cls := .type "range", data := .fields #[.int lo t, .int hi u, .int 1 v] }, toks := tk } := by
 refine wpAny_pyIter_range (IsRange.new ..) (small_one h1 h2 h3 h4) ?_
 have I1 : Inv X pins σ H { s with heap := s.heap.push { cls := .type "range", data := .fields #[.int lo t, .int hi u, .int 1 v] }, toks := tk } := I.kept fun b o e => Heap.get?_push_of_some _ e
 refine ⟨(s.heap.push { cls := .type "range", data := .fields #[.int lo t, .int hi u, .int 1 v] }).objs.size, [(s.heap.push { cls := .type "range", data := .fields #[.int lo t, .int hi u, .int 1 v] }).objs.size], _, _, H, rfl,
  I1.kept (t' := tk) fun b o e => Heap.get?_push_of_some _ e, turn_range _ lo (hi - lo).toNat, ?_, fun b hb => ?_, q⟩
 ·have e1 : lo + ((0 : Nat) : Int) * 1 = lo := by simp
  have e2 : (((hi - lo).toNat : Nat) : Int) - ((0 : Nat) : Int) = Builtin.Range.rangeSize lo hi 1 := by rw [rangeSize_one]; split <;> omega
  show IsRangeIter _ _ (lo + ((0 : Nat) : Int) * 1) ((((hi - lo).toNat : Nat) : Int) - ((0 : Nat) : Int)) 1
  rw [e1, e2]
  exact Heap.get?_push_size _ rfl
 ·have e : b = (s.heap.push { cls := .type "range", data := .fields #[.int lo t, .int hi u, .int 1 v] }).objs.size := by simpa using hb
  subst e
  exact I1.fpOk (Nat.le_refl _) (I1.hok.fresh (Nat.le_refl _))
def iRng1 (ta : TA) : TI := fun σ H R => ta σ H fun vs H1 => ∃ j : Int, vs = [.int j] ∧ -(2 ^ 62) ≤ j ∧ j < 2 ^ 62 ∧ R (Itr 0 j.toNat) H1
def iRng2 (ta : TA) : TI := fun σ H R => ta σ H fun vs H1 => ∃ i j : Int, vs = [.int i, .int j] ∧ (-(2 ^ 62) ≤ i ∧ i < 2 ^ 62 ∧ -(2 ^ 62) ≤ j ∧ j < 2 ^ 62) ∧ R (Itr i (j - i).toNat) H1
theorem pi_range1 {a : Expr} {ta : TA} {p pos : Pos} (hg : Gl X "range") (hm : X.mg "range" = none) (ha : PA X [a] ta) (hs : starEach [a] X.env = [(false, eval a X.env)] := by rfl) : PI X tg (.Call (.Name "range" p) [a] [] pos) (iRng1 ta) := by
 intro pins s σ H R I h
 refine Call_ (ld_blt I hg hm boot_range (PyProof.Rows.callWith_type1 (thn (ha pos pins s σ H _ I h) fun us s1 ⟨vs, H1, I1, r1, q1⟩ => ?_) hs rfl))
 obtain ⟨j, e, q1, q2, q⟩ := q1
 subst e
 cases r1 with
 | cons r rr =>
  cases rr
  obtain ⟨t, rfl⟩ := r
  exact call_range_1 (range_it I1 (by omega) (by omega) q1 q2 (by simpa using q))
theorem pi_range2 {a b : Expr} {ta : TA} {p pos : Pos} (hg : Gl X "range") (hm : X.mg "range" = none) (ha : PA X [a, b] ta) (hs : starEach [a, b] X.env = [(false, eval a X.env), (false, eval b X.env)] := by rfl) (hs2 : starEach [b] X.env = [(false, eval b X.env)] := by rfl) :
  PI X tg (.Call (.Name "range" p) [a, b] [] pos) (iRng2 ta) := by
 intro pins s σ H R I h
 refine Call_ (ld_blt I hg hm boot_range (PyProof.Rows.callWith_type1 (thn (ha pos pins s σ H _ I h) fun us s1 ⟨vs, H1, I1, r1, q1⟩ => ?_) (by rw [hs, hs2]) (by rw [hs2]; rfl)))
 obtain ⟨i, j, e, ⟨q1, q2, q3, q4⟩, q⟩ := q1
 subst e
 cases r1 with
 | cons r rr =>
  cases rr with
  | cons r' rr =>
   cases rr
   obtain ⟨t, rfl⟩ := r
   obtain ⟨t', rfl⟩ := r'
   exact call_range_2 (range_it I1 q1 q2 q3 q4 q)
def tFor (wi : TI) (g : TG) (tb : TS) : TS := fun D σ H => wi σ H fun J H1 => ∃ W : Nat → Nat → St → Hp → Prop, (∃ m, W 0 m σ H1) ∧ ∀ i m σ H, W i m σ H →
 (J.stop i H ∧ D.nx σ H) ∨ (J.go i H ∧ ∃ N : St → Hp → Prop, (∀ σ' H', N σ' H' → ∃ m', m' < m ∧ W (i + 1) m' σ' H') ∧ ∀ x H', J.yld i H x H' → g x σ H' fun σ2 H2 => tb { D with nx := N, ct := N, bk := D.nx } σ2 H2)
def pinsAt (fp : List Addr) (h : Heap) : List (Addr × Obj) := fp.filterMap fun b => (h.get? b).map fun o => (b, o)
theorem mem_pinsAt {fp : List Addr} {h : Heap} {b : Addr} {o : Obj} (hb : b ∈ fp) (e : h.get? b = some o) : (b, o) ∈ pinsAt fp h := List.mem_filterMap.mpr ⟨b, hb, by rw [e]; rfl⟩
theorem of_pinsAt {fp : List Addr} {h : Heap} {p : Addr × Obj} (hp : p ∈ pinsAt fp h) : p.1 ∈ fp ∧ h.get? p.1 = some p.2 := by
 obtain ⟨b, hb, e⟩ := List.mem_filterMap.mp hp
 cases q : h.get? b with
 | none => rw [q] at e; cases e
 | some o =>
  rw [q] at e
  have e' : (b, o) = p := Option.some.inj e
  subst e'
  exact ⟨hb, q⟩
theorem Inv.pinned {pins : List (Addr × Obj)} {σ : St} {H : Hp} {s : Shared} {fp : List Addr} (I : Inv X pins σ H s) (hf : ∀ b ∈ fp, FpOk X pins H b) (ho : ∀ b ∈ fp, ∃ o, s.heap.get? b = some o ∧ ∀ v, o.data ≠ .cell v) : Inv X (pins ++ pinsAt fp s.heap) σ H s :=
 I.pins_of fun p hp => (List.mem_append.mp hp).elim (fun z => I.pin p (List.mem_append_right _ z)) fun z => by
  obtain ⟨hb, e⟩ := of_pinsAt z
  obtain ⟨f0, f1, f2, _⟩ := hf p.1 hb
  obtain ⟨o, e', d⟩ := ho p.1 hb
  rw [e] at e'; cases e'
  exact ⟨e, f0, f1, f2, d⟩
theorem Inv.unpinned {pins pl : List (Addr × Obj)} {σ : St} {H : Hp} {s : Shared} (I : Inv X (pins ++ pl) σ H s) : Inv X pins σ H s := I.pins_of fun p hp => I.pin p (List.mem_append_right _ (List.mem_append_left _ hp))
theorem ps_for {iter : Expr} {body : List Stmt} {wi : TI} {g : TG} {tb : TS} {pos : Pos} (hp : PassesOwn (model X.prog X.w) X.A X.env X.xe) (hc : X.calm = true) (hi : PI X tg iter wi) (hg : PG X tg g) (hb : PSs X body tb)
  (hs : ∀ x, foldedSetIterable iter X.env x = pure x := by intro _; rfl) : PS X (.For tg iter body [] pos) (tFor wi g tb) := by
 intro pins s σ H D I h
 refine wpAny_For (thn (hi pins s σ H _ I h) fun v s1 h1 => thn h1 fun itv s2 h2 => ?_) hs
 obtain ⟨it, fp, tn, J, H2, e, I2, T, st2, f2, W, ⟨m0, w0⟩, turn⟩ := h2
 subst e
 -- what stays true of the iterator's objects through the loop
 have stat : ∀ {H' : Hp}, (∀ b ∈ fp, H' b = none) → ∀ b ∈ fp, FpOk X pins H' b := fun hn b hb => ⟨hn b hb, (f2 b hb).2⟩
 refine codeAny_forLoop_any (fun n s' => ∃ i σ' H', Inv X pins σ' H' s' ∧ tn i s'.heap ∧ (∀ b ∈ fp, H' b = none) ∧ W i n σ' H') ?_ m0 ⟨0, σ, H2, I2, st2, fun b hb => (f2 b hb).1, w0⟩
 rintro n s3 ⟨i, σ3, H3, I3, st3, fr3, w3⟩
 rcases turn i n σ3 H3 w3 with ⟨stop, qn⟩ | ⟨go, N, hN, step⟩
 ·refine wpAny_passesOwn hp (thn (T.done X rfl rfl rfl hc i pins s3 σ3 H3 X.xe I3 (stat fr3) st3 stop) fun r s4 ⟨hr, I4⟩ => ?_)
  subst hr
  exact wpAny_execs_nil ⟨σ3, H3, I4, qn⟩
 ·refine wpAny_passesOwn hp (thn (T.item X rfl rfl rfl hc i pins s3 σ3 H3 X.xe I3 (stat fr3) st3 go) fun r s4 ⟨u, hr, h4⟩ => ?_)
  subst hr
  refine wpAny_passesOwn hp (thn h4 fun _ s5 ⟨x, H5, I5, r5, y5, st5, fr5⟩ => ?_)
  have I5' := I5.pinned (stat fr5) (T.obj _ _ st5)
  refine wpAny_passesOwn hp (thn (hg _ s5 σ3 H5 x u _ I5' r5 (step x H5 y5)) fun _ s6 ⟨σ6, H6, I6, q6⟩ => ?_)
  refine wpAny_passesOwn hp (thn (hb _ s6 σ6 H6 _ I6 q6) fun f s7 q7 => ?_)
  have again : ∀ {σ7 : St} {H7 : Hp}, Inv X (pins ++ pinsAt fp s5.heap) σ7 H7 s7 → N σ7 H7 → ∃ m, m < n ∧ ∃ i σ' H', Inv X pins σ' H' s7 ∧ tn i s7.heap ∧ (∀ b ∈ fp, H' b = none) ∧ W i m σ' H' := fun {σ7 H7} I7 n7 => by
   obtain ⟨m', hm, w7⟩ := hN σ7 H7 n7
   refine ⟨m', hm, i + 1, σ7, H7, I7.unpinned, T.keep _ _ _ st5 fun b hb o e => (I7.pin (b, o) (List.mem_append_right _ (List.mem_append_right _ (mem_pinsAt hb e)))).1, fun b hb => ?_, w7⟩
   obtain ⟨o, e, d⟩ := T.obj _ _ st5 b hb
   exact (I7.pin (b, o) (List.mem_append_right _ (List.mem_append_right _ (mem_pinsAt hb e)))).2.1
  cases f with
  | next => obtain ⟨σ7, H7, I7, n7⟩ := q7; exact again I7 n7
  | cont => obtain ⟨σ7, H7, I7, n7⟩ := q7; exact again I7 n7
  | brk => obtain ⟨σ7, H7, I7, q7⟩ := q7; exact ⟨σ7, H7, I7.unpinned, q7⟩
  | ret v => obtain ⟨x7, σ7, H7, I7, r7, q7⟩ := q7; exact ⟨x7, σ7, H7, I7.unpinned, r7, q7⟩
end
theorem for_list {K : PySem.W.Frag} {a : Addr} {xs : List V} {g : TG} {tb : TS} {D : Ends} {σ : St} {H : Hp} (Pv : Nat → St → Hp → Prop) (h0 : Pv 0 σ H) (hl : ∀ i σ H, i ≤ xs.length → Pv i σ H → SqL K H a xs)
  (hs : ∀ i x σ H, xs[i]? = some x → Pv i σ H → g x σ H fun σ2 H2 => tb { D with nx := Pv (i + 1), ct := Pv (i + 1), bk := D.nx } σ2 H2) (hd : ∀ σ H, Pv xs.length σ H → D.nx σ H) :
  ∃ W : Nat → Nat → St → Hp → Prop, (∃ m, W 0 m σ H) ∧ ∀ i m σ H, W i m σ H →
   ((Itl K a).stop i H ∧ D.nx σ H) ∨ ((Itl K a).go i H ∧ ∃ N : St → Hp → Prop, (∀ σ' H', N σ' H' → ∃ m', m' < m ∧ W (i + 1) m' σ' H') ∧ ∀ x H', (Itl K a).yld i H x H' → g x σ H' fun σ2 H2 => tb { D with nx := N, ct := N, bk := D.nx } σ2 H2) := by
 refine ⟨fun i m σ H => m = xs.length - i ∧ i ≤ xs.length ∧ Pv i σ H, ⟨xs.length, by simp, Nat.zero_le _, h0⟩, ?_⟩
 rintro i m σ H ⟨rfl, hi, p⟩
 have q := hl i σ H hi p
 by_cases hlt : i < xs.length
 ·refine .inr ⟨⟨xs, xs[i], q, by simp [hlt]⟩, Pv (i + 1), fun σ' H' p' => ⟨xs.length - (i + 1), by omega, rfl, hlt, p'⟩, fun x H' y => ?_⟩
  obtain ⟨e, y⟩ := y
  subst e
  exact hs i x σ _ (y xs q) p
 ·have e : i = xs.length := by omega
  subst e
  exact .inl ⟨⟨xs, q, Nat.le_refl _⟩, hd σ H p⟩
theorem for_tup {K : PySem.W.Frag} {a : Addr} {xs : List V} {g : TG} {tb : TS} {D : Ends} {σ : St} {H : Hp} (Pv : Nat → St → Hp → Prop) (h0 : Pv 0 σ H) (hl : ∀ i σ H, i ≤ xs.length → Pv i σ H → SqT K H a xs)
  (hs : ∀ i x σ H, xs[i]? = some x → Pv i σ H → g x σ H fun σ2 H2 => tb { D with nx := Pv (i + 1), ct := Pv (i + 1), bk := D.nx } σ2 H2) (hd : ∀ σ H, Pv xs.length σ H → D.nx σ H) :
  ∃ W : Nat → Nat → St → Hp → Prop, (∃ m, W 0 m σ H) ∧ ∀ i m σ H, W i m σ H →
   ((Itt K a).stop i H ∧ D.nx σ H) ∨ ((Itt K a).go i H ∧ ∃ N : St → Hp → Prop, (∀ σ' H', N σ' H' → ∃ m', m' < m ∧ W (i + 1) m' σ' H') ∧ ∀ x H', (Itt K a).yld i H x H' → g x σ H' fun σ2 H2 => tb { D with nx := N, ct := N, bk := D.nx } σ2 H2) := by
 refine ⟨fun i m σ H => m = xs.length - i ∧ i ≤ xs.length ∧ Pv i σ H, ⟨xs.length, by simp, Nat.zero_le _, h0⟩, ?_⟩
 rintro i m σ H ⟨rfl, hi, p⟩
 have q := hl i σ H hi p
 by_cases hlt : i < xs.length
 ·refine .inr ⟨⟨xs, xs[i], q, by simp [hlt]⟩, Pv (i + 1), fun σ' H' p' => ⟨xs.length - (i + 1), by omega, rfl, hlt, p'⟩, fun x H' y => ?_⟩
  obtain ⟨e, y⟩ := y
  subst e
  exact hs i x σ _ (y xs q) p
 ·have e : i = xs.length := by omega
  subst e
  exact .inl ⟨⟨xs, q, Nat.le_refl _⟩, hd σ H p⟩
theorem for_range {lo : Int} {n : Nat} {g : TG} {tb : TS} {D : Ends} {σ : St} {H : Hp} (Pv : Nat → St → Hp → Prop) (h0 : Pv 0 σ H)
  (hs : ∀ i σ H, i < n → Pv i σ H → g (.int (lo + i)) σ H fun σ2 H2 => tb { D with nx := Pv (i + 1), ct := Pv (i + 1), bk := D.nx } σ2 H2) (hd : ∀ σ H, Pv n σ H → D.nx σ H) :
  ∃ W : Nat → Nat → St → Hp → Prop, (∃ m, W 0 m σ H) ∧ ∀ i m σ H, W i m σ H →
   ((Itr lo n).stop i H ∧ D.nx σ H) ∨ ((Itr lo n).go i H ∧ ∃ N : St → Hp → Prop, (∀ σ' H', N σ' H' → ∃ m', m' < m ∧ W (i + 1) m' σ' H') ∧ ∀ x H', (Itr lo n).yld i H x H' → g x σ H' fun σ2 H2 => tb { D with nx := N, ct := N, bk := D.nx } σ2 H2) := by
 refine ⟨fun i m σ H => m = n - i ∧ i ≤ n ∧ Pv i σ H, ⟨n, by simp, Nat.zero_le _, h0⟩, ?_⟩
 rintro i m σ H ⟨rfl, hi, p⟩
 by_cases hlt : i < n
 ·refine .inr ⟨hlt, Pv (i + 1), fun σ' H' p' => ⟨n - (i + 1), by omega, rfl, hlt, p'⟩, fun x H' y => ?_⟩
  obtain ⟨e, y⟩ := y
  subst e y
  exact hs i σ _ hlt p
 ·have e : i = n := by omega
  subst e
  exact .inl ⟨Nat.le_refl _, hd σ H p⟩
abbrev R2 := V → V → Hp → VK → Prop
def OpR (X : Cx) (f : Value → Value → Sem Value) (r : R2) : Prop :=
 ∀ (pins : List (Addr × Obj)) (s : Shared) (σ : St) (H : Hp) (x y : V) (v u : Value) (Q : VK), Inv X pins σ H s → RelV x v → RelV y u → r x y H Q →
  wpAny (model X.prog X.w) X.A (f v u) (EP X pins σ Q) X.xe s
def UnR (X : Cx) (f : Value → Sem Value) (r : V → Hp → VK → Prop) : Prop :=
 ∀ (pins : List (Addr × Obj)) (s : Shared) (σ : St) (H : Hp) (x : V) (v : Value) (Q : VK), Inv X pins σ H s → RelV x v → r x H Q →
  wpAny (model X.prog X.w) X.A (f v) (EP X pins σ Q) X.xe s
def CallR (X : Cx) (f : Value) (r : List V → Hp → VK → Prop) : Prop :=
 ∀ (pins : List (Addr × Obj)) (s : Shared) (σ : St) (H : Hp) (xs : List V) (us : List Value) (Q : VK), Inv X pins σ H s → Vals xs us → r xs H Q →
  wpAny (model X.prog X.w) X.A (call f us) (EP X pins σ Q) X.xe s
def tOp (r : R2) (ta tb : TE) : TE := fun σ H Q => ta σ H fun x H1 => tb σ H1 fun y H2 => r x y H2 Q
def tUn (r : V → Hp → VK → Prop) (ta : TE) : TE := fun σ H Q => ta σ H fun x H1 => r x H1 Q
def rI (C : Int → Int → Prop) (g : Int → Int → V) : R2 := fun x y H Q => ∃ i j, x = .int i ∧ y = .int j ∧ C i j ∧ Q (g i j) H
def rI0 (g : Int → Int → V) : R2 := fun x y H Q => ∃ i j, x = .int i ∧ y = .int j ∧ Q (g i j) H
def rU (g : Int → V) : V → Hp → VK → Prop := fun x H Q => ∃ i, x = .int i ∧ Q (g i) H
section
variable {X : Cx} {a b c : Expr} {ta tb tc : TE} {pos : Pos}
theorem binT (ha : PE X a ta) (hb : PE X b tb) {pins : List (Addr × Obj)} {s : Shared} {σ : St} {H : Hp} {R : V → V → Hp → Prop} (I : Inv X pins σ H s)
  (h : ta σ H fun x H1 => tb σ H1 fun y H2 => R x y H2) {Q : Value → Shared → Prop} {f : Value → Value → Sem Value}
  (hf : ∀ v u s2 x y H2, Inv X pins σ H2 s2 → RelV x v → RelV y u → R x y H2 → wpAny (model X.prog X.w) X.A (f v u) Q X.xe s2) :
  wpAny (model X.prog X.w) X.A (eval a X.env) (fun v s₁ => wpAny (model X.prog X.w) X.A (eval b X.env) (fun u s₂ => wpAny (model X.prog X.w) X.A (f v u) Q X.xe s₂) X.xe s₁) X.xe s := by
 refine thn (ha pins s σ H _ I h) fun v s1 ⟨x, H1, I1, r1, q1⟩ => ?_
 refine thn (hb pins s1 σ H1 _ I1 q1) fun u s2 ⟨y, H2, I2, r2, q2⟩ => ?_
 exact hf v u s2 x y H2 I2 r1 r2 q2
theorem pe_op {op : Operator} {r : R2} (ho : OpR X (binaryOp op) r) (ha : PE X a ta) (hb : PE X b tb) : PE X (.BinOp a op b pos) (tOp r ta tb) := by
 intro pins s σ H Q I h
 exact wpAny_BinOp (binT ha hb I h fun v u s2 x y H2 I2 rx ry q => ho pins s2 σ H2 x y v u Q I2 rx ry q)
theorem pe_un {op : UnaryOp} {r : V → Hp → VK → Prop} (ho : UnR X (unaryOp op) r) (ha : PE X a ta) : PE X (.UnaryOp op a pos) (tUn r ta) := by
 intro pins s σ H Q I h
 exact UnaryOp_ (thn (ha pins s σ H _ I h) fun v s1 ⟨x, H1, I1, r1, q1⟩ => ho pins s1 σ H1 x v Q I1 r1 q1)
theorem opI {f : Value → Value → Sem Value} {C : Int → Int → Prop} {g : Int → Int → Int}
  (rule : ∀ (i j : Int) (t u : Tok) (s : Shared) (Q : Value → Shared → Prop) (E : Value → Shared → Prop), C i j → Q (.int (g i j) s.toks) { s with toks := s.toks + 1 } → wpAny (model X.prog X.w) X.A (f (.int i t) (.int j u)) Q E s) :
  OpR X f (rI C fun i j => .int (g i j)) := by
 intro pins s σ H x y v u Q I rx ry h
 obtain ⟨i, j, rfl, rfl, hc, q⟩ := h
 obtain ⟨t, rfl⟩ := rx
 obtain ⟨t', rfl⟩ := ry
 exact rule i j t t' s _ _ hc ⟨.int (g i j), H, I.tok _, ⟨_, rfl⟩, q⟩
theorem opI0 {f : Value → Value → Sem Value} {g : Int → Int → Int}
  (rule : ∀ (i j : Int) (t u : Tok) (s : Shared) (Q : Value → Shared → Prop) (E : Value → Shared → Prop), Q (.int (g i j) s.toks) { s with toks := s.toks + 1 } → wpAny (model X.prog X.w) X.A (f (.int i t) (.int j u)) Q E s) :
  OpR X f (rI0 fun i j => .int (g i j)) := by
 intro pins s σ H x y v u Q I rx ry h
 obtain ⟨i, j, rfl, rfl, q⟩ := h
 obtain ⟨t, rfl⟩ := rx
 obtain ⟨t', rfl⟩ := ry
 exact rule i j t t' s _ _ ⟨.int (g i j), H, I.tok _, ⟨_, rfl⟩, q⟩
theorem opB0 {f : Value → Value → Sem Value} {g : Int → Int → Bool}
  (rule : ∀ (i j : Int) (t u : Tok) (s : Shared) (Q : Value → Shared → Prop) (E : Value → Shared → Prop), Q (.bool (g i j)) s → wpAny (model X.prog X.w) X.A (f (.int i t) (.int j u)) Q E s) :
  OpR X f (rI0 fun i j => .bl (g i j)) := by
 intro pins s σ H x y v u Q I rx ry h
 obtain ⟨i, j, rfl, rfl, q⟩ := h
 obtain ⟨t, rfl⟩ := rx
 obtain ⟨t', rfl⟩ := ry
 exact rule i j t t' s _ _ ⟨.bl (g i j), H, I, rfl, q⟩
def CDiv (i j : Int) : Prop := 0 < j ∧ j < 1073741824
def CPow (i j : Int) : Prop := 0 ≤ j ∧ j ≤ 1000000 ∧ i.natAbs < 2 ^ 64
def CMul (i j : Int) : Prop := (-(2 ^ 64) < i ∧ i < 2 ^ 64) ∨ (-(2 ^ 64) < j ∧ j < 2 ^ 64)
theorem CMul.ok {i j : Int} (h : CMul i j) : IntMulOk i j := by
 rcases h with ⟨h1, h2⟩ | ⟨h1, h2⟩
 ·exact .of_left (intBits_le_64 h1 h2)
 ·exact .of_right (intBits_le_64 h1 h2)
theorem op_add : OpR X (binaryOp .Add) (rI0 fun i j => .int (i + j)) := opI0 fun _ _ _ _ _ _ _ q => add_int q
theorem op_sub : OpR X (binaryOp .Sub) (rI0 fun i j => .int (i - j)) := opI0 fun _ _ _ _ _ _ _ q => sub_int q
theorem op_mul : OpR X (binaryOp .Mult) (rI CMul fun i j => .int (i * j)) := opI fun _ _ _ _ _ _ _ hc q => mul_int q hc.ok
theorem op_fdiv : OpR X (binaryOp .FloorDiv) (rI CDiv fun i j => .int (i / j)) := opI fun i j _ _ _ _ _ hc q => by
 have h1 : (0 : Int) < j := hc.1
 have h2 : j < 1073741824 := hc.2
 exact floordiv_int (by omega) (by rw [Int.fdiv_eq_ediv_of_nonneg i (by omega)]; exact q) (.inl (PyProof.noPylong_small (by omega)))
theorem op_mod : OpR X (binaryOp .Mod) (rI (fun _ j => 0 < j) fun i j => .int (i % j)) := opI fun i j _ _ _ _ _ hc q => by
 have h1 : (0 : Int) < j := hc
 exact mod_int' (by omega) (by rw [Int.fmod_eq_emod_of_nonneg i (by omega)]; exact q)
theorem op_pow : OpR X (binaryOp .Pow) (rI CPow fun i j => .int (i ^ j.toNat)) := opI fun _ _ _ _ _ _ _ hc q => pow_int_small hc.1 hc.2.1 hc.2.2 q
theorem unI {f : Value → Sem Value} {g : Int → Int}
  (rule : ∀ (i : Int) (t : Tok) (s : Shared) (Q : Value → Shared → Prop) (E : Value → Shared → Prop), Q (.int (g i) s.toks) { s with toks := s.toks + 1 } → wpAny (model X.prog X.w) X.A (f (.int i t)) Q E s) :
  UnR X f (rU fun i => .int (g i)) := by
 intro pins s σ H x v Q I rx h
 obtain ⟨i, rfl, q⟩ := h
 obtain ⟨t, rfl⟩ := rx
 exact rule i t s _ _ ⟨.int (g i), H, I.tok _, ⟨_, rfl⟩, q⟩
theorem un_neg : UnR X (unaryOp .USub) (rU fun i => .int (-i)) := unI fun _ _ _ _ _ q => neg_int q
end
def scal : V → V → Bool
 | .non, .non => true | .non, .int _ => true | .int _, .non => true | .non, .bl _ => true | .bl _, .non => true | .non, .str _ => true | .str _, .non => true
 | .int _, .int _ => true | .bl _, .bl _ => true | .str _, .str _ => true | .byt _, .byt _ => true
 | .int _, .str _ => true | .str _, .int _ => true | .bl _, .str _ => true | .str _, .bl _ => true
 | _, _ => false
def rEq : R2 := fun x y H Q => scal x y = true ∧ Q (.bl (decide (x = y))) H
def rNe : R2 := fun x y H Q => scal x y = true ∧ Q (.bl (!decide (x = y))) H
theorem dec_int {i j : Int} : decide (V.int i = V.int j) = (i == j) := by
 rw [Bool.eq_iff_iff]
 simp
theorem dec_bl {i j : Bool} : decide (V.bl i = V.bl j) = (i == j) := by
 rw [Bool.eq_iff_iff]
 simp
theorem dec_str {i j : Str} : decide (V.str i = V.str j) = (i == j) := by
 rw [Bool.eq_iff_iff]
 simp
theorem dec_byt {i j : Array UInt8} : decide (V.byt i = V.byt j) = (i.toList == j.toList) := by
 rw [Bool.eq_iff_iff]
 cases i
 cases j
 simp
section
variable {X : Cx} {a b c : Expr} {ta tb tc : TE} {pos : Pos}
theorem fin_bl {pins : List (Addr × Obj)} {σ : St} {H : Hp} {s : Shared} {Q : VK} {k k' : Bool} (I : Inv X pins σ H s) (q : Q (.bl k) H) (e : k = k') : EP X pins σ Q (.bool k') s := by
 subst e
 exact ⟨.bl k, H, I, rfl, q⟩
theorem op_eq : OpR X (compareOp .Eq) rEq := by
 intro pins s σ H x y v u Q I rx ry h
 obtain ⟨hs, q⟩ := h
 cases x with
 | non =>
  cases rx
  cases y with
  | non => cases ry; exact PySem.EqNone.eq_none_none (fin_bl I q (by simp))
  | bl j => cases ry; exact PySem.EqNone.eq_none_bool (fin_bl I q (by simp))
  | int j => obtain ⟨t', rfl⟩ := ry; exact PySem.EqNone.eq_none_int (fin_bl I q (by simp))
  | str j => obtain ⟨t', rfl⟩ := ry; exact PySem.EqNone.eq_none_str (fin_bl I q (by simp))
  | _ => exact absurd (show false = true from hs) Bool.false_ne_true
 | bl i =>
  cases rx
  cases y with
  | non => cases ry; exact PySem.EqNone.eq_bool_none (fin_bl I q (by simp))
  | bl j => cases ry; exact eq_bool (fin_bl I q dec_bl)
  | str j => obtain ⟨t', rfl⟩ := ry; exact PySem.EqMixed.eq_bool_str (fin_bl I q (by simp))
  | _ => exact absurd (show false = true from hs) Bool.false_ne_true
 | int i =>
  obtain ⟨t, rfl⟩ := rx
  cases y with
  | non => cases ry; exact PySem.EqNone.eq_int_none (fin_bl I q (by simp))
  | int j => obtain ⟨t', rfl⟩ := ry; exact eq_int (fin_bl I q dec_int)
  | str j => obtain ⟨t', rfl⟩ := ry; exact PySem.EqMixed.eq_int_str (fin_bl I q (by simp))
  | _ => exact absurd (show false = true from hs) Bool.false_ne_true
 | str i =>
  obtain ⟨t, rfl⟩ := rx
  cases y with
  | non => cases ry; exact PySem.EqNone.eq_str_none (fin_bl I q (by simp))
  | bl j => cases ry; exact PySem.EqMixed.eq_str_bool (fin_bl I q (by simp))
  | int j => obtain ⟨t', rfl⟩ := ry; exact PySem.EqMixed.eq_str_int (fin_bl I q (by simp))
  | str j => obtain ⟨t', rfl⟩ := ry; exact eq_str (fin_bl I q dec_str)
  | _ => exact absurd (show false = true from hs) Bool.false_ne_true
 | byt i =>
  obtain ⟨t, rfl⟩ := rx
  cases y with
  | byt j => obtain ⟨t', rfl⟩ := ry; exact PySem.W.eq_bytes (fin_bl I q dec_byt)
  | _ => exact absurd (show false = true from hs) Bool.false_ne_true
 | _ => cases y <;> exact absurd (show false = true from hs) Bool.false_ne_true
theorem op_ne : OpR X (compareOp .NotEq) rNe := by
 intro pins s σ H x y v u Q I rx ry h
 obtain ⟨hs, q⟩ := h
 cases x with
 | non =>
  cases rx
  cases y with
  | non => cases ry; exact PySem.EqNone.ne_none_none (fin_bl I q (by simp))
  | bl j => cases ry; exact PySem.EqNone.ne_none_bool (fin_bl I q (by simp))
  | int j => obtain ⟨t', rfl⟩ := ry; exact PySem.EqNone.ne_none_int (fin_bl I q (by simp))
  | str j => obtain ⟨t', rfl⟩ := ry; exact PySem.EqNone.ne_none_str (fin_bl I q (by simp))
  | _ => exact absurd (show false = true from hs) Bool.false_ne_true
 | bl i =>
  cases rx
  cases y with
  | non => cases ry; exact PySem.EqNone.ne_bool_none (fin_bl I q (by simp))
  | bl j => cases ry; exact ne_bool (fin_bl I q (congrArg not dec_bl))
  | str j => obtain ⟨t', rfl⟩ := ry; exact PySem.EqMixed.ne_bool_str (fin_bl I q (by simp))
  | _ => exact absurd (show false = true from hs) Bool.false_ne_true
 | int i =>
  obtain ⟨t, rfl⟩ := rx
  cases y with
  | non => cases ry; exact PySem.EqNone.ne_int_none (fin_bl I q (by simp))
  | int j => obtain ⟨t', rfl⟩ := ry; exact ne_int (fin_bl I q (congrArg not dec_int))
  | str j => obtain ⟨t', rfl⟩ := ry; exact PySem.EqMixed.ne_int_str (fin_bl I q (by simp))
  | _ => exact absurd (show false = true from hs) Bool.false_ne_true
 | str i =>
  obtain ⟨t, rfl⟩ := rx
  cases y with
  | non => cases ry; exact PySem.EqNone.ne_str_none (fin_bl I q (by simp))
  | bl j => cases ry; exact PySem.EqMixed.ne_str_bool (fin_bl I q (by simp))
  | int j => obtain ⟨t', rfl⟩ := ry; exact PySem.EqMixed.ne_str_int (fin_bl I q (by simp))
  | str j => obtain ⟨t', rfl⟩ := ry; exact ne_str (fin_bl I q (congrArg not dec_str))
  | _ => exact absurd (show false = true from hs) Bool.false_ne_true
 | byt i =>
  obtain ⟨t, rfl⟩ := rx
  cases y with
  | byt j => obtain ⟨t', rfl⟩ := ry; exact PySem.W.ne_bytes (fin_bl I q (congrArg not dec_byt))
  | _ => exact absurd (show false = true from hs) Bool.false_ne_true
 | _ => cases y <;> exact absurd (show false = true from hs) Bool.false_ne_true
theorem op_lt : OpR X (compareOp .Lt) (rI0 fun i j => .bl (decide (i < j))) := opB0 fun _ _ _ _ _ _ _ q => lt_int q
theorem op_gt : OpR X (compareOp .Gt) (rI0 fun i j => .bl (decide (j < i))) := opB0 fun _ _ _ _ _ _ _ q => gt_int q
theorem nomark (b : Expr) {op : CmpOp} (h : op ≠ .In := by decide) (h2 : op ≠ .NotIn := by decide) : behindInMarks op b = false := by
 have e1 : (op == CmpOp.In) = false := by cases op <;> first | rfl | exact absurd rfl h
 have e2 : (op == CmpOp.NotIn) = false := by cases op <;> first | rfl | exact absurd rfl h2
 cases b <;> simp [behindInMarks, e1, e2]
def tTest (t : TE) : TT := fun σ H Q => t σ H fun x H' => ∃ k, x = .bl k ∧ Q k H'
theorem pt_cmpR {op : CmpOp} {r : R2} (ho : OpR X (compareOp op) r) (ha : PE X a ta) (hb : PE X b tb) (hm : behindInMarks op b = false) : PT X (.Compare a [op] [b] pos) (tTest (tOp r ta tb)) := by
 intro pins s σ H Q I h
 refine wpAny_isTrue_Compare1 (thn (ha pins s σ H _ I h) fun v s1 ⟨x, H1, I1, r1, q1⟩ => thn (hb pins s1 σ H1 _ I1 q1) fun u s2 ⟨y, H2, I2, r2, q2⟩ =>
  thn (ho pins s2 σ H2 x y v u _ I2 r1 r2 q2) fun c s3 ⟨z, H3, I3, r3, k, e, q3⟩ => ?_) hm
 subst e
 cases r3
 exact wpAny_truthy_bool ⟨H3, I3, q3⟩
theorem line63 : (sizeLine : Nat) < 2 ^ 63 := by rw [sizeLine_eq]; decide
theorem vals1 {x : V} {us : List Value} (r : Vals [x] us) : ∃ u, us = [u] ∧ RelV x u := by
 cases r with
 | cons r1 r2 => cases r2; exact ⟨_, rfl, r1⟩
theorem vals2 {x y : V} {us : List Value} (r : Vals [x, y] us) : ∃ u w', us = [u, w'] ∧ RelV x u ∧ RelV y w' := by
 cases r with
 | cons r1 r2 =>
  cases r2 with
  | cons r3 r4 => cases r4; exact ⟨_, _, rfl, r1, r3⟩
theorem call_abs : CallR X (.builtin "abs") (fun xs H Q => ∃ i, xs = [.int i] ∧ Q (.int (if i < 0 then -i else i)) H) := by
 intro pins s σ H xs us Q I r h
 obtain ⟨i, rfl, q⟩ := h
 obtain ⟨u, rfl, t, rfl⟩ := vals1 r
 exact call_abs_int fun u tk => ⟨.int (if i < 0 then -i else i), H, I.tok _, ⟨_, rfl⟩, q⟩
theorem call_min2 (hc : X.calm = true) : CallR X (.builtin "min") (fun xs H Q => ∃ i j, xs = [.int i, .int j] ∧ Q (.int (if j < i then j else i)) H) := by
 intro pins s σ H xs us Q I r h
 obtain ⟨i, j, rfl, q⟩ := h
 obtain ⟨u, w', rfl, ⟨t, rfl⟩, ⟨t', rfl⟩⟩ := vals2 r
 refine min_two_ints (I.ok.hd hc) fun h' tk k => ⟨_, H, I.kept k, ?_, q⟩
 by_cases hj : j < i
 ·rw [if_pos hj, if_pos hj]; exact ⟨_, rfl⟩
 ·rw [if_neg hj, if_neg hj]; exact ⟨_, rfl⟩
end
structure ObjM (h : Heap) (x dx C : Addr) (mA : Str → Option Value) : Prop where
 obj : h.get? x = some (PySem.W.instObj C dx)
 ns : h.Ns1 dx mA
 ne : dx ≠ x
section
variable {prog : Program} {w : World} {A : Around} {E : Value → Shared → Prop} {s : Shared} {K : PySem.W.Frag} {x dx C f : Addr} {mA : Str → Option Value} {name : Str} {v : Value}
end
section
variable {P : Program} {w : World} {H H' : Hp} {h h' : Heap} {a C dx : Addr} {fs fs' : List (Str × V)}
end
structure Cls (K : PySem.W.Frag) (C : Addr) : Prop where
 pg : PySem.W.plainGet K C Str.empty = true
 hd : PySem.W.hasDictIn K C = true
 po : PySem.W.plainOver K C = true
 sa : PySem.W.findIn K (.ref C) "__setattr__" = some (some (.builtin "object.__setattr__"))
structure Con (K : PySem.W.Frag) (C : Addr) (f : Str) (v : V) (u : Value) : Prop where
 at_ : PySem.W.findIn K (.ref C) f = some (some u)
 rel : RelV v u
 get : PySem.W.specialIn K u "__get__" = some none
 cp : PySem.W.copiedNames.contains f = false
structure Meth (K : PySem.W.Frag) (C : Addr) (m : Str) (f : Addr) : Prop where
 at_ : PySem.W.findIn K (.ref C) m = some (some (.ref f))
 fn : PySem.W.isFn K (.ref f) = true
 kp : PySem.W.keepIn K (.ref f) = true
section
variable {X : Cx} {pins : List (Addr × Obj)} {σ : St} {H : Hp} {s : Shared} {a C dx : Addr} {fs : List (Str × V)} {f : Str} {v : V} {A : Around} {E : Value → Shared → Prop}
end
section
variable {X : Cx} {o e value : Expr} {f : Str} {pos pos' tpos : Pos} {ta tv : TE}
end
section
variable {X : Cx} {pins : List (Addr × Obj)} {σ : St} {H : Hp} {s : Shared} {A : Around} {E : Value → Shared → Prop} {Q : Value → Shared → Prop} {c : Value} {b : Bool}
inductive TyOf (K : PySem.W.Frag) (H : Hp) : V → Value → Prop where
 | non : TyOf K H .non (.type "NoneType")
 | bl (x : Bool) : TyOf K H (.bl x) (.type "bool")
 | int (i : Int) : TyOf K H (.int i) (.type "int")
 | str (x : Str) : TyOf K H (.str x) (.type "str")
 | flt (x : UInt64) : TyOf K H (.flt x) (.type "float")
 | lst {a : Addr} {xs : List V} (e : H a = some (.lst xs)) : TyOf K H (.ref a) (.type "list")
 | frz {a : Addr} {o : Obj} {xs : List V} (e : H a = some (.frz o (.lst xs))) : TyOf K H (.ref a) (.type "list")
 | tup {a : Addr} {xs : List V} (e : H a = some (.tup xs)) : TyOf K H (.ref a) (.type "tuple")
 | dK {a : Addr} {kvs : List (Key × V)} (e : H a = some (.dK kvs)) : TyOf K H (.ref a) (.type "dict")
 | dT {a : Addr} {kvs : List (List Key × V)} (e : H a = some (.dT kvs)) : TyOf K H (.ref a) (.type "dict")
 | ins {a C dx : Addr} {fs : List (Str × V)} (e : H a = some (.ins C dx fs)) (cl : Cls K C) (ha : PySem.W.findIn K (.ref C) "__class__" = some (some (.builtin "object.__class__")))
   (hn : PySem.W.specialIn K (.builtin "object.__class__") "__get__" = some (some (.builtin "getset_descriptor.__get__"))) (htk : PySem.W.takesIn K (.builtin "object.__class__") = some true)
   (hm : PySem.W.mroIn K C (.type "object") = some true) : TyOf K H (.ref a) (.ref C)
end
structure Room (k : Nat) (A : Around) : Prop where
 hd : A.handled = none
 dp : A.depth + 3 * k + 5 < recursionLimit
 un : A.units + 16 * k + 200 < cLine
 gd : A.guards = some []
theorem Room.mono {j k : Nat} {A : Around} (r : Room k A) (h : j ≤ k) : Room j A := ⟨r.hd, by have := r.dp; omega, by have := r.un; omega, r.gd⟩
theorem Room.deeper {k : Nat} {A : Around} (r : Room (k + 1) A) (env : Env) : Room k (A.deeper env) :=
 ⟨r.hd, by have := r.dp; show A.depth + 1 + 3 * k + 5 < _; omega, by have := r.un; show A.units + 3 + 16 * k + 200 < _; omega, r.gd⟩
theorem Room.depth {k : Nat} {A : Around} (r : Room k A) : A.depth < recursionLimit := by have := r.dp; omega
theorem Room.units {k : Nat} {A : Around} (r : Room k A) : A.units + 64 < cLine := by have := r.un; omega
def tNil : TA := fun _ H Q => Q [] H
def tCons (ta : TE) (tr : TA) : TA := fun σ H Q => ta σ H fun x H1 => tr σ H1 fun xs H2 => Q (x :: xs) H2
section
variable {X : Cx} {e : Expr} {es : List Expr} {te : TE} {t : TA} {pos : Pos}
theorem pa_nil : PA X [] tNil := fun _ _ _ _ H Q I h => Calls.spliced_nil ⟨[], H, I, .nil, h⟩
theorem pa_cons (ha : PE X e te) (hr : PA X es t) (hs : starEach (e :: es) X.env = (false, eval e X.env) :: starEach es X.env := by rfl) : PA X (e :: es) (tCons te t) := by
 intro pos pins s σ H Q I h
 rw [hs]
 show wpAny _ _ (spliced ((false, eval e X.env) :: backTo pos (starEach es X.env))) _ _ s
 refine Calls.spliced_cons (thn (ha pins s σ H _ I h) fun u s1 ⟨x, H1, I1, r1, q1⟩ => ?_)
 exact thn (hr pos pins s1 σ H1 _ I1 q1) fun us s2 ⟨xs, H2, I2, r2, q2⟩ => ⟨x :: xs, H2, I2, .cons r1 r2, q2⟩
def tTup (t : TA) : TE := fun σ H Q => t σ H fun xs H1 => xs.length ≤ sizeLine ∧ ∀ p, H1 p = none → Q (.ref p) (upd H1 p (.tup xs))
def tLst (t : TA) : TE := fun σ H Q => t σ H fun xs H1 => xs.length ≤ sizeLine ∧ ∀ p, H1 p = none → Q (.ref p) (upd H1 p (.lst xs))
theorem pe_tup {x1} (h : PA X es t) : PE X (.Tuple es x1 pos) (tTup t) := by
 intro pins s σ H Q I hq
 refine wpAny_Tuple_spliced (thn (h pos pins s σ H _ I hq) fun us s1 ⟨xs, H1, I1, r, z, q⟩ => ⟨by rw [← r.length]; exact z, ?_⟩)
 have hf : H1 s1.heap.objs.size = none := I1.hok.fresh (Nat.le_refl _)
 refine ⟨.ref s1.heap.objs.size, upd H1 s1.heap.objs.size (.tup xs), I1.laid (t' := s1.toks) (fun b u e => Heap.get?_push_of_some _ e) (Nat.le_refl _) ?_, rfl, q _ hf⟩
 exact ⟨z, us, r, ⟨_, Heap.get?_push_size _ rfl, rfl, _, rfl⟩⟩
theorem pe_lst (h : PA X es t) : PE X (.List es pos) (tLst t) := by
 intro pins s σ H Q I hq
 refine wpAny_List_spliced (thn (h pos pins s σ H _ I hq) fun us s1 ⟨xs, H1, I1, r, z, q⟩ => ⟨by rw [← r.length]; exact z, ?_⟩)
 have hf : H1 s1.heap.objs.size = none := I1.hok.fresh (Nat.le_refl _)
 refine ⟨.ref s1.heap.objs.size, upd H1 s1.heap.objs.size (.lst xs), I1.laid (t' := s1.toks) (fun b u e => Heap.get?_push_of_some _ e) (Nat.le_refl _) ?_, rfl, q _ hf⟩
 exact ⟨z, us, 0, r, Heap.get?_push_size _ rfl⟩
end
abbrev Sp := List V → Hp → VK → XK → Prop
abbrev CXT := List Env → Hp → Shared → XK → Value → Shared → Prop
structure Env0 (P : Program) (w : World) (K : PySem.W.Frag) (mg : Str → Option Value) (base : Heap) (A : Around) (outer : List Env) (s : Shared) (H : Hp) : Prop where
 frames : A.frames = some outer
 mod : Mod K mg base
 bs : ∀ b o, base.get? b = some o → s.heap.get? b = some o ∧ H b = none
 bsz : base.objs.size ≤ s.heap.objs.size
 funs : s.heap.FunFrames base outer
 frf : ∀ b ∈ frs outer, H b = none
 hok : HOk P w H s.heap
 bare : AllBare s.gens
def CE (outer : List Env) (P : Program) (w : World) (H : Hp) (s : Shared) (Q : VK) (u : Value) (s' : Shared) : Prop :=
 ∃ v H', s'.os = s.os ∧ AllBare s'.gens ∧ Un (frs outer) [] H H' s.heap s'.heap ∧ HOk P w H' s'.heap ∧ RelV v u ∧ Q v H'
def CR (CX : CXT) (outer : List Env) (P : Program) (w : World) (H : Hp) (s : Shared) (Q : VK) (E : XK) (r : Result) (s' : Shared) : Prop :=
 match r with
 | .ok (.ret u) => CE outer P w H s Q u s'
 | .ok _ => False
 | .error e => CX outer H s E e s'
structure FnOk (P : Program) (w : World) (K : PySem.W.Frag) (mg : Str → Option Value) (base : Heap) (CX : CXT) (k : Nat) (f : Addr) (fd : FuncData) (ps : List Str) (sp : Sp) : Prop where
 len : ∀ vs H Q E, sp vs H Q E → vs.length = ps.length
 run : ∀ (A : Around) (outer : List Env) (s : Shared) (H : Hp) (args : Args) (us : List Value) (vs : List V) (Q : VK) (E : XK), Room k A → Env0 P w K mg base A outer s H → BindsTo s fd args (ps.zip us) → Vals vs us → sp vs H Q E →
  codeAny (model P w) A (.call (.ref f) args) (CR CX outer P w H s Q E) s
section
variable {X : Cx} {pins : List (Addr × Obj)} {σ : St} {H : Hp} {s s' : Shared}
theorem Inv.env0 (I : Inv X pins σ H s) : Env0 X.prog X.w X.K X.mg X.base X.A X.stack s H :=
 ⟨I.ok.frames, I.ok.mod, I.bs, Nat.le_trans I.ok.bsz I.sz, I.stack, I.stkFree, I.hok, I.bare⟩
theorem Inv.after {Q : VK} {u : Value} (I : Inv X pins σ H s) (h : CE X.stack X.prog X.w H s Q u s') : EP X pins σ Q u s' := by
 obtain ⟨v, H', os, bare, un, hok, r, q⟩ := h
 obtain ⟨hh, g, d, t, os'⟩ := s'
 obtain rfl : os' = s.os := os
 exact ⟨v, H', I.call (h' := hh) (g' := g) (d' := d) (t' := t) (ch := []) un hok bare (fun b z => absurd z (by simp)), r, q⟩
end
def tCall (sp : Sp) (dvs : List V) (E : XK) (t : TA) : TE := fun σ H Q => t σ H fun vs H1 => sp (vs ++ dvs) H1 Q E
def Binds (K : PySem.W.Frag) (fd : FuncData) (ps : List Str) (ds : List Value) : Prop :=
 ∀ (s : Shared) (us : List Value), K.In s.heap → (us ++ ds).length = ps.length → BindsTo s fd ⟨us, []⟩ (ps.zip (us ++ ds))
theorem Binds.all {K : PySem.W.Frag} {fd : FuncData} {ps : List Str} (h : ∀ us : List Value, us.length = ps.length → bindArgs fd ⟨us, []⟩ = pure (ps.zip us)) : Binds K fd ps [] := fun s us _ hl => by
 rw [List.append_nil] at hl ⊢
 exact .of_eq (h us hl)
def Passes (CX : CXT) (X : Cx) (E : XK) : Prop := ∀ (pins : List (Addr × Obj)) (σ : St) (H : Hp) (s : Shared) (e : Value) (s' : Shared), Inv X pins σ H s → CX X.stack H s E e s' → X.xe e s'
section
variable {X : Cx} {CX : CXT} {k : Nat} {f C : Addr} {fd : FuncData} {ps : List Str} {sp : Sp} {dvs : List V} {ds : List Value} {E : XK} {x m : Str} {p pos apos : Pos} {e o : Expr} {es : List Expr} {ta : TE} {t : TA}
theorem run_fn {pins : List (Addr × Obj)} {σ : St} {H : Hp} {s : Shared} {Q : VK} {us : List Value} {vs : List V} (F : FnOk X.prog X.w X.K X.mg X.base CX k f fd ps sp) (hr : Room k X.A) (hb : Binds X.K fd ps ds) (hd : Vals dvs ds) (hx : Passes CX X E)
  (I : Inv X pins σ H s) (r : Vals vs us) (h : sp (vs ++ dvs) H Q E) : wpAny (model X.prog X.w) X.A (call (.ref f) us) (EP X pins σ Q) X.xe s := by
 have r2 : Vals (vs ++ dvs) (us ++ ds) := r.append hd
 have hl : (us ++ ds).length = ps.length := by rw [← r2.length]; exact F.len _ _ _ _ h
 refine wpAny_call (codeAny_mono (F.run X.A X.stack s H ⟨us, []⟩ (us ++ ds) (vs ++ dvs) Q E hr I.env0 (hb s us I.kIn hl) r2 h) fun r s' hq => ?_)
 cases r with
 | error e => exact hx pins σ H s e s' I hq
 | ok fl =>
  cases fl with
  | ret u => exact I.after hq
  | next => exact False.elim hq
  | brk => exact False.elim hq
  | cont => exact False.elim hq
theorem pe_call (F : FnOk X.prog X.w X.K X.mg X.base CX k f fd ps sp) (hr : Room k X.A) (hg : Gl X x) (hm : X.mg x = some (.ref f)) (hk : PySem.W.keepIn X.K (.ref f) = true) (hb : Binds X.K fd ps ds) (hd : Vals dvs ds) (hx : Passes CX X E)
  (ha : PA X (e :: es) t) (hdb : (x == ("__debug__" : Str)) = false := by decide) (he : starEach (e :: es) X.env = (false, eval e X.env) :: starEach es X.env := by rfl) (hpl : (backTo pos (starEach es X.env)).any (·.1) = false := by rfl) :
  PE X (.Call (.Name x p) (e :: es) [] pos) (tCall sp dvs E t) := by
 intro pins s σ H Q I h
 refine wpAny_Call_Name_kw (ld_glob I hg hm ?_ hdb)
 refine PySem.W.callWith_K (h₀ := X.base) I.ok.mod.kin hk (thn (ha pos pins s σ H _ I h) fun us s1 ⟨vs, H1, I1, r, q⟩ => ⟨I1.kIn, ?_⟩) he hpl
 exact run_fn F hr hb hd hx I1 r q
structure Mk (K : PySem.W.Frag) (C f : Addr) : Prop where
 makes : PySem.W.makesIn K C = true
 init : PySem.W.findIn K (.ref C) "__init__" = some (some (.ref f))
 fn : PySem.W.isFn K (.ref f) = true
 kp : PySem.W.keepIn K (.ref C) = true
end
section
variable {X : Cx} {CX : CXT} {k : Nat} {f C : Addr} {fd : FuncData} {ps ks : List Str} {sp : Sp} {E : XK} {x m : Str} {p pos apos kpos : Pos} {e o : Expr} {es : List Expr} {kws : List Keyword} {te ta : TE} {t tk : TA} {nm : Option Str}
structure KBinds (K : PySem.W.Frag) (fd : FuncData) (ps ks : List Str) (g : List Value → List Value → List Value) (gV : List V → List V → List V) : Prop where
 to : ∀ (s : Shared) (us ws : List Value), K.In s.heap → (g us ws).length = ps.length → BindsTo s fd ⟨us, ks.zip ws⟩ (ps.zip (g us ws))
 rel : ∀ {vs : List V} {us : List Value} {zs : List V} {ws : List Value}, Vals vs us → Vals zs ws → Vals (gV vs zs) (g us ws)
variable {g : List Value → List Value → List Value} {gV : List V → List V → List V}
end
structure FnScope (N P : List Str) (sc : Scope) : Prop where
 kind : sc.kind = .function
 co : sc.isCoroutine = false
 gen : sc.isGenerator = false
 nd : N.Nodup
 pre : N.take P.length = P
 par : ∀ x ∈ P, sc.names.lookup x = some .local ∨ sc.names.lookup x = some .cell
 nofree : ∀ y ∈ sc.names, y.2 ≠ .free
theorem bindL_out {kindOf : Str → Option NameKind} {x : Str} : ∀ {binds : List (Str × Value)} {m : Str → Option Value}, (∀ v, (x, v) ∉ binds) → bindL kindOf binds m x = m x
 | [], _, _ => rfl
 | (n, v) :: r, m, h => by
  unfold bindL
  rw [bindL_out fun w hw => h w (List.mem_cons_of_mem _ hw)]
  split
  ·have : x ≠ n := by rintro rfl; exact h v List.mem_cons_self
   simp [this]
  ·rfl
theorem bindC_out {kindOf : Str → Option NameKind} {x : Str} : ∀ {binds : List (Str × Value)} {m : Str → Option Value}, (∀ v, (x, v) ∉ binds) → bindC kindOf binds m x = m x
 | [], _, _ => rfl
 | (n, v) :: r, m, h => by
  unfold bindC
  rw [bindC_out fun w hw => h w (List.mem_cons_of_mem _ hw)]
  split
  ·rfl
  ·have : x ≠ n := by rintro rfl; exact h v List.mem_cons_self
   simp [this]
theorem bindL_get {kindOf : Str → Option NameKind} {x : Str} {v : Value} : ∀ {P : List Str} {vs : List Value} {i : Nat} {m : Str → Option Value}, P.Nodup → P[i]? = some x → vs[i]? = some v → kindOf x = some .local →
  bindL kindOf (P.zip vs) m x = some v
 | [], _, _, _, _, h, _, _ => by simp at h
 | _ :: _, [], _, _, _, _, h, _ => by simp at h
 | p :: P, w :: vs, 0, m, nd, h1, h2, hk => by
  simp at h1 h2; subst h1; subst h2
  show bindL kindOf ((p, w) :: P.zip vs) m p = _
  unfold bindL
  rw [bindL_out fun v hv => (List.nodup_cons.mp nd).1 (List.of_mem_zip hv).1, if_pos hk]
  simp
 | p :: P, w :: vs, i + 1, m, nd, h1, h2, hk => by
  show bindL kindOf ((p, w) :: P.zip vs) m x = _
  unfold bindL
  exact bindL_get (i := i) (List.nodup_cons.mp nd).2 (by simpa using h1) (by simpa using h2) hk
theorem bindC_get {kindOf : Str → Option NameKind} {x : Str} {v : Value} : ∀ {P : List Str} {vs : List Value} {i : Nat} {m : Str → Option Value}, P.Nodup → P[i]? = some x → vs[i]? = some v → kindOf x ≠ some .local →
  bindC kindOf (P.zip vs) m x = some v
 | [], _, _, _, _, h, _, _ => by simp at h
 | _ :: _, [], _, _, _, _, h, _ => by simp at h
 | p :: P, w :: vs, 0, m, nd, h1, h2, hk => by
  simp at h1 h2; subst h1; subst h2
  show bindC kindOf ((p, w) :: P.zip vs) m p = _
  unfold bindC
  rw [bindC_out fun v hv => (List.nodup_cons.mp nd).1 (List.of_mem_zip hv).1, if_neg hk]
  simp
 | p :: P, w :: vs, i + 1, m, nd, h1, h2, hk => by
  show bindC kindOf ((p, w) :: P.zip vs) m x = _
  unfold bindC
  exact bindC_get (i := i) (List.nodup_cons.mp nd).2 (by simpa using h1) (by simpa using h2) hk
def start (N : List Str) (vs : List V) : St := vs.map some ++ List.replicate (N.length - vs.length) none
def cxOf (CX : CXT) (P : Program) (w : World) (K : PySem.W.Frag) (mg : Str → Option Value) (base : Heap) (N : List Str) (qual : Str) (scope : Scope) (f : Addr) (cd : Value) (A : Around) (outer : List Env) (s : Shared) (H : Hp) (E : XK) : Cx where
 prog := P
 w := w
 K := K
 mg := mg
 base := base
 A := A.deeper (envOfC qual scope s.heap.objs.size f cd)
 N := N
 s₀ := s
 H₀ := H
 env := envOfC qual scope s.heap.objs.size f cd
 outer := outer
 stack := envOfC qual scope s.heap.objs.size f cd :: outer
 ex := []
 calm := true
 fn := fun _ => true
 pn := []
 xe := fun e s' => wpAny (model P w) (A.deeper (envOfC qual scope s.heap.objs.size f cd)) (leaving (envOfC qual scope s.heap.objs.size f cd) e) (fun _ s'' => CX outer H s E e s'') (fun e' s'' => CX outer H s E e' s'') s'
theorem cell_has {sc : Scope} {n : Nat} {x : Str} (h : sc.names.lookup x = some .cell) : ∃ c, (cellsFrom n sc.names []).lookup x = some c := by
 have q := PySem.W.cellsFrom_some sc.names n [] (.inl h)
 exact Option.isSome_iff_exists.mp q
theorem inv_start {CX : CXT} {P : Program} {w : World} {K : PySem.W.Frag} {mg : Str → Option Value} {base : Heap} {N ps : List Str} {qual : Str} {scope : Scope} {f : Addr} {cd : Value} {A : Around} {outer : List Env} {s s1 : Shared} {H : Hp} {E : XK} {us : List Value} {vs : List V}
  (S : FnScope N ps scope) (hd : A.handled = none) (e0 : Env0 P w K mg base A outer s H) (hl : vs.length = ps.length) (r : Vals vs us)
  (x : InCallC s s.heap.objs.size (bindL (envOfC qual scope s.heap.objs.size f cd).kindOf (ps.zip us) fun _ => none) (cellsFrom (s.heap.objs.size + 1) scope.names []) (bindC (envOfC qual scope s.heap.objs.size f cd).kindOf (ps.zip us) fun _ => none) s1) :
  Inv (cxOf CX P w K mg base N qual scope f cd A outer s H E) [] (start N vs) H s1 := by
 have hpl : ps.length ≤ N.length := by have := congrArg List.length S.pre; rw [List.length_take] at this; omega
 obtain ⟨h1, tk, rfl, hk⟩ := x.done
 have noA : ∀ b : Addr, b ∉ (cxOf CX P w K mg base N qual scope f cd A outer s H E).ex := fun b z => absurd (show b ∈ ([] : List Addr) from z) (by simp)
 refine ⟨⟨e0.mod, S.kind, rfl, rfl, Nat.le_refl _, fun y z c h1 h2 => ?_, fun y hy => ?_, fun y c _ h => ?_, fun _ => hd, Around.frames_deeper e0.frames, .inr ⟨rfl, rfl⟩, fun b z => absurd z (noA b), e0.bs, e0.bsz, fun b _ _ => noA b, fun b z => absurd z (noA b), e0.funs, e0.frf⟩,
  rfl, e0.bare, Un.kept hk, ⟨_, x.toInCall.ns, fun i y v h1 h2 h3 => ?_⟩, fun y c h => ⟨_, x.cell y c h⟩, e0.hok.fresh (Nat.le_refl _), fun y c h => ?_, fun p hp => absurd (show p ∈ ([] : List (Addr × Obj)) from hp) (by simp), e0.hok.kept hk, ?_⟩
 ·exact name_of_addr x.apart (PySem.mem_of_lookup h1) (PySem.mem_of_lookup h2)
 ·have hy : scope.names.lookup y = some .cell ∨ scope.names.lookup y = some .free := hy
  rcases hy with hy | hy
  ·exact cell_has hy
  ·exact absurd rfl (S.nofree _ (PySem.mem_of_lookup hy))
 ·exact Nat.le_of_lt (x.above y c (PySem.mem_of_lookup h))
 ·have hi : i < vs.length := by
   unfold start at h2
   by_cases hi : i < vs.length
   ·exact hi
   ·rw [List.getElem?_append_right (by simpa using hi)] at h2
    rw [List.getElem?_replicate] at h2
    split at h2 <;> cases h2
  have ha : vs[i]? = some v := by
   unfold start at h2
   rw [List.getElem?_append_left (by simpa using hi), List.getElem?_map] at h2
   cases e : vs[i]? with
   | none => rw [e] at h2; cases h2
   | some a => rw [e] at h2; cases h2; rfl
  obtain ⟨u, hu, rv⟩ := r.get ha
  have hp : ps[i]? = some y := by
   rw [← S.pre, List.getElem?_take_of_lt (by omega)]; exact h1
  have ndP : ps.Nodup := by rw [← S.pre]; exact S.nd.sublist (List.take_sublist _ _)
  refine ⟨u, rv, ?_⟩
  rcases S.par y (List.mem_of_getElem? hp) with k | k
  ·exact .inl ⟨k, bindL_get ndP hp hu k⟩
  ·obtain ⟨c, e⟩ := cell_has (n := s.heap.objs.size + 1) k
   refine .inr ⟨.inl k, c, e, ?_⟩
   have q := x.cell y c e
   rw [bindC_get ndP hp hu (by show scope.names.lookup y ≠ _; rw [k]; decide)] at q
   exact q
 ·exact e0.hok.fresh (Nat.le_of_lt (x.above y c (PySem.mem_of_lookup h)))
 ·unfold start
  show _ = N.length
  rw [List.length_append, List.length_map, List.length_replicate]
  omega
theorem fn_of {CX : CXT} {P : Program} {w : World} {K : PySem.W.Frag} {mg : Str → Option Value} {base : Heap} {k : Nat} {f : Addr} {name qual : Str} {params : Arguments} {body : List Stmt} {scope : Scope} {dV kV doc pm cdv ct oc : Value} {an od : Option Addr}
  {osl : Array (Option Value)} {N ps : List Str} {sp : Sp} (lk : K.lookup f = some ⟨oc, od, .func (PySem.W.fnOf name qual params body scope dV kV doc pm an cdv ct), osl⟩) (hcd : PySem.W.codeIn K cdv qual = true) (S : FnScope N ps scope)
  (len : ∀ vs H Q E, sp vs H Q E → vs.length = ps.length)
  (hbody : ∀ (A : Around) (outer : List Env) (s : Shared) (H : Hp) (vs : List V) (Q : VK) (E : XK), Room k (A.deeper (envOfC qual scope s.heap.objs.size f cdv)) → sp vs H Q E →
   ∃ t, PSs (cxOf CX P w K mg base N qual scope f cdv A outer s H E) body t ∧ t { nx := fun _ H' => Q .non H', rt := Q } (start N vs) H) :
  FnOk P w K mg base CX (k + 1) f (PySem.W.fnOf name qual params body scope dV kV doc pm an cdv ct) ps sp := by
 refine ⟨len, fun A outer s H args us vs Q E hr e0 hb r hsp => ?_⟩
 have hl := len _ _ _ _ hsp
 have KX : K.In s.heap := e0.mod.kin.keeps fun b o e => (e0.bs b o e).1
 have lim : s.heap.NoLimit := e0.mod.nolimit.keeps fun b o e => (e0.bs b o e).1
 have hkind : ∀ y ∈ ps.zip us, scope.names.lookup y.1 = some .local ∨ (scope.names.lookup y.1 = some .cell ∧ ((cellsFrom (s.heap.objs.size + 1) scope.names []).lookup y.1).isSome = true) := fun ⟨n, v⟩ hy => by
  rcases S.par n (List.of_mem_zip hy).1 with q | q
  ·exact .inl q
  ·exact .inr ⟨q, PySem.W.cellsFrom_some _ _ _ (.inl q)⟩
 refine codeAny_call_function hr.depth (KX _ _ lk) rfl S.co S.gen rfl (PySem.W.codeRec_of KX hcd) (hb _ _ _ _ ?_)
 refine wpAny_newFunctionEnv_cells S.kind hkind fun env he s1 x => ?_
 subst he
 refine ⟨lim.keeps x.toInCall.keep, codeAny_func ?_⟩
 obtain ⟨t, ht, hq⟩ := hbody A outer s H vs Q E (hr.deeper _) hsp
 have I : Inv (cxOf CX P w K mg base N qual scope f cdv A outer s H E) [] (start N vs) H s1 := inv_start S hr.hd e0 hl r x
 refine wpAny_mono (ht [] s1 (start N vs) H _ I hq) (fun fl s' hs => ?_) fun e s' hs => hs
 have fin : ∀ {σ' : St} {H' : Hp} {v : V} {u : Value}, Inv (cxOf CX P w K mg base N qual scope f cdv A outer s H E) [] σ' H' s' → RelV v u → Q v H' → CE outer P w H s Q u s' :=
  fun {σ' H' v u} J rv q => ⟨v, H', J.os, J.bare, J.base, J.hok, rv, q⟩
 cases fl with
 | ret u =>
  obtain ⟨v, σ', H', J, rv, q⟩ := hs
  exact fin J rv q
 | next =>
  obtain ⟨σ', H', J, q⟩ := hs
  exact fin (v := V.non) (u := Value.none) J rfl q
 | brk =>
  obtain ⟨_, _, _, q⟩ := hs
  exact False.elim q
 | cont =>
  obtain ⟨_, _, _, q⟩ := hs
  exact False.elim q
section
variable {X : Cx} {x : Str} {p pos : Pos} {e : Expr} {es : List Expr} {t : TA} {id T : String} {r : List V → Hp → VK → Prop}
def tCB (r : List V → Hp → VK → Prop) (t : TA) : TE := fun σ H Q => t σ H fun vs H1 => r vs H1 Q
theorem pe_callB (hc : CallR X (.builtin id) r) (hg : Gl X x) (hm : X.mg x = none) (hv : bootBuiltins x = some (.builtin id)) (ha : PA X (e :: es) t) (hn : x ≠ "__name__" := by decide) (hdb : (x == ("__debug__" : Str)) = false := by decide)
  (he : starEach (e :: es) X.env = (false, eval e X.env) :: starEach es X.env := by rfl) (hpl : (backTo pos (starEach es X.env)).any (·.1) = false := by rfl) : PE X (.Call (.Name x p) (e :: es) [] pos) (tCB r t) := by
 intro pins s σ H Q I h
 refine wpAny_Call_Name_kw (ld_blt I hg hm hv ?_ hn hdb)
 exact PyProof.Rows.callWith_builtin1 (thn (ha pos pins s σ H _ I h) fun us s1 ⟨vs, H1, I1, r1, q1⟩ => hc pins s1 σ H1 vs us Q I1 r1 q1) he hpl
theorem pe_callTy (hc : CallR X (.type T) r) (hg : Gl X x) (hm : X.mg x = none) (hv : bootBuiltins x = some (.type T)) (ha : PA X (e :: es) t) (hn : x ≠ "__name__" := by decide) (hdb : (x == ("__debug__" : Str)) = false := by decide)
  (he : starEach (e :: es) X.env = (false, eval e X.env) :: starEach es X.env := by rfl) (hpl : (backTo pos (starEach es X.env)).any (·.1) = false := by rfl) : PE X (.Call (.Name x p) (e :: es) [] pos) (tCB r t) := by
 intro pins s σ H Q I h
 refine wpAny_Call_Name_kw (ld_blt I hg hm hv ?_ hn hdb)
 exact PyProof.Rows.callWith_type1 (thn (ha pos pins s σ H _ I h) fun us s1 ⟨vs, H1, I1, r1, q1⟩ => hc pins s1 σ H1 vs us Q I1 r1 q1) he hpl
end
end L2
namespace HT
open PySem PyProof.Rows
section
open PySem.SeqAt
open PySem.AutoSeq1 (wpAny_loadPart')
open PySem.MeetsSeq PySem.MeetsSeq2 PySem.MeetsSeq3
end
section
variable {prog : Program} {w : World} {A : Around} {E : Value → Shared → Prop} {s : Shared}
theorem cat_tup {t b : Addr} {vs ws : List Value} {Q : Value → Shared → Prop} (ht : IsTup s.heap t vs.toArray) (hb : IsTup s.heap b ws.toArray) (hv : vs ≠ [])
  (h1 : ws = [] → Q (.ref t) s) (h2 : ws ≠ [] → Q (.ref s.heap.objs.size) { s with heap := s.heap.push { cls := .type "tuple", data := .seq (vs ++ ws).toArray } })
  (hsz : vs.length + ws.length ≤ sizeLine) : wpAny (model prog w) A (binaryOp .Add (.ref t) (.ref b)) Q E s := by
 obtain ⟨⟨cls, dd, data, sl⟩, ho, hc, n, hd⟩ := id ht
 obtain ⟨⟨cls2, dd2, data2, sl2⟩, ho2, hc2, n2, hd2⟩ := id hb
 simp only at hc hd hc2 hd2
 subst hc hd hc2 hd2
 have e : vs.toArray ++ ws.toArray = (vs ++ ws).toArray := by simp
 by_cases hw : ws = []
 ·exact concat_meets ⟨_, ho, rfl⟩ ⟨_, ho2, rfl⟩ noFill_tuple_add seq_tuple_add PySem.F.slot_tuple_add PySem.F.entry_tuple_add (PySem.F.args_tuple_add_2 _ _)
   (tuple_addW1 t b vs.toArray ws.toArray n n2 dd dd2 sl sl2 (by simpa using hv) (by simp [hw])) ⟨ho, ho2, h1 hw⟩
 ·refine concat_meets ⟨_, ho, rfl⟩ ⟨_, ho2, rfl⟩ noFill_tuple_add seq_tuple_add PySem.F.slot_tuple_add PySem.F.entry_tuple_add (PySem.F.args_tuple_add_2 _ _)
   (tuple_addW2 t b vs.toArray ws.toArray n n2 dd dd2 sl sl2 (by simpa using hv) (by simpa using hw) (by rw [List.size_toArray, List.size_toArray]; exact hsz)) ⟨ho, ho2, ?_⟩
  rw [e]
  exact h2 hw
def sIx (n d : Nat) : Option Int → Nat
 | none => d
 | some v => if v < 0 then (v + (n : Int)).toNat else min v.toNat n
theorem sIx_none (n d : Nat) : sIx n d none = d := rfl
theorem sIx_nat (n d k : Nat) : sIx n d (some (k : Int)) = min k n := by
 show (if (k : Int) < 0 then ((k : Int) + (n : Int)).toNat else min (k : Int).toNat n) = min k n
 rw [if_neg (by omega), Int.toNat_natCast]
end
end HT
namespace L2
open PySem PySem.Spec PyProof.Rows
abbrev TO := St → Hp → (Option Int → Hp → Prop) → Prop
def PO (X : Cx) (e : Option Expr) (t : TO) : Prop :=
 ∀ (pins : List (Addr × Obj)) (s : Shared) (σ : St) (H : Hp) (Q : Option Int → Hp → Prop), Inv X pins σ H s → t σ H Q →
  wpAny (model X.prog X.w) X.A (evalPart e X.env) (fun u s' => ∃ o H', Inv X pins σ H' s' ∧ IsPart u o ∧ Q o H') X.xe s
def tNoPart : TO := fun _ H Q => Q none H
def tPart (t : TE) : TO := fun σ H Q => t σ H fun x H1 => ∃ i, x = .int i ∧ Q (some i) H1
section
variable {X : Cx} {e : Expr} {te : TE} {lo hi : Option Expr} {tl th : TO} {pos p2 : Pos}
theorem po_none : PO X none tNoPart := by
 intro pins s σ H Q I h
 rw [evalPart_none]
 exact wpAny_pure ⟨none, H, I, .none, h⟩
theorem po_some (h : PE X e te) : PO X (some e) (tPart te) := by
 intro pins s σ H Q I hw
 rw [evalPart_some]
 refine thn (h pins s σ H _ I hw) fun u s1 ⟨x, H1, I1, r1, q1⟩ => ?_
 obtain ⟨i, rfl, q⟩ := q1
 obtain ⟨t, rfl⟩ := r1
 exact ⟨some i, H1, I1, .int i t, q⟩
def SlR (X : Cx) (r : V → Option Int → Option Int → Hp → VK → Prop) : Prop :=
 ∀ (pins : List (Addr × Obj)) (s : Shared) (σ : St) (H : Hp) (x : V) (v vl vu : Value) (lo hi : Option Int) (sl : Addr) (Q : VK), Inv X pins σ H s → RelV x v → s.heap.IsSliceOf sl vl vu .none → IsPart vl lo → IsPart vu hi → r x lo hi H Q →
  ∃ T id, typeLookup (.type T) "__getitem__" = pure (some (.builtin id)) ∧ s.TypeIs v T ∧ wpAny (model X.prog X.w) X.A (getItem v (.ref sl)) (EP X pins σ Q) X.xe s
def tSl (r : V → Option Int → Option Int → Hp → VK → Prop) (te : TE) (tl th : TO) : TE := fun σ H Q => te σ H fun x H1 => tl σ H1 fun l H2 => th σ H2 fun u H3 => r x l u H3 Q
theorem pe_slice {r : V → Option Int → Option Int → Hp → VK → Prop} (hr : SlR X r) (he : PE X e te) (hl : PO X lo tl) (hu : PO X hi th) : PE X (.Subscript e (.Slice lo hi none p2) pos) (tSl r te tl th) := by
 intro pins s σ H Q I h
 refine Subscript_ (thn (he pins s σ H _ I h) fun v s1 ⟨x, H1, I1, r1, q1⟩ => ?_)
 refine wpAny_Slice (thn (hl pins s1 σ H1 _ I1 q1) fun vl s2 ⟨l, H2, I2, pl, q2⟩ => thn (hu pins s2 σ H2 _ I2 q2) fun vu s3 ⟨u, H3, I3, pu, q3⟩ => ?_)
 rw [evalPart_none]
 refine wpAny_pure ?_
 have I4 : Inv X pins σ H3 { s3 with heap := s3.heap.push { cls := .type "slice", data := .fields #[vl, vu, .none] } } := I3.kept (t' := s3.toks) fun b ob q => Heap.get?_push_of_some _ q
 obtain ⟨T, id, hT, ht, hg⟩ := hr pins { s3 with heap := s3.heap.push { cls := .type "slice", data := .fields #[vl, vu, .none] } } σ H3 x v vl vu l u s3.heap.objs.size Q I4 r1 (Heap.IsSliceOf.new ..) pl pu q3
 show wpAny (model X.prog X.w) X.A (subscriptTail e (.Slice lo hi none p2) v (.ref s3.heap.objs.size)) (EP X pins σ Q) X.xe { s3 with heap := s3.heap.push { cls := .type "slice", data := .fields #[vl, vu, .none] } }
 exact tail_any (ops := [.ref s3.heap.objs.size, v]) ht hT hg (by with_unfolding_all rfl)
def cutV (xs : List V) (lo hi : Option Int) : List V := (xs.drop (HT.sIx xs.length 0 lo)).take (HT.sIx xs.length xs.length hi - HT.sIx xs.length 0 lo)
theorem cutV_length (xs : List V) (lo hi : Option Int) : (cutV xs lo hi).length ≤ xs.length := by
 unfold cutV
 rw [List.length_take, List.length_drop]
 omega
def rCatT (K : PySem.W.Frag) : R2 := fun x y H Q => ∃ a b xs ys, x = .ref a ∧ y = .ref b ∧ SqT K H a xs ∧ SqT K H b ys ∧ xs ≠ [] ∧ xs.length + ys.length ≤ sizeLine ∧
 (ys = [] → Q (.ref a) H) ∧ (ys ≠ [] → ∀ p, H p = none → Q (.ref p) (upd H p (.tup (xs ++ ys))))
theorem Vals.nil_iff {xs : List V} {us : List Value} (r : Vals xs us) : us = [] ↔ xs = [] := by
 cases r with
 | nil => simp
 | cons _ _ => simp
theorem op_catT : OpR X (binaryOp .Add) (rCatT X.K) := by
 intro pins s σ H x y v u Q I rx ry h
 obtain ⟨a, b, xs, ys, rfl, rfl, ha, hb, hx, hz, q1, q2⟩ := h
 cases rx
 cases ry
 obtain ⟨its, r1, p1, _⟩ := I.tuple ha
 obtain ⟨its2, r2, p2, _⟩ := I.tuple hb
 refine HT.cat_tup p1 p2 (fun z => hx (r1.nil_iff.mp z)) (fun z => ⟨.ref a, H, I, rfl, q1 (r2.nil_iff.mp z)⟩) (fun z => ?_) (by rw [← r1.length, ← r2.length]; exact hz)
 refine ⟨.ref s.heap.objs.size, _, I.laid (t' := s.toks) (o := .tup (xs ++ ys)) (fun b ob q => Heap.get?_push_of_some _ q) (Nat.le_refl _) ?_, rfl, q2 (fun w => z (r2.nil_iff.mpr w)) _ (I.hok.fresh (Nat.le_refl _))⟩
 exact ⟨by rw [List.length_append]; exact hz, _, r1.append r2, IsTup.new _ _⟩
end
def ixN (n : Nat) (i : Int) : Option Nat := if 0 ≤ i then (if i < n then some i.toNat else none) else if -(n : Int) ≤ i then some (i + n).toNat else none
def atI {α : Type} (xs : List α) (i : Int) : Option α := (ixN xs.length i).bind fun j => xs[j]?
theorem ixN_seq {n : Nat} {i : Int} {j : Nat} (h : ixN n i = some j) : seqIndex? i n = some j ∧ j < n ∧ -(n : Int) ≤ i ∧ i < n := by
 unfold ixN at h
 by_cases h0 : 0 ≤ i
 ·rw [if_pos h0] at h
  by_cases h1 : i < n
  ·rw [if_pos h1] at h
   have e : i.toNat = j := Option.some.inj h
   exact ⟨by rw [seqIndex_of h0 h1, e], by omega, by omega, h1⟩
  ·rw [if_neg h1] at h; cases h
 ·rw [if_neg h0] at h
  by_cases h1 : -(n : Int) ≤ i
  ·rw [if_pos h1] at h
   have e : (i + n).toNat = j := Option.some.inj h
   exact ⟨by rw [seqIndex_neg (by omega) h1, e], by omega, h1, by omega⟩
  ·rw [if_neg h1] at h; cases h
theorem atI_get {α : Type} {xs : List α} {i : Int} {v : α} (h : atI xs i = some v) : ∃ j, seqIndex? i xs.length = some j ∧ xs[j]? = some v ∧ j < xs.length ∧ -(xs.length : Int) ≤ i ∧ i < xs.length := by
 unfold atI at h
 cases e : ixN xs.length i with
 | none => rw [e] at h; cases h
 | some j =>
  rw [e] at h
  obtain ⟨h1, h2, h3, h4⟩ := ixN_seq e
  exact ⟨j, h1, h, h2, h3, h4⟩
theorem atI_nat {α : Type} {xs : List α} {j : Nat} {v : α} (h : xs[j]? = some v) : atI xs (j : Int) = some v := by
 have hj : j < xs.length := (List.getElem?_eq_some_iff.mp h).1
 have e : ixN xs.length (j : Int) = some j := by
  unfold ixN
  rw [if_pos (by omega), if_pos (by omega)]; simp
 unfold atI; rw [e]; exact h
def PlainIx (b : Expr) : Prop := ∀ o i, subscripted b false o i = operate [o, i] (getItem o i)
def IxR (X : Cx) (r : R2) : Prop :=
 ∀ (value slice : Expr) (pins : List (Addr × Obj)) (s : Shared) (σ : St) (H : Hp) (x y : V) (v u : Value) (Q : VK), Inv X pins σ H s → RelV x v → RelV y u → r x y H Q →
  subscripted slice false v u = operate [v, u] (getItem v u) → wpAny (model X.prog X.w) X.A (subscriptTail value slice v u) (EP X pins σ Q) X.xe s
def MtR (X : Cx) (id : String) (r : V → List V → Hp → VK → Prop) : Prop :=
 ∀ (pins : List (Addr × Obj)) (s : Shared) (σ : St) (H : Hp) (x : V) (xs : List V) (v : Value) (us : List Value) (Q : VK), Inv X pins σ H s → RelV x v → Vals xs us → r x xs H Q →
  wpAny (model X.prog X.w) X.A (call (.builtin id) (v :: us)) (EP X pins σ Q) X.xe s
section
variable {X : Cx} {a b : Expr} {ta tb : TE} {pos : Pos}
theorem IxR.or {r r' : R2} (h : IxR X r) (h' : IxR X r') : IxR X (fun x y H Q => r x y H Q ∨ r' x y H Q) := by
 intro value slice pins s σ H x y v u Q I rx ry q hs
 rcases q with q | q
 ·exact h value slice pins s σ H x y v u Q I rx ry q hs
 ·exact h' value slice pins s σ H x y v u Q I rx ry q hs
theorem pe_ix {r : R2} (hr : IxR X r) (ha : PE X a ta) (hb : PE X b tb) (hs : PlainIx b) : PE X (.Subscript a b pos) (tOp r ta tb) := by
 intro pins s σ H Q I h
 exact Subscript_ (binT ha hb I h fun v u s2 x y H2 I2 rx ry q => hr a b pins s2 σ H2 x y v u Q I2 rx ry q (hs _ _))
def rIxL (K : PySem.W.Frag) : R2 := fun x y H Q => ∃ p xs i v, x = .ref p ∧ y = .int i ∧ SqL K H p xs ∧ atI xs i = some v ∧ Q v H
def rIxT (K : PySem.W.Frag) : R2 := fun x y H Q => ∃ p xs i v, x = .ref p ∧ y = .int i ∧ SqT K H p xs ∧ atI xs i = some v ∧ Q v H
def rIxS : R2 := fun x y H Q => ∃ z i c, x = .str z ∧ y = .int i ∧ z.length ≤ sizeLine ∧ atI z.cps.toList i = some c ∧ Q (.str ⟨#[c]⟩) H
theorem ix_list : IxR X (rIxL X.K) := by
 intro value slice pins s σ H x y v u Q I rx ry h hs
 obtain ⟨p, xs, i, z, rfl, rfl, hq, he, q⟩ := h
 cases rx
 obtain ⟨t, rfl⟩ := ry
 obtain ⟨its, r, pl, hz⟩ := I.list hq
 obtain ⟨j, h1, h2, h3, h4, h5⟩ := atI_get he
 obtain ⟨w, ew, rw'⟩ := r.get h2
 have hl := r.length
 have hn := line63
 have fin : EP X pins σ Q w s := ⟨z, H, I, rw', q⟩
 by_cases h0 : 0 ≤ i
 ·have hj : i.toNat = j := by
   rw [seqIndex_of h0 h5] at h1
   exact Option.some.inj h1
  exact item_listR pl.isList h0 (by omega) (by rw [hj]; simpa using ew) fin hs
 ·have hj : (i + (its.toArray.size : Int)).toNat = j := by
   rw [seqIndex_neg (by omega) h4] at h1
   rw [List.size_toArray, ← hl]
   exact Option.some.inj h1
  exact subscriptTail_builtinR (x := w) pl.isList.typeIs slot_list_getitem.lookup
   (wpAny_getItem_list_neg (Q := fun r s' => r = w ∧ EP X pins σ Q r s') pl.isList (by omega) (by rw [List.size_toArray] <;> omega) (by omega) (by rw [hj]; simpa using ew) ⟨rfl, fin⟩) hs
theorem ix_tup : IxR X (rIxT X.K) := by
 intro value slice pins s σ H x y v u Q I rx ry h hs
 obtain ⟨p, xs, i, z, rfl, rfl, hq, he, q⟩ := h
 cases rx
 obtain ⟨t, rfl⟩ := ry
 obtain ⟨its, r, pl, hz⟩ := I.tuple hq
 obtain ⟨j, h1, h2, h3, h4, h5⟩ := atI_get he
 obtain ⟨w, ew, rw'⟩ := r.get h2
 have hl := r.length
 have hn := line63
 have fin : EP X pins σ Q w s := ⟨z, H, I, rw', q⟩
 exact subscriptTail_builtinR (x := w) pl.typeIs slot_tuple_getitem.lookup
  (getItem_tuple (j := j) (Q := fun r s' => r = w ∧ EP X pins σ Q r s') pl (by omega) (by omega) (by rw [List.size_toArray, ← hl]; exact h1) (by simpa using ew) ⟨rfl, fin⟩) hs
theorem ix_str : IxR X rIxS := by
 intro value slice pins s σ H x y v u Q I rx ry h hs
 obtain ⟨z, i, c, rfl, rfl, hz, he, q⟩ := h
 obtain ⟨t, rfl⟩ := rx
 obtain ⟨t', rfl⟩ := ry
 obtain ⟨j, h1, h2, h3, h4, h5⟩ := atI_get he
 have hl : z.cps.toList.length = z.length := by simp [Str.length]
 rw [hl] at h1 h4 h5
 have hn := line63
 exact tail_any (typeIs_str s z t) slot_str_getitem.lookup (getItem_str (c := c) (by
  have e1 : decide (i < -(2 ^ 63 : Int)) = false := decide_eq_false (by omega)
  have e2 : decide (i ≥ 2 ^ 63) = false := decide_eq_false (by omega)
  rw [e1, e2, Bool.or_false]) (by rw [h1]; simpa using h2) ⟨.str ⟨#[c]⟩, H, I.tok _, ⟨_, rfl⟩, q⟩) hs
def rIx (K : PySem.W.Frag) : R2 := fun x y H Q => rIxL K x y H Q ∨ rIxT K x y H Q ∨ rIxS x y H Q
theorem ix_seq : IxR X (rIx X.K) := ix_list.or (ix_tup.or ix_str)
theorem mapSeq_set (its : List Value) (n j : Nat) (u : Value) : Obj.mapSeq (·.setIfInBounds j u) { cls := .type "list", data := .seq its.toArray n } = { cls := .type "list", data := .seq (its.set j u).toArray n } := by
 simp [Obj.mapSeq]
theorem Inv.lst {pins : List (Addr × Obj)} {σ : St} {H : Hp} {s : Shared} {p : Addr} {xs : List V} (I : Inv X pins σ H s) (h : H p = some (.lst xs)) :
  ∃ (its : List Value) (n : Nat), Vals xs its ∧ s.heap.get? p = some { cls := .type "list", data := .seq its.toArray n } ∧ xs.length ≤ sizeLine := by
 obtain ⟨z, its, n, r, e⟩ := I.hok p _ h
 exact ⟨its, n, r, e, z⟩
theorem Inv.lstUpd {pins : List (Addr × Obj)} {σ : St} {H : Hp} {s : Shared} {p : Addr} {xs ys : List V} {its its' : List Value} {n n' : Nat} {f : Obj → Obj} (I : Inv X pins σ H s) (h : H p = some (.lst xs))
  (ho : s.heap.get? p = some { cls := .type "list", data := .seq its.toArray n }) (hf : f { cls := .type "list", data := .seq its.toArray n } = { cls := .type "list", data := .seq its'.toArray n' }) (r : Vals ys its') (hz : ys.length ≤ sizeLine) (t : Nat) :
  Inv X pins σ (upd H p (.lst ys)) { s with heap := s.heap.update p f, toks := t } := by
 have e : (s.heap.update p f).get? p = some { cls := .type "list", data := .seq its'.toArray n' } := by
  rw [Heap.get?_update_self f ho (by rw [hf] <;> rfl), hf]
 refine I.write (x := p) (e := p) (by rw [h]; trivial) (.inl rfl) (fun b u hb q => (Heap.get?_update_other _ _ (Ne.symm hb)).trans q) ⟨_, e⟩ ?_
 exact ⟨hz, its', n', r, e⟩
def rSetL : V → V → V → Hp → (Hp → Prop) → Prop := fun o i v H Q => ∃ p xs k j, o = .ref p ∧ i = .int k ∧ H p = some (.lst xs) ∧ ixN xs.length k = some j ∧ Q (upd H p (.lst (xs.set j v)))
theorem set_list : PSet X rSetL := by
 intro pins s σ H o i v ov iv u Q I ro ri rv h
 obtain ⟨p, xs, k, j, rfl, rfl, hp, hj, q⟩ := h
 cases ro
 obtain ⟨t, rfl⟩ := ri
 obtain ⟨its, n, r, ho, hz⟩ := I.lst hp
 obtain ⟨h1, h2, h3, h4⟩ := ixN_seq hj
 have hl := r.length
 have hn := line63
 have I' : Inv X pins σ (upd H p (.lst (xs.set j v))) { s with heap := s.heap.update p (Obj.mapSeq (·.setIfInBounds j u)) } :=
  I.lstUpd hp ho (mapSeq_set its n j u) (r.set rv j) (by rw [List.length_set]; exact hz) s.toks
 by_cases h0 : 0 ≤ k
 ·have hk : k.toNat = j := by
   rw [seqIndex_of h0 h4] at h1
   exact Option.some.inj h1
  exact PySem.W.ki_setAt ho h0 (by omega) (by rw [List.size_toArray, ← hl]; exact h4) (by rw [hk]; exact ⟨_, I', q⟩)
 ·have hk : (k + (its.toArray.size : Int)).toNat = j := by
   rw [seqIndex_neg (by omega) h3] at h1
   rw [List.size_toArray, ← hl]
   exact Option.some.inj h1
  exact PySem.W.ki_setBack ho (by omega) (by rw [List.size_toArray, ← hl]; exact h3) (by omega) (by rw [hk]; exact ⟨_, I', q⟩)
theorem slice_bounds (lo hi : Option Int) (n : Nat) : (sliceBounds lo hi none n).1 = ((HT.sIx n 0 lo : Nat) : Int) ∧ (sliceBounds lo hi none n).2.1 = ((HT.sIx n n hi : Nat) : Int) ∧ (sliceBounds lo hi none n).2.2 = 1 := by
 refine ⟨?_, ?_, rfl⟩
 ·cases lo with
  | none => simp [sliceBounds, HT.sIx]
  | some i =>
   simp only [sliceBounds, HT.sIx, Option.getD_none, show (1 : Int) > 0 by decide, if_true]
   by_cases h : i < 0
   ·simp only [h, if_true] <;> omega
   ·simp only [h, if_false] <;> omega
 ·cases hi with
  | none => simp [sliceBounds, HT.sIx]
  | some i =>
   simp only [sliceBounds, HT.sIx, Option.getD_none, show (1 : Int) > 0 by decide, if_true]
   by_cases h : i < 0
   ·simp only [h, if_true] <;> omega
   ·simp only [h, if_false] <;> omega
theorem slicePick_cut (its : List Value) (lo hi : Option Int) : slicePick its.toArray lo hi none = ((its.drop (HT.sIx its.length 0 lo)).take (HT.sIx its.length its.length hi - HT.sIx its.length 0 lo)).toArray := by
 obtain ⟨h1, h2, h3⟩ := slice_bounds lo hi its.toArray.size
 unfold slicePick
 rw [h1, h2, h3]
 simp only [sliceRange_one, pick_run, List.size_toArray] <;> rfl
def rSlL (K : PySem.W.Frag) : V → Option Int → Option Int → Hp → VK → Prop := fun x lo hi H Q => ∃ a xs, x = .ref a ∧ SqL K H a xs ∧ ∀ p, H p = none → Q (.ref p) (upd H p (.lst (cutV xs lo hi)))
theorem sl_list : SlR X (rSlL X.K) := by
 intro pins s σ H x v vl vu lo hi sl Q I rx hs pl pu h
 obtain ⟨a, xs, rfl, hx, q⟩ := h
 cases rx
 obtain ⟨its, r, ht, hz⟩ := I.list hx
 have hlen := r.length
 refine ⟨"list", _, slot_list_getitem.lookup, ht.isList.typeIs, ?_⟩
 refine wpAny_getItem_list_slice ht.isList hs pl pu .none (by simp) ?_ (by rw [List.size_toArray] <;> omega)
 rw [slicePick_cut, ← hlen]
 refine ⟨.ref s.heap.objs.size, _, I.laid (t' := s.toks) (o := .lst (cutV xs lo hi)) (fun b ob q => Heap.get?_push_of_some _ q) (Nat.le_refl _) ?_, rfl, q _ (I.hok.fresh (Nat.le_refl _))⟩
 exact ⟨Nat.le_trans (cutV_length xs lo hi) hz, _, 0, (r.drop (HT.sIx xs.length 0 lo)).take (HT.sIx xs.length xs.length hi - HT.sIx xs.length 0 lo), Heap.get?_push_size _ rfl⟩
def flatV : V → Bool
 | .non => true
 | .bl _ => true
 | .int _ => true
 | .str _ => true
 | _ => false
def eqV : V → V → Bool
 | .non, .non => true
 | .bl a, .bl b => a == b
 | .bl a, .int b => (if a then 1 else 0) == b
 | .int a, .bl b => a == (if b then 1 else 0)
 | .int a, .int b => a == b
 | .str a, .str b => a == b
 | _, _ => false
theorem eqAt_V {A : Around} {s : Shared} {y x : V} {u v : Value} (ry : RelV y u) (rx : RelV x v) (fy : flatV y = true) (fx : flatV x = true) : SeqAt.EqAt A s u v (eqV y x) := by
 cases y with
 | non =>
  cases ry
  cases x with
  | non => cases rx; exact SeqAt.EqAt.same _
  | bl b => cases rx; exact SeqAt.EqAt.none_bool b
  | int b => obtain ⟨t, rfl⟩ := rx; exact SeqAt.EqAt.none_int b t
  | str b => obtain ⟨t, rfl⟩ := rx; exact SeqAt.EqAt.none_str b t
  | _ => exact absurd (show false = true from fx) Bool.false_ne_true
 | bl a =>
  cases ry
  cases x with
  | non => cases rx; exact SeqAt.EqAt.bool_none a
  | bl b => cases rx; exact SeqAt.EqAt.bool_bool a b
  | int b => obtain ⟨t, rfl⟩ := rx; exact SeqAt.EqAt.bool_int a b t
  | str b => obtain ⟨t, rfl⟩ := rx; exact SeqAt.EqAt.bool_str a b t
  | _ => exact absurd (show false = true from fx) Bool.false_ne_true
 | int a =>
  obtain ⟨t', rfl⟩ := ry
  cases x with
  | non => cases rx; exact SeqAt.EqAt.int_none a t'
  | bl b => cases rx; exact SeqAt.EqAt.int_bool a t' b
  | int b => obtain ⟨t, rfl⟩ := rx; exact SeqAt.EqAt.int_int a t' b t
  | str b => obtain ⟨t, rfl⟩ := rx; exact SeqAt.EqAt.int_str a t' b t
  | _ => exact absurd (show false = true from fx) Bool.false_ne_true
 | str a =>
  obtain ⟨t', rfl⟩ := ry
  cases x with
  | non => cases rx; exact SeqAt.EqAt.str_none a t'
  | bl b => cases rx; exact SeqAt.EqAt.str_bool a t' b
  | int b => obtain ⟨t, rfl⟩ := rx; exact SeqAt.EqAt.str_int a t' b t
  | str b => obtain ⟨t, rfl⟩ := rx; exact SeqAt.EqAt.str_str a t' b t
  | _ => exact absurd (show false = true from fx) Bool.false_ne_true
 | _ => exact absurd (show false = true from fy) Bool.false_ne_true
def eqU (x : V) (u : Value) : Bool := match u with
 | .none => eqV .non x
 | .bool b => eqV (.bl b) x
 | .int i _ => eqV (.int i) x
 | .str z _ => eqV (.str z) x
 | _ => false
theorem eqU_of {x y : V} {u : Value} (r : RelV y u) (f : flatV y = true) : eqU x u = eqV y x := by
 cases y with
 | non => cases r; rfl
 | bl b => cases r; rfl
 | int i => obtain ⟨t, rfl⟩ := r; rfl
 | str z => obtain ⟨t, rfl⟩ := r; rfl
 | _ => exact absurd (show false = true from f) Bool.false_ne_true
theorem any_eqU {x : V} : ∀ {xs : List V} {us : List Value}, Vals xs us → xs.all flatV = true → us.any (eqU x) = xs.any fun y => eqV y x
 | _, _, .nil, _ => rfl
 | y :: xs, u :: us, .cons r t, f => by
  rw [List.all_cons, Bool.and_eq_true] at f
  rw [List.any_cons, List.any_cons, eqU_of r f.1, any_eqU t f.2]
theorem mem_eqAt {A : Around} {s : Shared} {x : V} {v : Value} (rx : RelV x v) (fx : flatV x = true) : ∀ {xs : List V} {us : List Value}, Vals xs us → xs.all flatV = true → ∀ u ∈ us, SeqAt.EqAt A s u v (eqU x u)
 | _, _, .nil, _ => fun u hu => by cases hu
 | y :: xs, u :: us, .cons r t, f => fun u' hu => by
  rw [List.all_cons, Bool.and_eq_true] at f
  rcases List.mem_cons.mp hu with rfl | hu
  ·rw [eqU_of r f.1]; exact eqAt_V r rx f.1 fx
  ·exact mem_eqAt rx fx t f.2 u' hu
def inV (x : V) (xs : List V) : Bool := xs.any fun y => eqV y x
def rIn (K : PySem.W.Frag) (neg : Bool) : R2 := fun x y H Q => ∃ p xs, y = .ref p ∧ (SqL K H p xs ∨ SqT K H p xs) ∧ flatV x = true ∧ xs.all flatV = true ∧ Q (.bl (if neg then !inV x xs else inV x xs)) H
theorem op_notIn_seq : OpR X (compareOp .NotIn) (rIn X.K true) := by
 intro pins s σ H x y v u Q I rx ry h
 obtain ⟨p, xs, rfl, hq, fx, fs, q⟩ := h
 cases ry
 rcases hq with hq | hq
 ·obtain ⟨its, r, pl, hz⟩ := I.list hq
  refine SeqAt.notIn_listAt (eqU x) pl.isList (fun w hw => mem_eqAt rx fx r fs w (by simpa using hw)) ⟨.bl _, H, I, rfl, ?_⟩
  rw [show its.toArray.any (eqU x) = its.any (eqU x) by simp, any_eqU r fs]
  exact q
 ·obtain ⟨its, r, pl, hz⟩ := I.tuple hq
  refine SeqAt.notIn_tupleAt (eqU x) pl (fun w hw => mem_eqAt rx fx r fs w (by simpa using hw)) ⟨.bl _, H, I, rfl, ?_⟩
  rw [show its.toArray.any (eqU x) = its.any (eqU x) by simp, any_eqU r fs]
  exact q
theorem call_len_seq : CallR X (.builtin "len") (fun xs H Q => ∃ p ys, xs = [.ref p] ∧ (SqL X.K H p ys ∨ SqT X.K H p ys) ∧ Q (.int ys.length) H) := by
 intro pins s σ H xs us Q I r h
 obtain ⟨p, ys, rfl, hq, q⟩ := h
 obtain ⟨u, rfl, rx⟩ := vals1 r
 cases rx
 have hn := line63
 rcases hq with hq | hq
 ·obtain ⟨its, r', pl, hz⟩ := I.list hq
  have hlen := r'.length
  exact Calls.call_len_list pl.isList (by simp only [List.size_toArray] <;> omega) ⟨.int ys.length, H, I.tok _, ⟨s.toks + 1, by rw [List.size_toArray, hlen]⟩, q⟩
 ·obtain ⟨its, r', pl, hz⟩ := I.tuple hq
  have hlen := r'.length
  exact len_tuple pl (by simp only [List.size_toArray] <;> omega) ⟨.int ys.length, H, I.tok _, ⟨s.toks + 1, by rw [List.size_toArray, hlen]⟩, q⟩
theorem call_list_of : CallR X (.type "list") (fun xs H Q => ∃ p ys, xs = [.ref p] ∧ (SqL X.K H p ys ∨ SqT X.K H p ys) ∧ ∀ l, H l = none → Q (.ref l) (upd H l (.lst ys))) := by
 intro pins s σ H xs us Q I r h
 obtain ⟨p, ys, rfl, hq, q⟩ := h
 obtain ⟨u, rfl, rx⟩ := vals1 r
 cases rx
 have fin : ∀ (its : List Value), Vals ys its → ys.length ≤ sizeLine → ∀ (h' : Heap) (c' : Nat), (∀ b o', s.heap.get? b = some o' → h'.get? b = some o') →
   h'.get? s.heap.objs.size = some { cls := .type "list", dict := none, data := .seq its.toArray c', slots := #[] } → EP X pins σ Q (.ref s.heap.objs.size) { s with heap := h' } := fun its r' hz h' c' kp e =>
  ⟨.ref s.heap.objs.size, _, I.laid (t' := s.toks) kp (Nat.le_refl _) (show ObjOk X.prog X.w _ h' _ (.lst ys) from ⟨hz, its, c', r', e⟩), rfl, q _ (I.hok.fresh (Nat.le_refl _))⟩
 rcases hq with hq | hq
 ·obtain ⟨its, r', pl, hz⟩ := I.list hq
  have hlen := r'.length
  obtain ⟨o, ho, hc, n, hd⟩ := pl.isList
  exact call_list_seq p (.inl rfl) ho hc hd (fun h' c' kp e => fin its r' hz h' c' kp e) (by simp only [List.size_toArray] <;> omega)
 ·obtain ⟨its, r', pl, hz⟩ := I.tuple hq
  have hlen := r'.length
  obtain ⟨o, ho, hc, n, hd⟩ := pl
  exact call_list_seq p (.inr rfl) ho hc hd (fun h' c' kp e => fin its r' hz h' c' kp e) (by simp only [List.size_toArray] <;> omega)
theorem call_tuple_of : CallR X (.type "tuple") (fun xs H Q => ∃ p ys, xs = [.ref p] ∧ ((SqL X.K H p ys ∧ ∀ l, H l = none → Q (.ref l) (upd H l (.tup ys))) ∨ (SqT X.K H p ys ∧ Q (.ref p) H))) := by
 intro pins s σ H xs us Q I r h
 obtain ⟨p, ys, rfl, h⟩ := h
 obtain ⟨u, rfl, rx⟩ := vals1 r
 cases rx
 rcases h with ⟨hq, q⟩ | ⟨hq, q⟩
 ·obtain ⟨its, r', pl, hz⟩ := I.list hq
  have hlen := r'.length
  refine call_tuple_list pl.isList (fun h' kp => ?_) (by simp only [List.size_toArray] <;> omega)
  have I1 : Inv X pins σ H { s with heap := h' } := I.kept (t' := s.toks) kp
  have I2 : Inv X pins σ (upd H h'.objs.size (.tup ys)) { s with heap := h'.push { cls := .type "tuple", data := .seq its.toArray } } :=
   I1.laid (t' := s.toks) (fun b o e => Heap.get?_push_of_some _ e) (Nat.le_refl _) (show ObjOk X.prog X.w _ _ _ (.tup ys) from ⟨hz, its, r', IsTup.new _ _⟩)
  exact ⟨.ref h'.objs.size, _, I2, rfl, q _ (I1.hok.fresh (Nat.le_refl _))⟩
 ·obtain ⟨its, r', pl, hz⟩ := I.tuple hq
  exact call_tuple_same pl ⟨.ref p, H, I, rfl, q⟩
def tyV (K : PySem.W.Frag) (T : String) (x : V) (H : Hp) : Prop := match x with
 | .str _ => T = "str"
 | .int _ => T = "int"
 | .ref p => (T = "list" ∧ ∃ xs, SqL K H p xs) ∨ (T = "tuple" ∧ ∃ o, K.lookup p = some o ∧ o.cls = .type "tuple" ∧ o.dict = none) ∨
   (T = "dict" ∧ ((∃ kvs, H p = some (.dK kvs)) ∨ ∃ kvs, H p = some (.dT kvs))) ∨ (T = "set" ∧ ∃ S n, H p = some (.set S n))
 | _ => False
theorem tyV_is {pins : List (Addr × Obj)} {σ : St} {H : Hp} {s : Shared} {T : String} {x : V} {v : Value} (I : Inv X pins σ H s) (r : RelV x v) (ty : tyV X.K T x H) :
  s.TypeIs v T ∧ ∀ a, v = .ref a → ∃ ob, s.heap.get? a = some ob ∧ ob.dict = none := by
 cases x with
 | str z =>
  obtain ⟨t, rfl⟩ := r
  cases (show T = "str" from ty)
  exact ⟨typeIs_str s z t, fun _ e => nomatch e⟩
 | int i =>
  obtain ⟨t, rfl⟩ := r
  cases (show T = "int" from ty)
  exact ⟨typeIs_int s i t, fun _ e => nomatch e⟩
 | ref p =>
  cases r
  rcases ty with ⟨rfl, xs, hq⟩ | ⟨rfl, o, hk, hc, hd⟩ | ⟨rfl, hk⟩ | ⟨rfl, S, n, hk⟩
  ·obtain ⟨its, _, pl, _⟩ := I.list hq
   refine ⟨pl.isList.typeIs, fun a e => ?_⟩
   cases e
   obtain ⟨o, n, e, c, hd, _⟩ := pl
   exact ⟨o, e, hd⟩
  ·refine ⟨⟨o, I.kIn p o hk, hc⟩, fun a e => ?_⟩
   cases e
   exact ⟨o, I.kIn _ o hk, hd⟩
  ·have z : ∃ o, s.heap.get? p = some o ∧ o.ExactDict := by
    rcases hk with ⟨kvs, hk⟩ | ⟨kvs, hk⟩
    ·obtain ⟨_, _, _, _, o, _, _, e, ex, _⟩ := I.hok p _ hk
     exact ⟨o, e, ex⟩
    ·obtain ⟨_, _, _, _, o, _, _, e, ex, _⟩ := I.hok p _ hk
     exact ⟨o, e, ex⟩
   obtain ⟨o, e, ex⟩ := z
   refine ⟨⟨o, e, ex.1⟩, fun a e2 => ?_⟩
   cases e2
   exact ⟨o, e, ex.2.1⟩
  ·obtain ⟨o, _, _, _, e, ex, _⟩ := I.hok p _ hk
   refine ⟨⟨o, e, ex.1⟩, fun a e2 => ?_⟩
   cases e2
   exact ⟨o, e, ex.2.1⟩
 | _ => exact False.elim ty
def tBM (K : PySem.W.Frag) (T : String) (r : V → List V → Hp → VK → Prop) (to : TE) (t : TA) : TE := fun σ H Q => to σ H fun x H1 => tyV K T x H1 ∧ t σ H1 fun xs H2 => r x xs H2 Q
variable {o e : Expr} {es : List Expr} {to : TE} {t : TA} {name : Str} {apos cpos : Pos} {T id : String} {r : V → List V → Hp → VK → Prop}
theorem pe_bm (pa : PlainAttrs T) (slot : Slot T name id) (hty : typeOf (.builtin id) = pure (.type "method_descriptor")) (hm : MtR X id r) (ho : PE X o to) (ha : PA X (e :: es) t)
  (hbase : attributeBase o name X.env (eval o X.env) = eval o X.env := by rfl)
  (hfew : ((backTo cpos (starEach (e :: es) X.env)).all (fun x => !x.1) && (backToKw cpos (keywordEach [] X.env)).all (fun x => x.1.isSome)
   && decide ((e :: es).length + ([] : List Keyword).length + (if ([] : List Keyword).isEmpty then 0 else 1) < 30)) = true := by rfl)
  (hline : (apos.endLine == cpos.line) = true := by rfl) (hs : starEach (e :: es) X.env = (false, eval e X.env) :: starEach es X.env := by rfl) (hplain : (backTo cpos (starEach es X.env)).any (·.1) = false := by rfl) :
  PE X (.Call (.Attribute o name apos) (e :: es) [] cpos) (tBM X.K T r to t) := by
 intro pins s σ H Q I h
 refine wpAny_Call_method_late hbase hfew hline rfl (thn (ho pins s σ H _ I h) fun v s1 ⟨x, H1, I1, r1, ty, q1⟩ => ?_)
 obtain ⟨h1, h2⟩ := tyV_is I1 r1 ty
 refine ⟨T, id, pa, slot, hty, h1, h2, ?_⟩
 have hA := ha cpos pins s1 σ H1 _ I1 q1
 rw [hs] at hA ⊢
 refine Calls.callWith_builtin (by show (false || (backTo cpos (starEach es X.env)).any (·.1)) = false; rw [hplain] <;> rfl) (Calls.evalArgs_plain ?_)
 exact thn hA fun us s2 ⟨vs, H2, I2, r2, q2⟩ => hm pins s2 σ H2 x vs v us Q I2 r1 r2 q2
/- xs.append(e), list.index on a module's tuple .. are MtR facts of 06m -/
end
def MtM (X : Cx) (id : String) (r : V → List V → Hp → VK → Prop) : Prop :=
 ∀ (pins : List (Addr × Obj)) (s : Shared) (σ : St) (H : Hp) (x : V) (xs : List V) (v : Value) (us : List Value) (Q : VK), Inv X pins σ H s → RelV x v → Vals xs us → r x xs H Q →
  wpAny (model X.prog X.w) X.A (call (.builtin id) (v :: us)) (EP X pins σ Q) X.xe s
theorem Vals.one : ∀ {x : V} {us : List Value}, Vals [x] us → ∃ u, us = [u] ∧ RelV x u
 | _, _, .cons r .nil => ⟨_, rfl, r⟩
theorem Vals.two : ∀ {x y : V} {us : List Value}, Vals [x, y] us → ∃ u v, us = [u, v] ∧ RelV x u ∧ RelV y v
 | _, _, _, .cons r (.cons q .nil) => ⟨_, _, rfl, r, q⟩
theorem Vals.eraseIdx : ∀ {xs : List V} {us : List Value} (i : Nat), Vals xs us → Vals (xs.eraseIdx i) (us.eraseIdx i)
 | _, _, _, .nil => .nil
 | _, _, 0, .cons _ t => t
 | _, _, i + 1, .cons r t => .cons r (Vals.eraseIdx i t)
theorem Vals.rep {xs : List V} {us : List Value} (h : Vals xs us) : ∀ k : Nat, Vals (List.replicate k xs).flatten (List.replicate k us).flatten
 | 0 => .nil
 | k + 1 => by
  rw [List.replicate_succ, List.replicate_succ, List.flatten_cons, List.flatten_cons]
  exact Vals.append h (Vals.rep h k)
theorem len_erase {α : Type} : ∀ (l : List α) (i : Nat), (l.eraseIdx i).length ≤ l.length
 | [], _ => Nat.le_refl _
 | _ :: _, 0 => Nat.le_succ _
 | _ :: r, i + 1 => Nat.succ_le_succ (len_erase r i)
theorem foldl_rep (its : List Value) : ∀ (k : Nat) (acc : List Value),
  List.foldl (fun x1 x2 => x1 ++ x2) acc.toArray (List.replicate k its.toArray) = (acc ++ (List.replicate k its).flatten).toArray
 | 0, acc => by simp
 | k + 1, acc => by
  have e : acc.toArray ++ its.toArray = (acc ++ its).toArray := by simp
  have e2 : (acc ++ its) ++ (List.replicate k its).flatten = acc ++ (List.replicate (k + 1) its).flatten := by
   rw [List.replicate_succ, List.flatten_cons, List.append_assoc]
  rw [← e2, ← foldl_rep its k (acc ++ its), ← e, List.replicate_succ, List.foldl_cons]
section
variable {X : Cx} {pins : List (Addr × Obj)} {σ : St} {H : Hp} {s : Shared} {l b : Addr} {xs ys zs : List V}
theorem Inv.lset {its its' : List Value} {n : Nat} {f : Array Value → Array Value} {t' : Nat} (I : Inv X pins σ H s) (hH : H l = some (.lst xs))
  (e : s.heap.get? l = some { cls := .type "list", data := .seq its.toArray n }) (hf : f its.toArray = its'.toArray) (hv : Vals ys its') (hz : ys.length ≤ sizeLine) :
  Inv X pins σ (upd H l (.lst ys)) { s with heap := s.heap.update l (Obj.mapSeq f), toks := t' } := by
 have q := PySem.IsL.update e f
 rw [hf] at q
 refine I.write (x := l) (e := l) (by rw [hH]; exact trivial) (.inl rfl) (fun b' u hb hu => (Heap.get?_update_other s.heap (Obj.mapSeq f) (Ne.symm hb)).trans hu) ⟨_, q⟩ ?_
 exact ⟨hz, its', _, hv, q⟩
theorem Inv.lnew {its : List Value} {t' : Nat} (I : Inv X pins σ H s) (hv : Vals ys its) (hz : ys.length ≤ sizeLine) :
  Inv X pins σ (upd H s.heap.objs.size (.lst ys)) { s with heap := s.heap.push { cls := .type "list", data := .seq its.toArray }, toks := t' } :=
 I.laid (fun _ _ q => Heap.get?_push_of_some _ q) (Nat.le_refl _) ⟨hz, its, 0, hv, Heap.get?_push_size _ rfl⟩
theorem Inv.fresh (I : Inv X pins σ H s) : H s.heap.objs.size = none := I.hok.fresh (Nat.le_refl _)
theorem Inv.lstM (I : Inv X pins σ H s) (hH : H l = some (.lst xs)) : xs.length ≤ sizeLine ∧ ∃ (its : List Value) (n : Nat), Vals xs its ∧ xs.length = its.length ∧ s.heap.get? l = some { cls := .type "list", data := .seq its.toArray n } := by
 obtain ⟨z, its, n, r, e⟩ := I.hok l _ hH
 exact ⟨z, its, n, r, r.length, e⟩
theorem notLongL {n : Nat} (h : n ≤ sizeLine) : Builtin.List.listTooLong n = false := by
 unfold Builtin.List.listTooLong
 exact decide_eq_false (by omega)
end
section
variable {X : Cx}
def rAppend : V → List V → Hp → VK → Prop := fun x vs H Q => ∃ l xs y, x = .ref l ∧ vs = [y] ∧ H l = some (.lst xs) ∧ xs.length < sizeLine ∧ Q .non (upd H l (.lst (xs ++ [y])))
theorem mt_append : MtM X "list.append" rAppend := by
 intro pins s σ H x vs v us Q I rx rv h
 obtain ⟨l, xs, y, rfl, rfl, hH, hz, q⟩ := h
 cases rx
 obtain ⟨u, rfl, ru⟩ := rv.one
 obtain ⟨z, its, n, r, hl, e⟩ := I.lstM hH
 refine call_meets F.slot_list_append ⟨_, e, rfl⟩ F.entry_list_append (F.args_list_append_2 _ _) (PySem.list_append l its.toArray n u (by rw [List.size_toArray]; omega)) ⟨e, ?_⟩
 refine ⟨.non, _, I.lset (its' := its ++ [u]) hH e (by simp) (r.append (.cons ru .nil)) ?_, rfl, q⟩
 rw [List.length_append, List.length_singleton]
 omega
def rExtend : V → List V → Hp → VK → Prop := fun x vs H Q => ∃ l b xs zs, x = .ref l ∧ vs = [.ref b] ∧ H l = some (.lst xs) ∧ H b = some (.lst zs) ∧ xs.length + zs.length ≤ sizeLine ∧ Q .non (upd H l (.lst (xs ++ zs)))
theorem mt_extend : MtM X "list.extend" rExtend := by
 intro pins s σ H x vs v us Q I rx rv h
 obtain ⟨l, b, xs, zs, rfl, rfl, hH, hB, hz, q⟩ := h
 cases rx
 obtain ⟨u, rfl, ru⟩ := rv.one
 cases ru
 obtain ⟨z, its, n, r, hl, e⟩ := I.lstM hH
 obtain ⟨z2, its2, n2, r2, hl2, e2⟩ := I.lstM hB
 have hsz : its.toArray.size + its2.toArray.size ≤ sizeLine := by rw [List.size_toArray, List.size_toArray]; omega
 have hlong : ¬ (!its.toArray.isEmpty && Builtin.List.listTooLong (its.toArray.size + its2.toArray.size)) = true := by
  rw [notLongL hsz, Bool.and_false]
  exact Bool.false_ne_true
 refine call_meets F.slot_list_extend ⟨_, e, rfl⟩ F.entry_list_extend (F.args_list_extend_2 _ _)
  (AutoSeq1.list_extend_list_list_0 l its.toArray n b its2.toArray n2 hlong (by rw [List.size_toArray]; omega) (by omega)) ⟨e, e2, ?_⟩
 refine ⟨.non, _, I.lset (its' := its ++ its2) hH e (by simp) (r.append r2) ?_, rfl, q⟩
 rw [List.length_append]
 omega
def rPopAt : V → List V → Hp → VK → Prop := fun x vs H Q => ∃ l xs i k y, x = .ref l ∧ vs = [.int i] ∧ H l = some (.lst xs) ∧ -(2 ^ 63) ≤ i ∧ i < 2 ^ 63 ∧ seqIndex? i xs.length = some k ∧ xs[k]? = some y ∧ Q y (upd H l (.lst (xs.eraseIdx k)))
theorem mt_popAt : MtM X "list.pop" rPopAt := by
 intro pins s σ H x vs v us Q I rx rv h
 obtain ⟨l, xs, i, k, y, rfl, rfl, hH, h1, h2, hk, hy, q⟩ := h
 cases rx
 obtain ⟨u, rfl, ru⟩ := rv.one
 obtain ⟨t, rfl⟩ := ru
 obtain ⟨z, its, n, r, hl, e⟩ := I.lstM hH
 obtain ⟨w, hw, rw'⟩ := r.get hy
 refine call_meets F.slot_list_pop ⟨_, e, rfl⟩ F.entry_list_pop (F.args_list_pop_2 _ _)
  (MeetsSeq.list_pop_at l its.toArray n i t k w (fitsIndex_both h1 h2) (by rw [List.size_toArray, ← hl]; exact hk) (by rw [← Array.getElem?_toList]; exact hw) (by rw [List.size_toArray]; omega)) ⟨e, ?_⟩
 refine ⟨y, _, I.lset (its' := its.eraseIdx k) hH e ?_ (r.eraseIdx k) ?_, rw', q⟩
 ·show its.toArray.eraseIdxIfInBounds k = (its.eraseIdx k).toArray
  rw [List.eraseIdxIfInBounds_toArray]
 ·have := len_erase xs k
  omega
def rRep : R2 := fun x y H Q => ∃ l k xs, x = .ref l ∧ y = .int k ∧ H l = some (.lst xs) ∧ -(2 ^ 63) ≤ k ∧ k < 2 ^ 63 ∧ xs.length * k.toNat ≤ sizeLine ∧
 ∀ p, H p = none → Q (.ref p) (upd H p (.lst (List.replicate k.toNat xs).flatten))
theorem len_rep {α : Type} (xs : List α) (k : Nat) : (List.replicate k xs).flatten.length = k * xs.length := by
 induction k with
 | zero => simp
 | succ k ih => rw [List.replicate_succ, List.flatten_cons, List.length_append, ih, Nat.succ_mul, Nat.add_comm]
theorem op_rep : OpR X (binaryOp .Mult) rRep := by
 intro pins s σ H x y v u Q I rx ry h
 obtain ⟨l, k, xs, rfl, rfl, hH, h1, h2, hz, q⟩ := h
 cases rx
 obtain ⟨t, rfl⟩ := ry
 obtain ⟨z, its, n, r, hl, e⟩ := I.lstM hH
 have hlen : its.toArray.size * k.toNat ≤ sizeLine := by rw [List.size_toArray, ← hl]; exact hz
 have hcap : ¬ its.toArray.size * k.toNat > (2 ^ 63 - 1) / 8 := by
  have : (sizeLine : Nat) ≤ (2 ^ 63 - 1) / 8 := by decide
  omega
 have hfit : ¬ (!Builtin.List.listFitsIndex k) = true := by
  rw [fitsIndex_both h1 h2]
  exact Bool.false_ne_true
 have hlong : ¬ Builtin.List.listTooLong (its.toArray.size * k.toNat) = true := by
  rw [notLongL hlen]
  exact Bool.false_ne_true
 have hnew : List.foldl (fun x1 x2 => x1 ++ x2) #[] (List.replicate (if its.toArray.isEmpty = true then 0 else k.toNat) its.toArray) = (List.replicate k.toNat its).flatten.toArray := by
  have f0 : ∀ m : Nat, List.foldl (fun x1 x2 => x1 ++ x2) #[] (List.replicate m its.toArray) = (List.replicate m its).flatten.toArray := fun m => by
   have := foldl_rep its m []
   rw [List.nil_append] at this
   exact this
  rw [f0]
  cases its with
  | nil => simp
  | cons a r' => rw [if_neg (by simp)]
 refine wpAny_binaryOp_repeat_ref (T := "list") (U := "int") (by decide) ⟨_, e, rfl⟩ (fun s' => typeIs_int s' k t) noFill_list_mul F.fills_int_mul F.slot_int_rmul repeat_list F.slot_int_index.lookup
  (call_meets F.slot_int_rmul (typeIs_int s k t) F.entry_int_rmul (F.args_int_rmul_2 _ _) (int___rmul___int_list k t l its.toArray n)
   ⟨e, rfl, ⟨_, e, rfl⟩, call_meets F.slot_list_mul ⟨_, e, rfl⟩ F.entry_list_mul (F.args_list_mul_2 _ _) (AutoListH.list___mul___list_int_3 l its.toArray n k t hfit hcap hlong) ⟨e, ?_⟩⟩)
 rw [hnew]
 exact ⟨.ref _, _, I.lnew (t' := s.toks) (r.rep k.toNat) (by rw [len_rep, Nat.mul_comm]; exact hz), rfl, q _ I.fresh⟩
end
section
variable {prog : Program} {w : World} {A : Around} {E : Value → Shared → Prop} {s : Shared}
end
section
variable {X : Cx}
end
end L2
namespace Att
open PySem PySem.W PySem.Calls PyProof.Rows
theorem ints_of_wellAll {P : Params} {h : Heap} : ∀ (ns : List Int) (vs : List Value), WellAll P h vs (ns.map WData.int) → IntsAre vs ns := by
 intro ns
 induction ns with
 | nil =>
  intro vs w
  rw [List.map_nil] at w
  cases w
  exact .nil
 | cons n ns ih =>
  intro vs w
  rw [List.map_cons] at w
  cases w with
  | cons a b =>
   cases a
   exact .cons _ _ (ih _ b)
theorem script_of {l : OpenLaw} {n : Nat} (hn : l.most = some n) {P : Params} {h : Heap} {args : List WData} {vals : List Value}
  (hpre : l.row.toRowW.claim.pre args = true) (hwl : WellAll P h vals args) :
  ∃ a vs ns, vals = [Value.ref a] ∧ args = [WData.list (ns.map WData.int)] ∧ h.get? a = some { cls := .type "list", data := .seq vs.toArray } ∧ IntsAre vs ns ∧ ns.length ≤ n := by
 have hsh : WShape.hasAll [] args [.list .int] = true := (pre_splitW hpre).1
 have hc : l.pre.holds [] { args := args } = true := (pre_splitW hpre).2
 obtain ⟨d, r, rfl, h1, h2⟩ := hasAllW_cons hsh
 obtain rfl := hasAllW_nil h2
 obtain ⟨xs, rfl, h3⟩ := hasW_list h1
 obtain ⟨ns, rfl⟩ := items_int h3
 have hlen : ns.length ≤ n := by
  unfold OpenLaw.pre at hc
  have h4 : (WTm.not (.lt (.lit (.int (n : Int))) (.len (.arg 0)))).holds [] { args := [.list (ns.map .int)] } = true := by
   have h4 := (holds_andW hc).1
   rw [hn] at h4
   exact h4
  have h5 := condW_of h4 (w_not (w_lt w_lit (w_len_list (w_arg rfl))))
  rw [List.length_map] at h5
  refine Nat.le_of_not_lt fun q => ?_
  have q' : (n : Int) < ((ns.length : Nat) : Int) := by omega
  first
   | (rw [decide_eq_true q'] at h5; exact absurd h5 (by decide))
   | (simp at h5; omega)
 cases hwl with
 | cons w1 w2 =>
  cases w2
  cases w1 with
  | list ho hall => exact ⟨_, _, ns, rfl, rfl, ho, ints_of_wellAll ns _ hall, hlen⟩
theorem post_true (l : OpenLaw) (args : List WData) : l.row.toRowW.claim.post args (.bool true) args = true :=
 postW_of (r := l.row.toRowW) (X := (true == true))
  (show WShape.has [] (.bool true) .bool = true by first | rfl | decide | simp [WShape.has, WShape.arms, WShape.armsAll])
  (show (WTm.eq .res (.lit (.bool true))).value [] { args := args, res := some (.bool true), after := args } = some (.bool (true == true)) from w_eq_bool (w_res rfl) w_lit) rfl
theorem attach_call {l : OpenLaw} {n : Nat} {q : Program} {loose : List Str} {XP : (Str → Option Value) → Heap → Prop} {YP : World → Heap → Prop} {d : DefRec}
  (hn : l.most = some n) (hdf : d.params.defaults = [])
  (call : ∀ (w : World) (s₀ s₁ : Shared) (mg mb : Str → Option Value) (fa : Addr) (o : Obj) (pm cd doc : Value) (a : Addr) (vs : List Value) (ns : List Int),
   Ground q loose [] XP w s₀ mg mb s₁.heap → YP w s₁.heap →
   s₁.heap.get? fa = some o → o.data = .func (docDef d.name d.params d.body d.scope pm cd doc) → s₁.heap.CodeRec cd d.name → mg d.name = some (.ref fa) →
   s₁.heap.get? a = some { cls := .type "list", data := .seq vs.toArray } → IntsAre vs ns → ns.length ≤ n → s₁.gens = #[] →
   codeAny (model l.prog w) callerA (.call (.ref fa) ⟨[.ref a], []⟩) (fun r s' => r = .ok (.ret (.bool true)) ∧ OldK s₁.heap s'.heap ∧ s'.os = s₁.os ∧ AllBare s'.gens) s₁) :
  WalkO q loose XP YP l.row.toRowW d [] (fun f vs => PySem.call f vs) := by
 intro w s₀ s₁ mg mb G Y fa o pm cd doc dV kV ho hd hcd hD hmg hg args vals as hpre hlay hrd hwl hlo
 obtain rfl : dV = .none := Dflts.none hD hdf
 obtain rfl : kV = .none := Dflts.noKw hD
 obtain ⟨a, vs, ns, rfl, rfl, hobj, hints, hlen⟩ := script_of hn hpre hwl
 refine enter_call (codeAny_mono (call w s₀ s₁ mg mb fa o pm cd doc a vs ns G Y ho (fd_plain hd) hcd hmg hobj hints hlen hg) fun r s' hq => ?_)
 obtain ⟨rfl, h2, h3, h4⟩ := hq
 exact ⟨.inl ⟨.bool true, .bool true, [], rfl, fun _ => rfl, .bool true, post_true l _, fun _ => ⟨List.Pairwise.nil, fun _ hm => (nomatch hm)⟩⟩, h2, h3, h4⟩
section
variable {prog : Program} {w : World} {A : Around} {E : Value → Shared → Prop} {s : Shared} {K : Frag}
end
end Att
namespace L2
open PySem PySem.Spec PyProof.Rows
theorem vals_ints : ∀ {vs : List Value} {ns : List Int}, IntsAre vs ns → Vals (ns.map V.int) vs
 | _, _, .nil => .nil
 | _, _, .cons n t h => .cons ⟨t, rfl⟩ (vals_ints h)
def Only (H : Hp) : Prop := ∀ b, H b = none ∨ ∃ o xs, H b = some (.frz o (.lst xs))
theorem law_call {P : Program} {w : World} {K : PySem.W.Frag} {mg mb : Str → Option Value} {CX : CXT} {k : Nat} {fa a : Addr} {fd : FuncData} {x : Str} {sp : Sp} {s₁ : Shared} {vs : List Value} {ns : List Int}
  (KX : K.In s₁.heap) (hns : s₁.heap.Ns mainGlobals mg) (hb : s₁.heap.Ns builtinsNs mb) (hbb : ∀ x : Str, x ≠ "__name__" → mb x = bootBuiltins x) (hlim : s₁.heap.NoLimit) (hg : s₁.gens = #[])
  (ha : s₁.heap.get? a = some { cls := .type "list", data := .seq vs.toArray }) (hi : IntsAre vs ns) (hl : ns.length ≤ sizeLine) (hr : Room k callerA)
  (F : ∀ base : Heap, K.In base → base.Ns mainGlobals mg → FnOk P w K mg base CX k fa fd [x] sp) (hbind : ∀ (s : Shared) (u : Value), BindsTo s fd ⟨[u], []⟩ [(x, u)])
  (hsp : ∀ H : Hp, Only H → SqL K H a (ns.map V.int) → sp [.ref a] H (fun v _ => v = .bl true) fun _ _ _ => False)
  (hCX : ∀ H e s', CX [] H s₁ (fun _ _ _ => False) e s' → False) :
  codeAny (model P w) callerA (.call (.ref fa) ⟨[.ref a], []⟩) (fun r s' => r = .ok (.ret (.bool true)) ∧ OldK s₁.heap s'.heap ∧ s'.os = s₁.os ∧ AllBare s'.gens) s₁ := by
 have rv := vals_ints hi
 have lenV := hi.length
 -- from an abstract heap in which nothing but the script may be tracked
 have core : ∀ H : Hp, Only H → SqL K H a (ns.map V.int) → HOk P w H s₁.heap → (∀ b, H b ≠ none → b = a) → (H a ≠ none → K.lookup a = none) →
   codeAny (model P w) callerA (.call (.ref fa) ⟨[.ref a], []⟩) (fun r s' => r = .ok (.ret (.bool true)) ∧ OldK s₁.heap s'.heap ∧ s'.os = s₁.os ∧ AllBare s'.gens) s₁ := by
  intro H hO hS hok hA hK
  have base_of : ∀ {b : Addr} {o : Obj}, s₁.heap.get? b = some o → H b = none → (hidT s₁.heap H).get? b = some o := fun e n => hidT_get e n
  have noA : ∀ {b : Addr} {o : Obj} {es : Array DictEntry} {ep : Nat}, s₁.heap.get? b = some o → o.data = .dict es ep → H b = none := fun {b o es ep} e d => by
   cases q : H b with
   | none => rfl
   | some u =>
    have e' : b = a := hA b (by rw [q]; simp)
    subst e'
    rw [ha] at e; cases e
    have d' : Data.seq vs.toArray _ = Data.dict es ep := d
    cases d'
  have nsK : ∀ {b : Addr} {m : Str → Option Value}, s₁.heap.Ns b m → (hidT s₁.heap H).Ns b m := fun {b m} ⟨o, es, ep, e, d, r⟩ => ⟨o, es, ep, base_of e (noA e d), d, r⟩
  have hKb : K.In (hidT s₁.heap H) := fun b o e => base_of (KX b o e) (by
   cases q : H b with
   | none => rfl
   | some u =>
    have e' : b = a := hA b (by rw [q]; simp)
    subst e'
    rw [hK (by rw [q]; simp)] at e; cases e)
  have hM : Mod K mg (hidT s₁.heap H) := ⟨hKb, nsK hns, ⟨mb, nsK hb, hbb⟩, let ⟨mc, h1, h2⟩ := hlim; ⟨mc, nsK h1, h2⟩⟩
  have e0 : Env0 P w K mg (hidT s₁.heap H) callerA [] s₁ H := ⟨rfl, hM, fun b o e => of_hidT e, Nat.le_of_eq (hidT_size _ _), trivial, fun b hb => absurd (show b ∈ ([] : List Addr) from hb) (by simp), hok, .of_eq hg⟩
  refine codeAny_mono ((F _ hKb (nsK hns)).run callerA [] s₁ H ⟨[.ref a], []⟩ [.ref a] [.ref a] _ _ hr e0 (hbind s₁ (.ref a)) (.cons rfl .nil) (hsp H hO hS)) fun r s' h => ?_
  cases r with
  | error e => exact (hCX H e s' h).elim
  | ok fl =>
   cases fl with
   | next => exact False.elim h
   | brk => exact False.elim h
   | cont => exact False.elim h
   | ret u =>
    obtain ⟨v, H', os, bare, un, hok', r', q⟩ := h
    have q' : v = .bl true := q
    subst q'
    obtain rfl : u = Value.bool true := r'
    refine ⟨rfl, OldK.of_keep fun b o e => ?_, os, bare⟩
    cases q : H b with
    | none => exact un.keep b o e q (by intro z; exact absurd (show b ∈ ([] : List Addr) from z) (by simp)) (by simp)
    | some u =>
     rcases hO b with z | ⟨ob, xs, z⟩
     ·rw [q] at z; cases z
     ·have z2 := un.frzs b ob _ z
      obtain ⟨e1, _⟩ := hok b _ z
      obtain ⟨e2, _⟩ := hok' b _ z2
      rw [e] at e1; cases e1
      exact e2
 cases hk : K.lookup a with
 | some o =>
  -- the script is one of the module's own objects
  have e := KX a o hk
  rw [ha] at e
  cases e
  refine core (fun _ => none) (fun _ => .inl rfl) (.inr ⟨_, vs.toArray, _, hk, rfl, rfl, rfl, by rw [List.size_toArray, lenV]; exact hl, by simpa using rv⟩) (fun b u z => by have z' : (none : Option HO) = some u := z; cases z') (fun b z => absurd rfl z) fun z => absurd rfl z
 | none =>
  refine core (fun b => if b = a then some (.frz { cls := .type "list", data := .seq vs.toArray } (.lst (ns.map V.int))) else none) (fun b => ?_) (.inl (.inr ⟨{ cls := .type "list", data := .seq vs.toArray }, if_pos rfl⟩)) (fun b u z => ?_) (fun b z => ?_) fun _ => hk
  ·by_cases hb : b = a
   ·exact .inr ⟨_, _, if_pos hb⟩
   ·exact .inl (if_neg hb)
  ·by_cases hb : b = a
   ·have z' := (if_pos hb).symm.trans z
    cases z'
    subst hb
    exact ⟨ha, by rw [List.length_map]; exact hl, vs, _, rv, ha⟩
   ·have z' := (if_neg hb).symm.trans z
    cases z'
  ·by_cases hb : b = a
   ·exact hb
   ·exact absurd (if_neg hb) z
abbrev KOf {K : PySem.W.Frag} {h : Heap} (_ : K.In h) : PySem.W.Frag := K
theorem walk_of {l : PySem.W.OpenLaw} {n k : Nat} {q : Program} {loose : List Str} {XP : (Str → Option Value) → Heap → Prop} {YP : World → Heap → Prop} {d : DefRec} {K : Params → PySem.W.Frag} {CX : World → CXT} {sp : World → Sp} {x : Str}
  (hn : l.most = some n) (hn2 : n ≤ sizeLine) (hdf : d.params.defaults = []) (hr : Room k callerA)
  (hY : ∀ (w : World) (h : Heap), YP w h → (K w.params).In h)
  (F : ∀ (w : World) (mg : Str → Option Value) (fa : Addr) (h : Heap), (K w.params).In h → h.Ns mainGlobals mg → mg d.name = some (.ref fa) →
   ∃ fd : FuncData, (∀ (s : Shared) (u : Value), BindsTo s fd ⟨[u], []⟩ [(x, u)]) ∧
    ∀ base : Heap, (K w.params).In base → base.Ns mainGlobals mg → FnOk l.prog w (K w.params) mg base (CX w) k fa fd [x] (sp w))
  (hsp : ∀ (w : World) (H : Hp) (a : Addr) (ns : List Int), ns.length ≤ n → Only H → SqL (K w.params) H a (ns.map V.int) → sp w [.ref a] H (fun v _ => v = .bl true) fun _ _ _ => False)
  (hCX : ∀ (w : World) (H : Hp) (s : Shared) (e : Value) (s' : Shared), CX w [] H s (fun _ _ _ => False) e s' → False) :
  PySem.W.WalkO q loose XP YP l.row.toRowW d [] (fun f vs => PySem.call f vs) := by
 refine Att.attach_call hn hdf fun w s₀ s₁ mg mb fa o pm cd doc a vs ns G Y ho hd hcd hmg hobj hints hlen hg => ?_
 have KX := hY w _ Y
 obtain ⟨fd, hb, hF⟩ := F w mg fa _ KX G.T.g hmg
 exact law_call KX G.T.g G.T.b G.T.builtins G.T.nolimit hg hobj hints (Nat.le_trans hlen hn2) hr hF hb (fun H hO hS => hsp w H a ns hlen hO hS) fun H e s' => hCX w H s₁ e s'
end L2
/- THE LAST THEOREM (shape; LID, My.* are yours):
   My.Adr: a structure of the addresses that your layer names (classes, functions); My.Txt K t: a structure (Prop) of the equations over K;
   My.txt_mk : {K} {implicit addresses ..} (e1 : nsIn K mainGlobals "law" = some (some (.ref f))) (e2 : K.lookup f = some ⟨oc, od, .func (fnOf "law" "law" params body scope dV kV doc pm an cdv ct), sl⟩) (e3 : codeIn K cdv "law" = true) .. : ∃ t, My.Txt K t
set_option maxRecDepth 100000 in
set_option maxHeartbeats 0 in
theorem PySem.Challenge.cw_LID_holds : PySem.Challenge.rw_LID.Holds := by
 w_on; o_law; k_head; (case hw => w_witness2)
 k_fill
 refine L2.walk_of (l := PySem.Challenge.rw_LID) (n := 63) (k := 40) (x := "script") (CX := fun w => ..) (sp := fun _ => My.sp_law) rfl (by decide) rfl ⟨rfl, by decide, by decide⟩ (fun w h Y => PySem.W.kIn_of Y) ?F ?S ?C
 case F =>
  intro w mg fa h KX G hmg
  have T : ∃ t, My.Txt (L2.KOf KX) t := by
   dsimp only [L2.KOf]                          -- K must stand as «<heap const> w.params» for k_is
   refine' My.txt_mk ?e1 ?e2 ?e3 ..
   (case e1 => PySem.W.k_is)                    -- in the order: a name -> its address -> its object -> its parts
   (case e2 => PySem.W.k_is)
   ..
  obtain ⟨t, T⟩ := T
  have e0 := hmg.symm.trans (PySem.W.mg_of KX G T.law)
  cases e0                                       -- fa is the law's own address
  exact ⟨_, fun s u => .of_eq rfl, fun base kb nb => My.law_fn T kb nb⟩     -- if «.of_eq rfl» comes too early: refine' ⟨_, ?b, fun base kb nb => My.law_fn T kb nb⟩; exact fun s u => .of_eq rfl
 case S => exact fun w H a ns hl hO hS => ..
 case C => exact ..
(the tactic k_is has no namespace: write k_is) -/
namespace L2
open PySem PySem.Spec PyProof.Rows
def defArgs (s : Stmt) : Arguments := match s with
 | .FunctionDef _ a _ _ _ _ _ _ _ _ => a
 | _ => { posonlyargs := [], args := [], vararg := none, kwonlyargs := [], kw_defaults := [], kwarg := none, defaults := [] }
def defBody (s : Stmt) : List Stmt := match s with
 | .FunctionDef _ _ b _ _ _ _ _ _ _ => b
 | _ => []
def defScope (s : Stmt) : Scope := match s with
 | .FunctionDef _ _ _ _ _ _ sc _ _ _ => sc
 | _ => { kind := .function, names := [], isGenerator := false, isCoroutine := false }
abbrev CX0 : CXT := fun _ _ _ _ _ _ => False
abbrev E0 : XK := fun _ _ _ => False
theorem pass0 {X : Cx} : Passes CX0 X E0 := fun _ _ _ _ _ _ _ h => h.elim
structure Fun (K : PySem.W.Frag) (x qual : Str) (st : Stmt) (f : Addr) (fd : FuncData) : Prop where
 ex : ∃ (oc : Value) (od : Option Addr) (kV doc pm : Value) (an : Option Addr) (cdv ct : Value) (osl : Array (Option Value)),
  fd = PySem.W.fnOf x qual (defArgs st) (defBody st) (defScope st) .none kV doc pm an cdv ct ∧ K.lookup f = some ⟨oc, od, .func fd, osl⟩ ∧ PySem.W.codeIn K cdv qual = true
 kp : PySem.W.keepIn K (.ref f) = true
section
variable {P : Program} {w : World} {K : PySem.W.Frag} {mg : Str → Option Value} {base : Heap}
theorem Fun.ok {x qual : Str} {st : Stmt} {f : Addr} {fd : FuncData} {N ps : List Str} {k : Nat} {sp : Sp} (F : Fun K x qual st f fd) (S : FnScope N ps (defScope st)) (len : ∀ vs H Q E, sp vs H Q E → vs.length = ps.length)
  (hbody : ∀ (cdv : Value) (A : Around) (outer : List Env) (s : Shared) (H : Hp) (vs : List V) (Q : VK) (E : XK), Room k (A.deeper (envOfC qual (defScope st) s.heap.objs.size f cdv)) → sp vs H Q E →
   ∃ t, PSs (cxOf CX0 P w K mg base N qual (defScope st) f cdv A outer s H E).nox (defBody st) t ∧ t { nx := fun _ H' => Q .non H', rt := Q } (start N vs) H) : FnOk P w K mg base CX0 (k + 1) f fd ps sp := by
 obtain ⟨oc, od, kV, doc, pm, an, cdv, ct, osl, rfl, lk, hcd⟩ := F.ex
 refine fn_of lk hcd S len fun A outer s H vs Q E hr hsp => ?_
 obtain ⟨t, h, q⟩ := hbody cdv A outer s H vs Q E hr hsp
 exact ⟨t, h.nox, q⟩
theorem Fun.binds {x qual : Str} {st : Stmt} {f : Addr} {fd : FuncData} {ps : List Str} (F : Fun K x qual st f fd)
  (h : ∀ (kV doc pm : Value) (an : Option Addr) (cdv ct : Value) (us : List Value), us.length = ps.length → bindArgs (PySem.W.fnOf x qual (defArgs st) (defBody st) (defScope st) .none kV doc pm an cdv ct) ⟨us, []⟩ = pure (ps.zip us)) : Binds K fd ps [] := by
 obtain ⟨oc, od, kV, doc, pm, an, cdv, ct, osl, rfl, lk, hcd⟩ := F.ex
 exact .all (h kV doc pm an cdv ct)
theorem fun_mk {x qual : Str} {st : Stmt} {f : Addr} {oc : Value} {od an : Option Addr} {osl : Array (Option Value)} {kV doc pm cdv ct : Value} (l : K.lookup f = some ⟨oc, od, .func (PySem.W.fnOf x qual (defArgs st) (defBody st) (defScope st) .none kV doc pm an cdv ct), osl⟩)
  (c : PySem.W.codeIn K cdv qual = true) (k : PySem.W.keepIn K (.ref f) = true) : Fun K x qual st f (PySem.W.fnOf x qual (defArgs st) (defBody st) (defScope st) .none kV doc pm an cdv ct) := ⟨⟨oc, od, kV, doc, pm, an, cdv, ct, osl, rfl, l, c⟩, k⟩
end
theorem hu_of {A : Around} {k : Nat} (hr : Room k A) : A.units + 1 < cLine := Nat.lt_of_le_of_lt (Nat.add_le_add_left (by decide : 1 ≤ 64) _) hr.units
theorem small1000 {n : Nat} (h : n ≤ 1000) : n < sizeLine := Nat.lt_of_le_of_lt h (by decide)
section
variable {X : Cx}
end
theorem iteF {A B : Prop} (h : B) : if false = true then A else B := by
 rw [if_neg Bool.false_ne_true]
 exact h
theorem iteT {A B : Prop} (h : A) : if true = true then A else B := by
 rw [if_pos rfl]
 exact h
def Same (H H' : Hp) : Prop := ∀ b o, H b = some o → H' b = some o
theorem Same.refl (H : Hp) : Same H H := fun _ _ h => h
theorem Same.trans {H H1 H2 : Hp} (a : Same H H1) (b : Same H1 H2) : Same H H2 := fun c o h => b c o (a c o h)
end L2
namespace L2
open PySem
end L2
namespace K29
open PySem L2
def top (i : Nat) : Stmt := PySem.Challenge.pw_dropsums_k29_whole_facts_hold.main.body.getD i (.Pass ⟨0, 0, 0, 0⟩)
def dE (P : Params) (x : Str) (t : Nat) (v : Value) : DictEntry := ⟨PyData.keyHash P x, .str x t, v⟩
def cO (n : Str) (t : Nat) (q : Str) (t1 t2 : Nat) (l a f : Int) (r s x y z : Value) (k : Int) (t3 : Nat) : Obj :=
 ⟨.type "code", none, .fields #[.str n t, .str q t1, .str "/claim/cut.py" t2, .int l 0, .int a 0, .int 0 0, .int 0 0, .int f 0, r, .bool true, .int 181 0, s, .none, x, y, z, .int k 0, .int l 0, .str "/claim/cut.py" t3], #[]⟩
def fO (n q : Str) (s : Stmt) (m : Str) (t c : Nat) : Obj := ⟨.type "function", none, .func (PySem.W.fnOf n q (defArgs s) (defBody s) (defScope s) .none .none .none (.str m t) none (.ref c) .none), #[]⟩
def KK : Params → PySem.W.Frag := fun P =>
 (nat_lit 3, ⟨(.type "dict"), none, (.dict #[dE P "__name__" 165 (.str "law_dropsums_k29_whole_facts_hold" 332), dE P "__doc__" 166 .none, dE P "__package__" 167 .none, dE P "__loader__" 168 (.builtin "__main__.__loader__#opaque"), dE P "__spec__" 169 .none, dE P "__annotations__" 170 (.ref 6), dE P "__builtins__" 171 (.ref 4), dE P "__file__" 173 (.str "/claim/cut.py" 172), dE P "__cached__" 174 .none, dE P "common_divisor" 199 (.ref 21), dE P "without_divisor" 205 (.ref 26), dE P "times_added" 211 (.ref 31), dE P "SORTS" 213 (.int 0 212), dE P "RULES" 215 (.int 1 214), dE P "INPUTS" 217 (.int 2 216), dE P "BEGIN" 219 (.int 3 218), dE P "TAKES" 221 (.int 0 220), dE P "GIVES" 223 (.int 1 222), dE P "BY_INPUTS" 227 (.int 0 226), dE P "BY_SORTS" 229 (.int 1 228), dE P "PLUS" 231 (.int 2 230), dE P "form_of_amount" 239 (.ref 38), dE P "form_of_drops" 247 (.ref 45), dE P "noughts" 253 (.ref 50), dE P "one_at" 259 (.ref 55), dE P "so_often" 265 (.ref 60), dE P "facts_of" 273 (.ref 65), dE P "form_of_kept" 279 (.ref 70), dE P "reduced" 287 (.ref 75), dE P "first_with" 297 (.ref 82), dE P "without_column" 303 (.ref 87), dE P "nought_maker" 309 (.ref 92), dE P "common_multiple" 317 (.ref 99), dE P "all_kept" 325 (.ref 104), dE P "change_of" 331 (.ref 109), dE P "_law_tape" 340 (.ref 116), dE P "_law_draw" 351 (.ref 123), dE P "_law_names" 357 (.ref 128), dE P "_law_rule" 368 (.ref 135), dE P "_law_pot" 374 (.ref 140), dE P "_law_shape" 380 (.ref 145), dE P "_law_order" 386 (.ref 150), dE P "_law_family" 392 (.ref 155), dE P "_law_at" 403 (.ref 162), dE P "_law_kepts" 409 (.ref 167), dE P "_law_steps" 415 (.ref 172), dE P "law" 421 (.ref 177)] 47), #[]⟩) ::
 (nat_lit 20, cO "common_divisor" 189 "common_divisor" 190 191 2 1 3 (.ref 15) (.ref 16) (.ref 17) (.ref 18) (.ref 19) 197 198) ::
 (nat_lit 21, fO "common_divisor" "common_divisor" (top 1) "dropsums.wholes" 187 20) ::
 (nat_lit 25, cO "without_divisor" 200 "without_divisor" 201 202 11 1 3 (.ref 22) (.ref 23) .none .none (.ref 24) 203 204) ::
 (nat_lit 26, fO "without_divisor" "without_divisor" (top 2) "dropsums.wholes" 187 25) ::
 (nat_lit 30, cO "times_added" 206 "times_added" 207 208 14 2 3 (.ref 27) (.ref 28) .none .none (.ref 29) 209 210) ::
 (nat_lit 31, fO "times_added" "times_added" (top 3) "dropsums.wholes" 187 30) ::
 (nat_lit 37, cO "form_of_amount" 232 "form_of_amount" 233 234 26 2 3 (.ref 32) (.ref 33) (.ref 34) (.ref 35) (.ref 36) 237 238) ::
 (nat_lit 38, fO "form_of_amount" "form_of_amount" (top 14) "dropsums.forms" 224 37) ::
 (nat_lit 44, cO "form_of_drops" 240 "form_of_drops" 241 242 28 2 3 (.ref 39) (.ref 40) (.ref 41) (.ref 42) (.ref 43) 245 246) ::
 (nat_lit 45, fO "form_of_drops" "form_of_drops" (top 15) "dropsums.forms" 224 44) ::
 (nat_lit 49, cO "noughts" 248 "noughts" 249 250 30 1 3 (.ref 46) (.ref 47) .none .none (.ref 48) 251 252) ::
 (nat_lit 50, fO "noughts" "noughts" (top 16) "dropsums.forms" 224 49) ::
 (nat_lit 54, cO "one_at" 254 "one_at" 255 256 32 2 3 (.ref 51) (.ref 52) .none .none (.ref 53) 257 258) ::
 (nat_lit 55, fO "one_at" "one_at" (top 17) "dropsums.forms" 224 54) ::
 (nat_lit 59, cO "so_often" 260 "so_often" 261 262 34 2 3 (.ref 56) (.ref 57) .none .none (.ref 58) 263 264) ::
 (nat_lit 60, fO "so_often" "so_often" (top 18) "dropsums.forms" 224 59) ::
 (nat_lit 64, cO "facts_of" 268 "facts_of" 269 270 37 2 3 (.ref 61) (.ref 62) .none .none (.ref 63) 271 272) ::
 (nat_lit 65, fO "facts_of" "facts_of" (top 20) "dropsums.facts" 266 64) ::
 (nat_lit 69, cO "form_of_kept" 274 "form_of_kept" 275 276 44 2 3 (.ref 66) (.ref 67) .none .none (.ref 68) 277 278) ::
 (nat_lit 70, fO "form_of_kept" "form_of_kept" (top 21) "dropsums.facts" 266 69) ::
 (nat_lit 74, cO "reduced" 282 "reduced" 283 284 48 2 3 (.ref 71) (.ref 72) .none .none (.ref 73) 285 286) ::
 (nat_lit 75, fO "reduced" "reduced" (top 23) "dropsums.elimination" 280 74) ::
 (nat_lit 81, cO "first_with" 288 "first_with" 289 290 60 3 3 (.ref 76) (.ref 77) (.ref 78) (.ref 79) (.ref 80) 295 296) ::
 (nat_lit 82, fO "first_with" "first_with" (top 24) "dropsums.elimination" 280 81) ::
 (nat_lit 86, cO "without_column" 298 "without_column" 299 300 65 3 3 (.ref 83) (.ref 84) .none .none (.ref 85) 301 302) ::
 (nat_lit 87, fO "without_column" "without_column" (top 25) "dropsums.elimination" 280 86) ::
 (nat_lit 91, cO "nought_maker" 304 "nought_maker" 305 306 69 4 3 (.ref 88) (.ref 89) .none .none (.ref 90) 307 308) ::
 (nat_lit 92, fO "nought_maker" "nought_maker" (top 26) "dropsums.elimination" 280 91) ::
 (nat_lit 98, cO "common_multiple" 310 "common_multiple" 311 312 78 2 3 (.ref 93) (.ref 94) (.ref 95) (.ref 96) (.ref 97) 315 316) ::
 (nat_lit 99, fO "common_multiple" "common_multiple" (top 27) "dropsums.elimination" 280 98) ::
 (nat_lit 103, cO "all_kept" 320 "all_kept" 321 322 81 1 3 (.ref 100) (.ref 101) .none .none (.ref 102) 323 324) ::
 (nat_lit 104, fO "all_kept" "all_kept" (top 29) "dropsums.staying" 318 103) ::
 (nat_lit 108, cO "change_of" 326 "change_of" 327 328 85 1 3 (.ref 105) (.ref 106) .none .none (.ref 107) 329 330) ::
 (nat_lit 109, fO "change_of" "change_of" (top 30) "dropsums.staying" 318 108) ::
 (nat_lit 115, cO "_law_tape" 334 "_law_tape" 335 336 88 1 3 (.ref 110) (.ref 111) (.ref 112) (.ref 113) (.ref 114) 338 339) ::
 (nat_lit 116, fO "_law_tape" "_law_tape" (top 32) "law_dropsums_k29_whole_facts_hold" 332 115) ::
 (nat_lit 122, cO "_law_draw" 341 "_law_draw" 342 343 90 2 3 (.ref 117) (.ref 118) (.ref 119) (.ref 120) (.ref 121) 349 350) ::
 (nat_lit 123, fO "_law_draw" "_law_draw" (top 33) "law_dropsums_k29_whole_facts_hold" 332 122) ::
 (nat_lit 127, cO "_law_names" 352 "_law_names" 353 354 104 2 3 (.ref 124) (.ref 125) .none .none (.ref 126) 355 356) ::
 (nat_lit 128, fO "_law_names" "_law_names" (top 34) "law_dropsums_k29_whole_facts_hold" 332 127) ::
 (nat_lit 134, cO "_law_rule" 358 "_law_rule" 359 360 109 2 3 (.ref 129) (.ref 130) (.ref 131) (.ref 132) (.ref 133) 366 367) ::
 (nat_lit 135, fO "_law_rule" "_law_rule" (top 35) "law_dropsums_k29_whole_facts_hold" 332 134) ::
 (nat_lit 139, cO "_law_pot" 369 "_law_pot" 370 371 119 3 3 (.ref 136) (.ref 137) .none .none (.ref 138) 372 373) ::
 (nat_lit 140, fO "_law_pot" "_law_pot" (top 36) "law_dropsums_k29_whole_facts_hold" 332 139) ::
 (nat_lit 144, cO "_law_shape" 375 "_law_shape" 376 377 129 2 3 (.ref 141) (.ref 142) .none .none (.ref 143) 378 379) ::
 (nat_lit 145, fO "_law_shape" "_law_shape" (top 37) "law_dropsums_k29_whole_facts_hold" 332 144) ::
 (nat_lit 149, cO "_law_order" 381 "_law_order" 382 383 147 2 3 (.ref 146) (.ref 147) .none .none (.ref 148) 384 385) ::
 (nat_lit 150, fO "_law_order" "_law_order" (top 38) "law_dropsums_k29_whole_facts_hold" 332 149) ::
 (nat_lit 154, cO "_law_family" 387 "_law_family" 388 389 150 1 3 (.ref 151) (.ref 152) .none .none (.ref 153) 390 391) ::
 (nat_lit 155, fO "_law_family" "_law_family" (top 39) "law_dropsums_k29_whole_facts_hold" 332 154) ::
 (nat_lit 161, cO "_law_at" 393 "_law_at" 394 395 160 3 3 (.ref 156) (.ref 157) (.ref 158) (.ref 159) (.ref 160) 401 402) ::
 (nat_lit 162, fO "_law_at" "_law_at" (top 40) "law_dropsums_k29_whole_facts_hold" 332 161) ::
 (nat_lit 166, cO "_law_kepts" 404 "_law_kepts" 405 406 167 2 3 (.ref 163) (.ref 164) .none .none (.ref 165) 407 408) ::
 (nat_lit 167, fO "_law_kepts" "_law_kepts" (top 41) "law_dropsums_k29_whole_facts_hold" 332 166) ::
 (nat_lit 171, cO "_law_steps" 410 "_law_steps" 411 412 179 2 3 (.ref 168) (.ref 169) .none .none (.ref 170) 413 414) ::
 (nat_lit 172, fO "_law_steps" "_law_steps" (top 42) "law_dropsums_k29_whole_facts_hold" 332 171) ::
 (nat_lit 176, cO "law" 416 "law" 417 418 185 1 3 (.ref 173) (.ref 174) .none .none (.ref 175) 419 420) ::
 (nat_lit 177, fO "law" "law" (top 43) "law_dropsums_k29_whole_facts_hold" 332 176) :: []
def KA : List Addr := 3 :: 20 :: 21 :: 25 :: 26 :: 30 :: 31 :: 37 :: 38 :: 44 :: 45 :: 49 :: 50 :: 54 :: 55 :: 59 :: 60 :: 64 :: 65 :: 69 :: 70 :: 74 :: 75 :: 81 :: 82 :: 86 :: 87 :: 91 :: 92 :: 98 :: 99 :: 103 :: 104 :: 108 :: 109 :: 115 :: 116 :: 122 :: 123 :: 127 :: 128 :: 134 :: 135 :: 139 :: 140 :: 144 :: 145 :: 149 :: 150 :: 154 :: 155 :: 161 :: 162 :: 166 :: 167 :: 171 :: 172 :: 176 :: 177 :: []
theorem ke : ∀ P, KA = (KK P).map (·.1) := fun _ => by kernel_rfl
def VW : Program := { PySem.Challenge.pw_dropsums_k29_whole_facts_hold with main := { PySem.Challenge.pw_dropsums_k29_whole_facts_hold.main with body := ([1, 2, 3, 4, 5, 6, 7, 8, 9, 11, 12, 13, 14, 15, 16, 17, 18, 20, 21, 23, 24, 25, 26, 27, 29, 30, 32, 33, 34, 35, 36, 37, 38, 39, 40, 41, 42, 43] : List Nat).map top } }
abbrev RR := PySem.Challenge.rw_dropsums_k29_whole_facts_hold.row
theorem said0 : PySem.Challenge.rw_dropsums_k29_whole_facts_hold.wellSaid = true := by decide +kernel
theorem left0 : PySem.W.LeftO RR.prog VW [] (fun s => PySem.W.xlAt VW [] s && PySem.W.recOk (PySem.W.RowW.records RR.toRowW) s) (PySem.W.Hook.obs (PySem.W.kHook KK KA ke)) (PySem.W.Hook.val (PySem.W.kHook KK KA ke)) 2002 := fun w => by kernel_rfl
end K29
namespace L2
open PySem PySem.Spec PyProof.Rows
section
variable {P : Program} {w : World} {A : Around} {R : Result → Shared → Prop} {s : Shared}
theorem comp_loop {elt tgt iter : Expr} {ifs : List Expr} {scope : Scope} {pos : Pos} {it acc : Value} {env : Env} (J : Nat → Shared → Prop)
  (turn : ∀ n s, J n s → wpAny (model P w) A (pyNext it) (fun r c₁ => match r with
   | none => R (.ok .next) c₁
   | some v => wpAny (model P w) A (letOwnedTupleGo tgt it v) (fun _ d₁ => wpAny (model P w) A (assign tgt env v) (fun _ c₂ =>
     wpAny (model P w) A (forIn ifs true fun c r => if r = true then do let ok ← isTrue c env (eval c env); pure (ForInStep.yield ok) else pure (ForInStep.yield r)) (fun ok c₃ =>
      if ok = true then wpAny (model P w) A (eval elt env) (fun x c₄ =>
       wpAny (model P w) A (call (.builtin "list.append") [acc, x]) (fun _ c₅ => ∃ m, m < n ∧ J m c₅) (notedBy (model P w) A env fun e s' => R (.error e) s') c₄) (notedBy (model P w) A env fun e s' => R (.error e) s') c₃
      else ∃ m, m < n ∧ J m c₃) (notedBy (model P w) A env fun e s' => R (.error e) s') c₂) (notedBy (model P w) A env fun e s' => R (.error e) s') d₁) (notedBy (model P w) A env fun e s' => R (.error e) s') c₁) (notedBy (model P w) A env fun e s' => R (.error e) s') s)
  (n : Nat) (hn : J n s) :
  codeAny (model P w) A (.compLoop (.ListComp elt [⟨tgt, iter, ifs, 0⟩] scope pos) 0 it acc env) R s := by
 refine codeAny_loop rfl J (fun n s hJ => ?_) n hn
 show wpAny _ A ((compTurn (.ListComp elt [⟨tgt, iter, ifs, 0⟩] scope pos) 0 it acc env).onRaise (fun x => do noteFrame x env; theTreesLotGoes x)) _ _ s
 refine wpAny_noted ?_
 rw [compTurn_list]
 refine wpAny_bind (wpAny_standAt (wpAny_bind (wpAny_mono (turn n s hJ) (fun r c₁ e₁ => ?_) fun _ _ z => z)))
 cases r with
 | none => exact wpAny_pure e₁
 | some v =>
  refine wpAny_bind (wpAny_mono e₁ (fun _ d₁ f₁ => ?_) fun _ _ z => z)
  refine wpAny_bind (wpAny_mono f₁ (fun _ c₂ e₂ => wpAny_bind (wpAny_mono e₂ (fun ok c₃ e₃ => ?_) fun _ _ z => z)) fun _ _ z => z)
  cases ok with
  | false => exact wpAny_pure ⟨rfl, e₃⟩
  | true =>
   exact wpAny_bind (wpAny_bind (wpAny_mono e₃ (fun x c₄ e₄ => wpAny_bind (wpAny_mono e₄ (fun _ c₅ e₅ => wpAny_pure (wpAny_pure ⟨rfl, e₅⟩)) fun _ _ z => z)) fun _ _ z => z))
end
def cloF (env : Env) : List (Str × NameKind) → List (Str × Addr) → List (Str × Addr)
 | [], acc => acc
 | (n, k) :: r, acc => if k = .free then cloF env r ((n, (env.cells.lookup n).getD 0) :: acc) else cloF env r acc
theorem closure_go {env : Env} : ∀ (names : List (Str × NameKind)) (acc : List (Str × Addr)), (∀ x ∈ names, x.2 = .free → ∃ c, env.cells.lookup x.1 = some c) →
  (forIn names acc (fun (x : Str × NameKind) (cs : List (Str × Addr)) => (if (x.2 == NameKind.free) = true then do let a ← cellOf env x.1; pure (ForInStep.yield ((x.1, a) :: cs)) else pure (ForInStep.yield cs) : Sem (ForInStep (List (Str × Addr))))) : Sem (List (Str × Addr))) = pure (cloF env names acc)
 | [], acc, _ => by simp [cloF]
 | (n, k) :: r, acc, h => by
  have ih := fun acc => closure_go (env := env) r acc fun x hx => h x (List.mem_cons_of_mem _ hx)
  rw [List.forIn_cons]
  by_cases hk : k = .free
  ·subst hk
   obtain ⟨c, hc⟩ := h (n, .free) List.mem_cons_self rfl
   have hc' : env.cells.lookup n = some c := hc
   have e : cellOf env n = pure c := by unfold cellOf; rw [hc']
   simp only [cloF, if_true, hc', Option.getD_some, beq_self_eq_true, e, pure_bind]
   exact ih _
  ·have hb : (k == NameKind.free) = false := by simpa using hk
   simp only [cloF, hk, if_false, hb, Bool.false_eq_true, pure_bind]
   exact ih _
theorem closure_eq {env : Env} {scope : Scope} (h : ∀ x ∈ scope.names, x.2 = .free → ∃ c, env.cells.lookup x.1 = some c) : closureFor scope env = pure (cloF env scope.names []) := by
 rw [← closure_go scope.names [] h]
 unfold closureFor
 simp only [bind_pure]
theorem cloF_lookup {env : Env} {y : Str} : ∀ (names : List (Str × NameKind)) (acc : List (Str × Addr)), (cloF env names acc).lookup y = if (y, NameKind.free) ∈ names then some ((env.cells.lookup y).getD 0) else acc.lookup y
 | [], acc => by simp [cloF]
 | (n, k) :: r, acc => by
  unfold cloF
  by_cases hk : k = .free
  ·subst hk
   rw [if_pos rfl, cloF_lookup r]
   by_cases hy : y = n
   ·subst hy
    simp [List.lookup_cons]
   ·have hb : (y == n) = false := by simpa using hy
    simp [List.lookup_cons, hb, hy]
  ·rw [if_neg hk, cloF_lookup r]
   have : ¬ ((y, NameKind.free) = (n, k)) := by
    intro e
    exact hk (Prod.mk.inj e).2.symm
   simp [this]
structure CScope (o sc : Scope) (TN F : List Str) : Prop where
 okind : o.kind = .function
 kind : sc.kind = .function
 nocell : ∀ y ∈ sc.names, y.2 ≠ .cell
 names : ∀ y ∈ sc.names, y.2 = .local → sc.names.lookup y.1 = some .local
 fr : ∀ y ∈ sc.names, y.2 = .free → o.names.lookup y.1 = some .cell ∧ sc.names.lookup y.1 = some .free
 ff : ∀ y ∈ F, (y, NameKind.free) ∈ sc.names
theorem relabel_free {env : Env} {y : Str} (hk : env.scope.kind = .function) (hc : env.kindOf y = some .cell) : ∀ {names : List (Str × NameKind)}, names.lookup y = some .free →
  (names.map fun (n, k) => if (k == NameKind.free && env.scope.kind == .function && env.kindOf n == some .cell) then (n, NameKind.cell) else (n, k)).lookup y = some .cell
 | [], h => by simp at h
 | (n, k) :: r, h => by
  have ih := @relabel_free env y hk hc r
  show List.lookup y ((if (k == NameKind.free && env.scope.kind == .function && env.kindOf n == some .cell) = true then (n, NameKind.cell) else (n, k)) :: _) = _
  cases hx : y == n with
  | true =>
   rw [List.lookup_cons, hx] at h
   cases h
   have e : y = n := by simpa using hx
   subst e
   rw [if_pos (by simp [hk, hc])]
   simp [List.lookup_cons]
  | false =>
   rw [List.lookup_cons, hx] at h
   by_cases hc' : (k == NameKind.free && env.scope.kind == .function && env.kindOf n == some .cell) = true
   ·rw [if_pos hc']; simp only [List.lookup_cons, hx]; exact ih h
   ·rw [if_neg hc']; simp only [List.lookup_cons, hx]; exact ih h
theorem relabel_from {env : Env} {y : Str} : ∀ {names : List (Str × NameKind)}, (∀ z ∈ names, z.2 ≠ .cell) →
    ((names.map fun (n, k) => if (k == NameKind.free && env.scope.kind == .function && env.kindOf n == some .cell) then (n, NameKind.cell) else (n, k)).lookup y = some .cell ∨
     (names.map fun (n, k) => if (k == NameKind.free && env.scope.kind == .function && env.kindOf n == some .cell) then (n, NameKind.cell) else (n, k)).lookup y = some .free) → (y, NameKind.free) ∈ names
  | [], _, h => by simp at h
  | (n, k) :: r, hn, h => by
    have ih := @relabel_from env y r fun z hz => hn z (List.mem_cons_of_mem _ hz)
    have h' : List.lookup y ((if (k == NameKind.free && env.scope.kind == .function && env.kindOf n == some .cell) = true then (n, NameKind.cell) else (n, k)) :: (r.map fun (n, k) => if (k == NameKind.free && env.scope.kind == .function && env.kindOf n == some .cell) then (n, NameKind.cell) else (n, k))) = some .cell ∨
      List.lookup y ((if (k == NameKind.free && env.scope.kind == .function && env.kindOf n == some .cell) = true then (n, NameKind.cell) else (n, k)) :: (r.map fun (n, k) => if (k == NameKind.free && env.scope.kind == .function && env.kindOf n == some .cell) then (n, NameKind.cell) else (n, k))) = some .free := h
    clear h
    cases hx : y == n with
    | true =>
      have e : y = n := by simpa using hx
      subst e
      by_cases hc' : (k == NameKind.free && env.scope.kind == .function && env.kindOf y == some .cell) = true
      · have hk : k = .free := by
          have := (Bool.and_eq_true _ _ ▸ (Bool.and_eq_true _ _ ▸ hc').1).1
          simpa using this
        subst hk
        exact List.mem_cons_self
      · rw [if_neg hc'] at h'
        simp only [List.lookup_cons, beq_self_eq_true] at h'
        rcases h' with h' | h'
        · cases h'
          exact absurd rfl (hn _ List.mem_cons_self)
        · cases h'
          exact List.mem_cons_self
    | false =>
      by_cases hc' : (k == NameKind.free && env.scope.kind == .function && env.kindOf n == some .cell) = true
      · rw [if_pos hc'] at h'; simp only [List.lookup_cons, hx] at h'; exact List.mem_cons_of_mem _ (ih h')
      · rw [if_neg hc'] at h'; simp only [List.lookup_cons, hx] at h'; exact List.mem_cons_of_mem _ (ih h')
def cxC (X : Cx) (N : List Str) (sc : Scope) (cl : List (Str × Addr)) (C : Addr) (fp : List Addr) (s₃ : Shared) (H₃ : Hp) (xe : Value → Shared → Prop) : Cx :=
 { X with N := N, s₀ := s₃, H₀ := H₃, env := compEnvC sc cl C X.env, outer := X.stack, ex := fp, fn := fun _ => false, pn := [], xe := xe }
def sub (ix : List Nat) (σ : St) : St := ix.map fun i => (σ[i]?).join
theorem inv_comp {X : Cx} {pins : List (Addr × Obj)} {σ : St} {H : Hp} {s : Shared} {sc : Scope} {TN F : List Str} {ix : List Nat} {fp : List Addr} {h4 : Heap} {tk : Nat} {m : Str → Option Value} {xe : Value → Shared → Prop}
  (S : CScope X.env.scope sc TN F) (hix : ix.map (fun i => X.N[i]?) = F.map some) (I : Inv X pins σ H s) (hf : ∀ b ∈ fp, FpOk X pins H b) (ho : ∀ b ∈ fp, ∃ o, s.heap.get? b = some o)
  (hk : ∀ b o, s.heap.get? b = some o → h4.get? b = some o) (hn : h4.Ns s.heap.objs.size m) :
  Inv (cxC X (TN ++ F) sc (cloF X.env sc.names []) s.heap.objs.size fp s H xe) [] (List.replicate TN.length none ++ sub ix σ) H { s with heap := h4, toks := tk } := by
 have cl : ∀ x c, (cloF X.env sc.names []).lookup x = some c → X.env.cells.lookup x = some c := fun x c e => by
  rw [cloF_lookup] at e
  by_cases hx : (x, NameKind.free) ∈ sc.names
  ·rw [if_pos hx] at e
   obtain ⟨c', hc'⟩ := I.ok.has x (.inl (S.fr _ hx rfl).1)
   rw [hc'] at e ⊢
   exact e
  ·rw [if_neg hx] at e
   cases e
 have cl' : ∀ x, (x, NameKind.free) ∈ sc.names → (cloF X.env sc.names []).lookup x = X.env.cells.lookup x := fun x hx => by
  rw [cloF_lookup, if_pos hx]
  obtain ⟨c', hc'⟩ := I.ok.has x (.inl (S.fr _ hx rfl).1)
  rw [hc']
  rfl
 have hlen : ix.length = F.length := by
  have := congrArg List.length hix
  simpa using this
 refine ⟨⟨I.ok.mod, S.kind, I.ok.glob, I.ok.blt, Nat.le_refl _, fun x y c h1 h2 => I.ok.inj x y c (cl x c h1) (cl y c h2), fun x hx => ?_, fun x c z => (nomatch z), I.ok.hd, I.ok.frames, .inl rfl, fun b hb => ⟨?_, fun x c e => (hf b hb).2.2.2.2.1 x c (cl x c e)⟩,
  I.bs, Nat.le_trans I.ok.bsz I.sz, fun b o e hb => ?_, fun b hb hfs => ?_, I.stack, I.stkFree⟩, rfl, I.bare, Un.kept hk, ⟨m, hn, fun i x v h1 h2 h3 => ?_⟩, fun x c e => ?_, I.hok.fresh (Nat.le_refl _), fun x c e => I.freeC x c (cl x c e), fun p hp => absurd (show p ∈ ([] : List (Addr × Obj)) from hp) (by simp), I.hok.kept hk, ?_⟩
 ·have hx' : (x, NameKind.free) ∈ sc.names := relabel_from (env := X.env) S.nocell hx
  obtain ⟨c, hc⟩ := I.ok.has x (.inl (S.fr _ hx' rfl).1)
  exact ⟨c, (cl' x hx').trans hc⟩
 ·obtain ⟨o, e⟩ := ho b hb
  exact Nat.ne_of_lt (Heap.lt_size e)
 ·rcases (hf b hb).2.2.2.1 with z | z
  ·exact I.ok.noex b o e z
  ·exact absurd (Nat.lt_of_lt_of_le (Heap.lt_size e) (Nat.le_trans I.ok.bsz z)) (Nat.lt_irrefl _)
 ·rcases List.mem_cons.mp (I.stkSub b hfs) with z | z
  ·exact (hf b hb).2.1 z
  ·exact (hf b hb).2.2.1 z
 ·have hi : TN.length ≤ i := by
   apply Nat.le_of_not_lt
   intro hlt
   rw [List.getElem?_append_left (by simpa using hlt), List.getElem?_replicate] at h2
   split at h2 <;> cases h2
  rw [List.getElem?_append_right (by simpa using hi), List.length_replicate] at h2
  have h1' : F[i - TN.length]? = some x := by
   have : (TN ++ F)[i]? = some x := h1
   rw [List.getElem?_append_right hi] at this
   exact this
  have e3 := congrArg (fun l => l[i - TN.length]?) hix
  simp only [List.getElem?_map, h1', Option.map_some] at e3
  unfold sub at h2
  rw [List.getElem?_map] at h2
  cases ej : ix[i - TN.length]? with
  | none => rw [ej] at h2; cases h2
  | some k =>
   rw [ej] at h2 e3
   have h2' : (σ[k]?).join = some v := Option.some.inj h2
   have e3' : X.N[k]? = some x := Option.some.inj e3
   have hσ : σ[k]? = some (some v) := by
    cases e : σ[k]? with
    | none => rw [e] at h2'; cases h2'
    | some q =>
     rw [e] at h2'
     have : q = some v := h2'
     rw [this]
   have hfr := S.ff x (List.mem_of_getElem? h1')
   have hcell := (S.fr _ hfr rfl).1
   obtain ⟨m0, hn0, hl0⟩ := I.loc
   obtain ⟨u, r, l⟩ := hl0 k x v e3' hσ (.inr (.inl hcell))
   refine ⟨u, r, ?_⟩
   rcases l with ⟨l1, _⟩ | ⟨_, c, hc, o, ho', hd⟩
   ·have l1' : X.env.scope.names.lookup x = some .local := l1
    rw [hcell] at l1'
    cases l1'
   ·exact .inr ⟨.inl (relabel_free (env := X.env) S.okind hcell (S.fr _ hfr rfl).2), c, (cl' x hfr).trans hc, o, hk c o ho', hd⟩
 ·obtain ⟨v, o, ho', hd⟩ := I.cell x c (cl x c e)
  exact ⟨v, o, hk c o ho', hd⟩
 ·show _ = (TN ++ F).length
  rw [List.length_append, List.length_append, List.length_replicate]
  unfold sub
  rw [List.length_map, hlen]
def PTs (X : Cx) (ifs : List Expr) (tc : TT) : Prop :=
 ∀ (pins : List (Addr × Obj)) (s : Shared) (σ : St) (H : Hp) (Q : Bool → Hp → Prop), Inv X pins σ H s → tc σ H Q →
  wpAny (model X.prog X.w) X.A (forIn ifs true fun c r => if r = true then do let ok ← isTrue c X.env (eval c X.env); pure (ForInStep.yield ok) else pure (ForInStep.yield r)) (TP X pins σ Q) X.xe s
def tAll : TT := fun _ H Q => Q true H
theorem pts_nil {X : Cx} : PTs X [] tAll := fun _ _ _ H _ I h => wpAny_tests_nil ⟨H, I, h⟩
theorem pts_one {X : Cx} {c : Expr} {tc : TT} (hc : PT X c tc) : PTs X [c] tc := fun pins s σ H Q I h => wpAny_tests_one (hc pins s σ H Q I h)
def CGo (J : It) (D : Addr) (g : TG) (tc : TT) (te : TE) (Q : VK) (σ : St) (H : Hp) : Prop :=
 ∃ W : Nat → Nat → St → List V → Hp → Prop, (∃ m, W 0 m σ [] (upd H D (.lst []))) ∧ ∀ i m τ ys H, W i m τ ys H → H D = some (.lst ys) ∧
  ((J.stop i H ∧ Q (.ref D) H) ∨ (J.go i H ∧ ∀ v H', J.yld i H v H' → g v τ H' fun τ2 H2 => tc τ2 H2 fun b H3 =>
   if b = true then te τ2 H3 fun y H4 => H4 D = some (.lst ys) ∧ ys.length < sizeLine ∧ ∃ m', m' < m ∧ W (i + 1) m' τ2 (ys ++ [y]) (upd H4 D (.lst (ys ++ [y])))
   else ∃ m', m' < m ∧ W (i + 1) m' τ2 ys H3))
def tComp (wi : TI) (n : Nat) (ix : List Nat) (g : TG) (tc : TT) (te : TE) : TE := fun σ H Q => wi σ H fun J H1 => ∀ D, H1 D = none → CGo J D g tc te Q (List.replicate n none ++ sub ix σ) H1
theorem append_ok {X : Cx} {pins : List (Addr × Obj)} {σ : St} {H : Hp} {s : Shared} {D : Addr} {ys : List V} {y : V} {u : Value} {Q : Value → Shared → Prop} {E : Value → Shared → Prop} (I : Inv X pins σ H s) (hD : H D = some (.lst ys)) (hz : ys.length < sizeLine) (r : RelV y u)
  (h : ∀ s', Inv X pins σ (upd H D (.lst (ys ++ [y]))) s' → Q .none s') : wpAny (model X.prog X.w) X.A (call (.builtin "list.append") [.ref D, u]) Q E s := by
 obtain ⟨z, its, n, rr, hl, e⟩ := I.lstM hD
 refine call_meets F.slot_list_append ⟨_, e, rfl⟩ F.entry_list_append (F.args_list_append_2 _ _) (PySem.list_append D its.toArray n u (by rw [List.size_toArray]; omega)) ⟨e, ?_⟩
 refine h _ (I.lset (its' := its ++ [u]) hD e (by simp) (rr.append (.cons r .nil)) ?_)
 rw [List.length_append, List.length_singleton]
 omega
theorem comp_block {X : Cx} {pins : List (Addr × Obj)} {σ : St} {H : Hp} {s : Shared} {sc : Scope} {TN F : List Str} {ix : List Nat} {elt tg iter : Expr} {ifs : List Expr} {pos : Pos} {g : TG} {tc : TT} {te : TE} {J : It} {fp : List Addr} {it : Addr} {tn : Nat → Heap → Prop} {Q : VK}
  {RR : Value → Addr → Result → Shared → Prop} {E : Value → Shared → Prop}
  (S : CScope X.env.scope sc TN F) (hix : ix.map (fun i => X.N[i]?) = F.map some) (hc : X.calm = true) (I : Inv X pins σ H s) (T : Turn X.prog X.w X.K tg J fp it tn) (st : tn 0 s.heap) (hf : ∀ b ∈ fp, FpOk X pins H b)
  (hg : ∀ cl C fp s3 H3 xe, PG (cxC X (TN ++ F) sc cl C fp s3 H3 xe) tg g) (ht : ∀ cl C fp s3 H3 xe, PTs (cxC X (TN ++ F) sc cl C fp s3 H3 xe) ifs tc) (he : ∀ cl C fp s3 H3 xe, PE (cxC X (TN ++ F) sc cl C fp s3 H3 xe) elt te)
  (hW : ∀ D, H D = none → CGo J D g tc te Q (List.replicate TN.length none ++ sub ix σ) H)
  (fin : ∀ D C H' s', Inv X pins σ H' s' → (∃ m, s'.heap.Ns C m) → H' C = none → C ≠ X.env.locals → X.s₀.heap.objs.size ≤ C → (∀ x c, X.env.cells.lookup x = some c → c ≠ C) → (∀ p ∈ X.pn ++ pins, p.1 ≠ C) → Q (.ref D) H' → RR (.ref D) C (.ok .next) s') :
  wpAny (model X.prog X.w) X.A (newList []) (fun acc s₃ => wpAny (model X.prog X.w) X.A (newFunctionEnv sc X.env.globals (cloF X.env sc.names []) [] X.env.qual none .none (some X.env)) (fun cenv s₄ =>
   codeAny (model X.prog X.w) X.A (.compStart (.ListComp elt [⟨tg, iter, ifs, 0⟩] sc pos) 0 (.ref it) acc { cenv with scope := relabel sc X.env }) (RR acc cenv.locals) s₄) E s₃) E s := by
 have hfo : ∀ b ∈ fp, ∃ o, s.heap.get? b = some o := fun b hb => let ⟨o, e, _⟩ := T.obj 0 _ st b hb; ⟨o, e⟩
 refine wpAny_newObj_type ?_
 obtain ⟨W, ⟨m0, w0⟩, go⟩ := hW s.heap.objs.size I.fresh
 have I3 : Inv X pins σ (upd H s.heap.objs.size (.lst [])) { s with heap := s.heap.push { cls := .type "list", data := .seq ([] : List Value).toArray } } := I.lnew (its := []) (ys := []) (t' := s.toks) .nil (Nat.zero_le _)
 generalize hs3 : ({ s with heap := s.heap.push { cls := .type "list", data := .seq ([] : List Value).toArray } } : Shared) = s3 at I3
 have hk3 : ∀ b o, s.heap.get? b = some o → s3.heap.get? b = some o := fun b o e => by
  rw [← hs3]
  exact Heap.get?_push_of_some _ e
 have hf3 : ∀ b ∈ fp, FpOk X pins (upd H s.heap.objs.size (.lst [])) b := fun b hb => by
  obtain ⟨o, e⟩ := hfo b hb
  exact ⟨by rw [upd_ne (Nat.ne_of_lt (Heap.lt_size e))]; exact (hf b hb).1, (hf b hb).2⟩
 have st3 : tn 0 s3.heap := T.keep 0 _ _ st fun b hb o e => hk3 b o e
 show wpAny _ _ _ _ _ s3
 refine wpAny_newFunctionEnv S.nocell (by intro y hy; simp at hy) (fun h4 hn4 hsb => ?_) S.kind
 have hk4 : ∀ b o, s3.heap.get? b = some o → h4.get? b = some o := fun b o e => (hsb.2 b (Nat.ne_of_lt (Heap.lt_size e))).trans (Heap.get?_push_of_some _ e)
 generalize hR : RR (.ref s.heap.objs.size) s3.heap.objs.size = R
 have loop : ∀ s4 : Shared, s4 = { s3 with heap := h4, toks := s3.toks + ([] : List (Str × Value)).length } →
   codeAny (model X.prog X.w) X.A (.compLoop (.ListComp elt [⟨tg, iter, ifs, 0⟩] sc pos) 0 (.ref it) (.ref s.heap.objs.size) (compEnvC sc (cloF X.env sc.names []) s3.heap.objs.size X.env)) R s4 := by
  rintro s4 rfl
  let X' : Cx := cxC X (TN ++ F) sc (cloF X.env sc.names []) s3.heap.objs.size fp s3 (upd H s.heap.objs.size (.lst [])) (notedBy (model X.prog X.w) X.A (compEnvC sc (cloF X.env sc.names []) s3.heap.objs.size X.env) fun e s' => R (.error e) s')
  have I4 : Inv X' [] (List.replicate TN.length none ++ sub ix σ) (upd H s.heap.objs.size (.lst [])) { s3 with heap := h4, toks := s3.toks + ([] : List (Str × Value)).length } :=
   inv_comp S hix I3 hf3 (fun b hb => let ⟨o, e⟩ := hfo b hb; ⟨o, hk3 b o e⟩) hk4 hn4
  have fpx : ∀ {H' : Hp}, (∀ b ∈ fp, H' b = none) → ∀ b ∈ fp, FpOk X' [] H' b := fun {H'} hn b hb => by
   refine ⟨hn b hb, (I4.ok.exf b hb).1, fun z => I4.ok.exfs b hb z, .inl hb, fun x c e => (I4.ok.exf b hb).2 x c e, fun p hp => absurd (show p ∈ ([] : List (Addr × Obj)) from hp) (by simp)⟩
  refine comp_loop (fun n s' => ∃ i τ ys H', Inv X' [] τ H' s' ∧ tn i s'.heap ∧ (∀ b ∈ fp, H' b = none) ∧ W i n τ ys H') ?_ m0 ⟨0, _, [], _, I4, T.keep 0 _ _ st3 fun b hb o e => hk4 b o e, fun b hb => (hf3 b hb).1, w0⟩
  rintro n s5 ⟨i, τ, ys, H5, I5, st5, fr5, w5⟩
  obtain ⟨hD, hgo⟩ := go i n τ ys H5 w5
  rcases hgo with ⟨stop, q⟩ | ⟨hgo, step⟩
  ·refine thn (T.done X' rfl rfl rfl hc i [] s5 τ H5 X'.xe I5 (fpx fr5) st5 stop) fun r s6 ⟨hr, I6⟩ => ?_
   subst hr
   show R (.ok .next) s6
   rw [← hR]
   have J6 : Inv X pins σ H5 s6 := I3.call' (ch := fp) I6.os I6.base I6.hok I6.bare fun b hb => ⟨(hf3 b hb).2.2.2.1, (hf3 b hb).2.1, (hf3 b hb).2.2.2.2.1, (hf3 b hb).2.2.2.2.2⟩
   refine fin s.heap.objs.size s3.heap.objs.size H5 s6 J6 (let ⟨m, hn, _⟩ := I6.loc; ⟨m, hn⟩) I6.free (Nat.ne_of_gt I3.lt) I3.sz (fun x c e z => ?_) (fun p hp z => ?_) q
   ·obtain ⟨v, o, ho, _⟩ := I3.cell x c e
    exact absurd (Heap.lt_size ho) (by rw [z]; exact Nat.lt_irrefl _)
   ·exact absurd (Heap.lt_size (I3.pin p hp).1) (by rw [z]; exact Nat.lt_irrefl _)
  ·refine thn (T.item X' rfl rfl rfl hc i [] s5 τ H5 X'.xe I5 (fpx fr5) st5 hgo) fun r s6 ⟨u, hr, h6⟩ => ?_
   subst hr
   refine thn h6 fun _ s7 ⟨v, H7, I7, r7, y7, st7, fr7⟩ => ?_
   have I7' := I7.pinned (fpx fr7) (T.obj _ _ st7)
   refine thn (hg _ _ _ _ _ _ _ s7 τ H7 v u _ I7' r7 (step v H7 y7)) fun _ s8 ⟨τ8, H8, I8, q8⟩ => ?_
   refine thn (ht _ _ _ _ _ _ _ s8 τ8 H8 _ I8 q8) fun ok s9 ⟨H9, I9, q9⟩ => ?_
   have again : ∀ {ys' : List V} {H' : Hp} {s' : Shared}, Inv X' ([] ++ pinsAt fp s7.heap) τ8 H' s' → (∃ m', m' < n ∧ W (i + 1) m' τ8 ys' H') → ∃ m, m < n ∧ ∃ i τ ys H'', Inv X' [] τ H'' s' ∧ tn i s'.heap ∧ (∀ b ∈ fp, H'' b = none) ∧ W i m τ ys H'' := fun {ys' H' s'} I' ⟨m', hm, w'⟩ => by
    refine ⟨m', hm, i + 1, τ8, ys', H', I'.unpinned, T.keep _ _ _ st7 fun b hb o e => (I'.pin (b, o) (List.mem_append_right _ (List.mem_append_right _ (mem_pinsAt hb e)))).1, fun b hb => ?_, w'⟩
    obtain ⟨o, e, d⟩ := T.obj _ _ st7 b hb
    exact (I'.pin (b, o) (List.mem_append_right _ (List.mem_append_right _ (mem_pinsAt hb e)))).2.1
   cases ok with
   | false =>
    exact again I9 q9
   | true =>
    refine thn (he _ _ _ _ _ _ _ s9 τ8 H9 _ I9 q9) fun x s10 ⟨y, H10, I10, r10, hD10, hz10, q10⟩ => ?_
    exact append_ok (X := X') I10 hD10 hz10 r10 fun s11 I11 => again I11 q10
 subst hR
 exact codeAny_compStart_list (loop _ rfl) (T.self X.A 0 _ _ _ (T.keep 0 _ _ st3 fun b hb o e => hk4 b o e) (loop _ rfl))
section
variable {X : Cx} {sc : Scope} {TN F : List Str} {ix : List Nat} {elt tg iter : Expr} {ifs : List Expr} {pos : Pos} {g : TG} {tc : TT} {te : TE} {wi : TI}
theorem closure_of (S : CScope X.env.scope sc TN F) {pins : List (Addr × Obj)} {σ : St} {H : Hp} {s : Shared} (I : Inv X pins σ H s) : closureFor sc X.env = pure (cloF X.env sc.names []) :=
 closure_eq fun x hx hk => I.ok.has x.1 (.inl (S.fr x hx hk).1)
theorem pe_comp (S : CScope X.env.scope sc TN F) (hix : ix.map (fun i => X.N[i]?) = F.map some) (hc : X.calm = true) (hi : PI X tg iter wi)
  (hg : ∀ cl C fp s3 H3 xe, PG (cxC X (TN ++ F) sc cl C fp s3 H3 xe) tg g) (ht : ∀ cl C fp s3 H3 xe, PTs (cxC X (TN ++ F) sc cl C fp s3 H3 xe) ifs tc) (he : ∀ cl C fp s3 H3 xe, PE (cxC X (TN ++ F) sc cl C fp s3 H3 xe) elt te)
  (hs : ∀ x, foldedSetIterable iter X.env x = pure x := by intro _; rfl) : PE X (.ListComp elt [⟨tg, iter, ifs, 0⟩] sc pos) (tComp wi TN.length ix g tc te) := by
 intro pins s σ H Q I h
 rw [eval_ListComp]
 refine wpAny_comprehension_free (use := none) rfl hs (closure_of S I) S.kind S.names (thn (hi pins s σ H _ I h) fun v s1 h1 => thn h1 fun itv s2 h2 => ?_)
 obtain ⟨it, fp, tn, J, H2, e, I2, T, st2, f2, q2⟩ := h2
 subst e
 refine comp_block (RR := fun acc C => compPost (model X.prog X.w) X.A X.xe none (EP X pins σ Q) acc C) S hix hc I2 T st2 f2 hg ht he q2 fun D C H' s' I' hn hC1 hC2 hC3 hC4 hC5 q => ?_
 obtain ⟨m, hn⟩ := hn
 exact ⟨m, hn, fun h' hs' => ⟨.ref D, H', I'.turned (t' := s'.toks) (fun b o hb e => (hs'.2 b hb).trans e) hC1 hC2 (.inr hC3) hC4 hC5, rfl, q⟩⟩
theorem ps_setC {i : Nat} {y : Str} {py spos : Pos} (hN : X.N.Nodup) (hiy : X.N[i]? = some y) (hy : X.env.scope.names.lookup y = some .local) (S : CScope X.env.scope sc TN F) (hix : ix.map (fun i => X.N[i]?) = F.map some) (hc : X.calm = true) (hi : PI X tg iter wi)
  (hg : ∀ cl C fp s3 H3 xe, PG (cxC X (TN ++ F) sc cl C fp s3 H3 xe) tg g) (ht : ∀ cl C fp s3 H3 xe, PTs (cxC X (TN ++ F) sc cl C fp s3 H3 xe) ifs tc) (he : ∀ cl C fp s3 H3 xe, PE (cxC X (TN ++ F) sc cl C fp s3 H3 xe) elt te)
  (hsw : swapsWith (.ListComp elt [⟨tg, iter, ifs, 0⟩] sc pos) (some (.Name y py)) spos.line X.env = pure true := by rfl)
  (hs : ∀ x, foldedSetIterable iter X.env x = pure x := by intro _; rfl) : PS X (.Assign [.Name y py] (.ListComp elt [⟨tg, iter, ifs, 0⟩] sc pos) spos) (tAsg (tComp wi TN.length ix g tc te) (gName i)) := by
 intro pins s σ H D I h
 rw [exec_Assign_Name_used _ _ _ _ hsw]; refine wpAny_bind (wpAny_standAt (wpAny_bind ?_))
 show wpAny _ X.A (do let _ ← comprehension (.ListComp elt [⟨tg, iter, ifs, 0⟩] sc pos) sc X.env _ (newList []) false (eval iter X.env) (some (assign (.Name y py) X.env))) _ _ s
 refine wpAny_bind (wpAny_mono (wpAny_comprehension_free (use := some (assign (.Name y py) X.env)) (Q := fun _ s' => SP X pins D .next s') rfl hs (closure_of S I) S.kind S.names
  (thn (hi pins s σ H _ I h) fun v s1 h1 => thn h1 fun itv s2 h2 => ?_)) (fun _ s' hq => wpAny_pure (wpAny_pure hq)) fun _ _ e => e)
 obtain ⟨it, fp, tn, J, H2, e, I2, T, st2, f2, q2⟩ := h2
 subst e
 refine comp_block (RR := fun acc C => compPost (model X.prog X.w) X.A X.xe (some (assign (.Name y py) X.env)) (fun _ s' => SP X pins D .next s') acc C) S hix hc I2 T st2 f2 hg ht he q2 fun Dl C H' s' I' hn hC1 hC2 hC3 hC4 hC5 q => ?_
 obtain ⟨m, hn⟩ := hn
 show wpAny _ X.A (assign (.Name y py) X.env (.ref Dl)) _ _ _
 refine wpAny_assign_Name (store_ok2 I' hN hiy (.inl hy) (show RelV (.ref Dl) (.ref Dl) from rfl) (fun s'' I'' ⟨a, hsb, ha⟩ => ?_) (.inr hy))
 have haC : C ≠ a := by
  rcases ha with z | z
  ·rw [z]; exact hC2
  ·exact fun z' => hC4 y a z z'.symm
 refine ⟨m, hn.sameBut hsb haC, fun h' hs' => ?_⟩
 exact ⟨_, H', I''.turned (t' := s''.toks) (fun b o hb e => (hs'.2 b hb).trans e) hC1 hC2 (.inr hC3) hC4 hC5, q⟩
end
def seqAt (H : Hp) (p : Addr) : Option (List V) := match H p with
 | some (.lst xs) => some xs
 | some (.tup xs) => some xs
 | _ => none
def dAt (H : Hp) (x y : V) : Option V := match x, y with
 | .ref p, .int i => (seqAt H p).bind fun xs => atI xs i
 | _, _ => none
def rIxd : R2 := fun x y H Q => ∃ v, dAt H x y = some v ∧ Q v H
section
variable {X : Cx}
theorem ix_d : IxR X rIxd := by
 intro value slice pins s σ H x y v u Q I rx ry h hs
 refine ix_seq value slice pins s σ H x y v u Q I rx ry ?_ hs
 obtain ⟨z, e, q⟩ := h
 unfold dAt at e
 split at e
 case h_2 => cases e
 case h_1 p i =>
  unfold seqAt at e
  split at e
  case h_1 xs hp => exact .inl ⟨_, xs, _, z, rfl, rfl, SqL.of hp, e, q⟩
  case h_2 xs hp => exact .inr (.inl ⟨_, xs, _, z, rfl, rfl, SqT.of hp, e, q⟩)
  case h_3 => cases e
def dSet (H : Hp) (o i v : V) : Option Hp := match o, i with
 | .ref p, .int k => match H p with
  | some (.lst xs) => (ixN xs.length k).map fun j => upd H p (.lst (xs.set j v))
  | _ => none
 | _, _ => none
def rSetd : V → V → V → Hp → (Hp → Prop) → Prop := fun o i v H Q => ∃ H', dSet H o i v = some H' ∧ Q H'
theorem set_d : PSet X rSetd := by
 intro pins s σ H o i v ov iv u Q I ro ri rv h
 refine set_list pins s σ H o i v ov iv u Q I ro ri rv ?_
 obtain ⟨H', e, q⟩ := h
 unfold dSet at e
 split at e
 case h_2 => cases e
 case h_1 p k =>
  split at e
  case h_2 => cases e
  case h_1 xs hp =>
   cases ej : ixN xs.length k with
   | none => rw [ej] at e; cases e
   | some j =>
    rw [ej] at e
    cases e
    exact ⟨p, xs, k, j, rfl, rfl, hp, ej, q⟩
end
section
variable {σ : St} {H : Hp} {Q : VK} {D : Ends} {t u : TS} {te ta tb : TE} {tr : TA} {g : TG} {r : R2} {x y v : V} {c : TT} {QB : Bool → Hp → Prop} {QL : List V → Hp → Prop} {QG : St → Hp → Prop} {n : Nat}
theorem w_seq (h : t { D with nx := u D } σ H) : tSeq t u D σ H := h
theorem w_next (h : D.nx σ H) : tNext D σ H := h
theorem w_asg (h : te σ H fun x H1 => g x σ H1 D.nx) : tAsg te g D σ H := h
theorem w_gname {i : Nat} (h : QG (σ.set i (some v)) H) : gName i v σ H QG := h
theorem w_op (h : ta σ H fun x H1 => tb σ H1 fun y H2 => r x y H2 Q) : tOp r ta tb σ H Q := h
theorem w_var {i : Nat} (e : σ[i]? = some (some v)) (h : Q v H) : tVar i σ H Q := ⟨v, e, h⟩
theorem w_c (h : Q v H) : tC v σ H Q := h
theorem w_rI0 {k : Int → Int → V} {i j : Int} (h : Q (k i j) H) : rI0 k (.int i) (.int j) H Q := ⟨i, j, rfl, rfl, h⟩
theorem w_rI {C : Int → Int → Prop} {k : Int → Int → V} {i j : Int} (hc : C i j) (h : Q (k i j) H) : rI C k (.int i) (.int j) H Q := ⟨i, j, rfl, rfl, hc, h⟩
theorem w_ifs {b : TS} (h : c σ H fun b' H1 => if b' = true then t D σ H1 else b D σ H1) : tIfS c t b D σ H := h
theorem w_ife (h : c σ H fun b' H1 => if b' = true then ta σ H1 Q else tb σ H1 Q) : tIf c ta tb σ H Q := h
theorem w_test (h : te σ H fun x H' => ∃ k, x = .bl k ∧ QB k H') : tTest te σ H QB := h
theorem w_tb (h : te σ H fun x H' => ∃ k, x = .bl k ∧ QB k H') : tB te σ H QB := h
theorem w_bl {b : Bool} {P : Bool → Prop} (h : P b) : ∃ k, V.bl b = .bl k ∧ P k := ⟨b, rfl, h⟩
theorem w_not (h : c σ H fun b H1 => QB (!b) H1) : tNot c σ H QB := h
theorem w_ret (h : te σ H D.rt) : tRet te D σ H := h
theorem w_nil (h : QL [] H) : tNil σ H QL := h
theorem w_cons (h : te σ H fun x H1 => tr σ H1 fun xs H2 => QL (x :: xs) H2) : tCons te tr σ H QL := h
theorem w_lst (h : tr σ H fun xs H1 => xs.length ≤ sizeLine ∧ ∀ p, H1 p = none → Q (.ref p) (upd H1 p (.lst xs))) : tLst tr σ H Q := h
theorem w_tup (h : tr σ H fun xs H1 => xs.length ≤ sizeLine ∧ ∀ p, H1 p = none → Q (.ref p) (upd H1 p (.tup xs))) : tTup tr σ H Q := h
theorem w_cb {r : List V → Hp → VK → Prop} (h : tr σ H fun vs H1 => r vs H1 Q) : tCB r tr σ H Q := h
theorem w_call {sp : Sp} {dvs : List V} {E : XK} (h : tr σ H fun vs H1 => sp (vs ++ dvs) H1 Q E) : tCall sp dvs E tr σ H Q := h
theorem w_gsub {to ti : TE} {ts : TSet} (h : to σ H fun o H1 => ti σ H1 fun i H2 => ts o i v H2 fun H3 => QG σ H3) : gSub to ti ts v σ H QG := h
theorem w_ixL {p : Addr} {xs : List V} {i : Int} (hp : H p = some (.lst xs)) (e : atI xs i = some v) (h : Q v H) : rIxd (.ref p) (.int i) H Q := ⟨v, by simp only [dAt, seqAt, hp, Option.bind_some, e], h⟩
theorem w_ixT {p : Addr} {xs : List V} {i : Int} (hp : H p = some (.tup xs)) (e : atI xs i = some v) (h : Q v H) : rIxd (.ref p) (.int i) H Q := ⟨v, by simp only [dAt, seqAt, hp, Option.bind_some, e], h⟩
theorem w_set {p : Addr} {xs : List V} {i : Int} {j : Nat} {QH : Hp → Prop} (hp : H p = some (.lst xs)) (e : ixN xs.length i = some j) (h : QH (upd H p (.lst (xs.set j v)))) : rSetd (.ref p) (.int i) v H QH :=
 ⟨_, by simp only [dSet, hp, e, Option.map_some], h⟩
theorem iteD {p A B : Prop} [Decidable p] (h1 : p → A) (h2 : ¬ p → B) : if decide p = true then A else B := by
 by_cases h : p
 ·rw [decide_eq_true h, if_pos rfl]
  exact h1 h
 ·rw [decide_eq_false h, if_neg Bool.false_ne_true]
  exact h2 h
theorem iteDN {p A B : Prop} [Decidable p] (h1 : ¬ p → A) (h2 : p → B) : if (!decide p) = true then A else B := by
 by_cases h : p
 ·rw [decide_eq_true h]
  exact iteF (h2 h)
 ·rw [decide_eq_false h]
  exact iteT (h1 h)
end
def Has (P : Program) (w : World) (K : PySem.W.Frag) (mg : Str → Option Value) (base : Heap) (k : Nat) (x : Str) (ps : List Str) (sp : Sp) : Prop :=
 ∃ f fd, FnOk P w K mg base CX0 k f fd ps sp ∧ mg x = some (.ref f) ∧ PySem.W.keepIn K (.ref f) = true ∧ Binds K fd ps []
theorem pe_fn {X : Cx} {k j : Nat} {x : Str} {ps : List Str} {sp : Sp} {e : Expr} {es : List Expr} {t : TA} {p pos : Pos} (h : Has X.prog X.w X.K X.mg X.base k x ps sp) (hr : Room j X.A) (hkj : k ≤ j) (ha : PA X (e :: es) t) (hg : Gl X x := by rfl)
  (hdb : (x == ("__debug__" : Str)) = false := by decide) (he : starEach (e :: es) X.env = (false, eval e X.env) :: starEach es X.env := by rfl) (hpl : (backTo pos (starEach es X.env)).any (·.1) = false := by rfl) :
  PE X (.Call (.Name x p) (e :: es) [] pos) (tCall sp [] E0 t) := by
 obtain ⟨f, fd, F, hm, hk, hb⟩ := h
 exact pe_call F (hr.mono hkj) hg hm hk hb .nil pass0 ha hdb he hpl
section
variable {lo : Int} {n : Nat} {D : Addr} {te : TE} {tc : TT} {Q : VK} {ρ : St} {H : Hp}
theorem cgo_range (Pv : Nat → List V → Hp → Prop) (h0 : Pv 0 [] (upd H D (.lst [])))
  (hs : ∀ i ys H', i < n → Pv i ys H' → H' D = some (.lst ys) → ∀ (R : V → Hp → Prop) (S : Hp → Prop), (∀ y H4, H4 D = some (.lst ys) → ys.length < sizeLine → Pv (i + 1) (ys ++ [y]) (upd H4 D (.lst (ys ++ [y]))) → R y H4) → (∀ H3, H3 D = some (.lst ys) → Pv (i + 1) ys H3 → S H3) →
   tc (some (.int (lo + i)) :: ρ) H' fun b H3 => if b = true then te (some (.int (lo + i)) :: ρ) H3 R else S H3)
  (hd : ∀ ys H', Pv n ys H' → H' D = some (.lst ys) → Q (.ref D) H') : CGo (Itr lo n) D (gName 0) tc te Q (none :: ρ) H := by
 refine ⟨fun i m τ ys H' => m = n - i ∧ i ≤ n ∧ (∃ tv, τ = tv :: ρ) ∧ Pv i ys H' ∧ H' D = some (.lst ys), ⟨n, by omega, Nat.zero_le _, ⟨_, rfl⟩, h0, upd_same⟩, ?_⟩
 rintro i m τ ys H' ⟨rfl, hi, ⟨tv, rfl⟩, hp, hD⟩
 refine ⟨hD, ?_⟩
 by_cases hlt : i < n
 ·refine .inr ⟨hlt, ?_⟩
  rintro v H'' ⟨rfl, rfl⟩
  show tc (some (.int (lo + i)) :: ρ) _ _
  exact hs i ys _ hlt hp hD _ _ (fun y H4 a b c => ⟨a, b, n - (i + 1), by omega, rfl, hlt, ⟨_, rfl⟩, c, upd_same⟩) fun H3 a c => ⟨n - (i + 1), by omega, rfl, hlt, ⟨_, rfl⟩, c, a⟩
 ·have e : i = n := by omega
  subst e
  exact .inl ⟨Nat.le_refl _, hd ys _ hp hD⟩
theorem cgo_tup {K : PySem.W.Frag} {a : Addr} {xs : List V} (Pv : Nat → List V → Hp → Prop) (h0 : Pv 0 [] (upd H D (.lst []))) (hl : ∀ i ys H', i ≤ xs.length → Pv i ys H' → SqT K H' a xs)
  (hs : ∀ i x ys H', xs[i]? = some x → Pv i ys H' → H' D = some (.lst ys) → ∀ (R : V → Hp → Prop) (S : Hp → Prop), (∀ y H4, H4 D = some (.lst ys) → ys.length < sizeLine → Pv (i + 1) (ys ++ [y]) (upd H4 D (.lst (ys ++ [y]))) → R y H4) → (∀ H3, H3 D = some (.lst ys) → Pv (i + 1) ys H3 → S H3) →
   tc (some x :: ρ) H' fun b H3 => if b = true then te (some x :: ρ) H3 R else S H3)
  (hd : ∀ ys H', Pv xs.length ys H' → H' D = some (.lst ys) → Q (.ref D) H') : CGo (Itt K a) D (gName 0) tc te Q (none :: ρ) H := by
 refine ⟨fun i m τ ys H' => m = xs.length - i ∧ i ≤ xs.length ∧ (∃ tv, τ = tv :: ρ) ∧ Pv i ys H' ∧ H' D = some (.lst ys), ⟨xs.length, by omega, Nat.zero_le _, ⟨_, rfl⟩, h0, upd_same⟩, ?_⟩
 rintro i m τ ys H' ⟨rfl, hi, ⟨tv, rfl⟩, hp, hD⟩
 refine ⟨hD, ?_⟩
 have sq := hl i ys H' hi hp
 by_cases hlt : i < xs.length
 ·refine .inr ⟨⟨xs, xs[i], sq, by simp [hlt]⟩, ?_⟩
  rintro v H'' ⟨rfl, hv⟩
  have hv' := hv xs sq
  show tc (some v :: ρ) _ _
  exact hs i v ys _ hv' hp hD _ _ (fun y H4 a b c => ⟨a, b, xs.length - (i + 1), by omega, rfl, hlt, ⟨_, rfl⟩, c, upd_same⟩) fun H3 a c => ⟨xs.length - (i + 1), by omega, rfl, hlt, ⟨_, rfl⟩, c, a⟩
 ·have e : i = xs.length := by omega
  subst e
  exact .inl ⟨⟨xs, sq, Nat.le_refl _⟩, hd ys _ hp hD⟩
end
theorem w_all {σ : St} {H : Hp} {Q : Bool → Hp → Prop} (h : Q true H) : tAll σ H Q := h
def relabelS (sc o : Scope) : Scope :=
 { sc with names := sc.names.map fun (n, k) => if (k == .free && o.kind == .function && o.names.lookup n == some .cell) then (n, .cell) else (n, k) }
instance {sc : Scope} {x : Str} : Decidable (Vis sc x) := by unfold Vis; infer_instance
structure BScope (o sc : Scope) (TN F G : List Str) : Prop extends CScope o sc TN F where
 nd : (TN ++ F).Nodup
 vis : ∀ x ∈ TN ++ F, Vis (relabelS sc o) x
 loc : ∀ x ∈ TN, (relabelS sc o).names.lookup x = some .local
 gl : ∀ x ∈ G, (relabelS sc o).names.lookup x = some .globalImplicit
section
variable {X : Cx} {sc : Scope} {TN F G : List Str} {cl : List (Str × Addr)} {C : Addr} {fp : List Addr} {s3 : Shared} {H3 : Hp} {xe : Value → Shared → Prop} {x : Str} {pos : Pos}
theorem pvb (S : BScope X.env.scope sc TN F G) (i : Nat) (hN : (TN ++ F)[i]? = some x := by rfl) (hd : (x == ("__debug__" : Str)) = false := by decide) (hcd : (x == ("__classdict__" : Str)) = false := by decide) : PE (cxC X (TN ++ F) sc cl C fp s3 H3 xe) (.Name x pos) (tVar i) :=
 pe_var hN (S.vis x (List.mem_of_getElem? hN)) hd hcd
theorem pgb (S : BScope X.env.scope sc TN F G) (i : Nat) (hN : (TN ++ F)[i]? = some x := by rfl) (hT : TN[i]? = some x := by rfl) : PG (cxC X (TN ++ F) sc cl C fp s3 H3 xe) (.Name x pos) (gName i) :=
 pg_name S.nd hN (.inl (S.loc x (List.mem_of_getElem? hT))) (.inr (S.loc x (List.mem_of_getElem? hT)))
theorem BScope.g (S : BScope X.env.scope sc TN F G) (i : Nat) (hG : G[i]? = some x := by rfl) : Gl (cxC X (TN ++ F) sc cl C fp s3 H3 xe) x := S.gl x (List.mem_of_getElem? hG)
end
def tVals (vs : List V) : TA := fun _ H Q => Q vs H
theorem w_vals {vs : List V} {σ : St} {H : Hp} {Q : List V → Hp → Prop} (h : Q vs H) : tVals vs σ H Q := h
instance {sc : Scope} {x : Str} : Decidable (Loc sc x) := by unfold Loc; infer_instance
structure Nm (N : List Str) (sc : Scope) : Prop where
 nd : N.Nodup
 loc : ∀ x ∈ N, Loc sc x
section
variable {X : Cx} {x : Str} {pos : Pos}
theorem Loc.vis {sc : Scope} (h : Loc sc x) : Vis sc x := h.elim .inl fun z => .inr (.inl z)
theorem pvd (M : Nm X.N X.env.scope) (i : Nat) (hN : X.N[i]? = some x := by rfl) (hd : (x == ("__debug__" : Str)) = false := by decide) (hcd : (x == ("__classdict__" : Str)) = false := by decide) : PE X (.Name x pos) (tVar i) :=
 pe_var hN (M.loc x (List.mem_of_getElem? hN)).vis hd hcd
theorem ps_setD {e : Expr} {te : TE} {pos' : Pos} (M : Nm X.N X.env.scope) (i : Nat) (he : PE X e te) (hi : X.N[i]? = some x := by rfl) (hs : swapsWith e (some (.Name x pos')) pos.line X.env = pure false := by rfl) (hf : X.fn x = true := by rfl) :
  PS X (.Assign [.Name x pos'] e pos) (tAsg te (gName i)) := ps_set M.nd hi (M.loc x (List.mem_of_getElem? hi)) he hs (.inl hf)
theorem pgd (M : Nm X.N X.env.scope) (i : Nat) (hi : X.N[i]? = some x := by rfl) (hf : X.fn x = true := by rfl) : PG X (.Name x pos) (gName i) := pg_name M.nd hi (M.loc x (List.mem_of_getElem? hi)) (.inl hf)
end
section
variable {X : Cx} {l rest : List Stmt} {st : Stmt} {t u : TS} {e e' : Expr} {te : TE}
end
section
variable {ta : TA} {tl : TE} {n : Nat} {ix : List Nat} {g : TG} {tc : TT} {te : TE} {σ : St} {H : Hp} {Q : VK}
theorem w_compR (h : ta σ H fun vs H1 => ∃ j : Int, vs = [.int j] ∧ -(2 ^ 62) ≤ j ∧ j < 2 ^ 62 ∧ ∀ D, H1 D = none → CGo (Itr 0 j.toNat) D g tc te Q (List.replicate n none ++ sub ix σ) H1) : tComp (iRng1 ta) n ix g tc te σ H Q := h
theorem w_compT {K : PySem.W.Frag} (h : tl σ H fun x H1 => ∃ a, x = .ref a ∧ (∃ xs, SqT K H1 a xs) ∧ ∀ D, H1 D = none → CGo (Itt K a) D g tc te Q (List.replicate n none ++ sub ix σ) H1) : tComp (iTup K tl) n ix g tc te σ H Q := h
end
def ForJ (J : It) (g : TG) (tb : TS) (D : Ends) (σ : St) (H1 : Hp) : Prop := ∃ W : Nat → Nat → St → Hp → Prop, (∃ m, W 0 m σ H1) ∧ ∀ i m σ H, W i m σ H →
 (J.stop i H ∧ D.nx σ H) ∨ (J.go i H ∧ ∃ N : St → Hp → Prop, (∀ σ' H', N σ' H' → ∃ m', m' < m ∧ W (i + 1) m' σ' H') ∧ ∀ x H', J.yld i H x H' → g x σ H' fun σ2 H2 => tb { D with nx := N, ct := N, bk := D.nx } σ2 H2)
theorem w_forR {ta : TA} {g : TG} {tb : TS} {D : Ends} {σ : St} {H : Hp} (h : ta σ H fun vs H1 => ∃ j : Int, vs = [.int j] ∧ -(2 ^ 62) ≤ j ∧ j < 2 ^ 62 ∧ ForJ (Itr 0 j.toNat) g tb D σ H1) : tFor (iRng1 ta) g tb D σ H := h
theorem w_forT {K : PySem.W.Frag} {tl : TE} {g : TG} {tb : TS} {D : Ends} {σ : St} {H : Hp} (h : tl σ H fun x H1 => ∃ a, x = .ref a ∧ (∃ xs, SqT K H1 a xs) ∧ ForJ (Itt K a) g tb D σ H1) : tFor (iTup K tl) g tb D σ H := h
theorem w_forL {K : PySem.W.Frag} {tl : TE} {g : TG} {tb : TS} {D : Ends} {σ : St} {H : Hp} (h : tl σ H fun x H1 => ∃ a, x = .ref a ∧ (∃ xs, SqL K H1 a xs) ∧ ForJ (Itl K a) g tb D σ H1) : tFor (iList K tl) g tb D σ H := h
def isStar : Expr → Bool
 | .Starred .. => true
 | _ => false
theorem star1 {e : Expr} {es : List Expr} {env : Env} (h : isStar e = false) : starEach (e :: es) env = (false, eval e env) :: starEach es env := by
 cases e <;> first | rfl | cases h
theorem star_any {env : Env} {pos : Pos} : ∀ {es : List Expr}, es.all (fun e => !isStar e) = true → (backTo pos (starEach es env)).any (·.1) = false
 | [], _ => rfl
 | e :: es, h => by
  rw [List.all_cons, Bool.and_eq_true] at h; rw [star1 (by simpa using h.1)]
  cases es with
  | nil => rfl
  | cons a r =>
   have ih := star_any (env := env) (pos := pos) (es := a :: r) h.2
   rw [star1 (by simpa using (by simpa using h.2 : isStar a = false ∧ _).1)] at ih ⊢
   exact ih
section
variable {X : Cx} {e a : Expr} {es : List Expr} {te : TE} {t ta : TA} {x : Str} {p pos : Pos} {tg : Expr} {id T : String} {r : List V → Hp → VK → Prop}
theorem pa_c (ha : PE X e te) (hr : PA X es t) (h : isStar e = false := by rfl) : PA X (e :: es) (tCons te t) := pa_cons ha hr (star1 h)
theorem pi_r1 (hm : X.mg "range" = none) (ha : PA X [a] ta) (hg : Gl X "range" := by rfl) (h : isStar a = false := by rfl) : PI X tg (.Call (.Name "range" p) [a] [] pos) (iRng1 ta) := pi_range1 hg hm ha (star1 h)
theorem pe_cB (hc : CallR X (.builtin id) r) (hm : X.mg x = none) (hv : bootBuiltins x = some (.builtin id)) (ha : PA X (e :: es) t) (hg : Gl X x := by rfl) (h : isStar e = false := by rfl) (h2 : es.all (fun e => !isStar e) = true := by rfl) (hn : x ≠ "__name__" := by decide) (hdb : (x == ("__debug__" : Str)) = false := by decide) :
  PE X (.Call (.Name x p) (e :: es) [] pos) (tCB r t) := pe_callB hc hg hm hv ha hn hdb (star1 h) (star_any h2)
theorem pe_cT (hc : CallR X (.type T) r) (hm : X.mg x = none) (hv : bootBuiltins x = some (.type T)) (ha : PA X (e :: es) t) (hg : Gl X x := by rfl) (h : isStar e = false := by rfl) (h2 : es.all (fun e => !isStar e) = true := by rfl) (hn : x ≠ "__name__" := by decide) (hdb : (x == ("__debug__" : Str)) = false := by decide) :
  PE X (.Call (.Name x p) (e :: es) [] pos) (tCB r t) := pe_callTy hc hg hm hv ha hn hdb (star1 h) (star_any h2)
theorem pe_f {k j : Nat} {ps : List Str} {sp : Sp} (h : Has X.prog X.w X.K X.mg X.base k x ps sp) (hr : Room j X.A) (hkj : k ≤ j) (ha : PA X (e :: es) t) (hg : Gl X x := by rfl) (h1 : isStar e = false := by rfl) (h2 : es.all (fun e => !isStar e) = true := by rfl)
  (hdb : (x == ("__debug__" : Str)) = false := by decide) : PE X (.Call (.Name x p) (e :: es) [] pos) (tCall sp [] E0 t) := pe_fn h hr hkj ha hg hdb (star1 h1) (star_any h2)
end
end L2
namespace L2
theorem pa_1 {X : Cx} {e : PySem.Expr} {te : TE} (ha : PE X e te) (h : isStar e = false := by rfl) : PA X [e] (tCons te tNil) := pa_c ha pa_nil h
theorem pa_2 {X : Cx} {e e' : PySem.Expr} {te te' : TE} (ha : PE X e te) (hb : PE X e' te') (h : isStar e = false := by rfl) (h' : isStar e' = false := by rfl) : PA X [e, e'] (tCons te (tCons te' tNil)) := pa_c ha (pa_1 hb h') h
end L2
namespace L2
open PySem PySem.Spec PyProof.Rows
theorem w_drop {te : TE} {D : Ends} {σ : St} {H : Hp} (h : te σ H fun _ H1 => D.nx σ H1) : tDrop te D σ H := h
theorem w_bm {K : PySem.W.Frag} {T : String} {r : V → List V → Hp → VK → Prop} {to : TE} {t : TA} {σ : St} {H : Hp} {Q : VK} (h : to σ H fun x H1 => tyV K T x H1 ∧ t σ H1 fun xs H2 => r x xs H2 Q) : tBM K T r to t σ H Q := h
mutual
inductive RdV (H : Hp) : V → PyData → Prop
 | non : RdV H .non .none
 | bl (b : Bool) : RdV H (.bl b) (.bool b)
 | int (i : Int) : RdV H (.int i) (.int i)
 | str (x : Str) : RdV H (.str x) (.str x)
 | lst {p : Addr} {xs : List V} {ds : List PyData} : H p = some (.lst xs) → RdVs H xs ds → RdV H (.ref p) (.list ds)
 | tup {p : Addr} {xs : List V} {ds : List PyData} : H p = some (.tup xs) → RdVs H xs ds → RdV H (.ref p) (.tuple ds)
 | ftup {p : Addr} {o : Obj} {xs : List V} {ds : List PyData} : H p = some (.frz o (.tup xs)) → RdVs H xs ds → RdV H (.ref p) (.tuple ds)
inductive RdVs (H : Hp) : List V → List PyData → Prop
 | nil : RdVs H [] []
 | cons {v : V} {d : PyData} {vs : List V} {ds : List PyData} : RdV H v d → RdVs H vs ds → RdVs H (v :: vs) (d :: ds)
end
section
variable {X : Cx} {pins : List (Addr × Obj)} {σ : St} {H : Hp} {s : Shared}
mutual
theorem RdV.reads (I : Inv X pins σ H s) {v : V} {d : PyData} : RdV H v d → ∀ {u : Value}, RelV v u → ∃ as, Reads s.heap u d as
 | .non, u, r => by
  cases r
  exact ⟨[], .none⟩
 | .bl b, u, r => by
  cases r
  exact ⟨[], .bool b⟩
 | .int i, u, r => by
  obtain ⟨t, rfl⟩ := r
  exact ⟨[], .int i t⟩
 | .str x, u, r => by
  obtain ⟨t, rfl⟩ := r
  exact ⟨[], .str x t⟩
 | .lst (p := p) hp h, u, r => by
  cases r
  obtain ⟨its, n, rv, e, z⟩ := I.lst hp
  obtain ⟨as, q⟩ := RdVs.reads I h rv
  exact ⟨p :: as, .list e rfl rfl (by simpa using q)⟩
 | .tup (p := p) hp h, u, r => by
  cases r
  obtain ⟨z, its, rv, o, e, c, n, d⟩ := I.hok p _ hp
  obtain ⟨as, q⟩ := RdVs.reads I h rv
  exact ⟨as, .tuple e c d (by simpa using q)⟩
 | .ftup (p := p) hp h, u, r => by
  cases r
  obtain ⟨_, z, its, rv, o, e, c, n, d⟩ := I.hok p _ hp
  obtain ⟨as, q⟩ := RdVs.reads I h rv
  exact ⟨as, .tuple e c d (by simpa using q)⟩
theorem RdVs.reads (I : Inv X pins σ H s) {vs : List V} {ds : List PyData} : RdVs H vs ds → ∀ {us : List Value}, Vals vs us → ∃ as, ReadsAll s.heap us ds as
 | .nil, us, r => by
  cases r
  exact ⟨[], .nil⟩
 | .cons h hs, us, r => by
  cases r with
  | cons r1 r2 =>
   obtain ⟨as, q⟩ := RdV.reads I h r1
   obtain ⟨bs, q2⟩ := RdVs.reads I hs r2
   exact ⟨as ++ bs, .cons q q2⟩
end
end
theorem rdInts {H : Hp} : ∀ (ns : List Int), RdVs H (ns.map V.int) (ns.map PyData.int)
 | [] => .nil
 | n :: ns => .cons (.int n) (rdInts ns)
section
variable {X : Cx} {k : Nat}
def rEqD : R2 := fun x y H Q => ∃ dx dy, RdV H x dx ∧ RdV H y dy ∧ dx.canLay0 = true ∧ dy.canLay0 = true ∧ dx.depth ≤ 60 ∧ Q (.bl (PyData.eqv dx dy)) H
theorem op_eqD (hr : Room k X.A) : OpR X (compareOp .Eq) rEqD := by
 intro pins s σ H x y v u Q I rx ry h
 obtain ⟨dx, dy, hx, hy, cx, cy, hd, q⟩ := h
 obtain ⟨as, ra⟩ := hx.reads I rx
 obtain ⟨bs, rb⟩ := hy.reads I ry
 have := hr.units
 exact SeqAt.compareEq_reads ra rb cx cy (by omega) ⟨.bl _, H, I, rfl, q⟩
end
theorem eqv_ints : ∀ (ns ms : List Int), PyData.eqvAll (ns.map PyData.int) (ms.map PyData.int) = decide (ns = ms)
 | [], [] => by simp only [List.map_nil, PyData.eqvAll, decide_true]
 | [], m :: ms => by simp [PyData.eqvAll]
 | n :: ns, [] => by simp [PyData.eqvAll]
 | n :: ns, m :: ms => by
  simp only [List.map_cons, PyData.eqvAll, PyData.eqv, eqv_ints ns ms]
  by_cases h : n = m
  ·subst h; simp
  ·simp [h]
theorem lay_ints : ∀ (ns : List Int), PyData.canLayAll0 (ns.map PyData.int) = true
 | [] => rfl
 | n :: ns => by simp [PyData.canLayAll0, PyData.canLay0, lay_ints ns]
theorem depth_ints : ∀ (ns : List Int), PyData.depthAll (ns.map PyData.int) = 0
 | [] => rfl
 | n :: ns => by simp [PyData.depthAll, PyData.depth, depth_ints ns]
theorem w_eqL {H : Hp} {Q : VK} {p q : Addr} {ns ms : List Int} (hp : H p = some (.lst (ns.map V.int))) (hq : H q = some (.lst (ms.map V.int))) (h : Q (.bl (decide (ns = ms))) H) : rEqD (.ref p) (.ref q) H Q := by
 refine ⟨_, _, .lst hp (rdInts ns), .lst hq (rdInts ms), lay_ints ns, lay_ints ms, ?_, ?_⟩
 ·show PyData.depthAll _ + 1 ≤ 60
  rw [depth_ints]
  decide
 ·show Q (.bl (PyData.eqvAll _ _)) H
  rw [eqv_ints]
  exact h
section
variable {X : Cx}
theorem vals_of : ∀ {xs : List V} {us : List Value}, xs.length = us.length → (∀ (j : Nat) (x : V) (u : Value), xs[j]? = some x → us[j]? = some u → RelV x u) → Vals xs us
 | [], [], _, _ => .nil
 | [], v :: vs, h, _ => absurd h (by simp)
 | v :: vs, [], h, _ => absurd h (by simp)
 | x :: xs, u :: us, h, k => .cons (k 0 x u rfl rfl) (vals_of (by simpa using h) fun j y v e1 e2 => k (j + 1) y v (by simpa using e1) (by simpa using e2))
def rRange : List V → Hp → VK → Prop := fun xs H Q => ∃ j : Int, xs = [.int j] ∧ ∀ r, H r = none → Q (.ref r) (upd H r (.rng 0 j))
theorem call_rangeV : CallR X (.type "range") rRange := by
 intro pins s σ H xs us Q I r h
 obtain ⟨j, rfl, q⟩ := h
 obtain ⟨u, rfl, ru⟩ := r.one
 obtain ⟨t, rfl⟩ := ru
 refine call_range_1 ⟨.ref _, _, I.laid (fun b o e => Heap.get?_push_of_some _ e) (Nat.le_refl _) ?_, rfl, q _ I.fresh⟩
 exact ⟨_, _, _, Heap.get?_push_size _ rfl⟩
def rListR : List V → Hp → VK → Prop := fun xs H Q => ∃ (p : Addr) (n : Nat), xs = [.ref p] ∧ H p = some (.rng 0 (n : Int)) ∧ n ≤ 1000 ∧ ∀ l, H l = none → Q (.ref l) (upd H l (.lst ((List.range n).map fun (i : Nat) => V.int (i : Int))))
theorem call_listRng (hc : X.calm = true) : CallR X (.type "list") rListR := by
 intro pins s σ H xs us Q I r h
 obtain ⟨p, n, rfl, hp, hn, q⟩ := h
 obtain ⟨u, rfl, ru⟩ := r.one
 cases ru
 obtain ⟨t, u, v, e⟩ := I.hok p _ hp
 refine call_list_range (n := n) (I.ok.hd hc) e (small_one (by omega) (by omega) (by omega) (by omega)) (by rw [rangeSize_one]; split <;> omega) (by omega) fun h' tk acc' c' hk hS hacc => ?_
 refine ⟨.ref _, _, I.laid (t' := tk) hk (Nat.le_refl _) ?_, rfl, q _ I.fresh⟩
 obtain ⟨hsz, hit⟩ := hacc
 refine ⟨by rw [List.length_map, List.length_range]; exact Nat.le_of_lt (small1000 hn), acc'.toList, c', vals_of (by simp [hsz]) fun j x u ex eu => ?_, hS⟩
 have hj : j < n := by
  have := (List.getElem?_eq_some_iff.mp ex).1
  simpa using this
 rw [List.getElem?_map, List.getElem?_range hj] at ex
 have ex' : V.int (j : Int) = x := Option.some.inj ex
 subst ex'
 obtain ⟨t, ht⟩ := hit j u (by simpa using eu)
 exact ⟨t, by rw [ht]; congr 1; omega⟩
end
section
variable {X : Cx}
theorem ints_of : ∀ {ns : List Int} {us : List Value}, Vals (ns.map V.int) us → ∃ xs : List (Int × Tok), us = xs.map (fun q => Value.int q.1 q.2) ∧ xs.map (·.1) = ns
 | [], us, r => by
  cases r
  exact ⟨[], rfl, rfl⟩
 | n :: ns, us, r => by
  cases r with
  | cons r1 r2 =>
   obtain ⟨t, rfl⟩ := r1
   obtain ⟨xs, rfl, e⟩ := ints_of r2
   exact ⟨(n, t) :: xs, rfl, by simp [e]⟩
def rSum : List V → Hp → VK → Prop := fun xs H Q => ∃ (p : Addr) (ns : List Int), xs = [.ref p] ∧ H p = some (.lst (ns.map V.int)) ∧ Q (.int ns.sum) H
theorem call_sum (hc : X.calm = true) : CallR X (.builtin "sum") rSum := by
 intro pins s σ H xs us Q I r h
 obtain ⟨p, ns, rfl, hp, q⟩ := h
 obtain ⟨u, rfl, ru⟩ := r.one
 cases ru
 obtain ⟨its, n, rv, e, z⟩ := I.lst hp
 obtain ⟨ys, rfl, hy⟩ := ints_of rv
 have hl : s.heap.IsList p (intItems ys.toArray) := ⟨_, e, rfl, n, by simp [intItems]⟩
 refine sum_intListG (I.ok.hd hc) hl fun h' tk t' hk => ⟨.int ns.sum, H, I.kept hk, ⟨t', ?_⟩, q⟩
 congr 1
 have hlen : ys.length = ns.length := by rw [← hy, List.length_map]
 rw [preSum_eq]
 simp [hy, hlen]
end
section
variable {prog : Program} {w : World} {A : Around} {E : Value → Shared → Prop} {s : Shared}
theorem nextT_item {j t : Addr} {i : Nat} {its : Array Value} {v : Value} {Q : Value → Shared → Prop} (J : s.heap.IsTupleIter j t i) (T : s.heap.IsTuple t its) (e : its[i]? = some v)
  (k : ∀ h', h'.IsTupleIter j t (i + 1) → Heap.SameBut j s.heap h' → Q v { s with heap := h' }) : wpAny (model prog w) A (Builtin.SmallTypes.nextOf (.ref j)) Q E s := by
 obtain ⟨o, ho, hc, hd⟩ := id J; obtain ⟨ot, hot, _, n, hdt⟩ := T
 unfold Builtin.SmallTypes.nextOf; refine wpAny_bind (wpAny_callSpecial?_slot (name := Str.ofString "__next__") J.typeIs F.slot_tuple_iterator_next (wpAny_call_entry F.slot_tuple_iterator_next J.typeIs F.entry_tuple_iterator_next ?_ (F.args_tuple_iterator_next_1 _)))
 show wpAny _ _ (field (.ref j) 0 >>= _) _ _ s; refine wpAny_bind (wpAny_field ho hd (x := .ref t) rfl ?_)
 show wpAny _ _ (if (Value.ref t == Value.none) = true then _ else _) _ _ s; rw [if_neg (show ¬ ((Value.ref t == Value.none) = true) from Bool.false_ne_true)]
 show wpAny _ _ (field (.ref j) 1 >>= _) _ _ s; refine wpAny_bind (wpAny_field ho hd (x := .int i 0) rfl ?_)
 show wpAny _ _ (seqItems? (.ref t) >>= _) _ _ s; refine wpAny_bind (wpAny_seqItems hot hdt ?_)
 simp only [Int.toNat_natCast, e]
 refine wpAny_bind (wpAny_setField ho hd (by simp) (wpAny_pure ⟨v, rfl, wpAny_pure (k _ ?_ (Heap.SameBut.update ..))⟩))
 exact ⟨_, Heap.get?_update_self _ ho (Obj.isFreed_of_fields (Obj.data_mapFields hd _)), (Obj.cls_mapFields ..).trans hc, by rw [Obj.data_mapFields hd]; simp [rawInt]⟩
theorem nextT_end {j t : Addr} {i : Nat} {its : Array Value} {Q : Value → Shared → Prop} (hh : A.handled = none) (J : s.heap.IsTupleIter j t i) (T : s.heap.IsTuple t its) (e : its[i]? = none)
  (k : ∀ h' x, Heap.ExtBut j s.heap h' → (∃ o, h'.get? x = some o ∧ o.cls = .type "StopIteration") → E (.ref x) { s with heap := h' }) : wpAny (model prog w) A (Builtin.SmallTypes.nextOf (.ref j)) Q E s := by
 obtain ⟨o, ho, hc, hd⟩ := id J; obtain ⟨ot, hot, _, n, hdt⟩ := T
 unfold Builtin.SmallTypes.nextOf; refine wpAny_bind (wpAny_callSpecial?_slot (name := Str.ofString "__next__") J.typeIs F.slot_tuple_iterator_next (wpAny_call_entry F.slot_tuple_iterator_next J.typeIs F.entry_tuple_iterator_next ?_ (F.args_tuple_iterator_next_1 _)))
 show wpAny _ _ (field (.ref j) 0 >>= _) _ _ s; refine wpAny_bind (wpAny_field ho hd (x := .ref t) rfl ?_)
 show wpAny _ _ (if (Value.ref t == Value.none) = true then _ else _) _ _ s; rw [if_neg (show ¬ ((Value.ref t == Value.none) = true) from Bool.false_ne_true)]
 show wpAny _ _ (field (.ref j) 1 >>= _) _ _ s; refine wpAny_bind (wpAny_field ho hd (x := .int i 0) rfl ?_)
 show wpAny _ _ (seqItems? (.ref t) >>= _) _ _ s; refine wpAny_bind (wpAny_seqItems hot hdt ?_)
 simp only [Int.toNat_natCast, e]; refine wpAny_bind (wpAny_rule (wpAny_bind (wpAny_setField ho hd (by simp) ?_)))
 show wpAny _ _ (newExc (.type "StopIteration") [] >>= _) _ _ _; refine wpAny_bind ?_; simp only [newExc, newTuple]
 refine wpAny_bind (wpAny_newObj_type ?_ (by size_fits)); refine wpAny_bind (m := firstArgMember _ _) (wpAny_of_eq (a := Value.none) (by first | rfl | (simp only [firstArgMember]; rfl)) ?_)
 refine wpAny_newObj_type ?_ (by size_fits); simp only [raiseNew]; refine wpAny_bind (wpAny_handled ?_)
 (first | rw [show A.in1.handled = none from hh] | rw [hh]); refine wpAny_bind (wpAny_pure (wpAny_throw ?_)); exact k _ _ (((Heap.SameBut.update ..).extBut.push _).push _) ⟨_, Heap.get?_push_size _ rfl, rfl⟩
end
section
variable {prog : Program} {w : World} {A : Around} {E : Value → Shared → Prop} {s : Shared}
end
section
variable {X : Cx} {pins : List (Addr × Obj)} {σ : St} {H : Hp} {s : Shared}
theorem Inv.turnNew {h' : Heap} {tk : Nat} {ch : List Addr} {T : Addr} {xs : List V} {vals : List Value} (I : Inv X pins σ H s) (hf : ∀ b ∈ ch, FpOk X pins H b) (k : ∀ b o, b ∉ ch → s.heap.get? b = some o → h'.get? b = some o) (ht : ∀ b ∈ ch, ∃ o, h'.get? b = some o)
  (hT : s.heap.objs.size ≤ T) (r : Vals xs vals) (hz : xs.length ≤ sizeLine) (hv : h'.IsTuple T vals.toArray) : Inv X pins σ (upd H T (.tup xs)) { s with heap := h', toks := tk } := by
 have hn : H T = none := I.hok.fresh hT
 have nT : ∀ b o, s.heap.get? b = some o → b ≠ T := fun b o e z => absurd (Nat.lt_of_lt_of_le (Heap.lt_size e) (z ▸ hT)) (Nat.lt_irrefl _)
 have nc : ∀ b u, H b = some u → b ∉ ch := fun b u e z => by rw [(hf b z).1] at e; cases e
 refine I.step (g' := s.gens) (d' := s.drawn) (ch := ch) (fun b hb => ⟨(hf b hb).2.2.2.1, (hf b hb).2.1, (hf b hb).2.2.2.2.1, (hf b hb).2.2.2.2.2⟩) (fun b o _ _ hc e _ => k b o hc e) (fun b o _ _ hc e _ => ⟨o.slots, k b o hc e⟩)
  (fun b o _ e n => by rw [upd_ne (nT b o e)]; exact n) (fun b o hc e => ⟨o, k b o hc e⟩) (fun b ys e => by rw [upd_ne (ne_of_none e hn)]; exact e) (fun b o u e => by rw [upd_ne (ne_of_none e hn)]; exact e)
  (fun b ps e => ⟨#[], by rw [upd_ne (ne_of_none e hn), e]; simp⟩) (fun m hm => ?_) (fun b u e => ?_) I.bare
 ·obtain ⟨o, es, ep, ho, q⟩ := hm
  exact ⟨o, es, ep, k _ o (fun z => (hf _ z).2.1 rfl) ho, q⟩
 ·by_cases hb : b = T
  ·subst hb
   rw [upd_same] at e
   cases e
   exact ⟨hz, vals, r, hv⟩
  ·rw [upd_ne hb] at e
   refine (I.hok b u e).stay (fun c v hc q => k c v ?_ q) (fun c q => by rw [upd_ne (ne_of_none q hn)]; exact q) fun c ys q => by rw [upd_ne (ne_of_none q hn)]; exact q
   rcases hc with z | z
   ·rw [z]; exact nc b u e
   ·exact nc c _ z
theorem Inv.turnOnly {h' : Heap} {tk : Nat} {ch : List Addr} (I : Inv X pins σ H s) (hf : ∀ b ∈ ch, FpOk X pins H b) (k : ∀ b o, b ∉ ch → s.heap.get? b = some o → h'.get? b = some o) : Inv X pins σ H { s with heap := h', toks := tk } := by
 have nc : ∀ b u, H b = some u → b ∉ ch := fun b u e z => by rw [(hf b z).1] at e; cases e
 refine I.step (g' := s.gens) (d' := s.drawn) (ch := ch) (fun b hb => ⟨(hf b hb).2.2.2.1, (hf b hb).2.1, (hf b hb).2.2.2.2.1, (hf b hb).2.2.2.2.2⟩) (fun b o _ _ hc e _ => k b o hc e) (fun b o _ _ hc e _ => ⟨o.slots, k b o hc e⟩)
  (fun b o _ e n => n) (fun b o hc e => ⟨o, k b o hc e⟩) (fun b ys e => e) (fun b o u e => e) (fun b ps e => ⟨#[], by rw [e]; simp⟩) (fun m hm => ?_) (fun b u e => ?_) I.bare
 ·obtain ⟨o, es, ep, ho, q⟩ := hm
  exact ⟨o, es, ep, k _ o (fun z => (hf _ z).2.1 rfl) ho, q⟩
 ·refine (I.hok b u e).stay (fun c v hc q => k c v ?_ q) (fun c q => q) fun c ys q => q
  rcases hc with z | z
  ·rw [z]; exact nc b u e
  ·exact nc c _ z
end
section
variable {X : Cx} {es : List Expr} {kt : Nat} {pt : Pos}
end
section
variable {prog : Program} {w : World} {A : Around} {E : Value → Shared → Prop} {s : Shared}
theorem tupX {h h' : Heap} {t a : Addr} {its : Array Value} (T : h.IsTuple t its) (x : Heap.ExtBut a h h') (n : t ≠ a) : h'.IsTuple t its := let ⟨o, e, r⟩ := T; ⟨o, x t o n e, r⟩
theorem tupJ {h h' : Heap} {j t a : Addr} {i : Nat} (J : h.IsTupleIter j t i) (x : Heap.ExtBut a h h') (n : j ≠ a) : h'.IsTupleIter j t i := J.at fun o e => x j o n e
theorem zipT_item {z TI TO i1 i2 l1 l2 : Addr} {k1 k2 : Nat} {xs ys : Array Value} {x y a b : Value} {Q : Value → Shared → Prop} (D : ZipApart z TI TO i1 i2 l1 l2) (hz : IsZip s.heap z TI TO .none) (hTI : IsPair s.heap TI (.ref i1) (.ref i2)) (hTO : IsPair s.heap TO a b)
  (h1 : s.heap.IsTupleIter i1 l1 k1) (h2 : s.heap.IsTupleIter i2 l2 k2) (hl1 : s.heap.IsTuple l1 xs) (hl2 : s.heap.IsTuple l2 ys) (hx : xs[k1]? = some x) (hy : ys[k2]? = some y)
  (hQ : ∀ h', IsZip h' z TI TO (rawInt s.heap.objs.size) → IsPair h' TO x y → h'.IsTupleIter i1 l1 (k1 + 1) → h'.IsTupleIter i2 l2 (k2 + 1) → IsPair h' s.heap.objs.size x y →
   (∀ d o, d ≠ z → d ≠ TO → d ≠ i1 → d ≠ i2 → s.heap.get? d = some o → h'.get? d = some o) → Q (.ref s.heap.objs.size) { s with heap := h' }) :
  wpAny (model prog w) A (Builtin.«zip.__next__» ⟨[.ref z], []⟩) (fun f s' => ∃ v, f = .done (.ret v) ∧ Q v s') E s := by
 show wpAny _ _ (field (.ref z) 2 >>= _) _ _ _; refine wpAny_bind (wpAny_field hz rfl (x := .bool false) rfl ?_)
 show wpAny _ _ (field (.ref z) 3 >>= _) _ _ _; refine wpAny_bind (wpAny_field hz rfl (x := .ref TI) rfl ?_)
 refine wpAny_bind (wpAny_seqItems hTI rfl ?_); show wpAny _ _ (Builtin.SmallTypes.ownedTupleIsFree (.ref z) >>= _) _ _ _
 refine wpAny_bind ?_; unfold Builtin.SmallTypes.ownedTupleIsFree
 refine wpAny_bind (wpAny_field hz rfl (x := .none) rfl (wpAny_pure ?_)); simp only [if_true]
 refine wpAny_bind (wpAny_rule ?_); refine wpAny_bind (wpAny_field hz rfl (x := .ref TO) rfl ?_)
 refine wpAny_bind (wpAny_setField_rec hz (by simp) fun g1 zz1 s1 => ?_); replace zz1 : IsZip g1 z TI TO .ellipsis := zz1
 refine wpAny_bind ?_; simp only [List.zipIdx_cons, List.zipIdx_nil, List.forIn_cons, List.forIn_nil]
 refine wpAny_bind (wpAny_bind (wpAny_onRaise ?_)); show wpAny _ _ (Builtin.SmallTypes.nextOf (.ref i1) >>= _) _ _ _
 refine wpAny_bind (nextT_item (tupJ h1 s1.extBut D.i1z) (tupX hl1 s1.extBut D.l1z) hx fun g2 j2 s2 => wpAny_pure ?_)
 have o2 : IsPair g2 TO a b := s2.extBut _ _ D.TOi1 (s1.extBut _ _ D.TOz hTO)
 refine wpAny_bind (wpAny_seqItems o2 rfl ?_); refine wpAny_bind (wpAny_updateSeq_pair o2 fun g3 o3 s3 => ?_); replace o3 : IsPair g3 TO x b := o3
 refine wpAny_bind (wpAny_letGo (wpAny_pure ?_)); refine wpAny_bind (wpAny_bind (wpAny_onRaise ?_)); show wpAny _ _ (Builtin.SmallTypes.nextOf (.ref i2) >>= _) _ _ _
 refine wpAny_bind (nextT_item (tupJ (tupJ (tupJ h2 s1.extBut D.i2z) s2.extBut D.i12.symm) s3.extBut D.TOi2.symm) (tupX (tupX (tupX hl2 s1.extBut D.l2z) s2.extBut D.l2i1) s3.extBut D.l2TO) hy fun g4 j4 s4 => wpAny_pure ?_)
 have o4 : IsPair g4 TO x b := s4.extBut _ _ D.TOi2 o3
 refine wpAny_bind (wpAny_seqItems o4 rfl ?_); refine wpAny_bind (wpAny_updateSeq_pair o4 fun g5 o5 s5 => ?_); replace o5 : IsPair g5 TO x y := o5
 refine wpAny_bind (wpAny_letGo (wpAny_pure (wpAny_pure ?_))); refine wpAny_bind (wpAny_seqItems o5 rfl ?_); refine wpAny_bind (wpAny_newTuple ?_)
 have sz : g5.objs.size = s.heap.objs.size := by rw [s5.1, s4.1, s3.1, s2.1, s1.1]
 have z5 : IsZip g5 z TI TO .ellipsis := s5.extBut _ _ D.TOz.symm (s4.extBut _ _ D.i2z.symm (s3.extBut _ _ D.TOz.symm (s2.extBut _ _ D.i1z.symm zz1)))
 have k5 : ∀ c o, c ≠ z → c ≠ TO → c ≠ i1 → c ≠ i2 → s.heap.get? c = some o → g5.get? c = some o := fun c o c1 c2 c3 c4 q => s5.extBut _ _ c2 (s4.extBut _ _ c4 (s3.extBut _ _ c2 (s2.extBut _ _ c3 (s1.extBut _ _ c1 q))))
 have a5 : g5.IsTupleIter i1 l1 (k1 + 1) := tupJ (tupJ (tupJ j2 s3.extBut D.TOi1.symm) s4.extBut D.i12) s5.extBut D.TOi1.symm
 have b5 : g5.IsTupleIter i2 l2 (k2 + 1) := tupJ j4 s5.extBut D.TOi2.symm
 have zlt : z < g5.objs.size := Heap.lt_size z5
 show wpAny _ _ (Builtin.SmallTypes.ownedTupleHandOut (.ref z) (.ref g5.objs.size) >>= _) _ _ _; refine wpAny_bind ?_; unfold Builtin.SmallTypes.ownedTupleHandOut
 have z6 : IsZip (g5.push { cls := .type "tuple", data := .seq #[x, y] }) z TI TO .ellipsis := Heap.get?_push_of_some _ z5
 refine wpAny_bind (wpAny_setField_rec z6 (by simp) fun g7 z7 s7 => ?_); replace z7 : IsZip g7 z TI TO (rawInt g5.objs.size) := z7
 refine wpAny_setField_rec z7 (by simp) fun g8 z8 s8 => ?_; replace z8 : IsZip g8 z TI TO (rawInt g5.objs.size) := z8
 have up : ∀ c o, c ≠ z → g5.get? c = some o → g8.get? c = some o := fun c o c1 q => s8.extBut _ _ c1 (s7.extBut _ _ c1 (Heap.get?_push_of_some _ q))
 have t8 : IsPair g8 g5.objs.size x y := s8.extBut _ _ (Nat.ne_of_gt zlt) (s7.extBut _ _ (Nat.ne_of_gt zlt) (Heap.get?_push_size _ rfl))
 rw [sz] at z8 t8; refine wpAny_pure ⟨_, rfl, ?_⟩; show Q (.ref g5.objs.size) _; rw [sz]
 exact hQ g8 z8 (up _ _ D.TOz o5) (a5.at fun o q => up _ o D.i1z q) (b5.at fun o q => up _ o D.i2z q) t8 fun c o c1 c2 c3 c4 q => up c o c1 (k5 c o c1 c2 c3 c4 q)
theorem zipT_end {z TI TO i1 i2 l1 l2 : Addr} {k1 k2 : Nat} {xs ys : Array Value} {a b : Value} {Q : Fin → Shared → Prop} (hh : A.handled = none) (D : ZipApart z TI TO i1 i2 l1 l2) (hz : IsZip s.heap z TI TO .none) (hTI : IsPair s.heap TI (.ref i1) (.ref i2)) (hTO : IsPair s.heap TO a b)
  (h1 : s.heap.IsTupleIter i1 l1 k1) (h2 : s.heap.IsTupleIter i2 l2 k2) (hl1 : s.heap.IsTuple l1 xs) (hl2 : s.heap.IsTuple l2 ys) (hend : xs[k1]? = none ∨ ys[k2]? = none)
  (hE : ∀ h' e, (∀ d o, d ≠ z → d ≠ TO → d ≠ i1 → d ≠ i2 → s.heap.get? d = some o → h'.get? d = some o) → (∃ o, h'.get? e = some o ∧ o.cls = .type "StopIteration") → E (.ref e) { s with heap := h' }) : wpAny (model prog w) A (Builtin.«zip.__next__» ⟨[.ref z], []⟩) Q E s := by
 show wpAny _ _ (field (.ref z) 2 >>= _) _ _ _; refine wpAny_bind (wpAny_field hz rfl (x := .bool false) rfl ?_)
 show wpAny _ _ (field (.ref z) 3 >>= _) _ _ _; refine wpAny_bind (wpAny_field hz rfl (x := .ref TI) rfl ?_)
 refine wpAny_bind (wpAny_seqItems hTI rfl ?_); show wpAny _ _ (Builtin.SmallTypes.ownedTupleIsFree (.ref z) >>= _) _ _ _
 refine wpAny_bind ?_; unfold Builtin.SmallTypes.ownedTupleIsFree
 refine wpAny_bind (wpAny_field hz rfl (x := .none) rfl (wpAny_pure ?_)); simp only [if_true]
 refine wpAny_bind (wpAny_rule ?_); refine wpAny_bind (wpAny_field hz rfl (x := .ref TO) rfl ?_)
 refine wpAny_bind (wpAny_setField_rec hz (by simp) fun g1 zz1 s1 => ?_); replace zz1 : IsZip g1 z TI TO .ellipsis := zz1
 refine wpAny_bind ?_; simp only [List.zipIdx_cons, List.zipIdx_nil, List.forIn_cons, List.forIn_nil]
 refine wpAny_bind (wpAny_bind (wpAny_onRaise ?_)); show wpAny _ _ (Builtin.SmallTypes.nextOf (.ref i1) >>= _) _ _ _
 cases hx : xs[k1]? with
 | none =>
  refine wpAny_bind (nextT_end hh (tupJ h1 s1.extBut D.i1z) (tupX hl1 s1.extBut D.l1z) hx fun g2 e s2 he => ?_)
  obtain ⟨oe, hoe, hce⟩ := he; have z2 : IsZip g2 z TI TO .ellipsis := s2 _ _ D.i1z.symm zz1
  have ez : e ≠ z := fun q => by subst q; rw [z2] at hoe; cases hoe; simp at hce
  refine wpAny_setField_rec z2 (by simp) fun g3 _ s3 => hE g3 e (fun c o c1 _ c3 _ q => s3.extBut _ _ c1 (s2 _ _ c3 (s1.extBut _ _ c1 q))) ⟨oe, s3.extBut _ _ ez hoe, hce⟩
 | some x =>
  have hy : ys[k2]? = none := by rcases hend with q | q; rw [hx] at q; cases q; exact q
  refine wpAny_bind (nextT_item (tupJ h1 s1.extBut D.i1z) (tupX hl1 s1.extBut D.l1z) hx fun g2 j2 s2 => wpAny_pure ?_)
  have o2 : IsPair g2 TO a b := s2.extBut _ _ D.TOi1 (s1.extBut _ _ D.TOz hTO)
  refine wpAny_bind (wpAny_seqItems o2 rfl ?_); refine wpAny_bind (wpAny_updateSeq_pair o2 fun g3 o3 s3 => ?_); refine wpAny_bind (wpAny_letGo (wpAny_pure ?_))
  refine wpAny_bind (wpAny_bind (wpAny_onRaise ?_)); show wpAny _ _ (Builtin.SmallTypes.nextOf (.ref i2) >>= _) _ _ _
  refine wpAny_bind (nextT_end hh (tupJ (tupJ (tupJ h2 s1.extBut D.i2z) s2.extBut D.i12.symm) s3.extBut D.TOi2.symm) (tupX (tupX (tupX hl2 s1.extBut D.l2z) s2.extBut D.l2i1) s3.extBut D.l2TO) hy fun g4 e s4 he => ?_)
  obtain ⟨oe, hoe, hce⟩ := he; have z4 : IsZip g4 z TI TO .ellipsis := s4 _ _ D.i2z.symm (s3.extBut _ _ D.TOz.symm (s2.extBut _ _ D.i1z.symm zz1))
  have ez : e ≠ z := fun q => by subst q; rw [z4] at hoe; cases hoe; simp at hce
  refine wpAny_setField_rec z4 (by simp) fun g5 _ s5 => hE g5 e (fun c o c1 c2 c3 c4 q => s5.extBut _ _ c1 (s4 _ _ c4 (s3.extBut _ _ c2 (s2.extBut _ _ c3 (s1.extBut _ _ c1 q))))) ⟨oe, s5.extBut _ _ ez hoe, hce⟩
end
abbrev zpH1 (h : Heap) (a : Addr) : Heap := h.push { cls := .type "tuple_iterator", data := .fields #[.ref a, .int 0 0] }
abbrev zpH2 (h : Heap) (a b : Addr) : Heap := (zpH1 h a).push { cls := .type "tuple_iterator", data := .fields #[.ref b, .int 0 0] }
abbrev zpH3 (h : Heap) (a b : Addr) : Heap := (zpH2 h a b).push { cls := .type "tuple", data := .seq #[.ref h.objs.size, .ref (zpH1 h a).objs.size] }
abbrev zpH4 (h : Heap) (a b : Addr) : Heap := (zpH3 h a b).push { cls := .type "tuple", data := .seq #[.none, .none] }
abbrev zpH5 (h : Heap) (a b : Addr) : Heap := (zpH4 h a b).push { cls := .type "zip", data := .fields #[.none, .bool false, .bool false, .ref (zpH2 h a b).objs.size, .ref (zpH3 h a b).objs.size] }
theorem zp_new (a b : Addr) (xs ys : Array Value) : Meets (Builtin.«zip.__new__» ⟨[.type "zip", .ref a, .ref b], []⟩) (fun _ R s => s.heap.IsTuple a xs ∧ s.heap.IsTuple b ys ∧ R (.ok (.ret (.ref (zpH4 s.heap a b).objs.size))) { s with heap := zpH5 s.heap a b }) :=
 .of_wp fun prog w A R s h => by
  obtain ⟨hp, g, d, tk, os⟩ := s; obtain ⟨hA, hB, h⟩ := h; have hsub := sub_zip
  have tA : Heap.IsTuple (Shared.heap ⟨hp, g, d, tk, os⟩) a xs := hA
  have tB : Heap.IsTuple (Shared.heap ⟨hp.push { cls := .type "tuple_iterator", data := .fields #[.ref a, .int 0 0] }, g, d, tk, os⟩) b ys := let ⟨o, e, r⟩ := hB; ⟨o, Heap.get?_push_of_some _ e, r⟩
  wp_walk using wpAny_pyIter_tuple tA, wpAny_pyIter_tuple tB
  exact ⟨_, rfl, h⟩
section
variable {prog : Program} {w : World} {A : Around} {E : Value → Shared → Prop} {s : Shared}
theorem call_zp {a b : Addr} {xs ys : Array Value} {Q : Value → Shared → Prop} (hA : s.heap.IsTuple a xs) (hB : s.heap.IsTuple b ys)
  (k : ∀ h', IsZip h' (s.heap.objs.size + 4) (s.heap.objs.size + 2) (s.heap.objs.size + 3) .none → IsPair h' (s.heap.objs.size + 2) (.ref s.heap.objs.size) (.ref (s.heap.objs.size + 1)) → IsPair h' (s.heap.objs.size + 3) .none .none →
   h'.IsTupleIter s.heap.objs.size a 0 → h'.IsTupleIter (s.heap.objs.size + 1) b 0 → (∀ c o, s.heap.get? c = some o → h'.get? c = some o) → Q (.ref (s.heap.objs.size + 4)) { s with heap := h' }) :
  wpAny (model prog w) A (call (.type "zip") [.ref a, .ref b]) Q E s := by
 refine callType_new F.called_zip (by decide) (F.typeCall_zip_2 _ _) (F.newCall_zip_2 _ _) (fun obj => F.args_object_init_3 obj _ _) F.entry_zip_new (zp_new a b xs ys) ⟨hA, hB, ?_⟩
 have z1 : (zpH1 s.heap a).objs.size = s.heap.objs.size + 1 := Heap.size_push ..
 have z2 : (zpH2 s.heap a b).objs.size = s.heap.objs.size + 2 := by rw [Heap.size_push, z1]
 have z3 : (zpH3 s.heap a b).objs.size = s.heap.objs.size + 3 := by rw [Heap.size_push, z2]
 have z4 : (zpH4 s.heap a b).objs.size = s.heap.objs.size + 4 := by rw [Heap.size_push, z3]
 have g5 : (zpH5 s.heap a b).get? (zpH4 s.heap a b).objs.size = some _ := Heap.get?_push_size _ rfl
 have g4 : (zpH5 s.heap a b).get? (zpH3 s.heap a b).objs.size = some _ := Heap.get?_push_of_some _ (Heap.get?_push_size _ rfl)
 have g3 : (zpH5 s.heap a b).get? (zpH2 s.heap a b).objs.size = some _ := Heap.get?_push_of_some _ (Heap.get?_push_of_some _ (Heap.get?_push_size _ rfl))
 have g2 : (zpH5 s.heap a b).get? (zpH1 s.heap a).objs.size = some _ := Heap.get?_push_of_some _ (Heap.get?_push_of_some _ (Heap.get?_push_of_some _ (Heap.get?_push_size _ rfl)))
 have g1 : (zpH5 s.heap a b).get? s.heap.objs.size = some _ := Heap.get?_push_of_some _ (Heap.get?_push_of_some _ (Heap.get?_push_of_some _ (Heap.get?_push_of_some _ (Heap.get?_push_size _ rfl))))
 show _ ∧ _
 rw [z2, z3, z4] at g5; rw [z1, z2] at g3; rw [z3] at g4; rw [z1] at g2
 have kk : ∀ c o, s.heap.get? c = some o → (zpH5 s.heap a b).get? c = some o := fun c o q => Heap.get?_push_of_some _ (Heap.get?_push_of_some _ (Heap.get?_push_of_some _ (Heap.get?_push_of_some _ (Heap.get?_push_of_some _ q))))
 rw [z4]
 exact ⟨⟨_, g5, rfl⟩, k _ g5 g3 g4 ⟨_, g1, rfl, rfl⟩ ⟨_, g2, rfl, rfl⟩ kk⟩
end
def Itz (K : PySem.W.Frag) (a b : Addr) : It :=
 ⟨fun i H => ∃ xs ys x y, SqT K H a xs ∧ SqT K H b ys ∧ xs[i]? = some x ∧ ys[i]? = some y, fun i H v H' => ∃ p x y, v = .ref p ∧ H p = none ∧ H' = upd H p (.tup [x, y]) ∧ (∀ xs, SqT K H a xs → xs[i]? = some x) ∧ ∀ ys, SqT K H b ys → ys[i]? = some y,
  fun i H => ∃ xs ys, SqT K H a xs ∧ SqT K H b ys ∧ (xs.length ≤ i ∨ ys.length ≤ i)⟩
theorem turn_zp {P : Program} {w : World} {K : PySem.W.Frag} {es : List Expr} {kt : Nat} {pt : Pos} (a b z TI TO i1 i2 : Addr) (D : ZipApart z TI TO i1 i2 a b) :
  Turn P w K (.Tuple es kt pt) (Itz K a b) [z, TI, TO, i1, i2] z (fun i h => IsZip h z TI TO .none ∧ IsPair h TI (.ref i1) (.ref i2) ∧ (∃ u v, IsPair h TO u v) ∧ h.IsTupleIter i1 a i ∧ h.IsTupleIter i2 b i) where
 mem := by simp
 obj := fun i h st q hq => by
  obtain ⟨hz, hI, ⟨u, v, hO⟩, ⟨o1, e1, c1, d1⟩, ⟨o2, e2, c2, d2⟩⟩ := st
  simp only [List.mem_cons, List.not_mem_nil, or_false] at hq
  rcases hq with rfl | rfl | rfl | rfl | rfl
  ·exact ⟨_, hz, fun v y => by have y' : Data.fields _ = Data.cell v := y; cases y'⟩
  ·exact ⟨_, hI, fun v y => by have y' : Data.seq _ _ = Data.cell v := y; cases y'⟩
  ·exact ⟨_, hO, fun v y => by have y' : Data.seq _ _ = Data.cell v := y; cases y'⟩
  ·exact ⟨o1, e1, fun v y => by rw [d1] at y; cases y⟩
  ·exact ⟨o2, e2, fun v y => by rw [d2] at y; cases y⟩
 keep := fun i h h' st k => ⟨k z (by simp) _ st.1, k TI (by simp) _ st.2.1, let ⟨u, v, q⟩ := st.2.2.1; ⟨u, v, k TO (by simp) _ q⟩, st.2.2.2.1.at fun o x => k i1 (by simp) o x, st.2.2.2.2.at fun o x => k i2 (by simp) o x⟩
 item := by
  intro X hP hw hK hc i pins s σ H E I hf st hg
  subst hP hw hK
  obtain ⟨xs, ys, x, y, hqa, hqb, hx, hy⟩ := hg
  obtain ⟨ia, rva, pa, za⟩ := I.tuple hqa
  obtain ⟨ib, rvb, pb, zb⟩ := I.tuple hqb
  obtain ⟨u, hu, ru⟩ := rva.get hx
  obtain ⟨v, hv, rv⟩ := rvb.get hy
  obtain ⟨hz, hI, ⟨ou, ov, hO⟩, h1, h2⟩ := st
  have hT : s.TypeIs (.ref z) "zip" := ⟨_, hz, rfl⟩; unfold pyNext
  refine wpAny_bind (wpAny_attempt (wpAny_callSpecial?_slot (name := Str.ofString "__next__") hT F.slot_zip_next (wpAny_call_entry F.slot_zip_next hT F.entry_zip_next
   (zipT_item D hz hI hO h1 h2 pa pb (x := u) (y := v) (by simpa using hu) (by simpa using hv) fun h' z' o' a' b' t' k' => wpAny_pure ?_) (F.args_zip_next_1 _))))
  refine ⟨_, rfl, wpAny_letOwnedTupleGo_zip z' fun h'' z'' sb => ?_⟩
  have nz : s.heap.objs.size ≠ z := Nat.ne_of_gt (Heap.lt_size hz)
  have nTO : s.heap.objs.size ≠ TO := Nat.ne_of_gt (Heap.lt_size hO)
  have nTI : s.heap.objs.size ≠ TI := Nat.ne_of_gt (Heap.lt_size hI)
  have n1 : s.heap.objs.size ≠ i1 := by obtain ⟨o, e, _⟩ := h1; exact Nat.ne_of_gt (Heap.lt_size e)
  have n2 : s.heap.objs.size ≠ i2 := by obtain ⟨o, e, _⟩ := h2; exact Nat.ne_of_gt (Heap.lt_size e)
  have up : ∀ q o, q ≠ z → h'.get? q = some o → h''.get? q = some o := fun q o hq e => (sb.2 q hq).trans e
  have hI'' : IsPair h'' TI (.ref i1) (.ref i2) := up _ _ D.TIz (k' TI _ D.TIz D.TITO D.TIi1 D.TIi2 hI)
  have I2 : Inv X pins σ (upd H s.heap.objs.size (.tup [x, y])) { s with heap := h'', toks := s.toks } := I.turnNew (ch := [z, TI, TO, i1, i2]) hf (fun q o hq e => by
   simp only [List.mem_cons, List.not_mem_nil, or_false, not_or] at hq
   exact up q o hq.1 (k' q o hq.1 hq.2.2.1 hq.2.2.2.1 hq.2.2.2.2 e)) (fun q hq => by
   simp only [List.mem_cons, List.not_mem_nil, or_false] at hq
   rcases hq with rfl | rfl | rfl | rfl | rfl
   ·exact ⟨_, z''⟩
   ·exact ⟨_, hI''⟩
   ·exact ⟨_, up _ _ D.TOz o'⟩
   ·obtain ⟨o, e, _⟩ := a'; exact ⟨o, up _ o D.i1z e⟩
   ·obtain ⟨o, e, _⟩ := b'; exact ⟨o, up _ o D.i2z e⟩) (Nat.le_refl _) (vals := [u, v]) (.cons ru (.cons rv .nil)) (by show 2 ≤ sizeLine; decide) ⟨_, up _ _ nz t', rfl, _, rfl⟩
  refine ⟨.ref s.heap.objs.size, _, I2, rfl, ⟨_, x, y, rfl, I.fresh, rfl, fun zs hzs => by rw [I.tuple_inj hzs hqa]; exact hx, fun zs hzs => by rw [I.tuple_inj hzs hqb]; exact hy⟩,
   ⟨z'', hI'', ⟨_, _, up _ _ D.TOz o'⟩, a'.at fun o e => up _ o D.i1z e, b'.at fun o e => up _ o D.i2z e⟩, fun q hq => ?_⟩
  have hq0 := (hf q hq).1
  simp only [List.mem_cons, List.not_mem_nil, or_false] at hq
  rw [upd_ne]
  ·exact hq0
  ·rcases hq with rfl | rfl | rfl | rfl | rfl
   ·exact Ne.symm nz
   ·exact Ne.symm nTI
   ·exact Ne.symm nTO
   ·exact Ne.symm n1
   ·exact Ne.symm n2
 done := by
  intro X hP hw hK hc i pins s σ H E I hf st hg
  subst hP hw hK
  obtain ⟨xs, ys, hqa, hqb, hx⟩ := hg
  obtain ⟨ia, rva, pa, za⟩ := I.tuple hqa
  obtain ⟨ib, rvb, pb, zb⟩ := I.tuple hqb
  obtain ⟨hz, hI, ⟨ou, ov, hO⟩, h1, h2⟩ := st
  have la := rva.length
  have lb := rvb.length
  have hT : s.TypeIs (.ref z) "zip" := ⟨_, hz, rfl⟩; unfold pyNext
  refine wpAny_bind (wpAny_attempt (wpAny_callSpecial?_slot (name := Str.ofString "__next__") hT F.slot_zip_next (wpAny_call_entry F.slot_zip_next hT F.entry_zip_next
   (zipT_end (I.ok.hd hc) D hz hI hO h1 h2 pa pb (hx.elim (fun q => .inl (by simp; omega)) fun q => .inr (by simp; omega)) fun h' e k' he => ?_) (F.args_zip_next_1 _))))
  obtain ⟨o, ho, hcl⟩ := he
  refine wpAny_bind (wpAny_isInstance (T := "StopIteration") (b := true) ⟨o, ho, hcl⟩ isSubtype_stop ?_)
  refine wpAny_pure ⟨rfl, I.turnOnly (tk := s.toks) hf fun q o hq e => ?_⟩
  simp only [List.mem_cons, List.not_mem_nil, or_false, not_or] at hq
  exact k' q o hq.1 hq.2.2.1 hq.2.2.2.1 hq.2.2.2.2 e
 self := fun _ _ s _ _ st h => wpAny_pyIter_zip st.1 h
section
variable {X : Cx} {es : List Expr} {kt : Nat} {pt : Pos}
def iZp (K : PySem.W.Frag) (ta : TA) : TI := fun σ H R => ta σ H fun vs H1 => ∃ a b, vs = [.ref a, .ref b] ∧ (∃ xs, SqT K H1 a xs) ∧ (∃ ys, SqT K H1 b ys) ∧ R (Itz K a b) H1
theorem pi_zp {e e' : Expr} {ta : TA} {p pos : Pos} (hm : X.mg "zip" = none) (ha : PA X [e, e'] ta) (hg : Gl X "zip" := by rfl) (h : isStar e = false := by rfl) (h' : isStar e' = false := by rfl) : PI X (.Tuple es kt pt) (.Call (.Name "zip" p) [e, e'] [] pos) (iZp X.K ta) := by
 intro pins s σ H R I hh
 refine Call_ (ld_blt I hg hm boot_zip (PyProof.Rows.callWith_type1 (thn (ha pos pins s σ H _ I hh) fun us s1 ⟨vs, H1, I1, r1, q1⟩ => ?_) (star1 h) (star_any (by simp [h']))))
 obtain ⟨a, b, rfl, ⟨xs, hqa⟩, ⟨ys, hqb⟩, q⟩ := q1
 cases r1 with
 | cons ru r2 =>
  cases r2 with
  | cons rv r3 =>
   cases r3
   cases ru
   cases rv
   obtain ⟨ia, rva, pa, za⟩ := I1.tuple hqa
   obtain ⟨ib, rvb, pb, zb⟩ := I1.tuple hqb
   have la : a < s1.heap.objs.size := by obtain ⟨o, e, _⟩ := pa; exact Heap.lt_size e
   have lb : b < s1.heap.objs.size := by obtain ⟨o, e, _⟩ := pb; exact Heap.lt_size e
   refine call_zp (xs := ia.toArray) (ys := ib.toArray) pa pb fun g hz hI hO j1 j2 hk => wpAny_pyIter_zip hz ?_
   refine ⟨_, [s1.heap.objs.size + 4, s1.heap.objs.size + 2, s1.heap.objs.size + 3, s1.heap.objs.size, s1.heap.objs.size + 1], _, _, H1, rfl, I1.kept (t' := s1.toks) hk, turn_zp a b _ _ _ _ _ (zipApart_new la lb), ⟨hz, hI, ⟨_, _, hO⟩, j1, j2⟩, fun q hq => ?_, by assumption⟩
   have hq' : s1.heap.objs.size ≤ q := by
    simp only [List.mem_cons, List.not_mem_nil, or_false] at hq
    rcases hq with z | z | z | z | z <;> rw [z] <;> first | exact Nat.le_refl _ | exact Nat.le_add_right _ _
   exact I1.fpOk hq' (I1.hok.fresh hq')
end
structure Apart3 (z TI TO i1 i2 i3 l1 l2 l3 : Addr) : Prop where
 nz : TI ≠ z ∧ TO ≠ z ∧ i1 ≠ z ∧ i2 ≠ z ∧ i3 ≠ z
 nI : TI ≠ TO ∧ TI ≠ i1 ∧ TI ≠ i2 ∧ TI ≠ i3
 nO : TO ≠ i1 ∧ TO ≠ i2 ∧ TO ≠ i3
 ni : i1 ≠ i2 ∧ i1 ≠ i3 ∧ i2 ≠ i3
 l1 : l1 ≠ z ∧ l1 ≠ TO ∧ l1 ≠ i1 ∧ l1 ≠ i2 ∧ l1 ≠ i3
 l2 : l2 ≠ z ∧ l2 ≠ TO ∧ l2 ≠ i1 ∧ l2 ≠ i2 ∧ l2 ≠ i3
 l3 : l3 ≠ z ∧ l3 ≠ TO ∧ l3 ≠ i1 ∧ l3 ≠ i2 ∧ l3 ≠ i3
section
variable {prog : Program} {w : World} {A : Around} {E : Value → Shared → Prop} {s : Shared}
end
section
variable {D : Addr} {te : TE} {tc : TT} {Q : VK} {ρ : St} {H : Hp}
theorem cgo_zip {K : PySem.W.Frag} {a b : Addr} {xs zs : List V} (hlen : xs.length = zs.length) (Pv : Nat → List V → Hp → Prop) (h0 : Pv 0 [] (upd H D (.lst []))) (hl : ∀ i ys H', i ≤ xs.length → Pv i ys H' → SqT K H' a xs ∧ SqT K H' b zs)
  (hs : ∀ i x z ys H' p, xs[i]? = some x → zs[i]? = some z → Pv i ys H' → H' D = some (.lst ys) → H' p = none → ∀ (R : V → Hp → Prop) (S : Hp → Prop), (∀ y H4, H4 D = some (.lst ys) → ys.length < sizeLine → Pv (i + 1) (ys ++ [y]) (upd H4 D (.lst (ys ++ [y]))) → R y H4) → (∀ H3, H3 D = some (.lst ys) → Pv (i + 1) ys H3 → S H3) →
   tc (some x :: some z :: ρ) (upd H' p (.tup [x, z])) fun b H3 => if b = true then te (some x :: some z :: ρ) H3 R else S H3)
  (hd : ∀ ys H', Pv xs.length ys H' → H' D = some (.lst ys) → Q (.ref D) H') : CGo (Itz K a b) D (gTup K 2 (gCons (gName 0) (gCons (gName 1) gNil))) tc te Q (none :: none :: ρ) H := by
 refine ⟨fun i m τ ys H' => m = xs.length - i ∧ i ≤ xs.length ∧ (∃ tv tw, τ = tv :: tw :: ρ) ∧ Pv i ys H' ∧ H' D = some (.lst ys), ⟨xs.length, by omega, Nat.zero_le _, ⟨_, _, rfl⟩, h0, upd_same⟩, ?_⟩
 rintro i m τ ys H' ⟨rfl, hi, ⟨tv, tw, rfl⟩, hp, hD⟩
 refine ⟨hD, ?_⟩
 obtain ⟨sq, sq'⟩ := hl i ys H' hi hp
 by_cases hlt : i < xs.length
 ·have hlt' : i < zs.length := by omega
  refine .inr ⟨⟨xs, zs, xs[i], zs[i], sq, sq', by simp [hlt], by simp [hlt']⟩, ?_⟩
  rintro v H'' ⟨p, x, z, rfl, hpn, rfl, hx, hz⟩
  have hx' := hx xs sq
  have hz' := hz zs sq'
  refine ⟨p, [x, z], rfl, SqT.of upd_same, rfl, x, [z], rfl, z, [], rfl, rfl, ?_⟩
  exact hs i x z ys _ p hx' hz' hp hD hpn _ _ (fun y H4 a b c => ⟨a, b, xs.length - (i + 1), by omega, rfl, hlt, ⟨_, _, rfl⟩, c, upd_same⟩) fun H3 a c => ⟨xs.length - (i + 1), by omega, rfl, hlt, ⟨_, _, rfl⟩, c, a⟩
 ·have e : i = xs.length := by omega
  subst e
  exact .inl ⟨⟨xs, zs, sq, sq', .inl (Nat.le_refl _)⟩, hd ys _ hp hD⟩
end
section
variable {ta : TA} {tl : TE} {n : Nat} {ix : List Nat} {g : TG} {tc : TT} {te : TE} {σ : St} {H : Hp} {Q : VK}
theorem w_compZ {K : PySem.W.Frag} (h : ta σ H fun vs H1 => ∃ a b, vs = [.ref a, .ref b] ∧ (∃ xs, SqT K H1 a xs) ∧ (∃ ys, SqT K H1 b ys) ∧ ∀ D, H1 D = none → CGo (Itz K a b) D g tc te Q (List.replicate n none ++ sub ix σ) H1) : tComp (iZp K ta) n ix g tc te σ H Q := h
theorem w_compL {K : PySem.W.Frag} (h : tl σ H fun x H1 => ∃ a, x = .ref a ∧ (∃ xs, SqL K H1 a xs) ∧ ∀ D, H1 D = none → CGo (Itl K a) D g tc te Q (List.replicate n none ++ sub ix σ) H1) : tComp (iList K tl) n ix g tc te σ H Q := h
end
section
variable {X : Cx}
end
section
variable {σ : St} {H : Hp} {Q : VK} {te ta tb tc : TE} {r r' : R2} {tl th : TO}
theorem w_sl {r : V → Option Int → Option Int → Hp → VK → Prop} (h : te σ H fun x H1 => tl σ H1 fun l H2 => th σ H2 fun u H3 => r x l u H3 Q) : tSl r te tl th σ H Q := h
theorem w_nopart {QO : Option Int → Hp → Prop} (h : QO none H) : tNoPart σ H QO := h
theorem w_part {QO : Option Int → Hp → Prop} (h : te σ H fun x H1 => ∃ i, x = .int i ∧ QO (some i) H1) : tPart te σ H QO := h
end
theorem pgb_tup {X : Cx} {sc : Scope} {N : List Str} {cl : List (Str × Addr)} {C : Addr} {fp : List Addr} {s3 : Shared} {H3 : Hp} {xe : Value → Shared → Prop} {es : List Expr} {k n : Nat} {pos : Pos} {t : TGs} (hc : X.calm = true) (h : PGs (cxC X N sc cl C fp s3 H3 xe) es t)
  (hn : (assignEach es (cxC X N sc cl C fp s3 H3 xe).env).length = n := by rfl) (hst : (assignEach es (cxC X N sc cl C fp s3 H3 xe).env).findIdx? (·.1) = none := by rfl) : PG (cxC X N sc cl C fp s3 H3 xe) (.Tuple es k pos) (gTup X.K n t) := pg_tup (X := cxC X N sc cl C fp s3 H3 xe) hc h hn hst
theorem seq_post {t u : TS} {D : Ends} {σ : St} {H : Hp} (Post : St → Hp → Prop) (h2 : ∀ σ' H', Post σ' H' → u D σ' H') (h1 : (∀ σ' H', Post σ' H' → u D σ' H') → t { D with nx := u D } σ H) : tSeq t u D σ H := h1 h2
def constW : Expr → Option V
 | .Constant (.int n) _ _ => some (.int n)
 | .Constant (.str y) _ _ => some (.str y)
 | .UnaryOp .USub (.Constant (.int n) _ _) _ => some (.int (-n))
 | _ => none
def constsW : List Expr → Option (List V)
 | [] => some []
 | e :: r => match constW e, constsW r with
  | some v, some vs => some (v :: vs)
  | _, _ => none
theorem pa_constsW {X : Cx} : ∀ {es : List Expr} {vs : List V}, constsW es = some vs → PA X es (tVals vs)
 | [], vs, h => by
  cases h
  exact pa_nil
 | e :: r, vs, h => by
  unfold constsW at h
  split at h
  case h_2 => cases h
  case h_1 v vs' h1 h2 =>
   cases h
   have ih := pa_constsW (X := X) h2
   have go : ∀ {te : TE}, PE X e te → (starEach (e :: r) X.env = (false, eval e X.env) :: starEach r X.env) → (∀ σ H Q, Q v H → te σ H Q) → PA X (e :: r) (tVals (v :: vs')) := fun {te} he hs hq => by
    have q := pa_cons he ih hs
    intro pos pins s σ H Q I hh
    exact q pos pins s σ H Q I (hq σ H _ hh)
   unfold constW at h1
   split at h1
   case h_1 => cases h1; exact go pe_int rfl fun _ _ _ h => h
   case h_2 => cases h1; exact go pe_str rfl fun _ _ _ h => h
   case h_3 => cases h1; exact go (pe_un un_neg pe_int) rfl fun _ _ _ h => ⟨_, rfl, h⟩
   case h_4 => cases h1
theorem pe_lstW {X : Cx} {es : List Expr} {pos : Pos} {vs : List V} (h : constsW es = some vs) : PE X (.List es pos) (tLst (tVals vs)) := pe_lst (pa_constsW h)
theorem w_unI {σ : St} {H : Hp} {Q : VK} {g : Int → V} {ta : TE} (h : ta σ H fun x H1 => ∃ i, x = .int i ∧ Q (g i) H1) : tUn (rU g) ta σ H Q := h
end L2
namespace G2
open PySem L2
theorem md {i j : Int} (h : 0 < j) : 0 ≤ i % j ∧ i % j < j := ⟨Int.emod_nonneg _ (Int.ne_of_gt h), Int.emod_lt_of_pos _ h⟩
theorem mulL {i j : Int} (h1 : -4000000000 < i) (h2 : i < 4000000000) : CMul i j := .inl ⟨by omega, by omega⟩
theorem mulR {i j : Int} (h1 : -4000000000 < j) (h2 : j < 4000000000) : CMul i j := .inr ⟨by omega, by omega⟩
theorem ofI {r : Int} (h : 0 ≤ r) : ∃ n : Nat, r = (n : Int) := ⟨r.toNat, by omega⟩
structure TK (H H' : Hp) : Prop where
 t : ∀ q xs, H q = some (.tup xs) → H' q = some (.tup xs)
 f : ∀ q o u, H q = some (.frz o u) → H' q = some (.frz o u)
section
variable {p l : Addr} {H H' H'' : Hp} {o : HO}
theorem TK.trans (a : TK H H') (b : TK H' H'') : TK H H'' := ⟨fun q xs e => b.t q xs (a.t q xs e), fun q o u e => b.f q o u (a.f q o u e)⟩
theorem TK.new (h : H l = none) : TK H (upd H l o) := ⟨fun q xs e => by rw [upd_ne (ne_of_none e h)]; exact e, fun q ob u e => by rw [upd_ne (ne_of_none e h)]; exact e⟩
theorem TK.lst {ys : List V} (h : H l = some (.lst ys)) : TK H (upd H l o) := ⟨fun q xs e => by rw [upd_ne (ne_of e h (by intro z; cases z))]; exact e, fun q ob u e => by rw [upd_ne (ne_of e h (by intro z; cases z))]; exact e⟩
theorem TK.same (k : Same H H') : TK H H' := ⟨fun _ _ e => k _ _ e, fun _ _ _ e => k _ _ e⟩
end
theorem _root_.L2.Same.new {H H' : Hp} {l : Addr} {o : HO} (k : Same H H') (h : H' l = none) : Same H (upd H' l o) := fun b u e => by
 rw [upd_ne (ne_of_none (k b u e) h)]
 exact k b u e
theorem _root_.L2.Same.put {H H' : Hp} {l : Addr} {o : HO} (k : Same H H') (h : H l = none) : Same H (upd H' l o) := fun b u e => by
 rw [upd_ne (ne_of_none e h)]
 exact k b u e
def SqF (K : PySem.W.Frag) (H : Hp) (a : Addr) (xs : List V) : Prop :=
 (∃ o, H a = some (.frz o (.lst xs))) ∨ ∃ (o : Obj) (its : Array Value) (n : Nat), K.lookup a = some o ∧ o.cls = .type "list" ∧ o.dict = none ∧ o.data = .seq its n ∧ its.size ≤ sizeLine ∧ Vals xs its.toList
theorem SqF.sq {K : PySem.W.Frag} {H : Hp} {a : Addr} {xs : List V} : SqF K H a xs → SqL K H a xs
 | .inl ⟨o, e⟩ => .inl (.inr ⟨o, e⟩)
 | .inr h => .inr h
theorem SqF.of {K : PySem.W.Frag} {H : Hp} {a : Addr} {xs : List V} (O : Only H) : SqL K H a xs → SqF K H a xs
 | .inl (.inl e) => by
  rcases O a with z | ⟨o, ys, z⟩
  ·rw [e] at z; cases z
  ·rw [e] at z; cases z
 | .inl (.inr h) => .inl h
 | .inr h => .inr h
structure Tp (H : Hp) (p l : Addr) (ns : List Int) : Prop where
 ex : ∃ c e : Int, H p = some (.lst [.ref l, .int c, .int e])
 hl : H l = some (.lst (ns.map V.int))
 ne : p ≠ l
section
variable {p l a : Addr} {H H' : Hp} {o : HO} {ns : List Int}
theorem Tp.draw (t : Tp H p l ns) {c e : Int} : Tp (upd H p (.lst [.ref l, .int c, .int e])) p l ns := ⟨⟨c, e, upd_same⟩, by rw [upd_ne (Ne.symm t.ne)]; exact t.hl, t.ne⟩
theorem Tp.np (t : Tp H p l ns) (h : H a = none) : p ≠ a := let ⟨_, _, e⟩ := t.ex; ne_of_none e h
theorem Tp.nl (t : Tp H p l ns) (h : H a = none) : l ≠ a := ne_of_none t.hl h
theorem Tp.new (t : Tp H p l ns) (h : H a = none) : Tp (upd H a o) p l ns := by
 obtain ⟨c, e, hp⟩ := t.ex
 exact ⟨⟨c, e, by rw [upd_ne (ne_of_none hp h)]; exact hp⟩, by rw [upd_ne (ne_of_none t.hl h)]; exact t.hl, t.ne⟩
theorem Tp.put (t : Tp H p l ns) (h1 : p ≠ a) (h2 : l ≠ a) : Tp (upd H a o) p l ns := by
 obtain ⟨c, e, hp⟩ := t.ex
 exact ⟨⟨c, e, by rw [upd_ne h1]; exact hp⟩, by rw [upd_ne h2]; exact t.hl, t.ne⟩
theorem Tp.same (t : Tp H p l ns) (k : Same H H') : Tp H' p l ns := by
 obtain ⟨c, e, hp⟩ := t.ex
 exact ⟨⟨c, e, k _ _ hp⟩, k _ _ t.hl, t.ne⟩
theorem Tp.tk (t : Tp H p l ns) : TK H (upd H p o) := let ⟨_, _, e⟩ := t.ex; TK.lst e
end
structure Shw (d : PyData) (n h : Nat) : Prop where
 s : d.showable = true
 nd : d.hasDict = false
 p : d.depth ≤ h
 l : d.shown.length ≤ n
def dot : List Int → List Int → Int
 | x :: xs, y :: ys => x * y + dot xs ys
 | _, _ => 0
theorem dot_nil {ys : List Int} : dot [] ys = 0 := by
 simp [dot]
def MulOk (xs ys : List Int) : Prop := ∀ (i : Nat) (x y : Int), xs[i]? = some x → ys[i]? = some y → CMul x y
end G2
namespace L2
open PySem PySem.Spec PyProof.Rows
theorem w_gtup {K : PySem.W.Frag} {n : Nat} {t : TGs} {σ : St} {H : Hp} {Q : St → Hp → Prop} {a : Addr} {xs : List V} (h : H a = some (.tup xs)) (hn : xs.length = n) (q : t xs σ H Q) : gTup K n t (.ref a) σ H Q := ⟨a, xs, rfl, SqT.of h, hn, q⟩
theorem op_mulB {X : Cx} : OpR X (binaryOp .Mult) (rI IntMulOk fun i j => .int (i * j)) := opI fun _ _ _ _ _ _ _ hc q => mul_int q hc
end L2
namespace G2
open PySem L2
section
variable {D : Addr} {te : TE} {tc : TT} {Q : VK} {ρ : St} {H : Hp} {K : PySem.W.Frag} {a b : Addr}
theorem zip_map {xs ys : List Int} (g : Int → Int → Int) (ha : H a = some (.tup (xs.map V.int))) (hb : H b = some (.tup (ys.map V.int))) (hlen : xs.length = ys.length) (hn : xs.length ≤ 1000)
  (step : ∀ (i : Nat) (x y : Int) (H' : Hp), xs[i]? = some x → ys[i]? = some y → Same H H' → ∀ R : V → Hp → Prop, (∀ H'', Same H' H'' → R (.int (g x y)) H'') → te (some (.int x) :: some (.int y) :: ρ) H' R)
  (q : ∀ H', Same H H' → H' D = some (.lst ((List.zipWith g xs ys).map V.int)) → Q (.ref D) H') (hD : H D = none) : CGo (Itz K a b) D (gTup K 2 (gCons (gName 0) (gCons (gName 1) gNil))) tAll te Q (none :: none :: ρ) H := by
 refine cgo_zip (xs := xs.map V.int) (zs := ys.map V.int) (by simp [hlen]) (fun i zs H' => zs = ((List.zipWith g xs ys).take i).map V.int ∧ Same H H') ⟨rfl, Same.new (Same.refl H) hD⟩ (fun i zs H' _ ⟨_, k'⟩ => ⟨SqT.of (k' _ _ ha), SqT.of (k' _ _ hb)⟩) ?_ ?_
 ·rintro i x z zs H' p hx hz ⟨rfl, K'⟩ hDz hp R S kR _
  have hi1 : i < xs.length := by
   have := (List.getElem?_eq_some_iff.mp hx).1
   simpa using this
  have hi2 : i < ys.length := by omega
  have ex : x = .int xs[i] := by
   rw [List.getElem?_map, List.getElem?_eq_getElem hi1] at hx
   exact (Option.some.inj hx).symm
  have ez : z = .int ys[i] := by
   rw [List.getElem?_map, List.getElem?_eq_getElem hi2] at hz
   exact (Option.some.inj hz).symm
  subst ex ez
  refine w_all ?_
  refine iteT ?_
  have hD' : upd H' p (.tup [.int xs[i], .int ys[i]]) D = some (.lst (((List.zipWith g xs ys).take i).map V.int)) := by rw [upd_ne (ne_of_none hDz hp)]; exact hDz
  refine step i _ _ _ (by simp [hi1]) (by simp [hi2]) (K'.new hp) R fun H'' K'' => ?_
  refine kR _ _ (K'' _ _ hD') (by rw [List.length_map, List.length_take]; exact small1000 (by omega)) ⟨?_, ((K'.new hp).trans K'').put hD⟩
  have hz' : (List.zipWith g xs ys)[i]? = some (g xs[i] ys[i]) := by simp [List.getElem?_zipWith, hi1, hi2]
  rw [List.take_add_one, List.map_append, hz']
  rfl
 ·rintro zs H' ⟨rfl, K'⟩ hDz
  refine q H' K' ?_
  rw [hDz, List.take_of_length_le]
  simp
  omega
theorem tup_map {xs : List Int} (g : Int → Int) (ha : H a = some (.tup (xs.map V.int))) (hn : xs.length ≤ 1000)
  (step : ∀ (i : Nat) (x : Int) (H' : Hp), xs[i]? = some x → Same H H' → ∀ R : V → Hp → Prop, (∀ H'', Same H' H'' → R (.int (g x)) H'') → te (some (.int x) :: ρ) H' R)
  (q : ∀ H', Same H H' → H' D = some (.lst ((xs.map g).map V.int)) → Q (.ref D) H') (hD : H D = none) : CGo (Itt K a) D (gName 0) tAll te Q (none :: ρ) H := by
 refine cgo_tup (xs := xs.map V.int) (fun i zs H' => zs = ((xs.map g).take i).map V.int ∧ Same H H') ⟨rfl, Same.new (Same.refl H) hD⟩ (fun i zs H' _ ⟨_, k'⟩ => SqT.of (k' _ _ ha)) ?_ ?_
 ·rintro i x zs H' hx ⟨rfl, K'⟩ hDz R S kR _
  have hi1 : i < xs.length := by
   have := (List.getElem?_eq_some_iff.mp hx).1
   simpa using this
  have ex : x = .int xs[i] := by
   rw [List.getElem?_map, List.getElem?_eq_getElem hi1] at hx
   exact (Option.some.inj hx).symm
  subst ex
  refine w_all ?_
  refine iteT ?_
  refine step i _ _ (by simp [hi1]) K' R fun H'' K'' => ?_
  refine kR _ _ (K'' _ _ hDz) (by rw [List.length_map, List.length_take]; exact small1000 (by omega)) ⟨?_, (K'.trans K'').put hD⟩
  rw [List.take_add_one, List.map_append]
  simp [hi1]
 ·rintro zs H' ⟨rfl, K'⟩ hDz
  refine q H' K' ?_
  rw [hDz, List.take_of_length_le]
  simp
theorem rng_map {n : Nat} (g : Nat → Int) (hn : n ≤ 1000)
  (step : ∀ (i : Nat) (H' : Hp), i < n → Same H H' → ∀ R : V → Hp → Prop, (∀ H'', Same H' H'' → R (.int (g i)) H'') → te (some (.int (i : Int)) :: ρ) H' R)
  (q : ∀ H', Same H H' → H' D = some (.lst (((List.range n).map g).map V.int)) → Q (.ref D) H') (hD : H D = none) : CGo (Itr 0 n) D (gName 0) tAll te Q (none :: ρ) H := by
 refine cgo_range (fun i zs H' => zs = ((List.range i).map g).map V.int ∧ Same H H') ⟨rfl, Same.new (Same.refl H) hD⟩ ?_ ?_
 ·rintro i zs H' hi ⟨rfl, K'⟩ hDz R S kR _
  rw [Int.zero_add]
  refine w_all ?_
  refine iteT ?_
  refine step i _ hi K' R fun H'' K'' => ?_
  refine kR _ _ (K'' _ _ hDz) (by rw [List.length_map, List.length_map, List.length_range]; exact small1000 (by omega)) ⟨?_, (K'.trans K'').put hD⟩
  rw [List.range_succ, List.map_append, List.map_append]
  rfl
 ·rintro zs H' ⟨rfl, K'⟩ hDz
  exact q H' K' hDz
theorem rng_gen {n : Nat} (J : Hp → Prop) (Pe : V → Hp → Prop) (hn : n ≤ 1000) (h0 : J (upd H D (.lst []))) (jD : ∀ H' ys zs, J H' → H' D = some (.lst ys) → J (upd H' D (.lst zs))) (pD : ∀ y H' ys zs, Pe y H' → J H' → H' D = some (.lst ys) → Pe y (upd H' D (.lst zs)))
  (step : ∀ (i : Nat) (H' : Hp) (ys : List V), i < n → J H' → H' D = some (.lst ys) → ∀ R : V → Hp → Prop, (∀ y H'', Pe y H'' → J H'' → H'' D = some (.lst ys) → (∀ z, Pe z H' → Pe z H'') → R y H'') → te (some (.int (i : Int)) :: ρ) H' R)
  (q : ∀ ys H', ys.length = n → (∀ y ∈ ys, Pe y H') → J H' → H' D = some (.lst ys) → Q (.ref D) H') : CGo (Itr 0 n) D (gName 0) tAll te Q (none :: ρ) H := by
 refine cgo_range (fun i zs H' => zs.length = i ∧ (∀ y ∈ zs, Pe y H') ∧ J H') ⟨rfl, (fun y h => by cases h), h0⟩ ?_ ?_
 ·rintro i zs H' hi ⟨hl, hp, hJ⟩ hDz R S kR _
  rw [Int.zero_add]
  refine w_all ?_
  refine iteT ?_
  refine step i H' zs hi hJ hDz R fun y H'' hy hJ' hD' hk => ?_
  refine kR _ _ hD' (small1000 (by omega)) ⟨by simp [hl], fun z hz => ?_, jD _ _ _ hJ' hD'⟩
  rcases List.mem_append.mp hz with old | new
  ·exact pD _ _ _ _ (hk z (hp z old)) hJ' hD'
  ·rw [List.mem_singleton.mp new]
   exact pD _ _ _ _ hy hJ' hD'
 ·rintro zs H' ⟨hl, hp, hJ⟩ hDz
  exact q zs H' hl hp hJ hDz
end
section
variable {X : Cx} {k : Nat}
def rNeD : R2 := fun x y H Q => ∃ dx dy, RdV H x dx ∧ RdV H y dy ∧ dx.canLay0 = true ∧ dy.canLay0 = true ∧ dx.depth ≤ 60 ∧ Q (.bl (!PyData.eqv dx dy)) H
theorem op_neD (hr : Room k X.A) : OpR X (compareOp .NotEq) rNeD := by
 intro pins s σ H x y v u Q I rx ry h
 obtain ⟨dx, dy, hx, hy, cx, cy, hd, q⟩ := h
 obtain ⟨as, ra⟩ := hx.reads I rx
 obtain ⟨bs, rb⟩ := hy.reads I ry
 have := hr.units
 exact SeqAt.compareNe_reads ra rb cx cy (by omega) ⟨.bl _, H, I, rfl, q⟩
end
structure Fm where
 ins : List Int
 sts : List Int
 plus : Int
def FmAt (H : Hp) (q : Addr) (f : Fm) : Prop := ∃ a b, H q = some (.tup [.ref a, .ref b, .int f.plus]) ∧ H a = some (.tup (f.ins.map V.int)) ∧ H b = some (.tup (f.sts.map V.int))
theorem FmAt.same {H H' : Hp} {q : Addr} {f : Fm} (k : Same H H') : FmAt H q f → FmAt H' q f
 | ⟨a, b, h1, h2, h3⟩ => ⟨a, b, k _ _ h1, k _ _ h2, k _ _ h3⟩
theorem FmAt.tk {H H' : Hp} {q : Addr} {f : Fm} (k : TK H H') : FmAt H q f → FmAt H' q f
 | ⟨a, b, h1, h2, h3⟩ => ⟨a, b, k.t _ _ h1, k.t _ _ h2, k.t _ _ h3⟩
def oftF (t : Int) (f : Fm) : Fm := ⟨f.ins.map fun x => t * x, f.sts.map fun x => t * x, t * f.plus⟩
structure FmOk (n m : Nat) (B : Int) (f : Fm) : Prop where
 li : f.ins.length = n
 ls : f.sts.length = m
 bi : ∀ x ∈ f.ins, -B ≤ x ∧ x ≤ B
 bs : ∀ x ∈ f.sts, -B ≤ x ∧ x ≤ B
 bp : -B ≤ f.plus ∧ f.plus ≤ B
end G2
namespace L2
open PySem PySem.Spec PyProof.Rows
section
variable {prog : Program} {w : World} {A : Around} {E : Value → Shared → Prop} {s : Shared}
end
section
variable {X : Cx} {es : List Expr} {kt : Nat} {pt : Pos}
end
section
variable {X : Cx}
end
section
variable {X : Cx} {es : List Expr} {kt : Nat} {pt : Pos}
end
def isI (i : Int) : Value → Bool
 | .int a _ => a == i
 | _ => false
theorem map_erase (k : Nat) (xs : List Int) : (xs.map V.int).eraseIdx k = (xs.eraseIdx k).map V.int := by
 induction xs generalizing k with
 | nil => rfl
 | cons x xs ih => cases k with
  | zero => rfl
  | succ k => simp [ih]
section
variable {X : Cx}
end
theorem cgo_list {D : Addr} {tc : TT} {te : TE} {Q : VK} {ρ : St} {H : Hp} {K : PySem.W.Frag} {a : Addr} {xs : List V} (Pv : Nat → List V → Hp → Prop) (h0 : Pv 0 [] (upd H D (.lst []))) (hl : ∀ i ys H', i ≤ xs.length → Pv i ys H' → SqL K H' a xs)
  (hs : ∀ i x ys H', xs[i]? = some x → Pv i ys H' → H' D = some (.lst ys) → ∀ (R : V → Hp → Prop) (S : Hp → Prop), (∀ y H4, H4 D = some (.lst ys) → ys.length < sizeLine → Pv (i + 1) (ys ++ [y]) (upd H4 D (.lst (ys ++ [y]))) → R y H4) → (∀ H3, H3 D = some (.lst ys) → Pv (i + 1) ys H3 → S H3) →
   tc (some x :: ρ) H' fun b H3 => if b = true then te (some x :: ρ) H3 R else S H3)
  (hd : ∀ ys H', Pv xs.length ys H' → H' D = some (.lst ys) → Q (.ref D) H') : CGo (Itl K a) D (gName 0) tc te Q (none :: ρ) H := by
 refine ⟨fun i m τ ys H' => m = xs.length - i ∧ i ≤ xs.length ∧ (∃ tv, τ = tv :: ρ) ∧ Pv i ys H' ∧ H' D = some (.lst ys), ⟨xs.length, by omega, Nat.zero_le _, ⟨_, rfl⟩, h0, upd_same⟩, ?_⟩
 rintro i m τ ys H' ⟨rfl, hi, ⟨tv, rfl⟩, hp, hD⟩
 refine ⟨hD, ?_⟩
 have sq := hl i ys H' hi hp
 by_cases hlt : i < xs.length
 ·refine .inr ⟨⟨xs, xs[i], sq, by simp [hlt]⟩, ?_⟩
  rintro v H'' ⟨rfl, hv⟩
  have hv' := hv xs sq
  show tc (some v :: ρ) _ _
  exact hs i v ys _ hv' hp hD _ _ (fun y H4 a b c => ⟨a, b, xs.length - (i + 1), by omega, rfl, hlt, ⟨_, rfl⟩, c, upd_same⟩) fun H3 a c => ⟨xs.length - (i + 1), by omega, rfl, hlt, ⟨_, rfl⟩, c, a⟩
 ·have e : i = xs.length := by omega
  subst e
  exact .inl ⟨⟨xs, sq, Nat.le_refl _⟩, hd ys _ hp hD⟩
section
variable {X : Cx}
def rIns : V → List V → Hp → VK → Prop := fun x vs H Q => ∃ (l : Addr) (xs : List V) (i : Int) (y : V), x = .ref l ∧ vs = [.int i, y] ∧ H l = some (.lst xs) ∧ 0 ≤ i ∧ i ≤ xs.length ∧ xs.length < sizeLine ∧ Q .non (upd H l (.lst (xs.take i.toNat ++ y :: xs.drop i.toNat)))
theorem mt_insert : MtM X "list.insert" rIns := by
 intro pins s σ H x vs v us Q I rx rv h
 obtain ⟨l, xs, i, y, rfl, rfl, hH, h0, hi, hz, q⟩ := h
 cases rx
 obtain ⟨u1, us', rfl, ru1, rv'⟩ : ∃ u1 us', us = u1 :: us' ∧ RelV (.int i) u1 ∧ Vals [y] us' := by
  cases rv with
  | cons r1 r2 => exact ⟨_, _, rfl, r1, r2⟩
 obtain ⟨u2, rfl, ru2⟩ := rv'.one
 obtain ⟨t, rfl⟩ := ru1
 obtain ⟨z, its, n, r, hl, e⟩ := I.lstM hH
 have hz' : xs.length < 2 ^ 62 := Nat.lt_of_lt_of_le hz (by decide)
 have hfit : ¬(!Builtin.List.listFitsIndex i) = true := by
  rw [fitsIndex_both (k := i) (by omega) (by omega)]
  decide
 have hsz : its.toArray.size ≤ sizeLine := by rw [List.size_toArray, ← hl]; exact Nat.le_of_lt hz
 refine call_meets F.slot_list_insert ⟨_, e, rfl⟩ F.entry_list_insert (F.args_list_insert_3 _ _ _) (AutoSeq1.list_insert_list_int_val_1 l its.toArray n i t u2 hfit hsz) ⟨e, ?_⟩
 refine ⟨.non, _, I.lset (its' := its.take i.toNat ++ u2 :: its.drop i.toNat) hH e ?_ ((r.take i.toNat).append (.cons ru2 (r.drop i.toNat))) ?_, rfl, q⟩
 ·have hk : (if i < 0 then (i + (its.toArray.size : Int)).toNat else min i.toNat its.toArray.size) = i.toNat := by
   rw [if_neg (by omega), List.size_toArray]
   omega
  show Array.push (its.toArray.extract 0 (if i < 0 then (i + (its.toArray.size : Int)).toNat else min i.toNat its.toArray.size)) u2 ++ its.toArray.extract (if i < 0 then (i + (its.toArray.size : Int)).toNat else min i.toNat its.toArray.size) = _
  rw [hk]
  apply Array.toList_inj.mp
  simp [List.take_drop]
  rw [List.take_of_length_le (by omega)]
 ·rw [List.length_append, List.length_cons, List.length_take, List.length_drop]
  omega
end
def Itzl (K : PySem.W.Frag) (a b : Addr) : It :=
 ⟨fun i H => ∃ xs ys x y, SqL K H a xs ∧ SqL K H b ys ∧ xs[i]? = some x ∧ ys[i]? = some y, fun i H v H' => ∃ p x y, v = .ref p ∧ H p = none ∧ H' = upd H p (.tup [x, y]) ∧ (∀ xs, SqL K H a xs → xs[i]? = some x) ∧ ∀ ys, SqL K H b ys → ys[i]? = some y,
  fun i H => ∃ xs ys, SqL K H a xs ∧ SqL K H b ys ∧ (xs.length ≤ i ∨ ys.length ≤ i)⟩
theorem turn_zpl {P : Program} {w : World} {K : PySem.W.Frag} {es : List Expr} {kt : Nat} {pt : Pos} (a b z TI TO i1 i2 : Addr) (D : ZipApart z TI TO i1 i2 a b) :
  Turn P w K (.Tuple es kt pt) (Itzl K a b) [z, TI, TO, i1, i2] z (fun i h => IsZip h z TI TO .none ∧ IsPair h TI (.ref i1) (.ref i2) ∧ (∃ u v, IsPair h TO u v) ∧ h.IsListIter i1 a i ∧ h.IsListIter i2 b i) where
 mem := by simp
 obj := fun i h st q hq => by
  obtain ⟨hz, hI, ⟨u, v, hO⟩, ⟨o1, e1, c1, d1⟩, ⟨o2, e2, c2, d2⟩⟩ := st
  simp only [List.mem_cons, List.not_mem_nil, or_false] at hq
  rcases hq with rfl | rfl | rfl | rfl | rfl
  ·exact ⟨_, hz, fun v y => by have y' : Data.fields _ = Data.cell v := y; cases y'⟩
  ·exact ⟨_, hI, fun v y => by have y' : Data.seq _ _ = Data.cell v := y; cases y'⟩
  ·exact ⟨_, hO, fun v y => by have y' : Data.seq _ _ = Data.cell v := y; cases y'⟩
  ·exact ⟨o1, e1, fun v y => by rw [d1] at y; cases y⟩
  ·exact ⟨o2, e2, fun v y => by rw [d2] at y; cases y⟩
 keep := fun i h h' st k => ⟨k z (by simp) _ st.1, k TI (by simp) _ st.2.1, let ⟨u, v, q⟩ := st.2.2.1; ⟨u, v, k TO (by simp) _ q⟩, st.2.2.2.1.at fun o x => k i1 (by simp) o x, st.2.2.2.2.at fun o x => k i2 (by simp) o x⟩
 item := by
  intro X hP hw hK hc i pins s σ H E I hf st hg
  subst hP hw hK
  obtain ⟨xs, ys, x, y, hqa, hqb, hx, hy⟩ := hg
  obtain ⟨ia, rva, pa, za⟩ := I.list hqa
  obtain ⟨ib, rvb, pb, zb⟩ := I.list hqb
  obtain ⟨u, hu, ru⟩ := rva.get hx
  obtain ⟨v, hv, rv⟩ := rvb.get hy
  obtain ⟨hz, hI, ⟨ou, ov, hO⟩, h1, h2⟩ := st
  refine wpAny_pyNext_zip_item D hz hI hO h1 h2 pa.isList pb.isList (x := u) (y := v) (by simpa using hu) (by simpa using hv) fun h' z' o' a' b' t' _ k' => ?_
  refine ⟨_, rfl, wpAny_letOwnedTupleGo_zip z' fun h'' z'' sb => ?_⟩
  have nz : s.heap.objs.size ≠ z := Nat.ne_of_gt (Heap.lt_size hz)
  have nTO : s.heap.objs.size ≠ TO := Nat.ne_of_gt (Heap.lt_size hO)
  have nTI : s.heap.objs.size ≠ TI := Nat.ne_of_gt (Heap.lt_size hI)
  have n1 : s.heap.objs.size ≠ i1 := by obtain ⟨o, e, _⟩ := h1; exact Nat.ne_of_gt (Heap.lt_size e)
  have n2 : s.heap.objs.size ≠ i2 := by obtain ⟨o, e, _⟩ := h2; exact Nat.ne_of_gt (Heap.lt_size e)
  have up : ∀ q o, q ≠ z → h'.get? q = some o → h''.get? q = some o := fun q o hq e => (sb.2 q hq).trans e
  have hI'' : IsPair h'' TI (.ref i1) (.ref i2) := up _ _ D.TIz (k' TI _ D.TIz D.TITO D.TIi1 D.TIi2 hI)
  have I2 : Inv X pins σ (upd H s.heap.objs.size (.tup [x, y])) { s with heap := h'', toks := s.toks } := I.turnNew (ch := [z, TI, TO, i1, i2]) hf (fun q o hq e => by
   simp only [List.mem_cons, List.not_mem_nil, or_false, not_or] at hq
   exact up q o hq.1 (k' q o hq.1 hq.2.2.1 hq.2.2.2.1 hq.2.2.2.2 e)) (fun q hq => by
   simp only [List.mem_cons, List.not_mem_nil, or_false] at hq
   rcases hq with rfl | rfl | rfl | rfl | rfl
   ·exact ⟨_, z''⟩
   ·exact ⟨_, hI''⟩
   ·exact ⟨_, up _ _ D.TOz o'⟩
   ·obtain ⟨o, e, _⟩ := a'; exact ⟨o, up _ o D.i1z e⟩
   ·obtain ⟨o, e, _⟩ := b'; exact ⟨o, up _ o D.i2z e⟩) (Nat.le_refl _) (vals := [u, v]) (.cons ru (.cons rv .nil)) (by show 2 ≤ sizeLine; decide) ⟨_, up _ _ nz t', rfl, _, rfl⟩
  refine ⟨.ref s.heap.objs.size, _, I2, rfl, ⟨_, x, y, rfl, I.fresh, rfl, fun zs hzs => by rw [I.list_inj hzs hqa]; exact hx, fun zs hzs => by rw [I.list_inj hzs hqb]; exact hy⟩,
   ⟨z'', hI'', ⟨_, _, up _ _ D.TOz o'⟩, a'.at fun o e => up _ o D.i1z e, b'.at fun o e => up _ o D.i2z e⟩, fun q hq => ?_⟩
  have hq0 := (hf q hq).1
  simp only [List.mem_cons, List.not_mem_nil, or_false] at hq
  rw [upd_ne]
  ·exact hq0
  ·rcases hq with rfl | rfl | rfl | rfl | rfl
   ·exact Ne.symm nz
   ·exact Ne.symm nTI
   ·exact Ne.symm nTO
   ·exact Ne.symm n1
   ·exact Ne.symm n2
 done := by
  intro X hP hw hK hc i pins s σ H E I hf st hg
  subst hP hw hK
  obtain ⟨xs, ys, hqa, hqb, hx⟩ := hg
  obtain ⟨ia, rva, pa, za⟩ := I.list hqa
  obtain ⟨ib, rvb, pb, zb⟩ := I.list hqb
  obtain ⟨hz, hI, ⟨ou, ov, hO⟩, h1, h2⟩ := st
  have la := rva.length
  have lb := rvb.length
  refine wpAny_pyNext_zip_end (I.ok.hd hc) D hz hI hO h1 h2 pa.isList pb.isList (hx.elim (fun q => .inl (by simp; omega)) fun q => .inr (by simp; omega)) fun h' k' => ?_
  refine ⟨rfl, I.turnOnly (tk := s.toks) hf fun q o hq e => ?_⟩
  simp only [List.mem_cons, List.not_mem_nil, or_false, not_or] at hq
  exact k' q o hq.1 hq.2.2.1 hq.2.2.2.1 hq.2.2.2.2 e
 self := fun _ _ s _ _ st h => wpAny_pyIter_zip st.1 h
section
variable {X : Cx} {es : List Expr} {kt : Nat} {pt : Pos}
def iZpl (K : PySem.W.Frag) (ta : TA) : TI := fun σ H R => ta σ H fun vs H1 => ∃ a b, vs = [.ref a, .ref b] ∧ (∃ xs, SqL K H1 a xs) ∧ (∃ ys, SqL K H1 b ys) ∧ R (Itzl K a b) H1
theorem pi_zpl {e e' : Expr} {ta : TA} {p pos : Pos} (hm : X.mg "zip" = none) (ha : PA X [e, e'] ta) (hg : Gl X "zip" := by rfl) (h : isStar e = false := by rfl) (h' : isStar e' = false := by rfl) : PI X (.Tuple es kt pt) (.Call (.Name "zip" p) [e, e'] [] pos) (iZpl X.K ta) := by
 intro pins s σ H R I hh
 refine Call_ (ld_blt I hg hm boot_zip (PyProof.Rows.callWith_type1 (thn (ha pos pins s σ H _ I hh) fun us s1 ⟨vs, H1, I1, r1, q1⟩ => ?_) (star1 h) (star_any (by simp [h']))))
 obtain ⟨a, b, rfl, ⟨xs, hqa⟩, ⟨ys, hqb⟩, q⟩ := q1
 cases r1 with
 | cons ru r2 =>
  cases r2 with
  | cons rv r3 =>
   cases r3
   cases ru
   cases rv
   obtain ⟨ia, rva, pa, za⟩ := I1.list hqa
   obtain ⟨ib, rvb, pb, zb⟩ := I1.list hqb
   have la : a < s1.heap.objs.size := by obtain ⟨o, _, e, _⟩ := pa; exact Heap.lt_size e
   have lb : b < s1.heap.objs.size := by obtain ⟨o, _, e, _⟩ := pb; exact Heap.lt_size e
   refine call_zip_2 (xs := ia.toArray) (ys := ib.toArray) pa.isList pb.isList fun g hz hI hO j1 j2 _ hk => wpAny_pyIter_zip hz ?_
   refine ⟨_, [s1.heap.objs.size + 4, s1.heap.objs.size + 2, s1.heap.objs.size + 3, s1.heap.objs.size, s1.heap.objs.size + 1], _, _, H1, rfl, I1.kept (t' := s1.toks) hk, turn_zpl a b _ _ _ _ _ (zipApart_new la lb), ⟨hz, hI, ⟨_, _, hO⟩, j1, j2⟩, fun q hq => ?_, by assumption⟩
   have hq' : s1.heap.objs.size ≤ q := by
    simp only [List.mem_cons, List.not_mem_nil, or_false] at hq
    rcases hq with z | z | z | z | z <;> rw [z] <;> first | exact Nat.le_refl _ | exact Nat.le_add_right _ _
   exact I1.fpOk hq' (I1.hok.fresh hq')
end
section
variable {D : Addr} {te : TE} {tc : TT} {Q : VK} {ρ : St} {H : Hp}
theorem cgo_zpl {K : PySem.W.Frag} {a b : Addr} {xs zs : List V} {n : Nat} (n1 : n ≤ xs.length) (n2 : n ≤ zs.length) (n3 : xs.length ≤ n ∨ zs.length ≤ n) (Pv : Nat → List V → Hp → Prop) (h0 : Pv 0 [] (upd H D (.lst []))) (hl : ∀ i ys H', i ≤ n → Pv i ys H' → SqL K H' a xs ∧ SqL K H' b zs)
  (hs : ∀ i x z ys H' p, i < n → xs[i]? = some x → zs[i]? = some z → Pv i ys H' → H' D = some (.lst ys) → H' p = none → ∀ (R : V → Hp → Prop) (S : Hp → Prop), (∀ y H4, H4 D = some (.lst ys) → ys.length < sizeLine → Pv (i + 1) (ys ++ [y]) (upd H4 D (.lst (ys ++ [y]))) → R y H4) → (∀ H3, H3 D = some (.lst ys) → Pv (i + 1) ys H3 → S H3) →
   tc (some x :: some z :: ρ) (upd H' p (.tup [x, z])) fun b H3 => if b = true then te (some x :: some z :: ρ) H3 R else S H3)
  (hd : ∀ ys H', Pv n ys H' → H' D = some (.lst ys) → Q (.ref D) H') : CGo (Itzl K a b) D (gTup K 2 (gCons (gName 0) (gCons (gName 1) gNil))) tc te Q (none :: none :: ρ) H := by
 refine ⟨fun i m τ ys H' => m = n - i ∧ i ≤ n ∧ (∃ tv tw, τ = tv :: tw :: ρ) ∧ Pv i ys H' ∧ H' D = some (.lst ys), ⟨n, by omega, Nat.zero_le _, ⟨_, _, rfl⟩, h0, upd_same⟩, ?_⟩
 rintro i m τ ys H' ⟨rfl, hi, ⟨tv, tw, rfl⟩, hp, hD⟩
 refine ⟨hD, ?_⟩
 obtain ⟨sq, sq'⟩ := hl i ys H' hi hp
 by_cases hlt : i < n
 ·have hlt' : i < zs.length := by omega
  have hlt0 : i < xs.length := by omega
  refine .inr ⟨⟨xs, zs, xs[i], zs[i], sq, sq', by simp [hlt0], by simp [hlt']⟩, ?_⟩
  rintro v H'' ⟨p, x, z, rfl, hpn, rfl, hx, hz⟩
  have hx' := hx xs sq
  have hz' := hz zs sq'
  refine ⟨p, [x, z], rfl, SqT.of upd_same, rfl, x, [z], rfl, z, [], rfl, rfl, ?_⟩
  exact hs i x z ys _ p hlt hx' hz' hp hD hpn _ _ (fun y H4 a b c => ⟨a, b, n - (i + 1), by omega, rfl, hlt, ⟨_, _, rfl⟩, c, upd_same⟩) fun H3 a c => ⟨n - (i + 1), by omega, rfl, hlt, ⟨_, _, rfl⟩, c, a⟩
 ·have e : i = n := by omega
  subst e
  exact .inl ⟨⟨xs, zs, sq, sq', n3⟩, hd ys _ hp hD⟩
end
theorem w_compZl {K : PySem.W.Frag} {ta : TA} {n : Nat} {ix : List Nat} {g : TG} {tc : TT} {te : TE} {σ : St} {H : Hp} {Q : VK} (h : ta σ H fun vs H1 => ∃ a b, vs = [.ref a, .ref b] ∧ (∃ xs, SqL K H1 a xs) ∧ (∃ ys, SqL K H1 b ys) ∧ ∀ D, H1 D = none → CGo (Itzl K a b) D g tc te Q (List.replicate n none ++ sub ix σ) H1) : tComp (iZpl K ta) n ix g tc te σ H Q := h
end L2
namespace G2
open PySem L2
end G2
namespace L2
open PySem PySem.Spec PyProof.Rows
structure NScope (o sc : Scope) (TN F : List Str) : Prop where
 okind : o.kind = .function
 kind : sc.kind = .function
 names : ∀ y ∈ sc.names, y.2 = .local → sc.names.lookup y.1 = some .local
 clN : ∀ y ∈ sc.names, y.2 = .cell → sc.names.lookup y.1 = some .cell
 fr : ∀ y ∈ sc.names, y.2 = .free → o.names.lookup y.1 = some .cell ∧ sc.names.lookup y.1 = some .free
 ff : ∀ y ∈ F, (y, NameKind.free) ∈ sc.names
theorem cellsFrom_app : ∀ (names : List (Str × NameKind)) (n : Nat) (acc : List (Str × Addr)), cellsFrom n names acc = cellsFrom n names [] ++ acc
 | [], n, acc => by simp [cellsFrom]
 | (x, k) :: r, n, acc => by
  unfold cellsFrom
  split
  ·rw [cellsFrom_app r (n + 1) ((x, n) :: acc), cellsFrom_app r (n + 1) [(x, n)]]
   simp
  ·exact cellsFrom_app r n acc
theorem cellsFrom_name : ∀ (names : List (Str × NameKind)) (n : Nat) (acc : List (Str × Addr)) (x : Str) (c : Addr), (x, c) ∈ cellsFrom n names acc → (x, NameKind.cell) ∈ names ∨ (x, c) ∈ acc
 | [], n, acc, x, c, h => .inr h
 | (y, k) :: r, n, acc, x, c, h => by
  unfold cellsFrom at h
  split at h
  ·rename_i hk
   have hk' : k = .cell := by simpa using hk
   subst hk'
   rcases cellsFrom_name r (n + 1) ((y, n) :: acc) x c h with z | z
   ·exact .inl (List.mem_cons_of_mem _ z)
   ·rcases List.mem_cons.mp z with e | z
    ·cases e
     exact .inl List.mem_cons_self
    ·exact .inr z
  ·rcases cellsFrom_name r n acc x c h with z | z
   ·exact .inl (List.mem_cons_of_mem _ z)
   ·exact .inr z
def ownC (n : Nat) (sc : Scope) : List (Str × Addr) := cellsFrom (n + 1) sc.names []
def allC (env : Env) (n : Nat) (sc : Scope) : List (Str × Addr) := ownC n sc ++ cloF env sc.names []
theorem look_app {α : Type} {x : Str} {c : α} : ∀ {l r : List (Str × α)}, (l ++ r).lookup x = some c → l.lookup x = some c ∨ (l.lookup x = none ∧ r.lookup x = some c)
 | [], r, h => .inr ⟨rfl, h⟩
 | (y, d) :: l, r, h => by
  rw [List.cons_append, List.lookup_cons] at h
  rw [List.lookup_cons]
  cases e : x == y with
  | true => rw [e] at h; exact .inl h
  | false => rw [e] at h; exact look_app h
theorem look_l {α : Type} {x : Str} {c : α} : ∀ {l r : List (Str × α)}, l.lookup x = some c → (l ++ r).lookup x = some c
 | [], r, h => by cases h
 | (y, d) :: l, r, h => by
  rw [List.lookup_cons] at h
  rw [List.cons_append, List.lookup_cons]
  cases e : x == y with
  | true => rw [e] at h; exact h
  | false => rw [e] at h; exact look_l h
theorem look_r {α : Type} {x : Str} : ∀ {l r : List (Str × α)}, l.lookup x = none → (l ++ r).lookup x = r.lookup x
 | [], r, h => rfl
 | (y, d) :: l, r, h => by
  rw [List.lookup_cons] at h
  rw [List.cons_append, List.lookup_cons]
  cases e : x == y with
  | true => rw [e] at h; cases h
  | false => rw [e] at h; exact look_r h
theorem NScope.own {o sc : Scope} {TN F : List Str} (S : NScope o sc TN F) {n : Nat} {x : Str} {c : Addr} (h : (ownC n sc).lookup x = some c) : sc.names.lookup x = some .cell := by
 rcases cellsFrom_name sc.names (n + 1) [] x c (PySem.mem_of_lookup h) with z | z
 ·exact S.clN _ z rfl
 ·cases z
theorem NScope.notown {o sc : Scope} {TN F : List Str} (S : NScope o sc TN F) {n : Nat} {x : Str} (h : (x, NameKind.free) ∈ sc.names) : (ownC n sc).lookup x = none := by
 cases e : (ownC n sc).lookup x with
 | none => rfl
 | some c =>
  have h1 := S.own e
  rw [(S.fr _ h rfl).2] at h1
  cases h1
theorem relabel_from2 {env : Env} {y : Str} : ∀ {names : List (Str × NameKind)},
    ((names.map fun (n, k) => if (k == NameKind.free && env.scope.kind == .function && env.kindOf n == some .cell) then (n, NameKind.cell) else (n, k)).lookup y = some .cell ∨
     (names.map fun (n, k) => if (k == NameKind.free && env.scope.kind == .function && env.kindOf n == some .cell) then (n, NameKind.cell) else (n, k)).lookup y = some .free) → (y, NameKind.free) ∈ names ∨ (y, NameKind.cell) ∈ names
  | [], h => by simp at h
  | (n, k) :: r, h => by
    have ih := @relabel_from2 env y r
    have h' : List.lookup y ((if (k == NameKind.free && env.scope.kind == .function && env.kindOf n == some .cell) = true then (n, NameKind.cell) else (n, k)) :: (r.map fun (n, k) => if (k == NameKind.free && env.scope.kind == .function && env.kindOf n == some .cell) then (n, NameKind.cell) else (n, k))) = some .cell ∨
      List.lookup y ((if (k == NameKind.free && env.scope.kind == .function && env.kindOf n == some .cell) = true then (n, NameKind.cell) else (n, k)) :: (r.map fun (n, k) => if (k == NameKind.free && env.scope.kind == .function && env.kindOf n == some .cell) then (n, NameKind.cell) else (n, k))) = some .free := h
    clear h
    have more : ((y, NameKind.free) ∈ r ∨ (y, NameKind.cell) ∈ r) → (y, NameKind.free) ∈ (n, k) :: r ∨ (y, NameKind.cell) ∈ (n, k) :: r := fun z => z.elim (fun z => .inl (List.mem_cons_of_mem _ z)) fun z => .inr (List.mem_cons_of_mem _ z)
    cases hx : y == n with
    | true =>
      have e : y = n := by simpa using hx
      subst e
      by_cases hc' : (k == NameKind.free && env.scope.kind == .function && env.kindOf y == some .cell) = true
      · have hk : k = .free := by
          have := (Bool.and_eq_true _ _ ▸ (Bool.and_eq_true _ _ ▸ hc').1).1
          simpa using this
        subst hk
        exact .inl List.mem_cons_self
      · rw [if_neg hc'] at h'
        simp only [List.lookup_cons, beq_self_eq_true] at h'
        rcases h' with h' | h'
        · cases h'
          exact .inr List.mem_cons_self
        · cases h'
          exact .inl List.mem_cons_self
    | false =>
      by_cases hc' : (k == NameKind.free && env.scope.kind == .function && env.kindOf n == some .cell) = true
      · rw [if_pos hc'] at h'; simp only [List.lookup_cons, hx] at h'; exact more (ih h')
      · rw [if_neg hc'] at h'; simp only [List.lookup_cons, hx] at h'; exact more (ih h')
theorem newEnv_cells {M : Model} {A : Around} {E : Value → Shared → Prop} {s : Shared} {scope : Scope} {globals : Addr} {cl : List (Str × Addr)} {qual : Str} {env : Env} {Q : Env → Shared → Prop}
  (hQ : ∀ h', h'.Ns s.heap.objs.size (fun _ => none) → (∀ b o, s.heap.get? b = some o → h'.get? b = some o) → (∀ x c, (ownC s.heap.objs.size scope).lookup x = some c → h'.IsCell c none ∧ s.heap.objs.size < c) → ((ownC s.heap.objs.size scope).Pairwise fun x y => x.2 ≠ y.2) →
   Q { scope := scope, locals := s.heap.objs.size, globals := globals, cells := ownC s.heap.objs.size scope ++ cl, qual := qual, func := none, code := env.code, frame := env.frame, builtins := env.builtins } { s with heap := h' }) :
  wpAny M A (newFunctionEnv scope globals cl [] qual none .none (some env)) Q E s := by
 simp only [newFunctionEnv, Option.isSome_some, if_true]
 refine wpAny_bind (wpAny_alloc ?_)
 refine wpAny_bind (wpAny_layCells _ (fun name kind cells => by cases hkc : kind == NameKind.cell <;> simp [hkc]) _ _ _ _ ?_)
 have ok := cellsFrom_ok scope.names (s.heap.push { cls := .type "dict", data := .dict #[] }) (s.heap.objs.size + 1) [] ⟨fun _ _ hm => (nomatch hm), List.Pairwise.nil⟩ (by rw [Heap.size_push]; exact Nat.le_refl _)
 rw [Heap.size_push] at ok
 rw [show ({ s with heap := s.heap.push { cls := .type "dict", data := .dict #[] } } : Shared).heap.objs.size = s.heap.objs.size + 1 from Heap.size_push ..]
 rw [cellsFrom_app]
 refine wpAny_bind ?_
 rw [List.forIn_nil]
 refine wpAny_pure (wpAny_pure ?_)
 exact hQ _ ((Heap.Ns.new s.heap (.type "dict")).keeps (pushCells_keeps _ _)) (fun b o e => pushCells_keeps _ _ b o (Heap.get?_push_of_some _ e)) (fun x c hc => ⟨(ok.empty x c (PySem.mem_of_lookup hc)).1, (ok.empty x c (PySem.mem_of_lookup hc)).2⟩) ok.apart
def cxN (X : Cx) (N : List Str) (sc : Scope) (cl : List (Str × Addr)) (C : Addr) (fp : List Addr) (s₃ : Shared) (H₃ : Hp) (xe : Value → Shared → Prop) : Cx :=
 { X with N := N, s₀ := s₃, H₀ := H₃, env := compEnvC sc cl C X.env, outer := X.stack, ex := fp, fn := fun y => sc.names.lookup y == some .cell, pn := [], xe := xe }
theorem inv_compN {X : Cx} {pins : List (Addr × Obj)} {σ : St} {H : Hp} {s : Shared} {sc : Scope} {TN F : List Str} {ix : List Nat} {fp : List Addr} {h4 : Heap} {tk : Nat} {m : Str → Option Value} {xe : Value → Shared → Prop}
  (S : NScope X.env.scope sc TN F) (hix : ix.map (fun i => X.N[i]?) = F.map some) (I : Inv X pins σ H s) (hf : ∀ b ∈ fp, FpOk X pins H b) (ho : ∀ b ∈ fp, ∃ o, s.heap.get? b = some o)
  (hk : ∀ b o, s.heap.get? b = some o → h4.get? b = some o) (hn : h4.Ns s.heap.objs.size m) (hcl : ∀ x c, (ownC s.heap.objs.size sc).lookup x = some c → h4.IsCell c none ∧ s.heap.objs.size < c) (hap : (ownC s.heap.objs.size sc).Pairwise fun x y => x.2 ≠ y.2) :
  Inv (cxN X (TN ++ F) sc (allC X.env s.heap.objs.size sc) s.heap.objs.size fp s H xe) [] (List.replicate TN.length none ++ sub ix σ) H { s with heap := h4, toks := tk } := by
 have cl0 : ∀ x c, (cloF X.env sc.names []).lookup x = some c → X.env.cells.lookup x = some c := fun x c e => by
  rw [cloF_lookup] at e
  by_cases hx : (x, NameKind.free) ∈ sc.names
  ·rw [if_pos hx] at e
   obtain ⟨c', hc'⟩ := I.ok.has x (.inl (S.fr _ hx rfl).1)
   rw [hc'] at e ⊢
   exact e
  ·rw [if_neg hx] at e
   cases e
 have cl : ∀ x c, (allC X.env s.heap.objs.size sc).lookup x = some c → (ownC s.heap.objs.size sc).lookup x = some c ∨ X.env.cells.lookup x = some c := fun x c e => by
  rcases look_app e with z | ⟨_, z⟩
  ·exact .inl z
  ·exact .inr (cl0 x c z)
 have old : ∀ x c, X.env.cells.lookup x = some c → c < s.heap.objs.size := fun x c e => by
  obtain ⟨v, o, ho', _⟩ := I.cell x c e
  exact Heap.lt_size ho'
 have cl' : ∀ x, (x, NameKind.free) ∈ sc.names → (allC X.env s.heap.objs.size sc).lookup x = X.env.cells.lookup x := fun x hx => by
  unfold allC
  rw [look_r (S.notown hx), cloF_lookup, if_pos hx]
  obtain ⟨c', hc'⟩ := I.ok.has x (.inl (S.fr _ hx rfl).1)
  rw [hc']
  rfl
 have hlen : ix.length = F.length := by
  have := congrArg List.length hix
  simpa using this
 refine ⟨⟨I.ok.mod, S.kind, I.ok.glob, I.ok.blt, Nat.le_refl _, fun x y c h1 h2 => ?_, fun x hx => ?_, fun x c z h => ?_, I.ok.hd, I.ok.frames, .inl rfl, fun b hb => ⟨?_, fun x c e => ?_⟩,
  I.bs, Nat.le_trans I.ok.bsz I.sz, fun b o e hb => ?_, fun b hb hfs => ?_, I.stack, I.stkFree⟩, rfl, I.bare, Un.kept hk, ⟨m, hn, fun i x v h1 h2 h3 => ?_⟩, fun x c e => ?_, I.hok.fresh (Nat.le_refl _), fun x c e => ?_, fun p hp => absurd (show p ∈ ([] : List (Addr × Obj)) from hp) (by simp), I.hok.kept hk, ?_⟩
 ·rcases cl x c h1 with a | a <;> rcases cl y c h2 with b | b
  ·exact name_of_addr hap (PySem.mem_of_lookup a) (PySem.mem_of_lookup b)
  ·exact absurd (old y c b) (Nat.not_lt.mpr (Nat.le_of_lt (hcl x c a).2))
  ·exact absurd (old x c a) (Nat.not_lt.mpr (Nat.le_of_lt (hcl y c b).2))
  ·exact I.ok.inj x y c a b
 ·rcases relabel_from2 (env := X.env) hx with hx' | hx'
  ·obtain ⟨c, hc⟩ := I.ok.has x (.inl (S.fr _ hx' rfl).1)
   exact ⟨c, (cl' x hx').trans hc⟩
  ·obtain ⟨c, hc⟩ := cell_has (n := s.heap.objs.size + 1) (S.clN _ hx' rfl)
   exact ⟨c, look_l hc⟩
 ·have z' : sc.names.lookup x = some .cell := by simpa [cxN] using z
  obtain ⟨c', hc⟩ := cell_has (n := s.heap.objs.size + 1) z'
  have hc' : (allC X.env s.heap.objs.size sc).lookup x = some c' := look_l hc
  have h' : (allC X.env s.heap.objs.size sc).lookup x = some c := h
  have ec : c' = c := Option.some.inj (hc'.symm.trans h')
  rw [← ec]
  exact Nat.le_of_lt (hcl x c' hc).2
 ·obtain ⟨o, e⟩ := ho b hb
  exact Nat.ne_of_lt (Heap.lt_size e)
 ·rcases cl x c e with z | z
  ·obtain ⟨o, eb⟩ := ho b hb
   exact fun w => absurd (Heap.lt_size eb) (by rw [← w]; exact Nat.not_lt.mpr (Nat.le_of_lt (hcl x c z).2))
  ·exact (hf b hb).2.2.2.2.1 x c z
 ·rcases (hf b hb).2.2.2.1 with z | z
  ·exact I.ok.noex b o e z
  ·exact absurd (Nat.lt_of_lt_of_le (Heap.lt_size e) (Nat.le_trans I.ok.bsz z)) (Nat.lt_irrefl _)
 ·rcases List.mem_cons.mp (I.stkSub b hfs) with z | z
  ·exact (hf b hb).2.1 z
  ·exact (hf b hb).2.2.1 z
 ·have hi : TN.length ≤ i := by
   apply Nat.le_of_not_lt
   intro hlt
   rw [List.getElem?_append_left (by simpa using hlt), List.getElem?_replicate] at h2
   split at h2 <;> cases h2
  rw [List.getElem?_append_right (by simpa using hi), List.length_replicate] at h2
  have h1' : F[i - TN.length]? = some x := by
   have : (TN ++ F)[i]? = some x := h1
   rw [List.getElem?_append_right hi] at this
   exact this
  have e3 := congrArg (fun l => l[i - TN.length]?) hix
  simp only [List.getElem?_map, h1', Option.map_some] at e3
  unfold sub at h2
  rw [List.getElem?_map] at h2
  cases ej : ix[i - TN.length]? with
  | none => rw [ej] at h2; cases h2
  | some k =>
   rw [ej] at h2 e3
   have h2' : (σ[k]?).join = some v := Option.some.inj h2
   have e3' : X.N[k]? = some x := Option.some.inj e3
   have hσ : σ[k]? = some (some v) := by
    cases e : σ[k]? with
    | none => rw [e] at h2'; cases h2'
    | some q =>
     rw [e] at h2'
     have : q = some v := h2'
     rw [this]
   have hfr := S.ff x (List.mem_of_getElem? h1')
   have hcell := (S.fr _ hfr rfl).1
   obtain ⟨m0, hn0, hl0⟩ := I.loc
   obtain ⟨u, r, l⟩ := hl0 k x v e3' hσ (.inr (.inl hcell))
   refine ⟨u, r, ?_⟩
   rcases l with ⟨l1, _⟩ | ⟨_, c, hc, o, ho', hd⟩
   ·have l1' : X.env.scope.names.lookup x = some .local := l1
    rw [hcell] at l1'
    cases l1'
   ·exact .inr ⟨.inl (relabel_free (env := X.env) S.okind hcell (S.fr _ hfr rfl).2), c, (cl' x hfr).trans hc, o, hk c o ho', hd⟩
 ·rcases cl x c e with z | z
  ·exact ⟨_, (hcl x c z).1⟩
  ·obtain ⟨v, o, ho', hd⟩ := I.cell x c z
   exact ⟨v, o, hk c o ho', hd⟩
 ·rcases cl x c e with z | z
  ·exact I.hok.fresh (Nat.le_of_lt (hcl x c z).2)
  ·exact I.freeC x c z
 ·show _ = (TN ++ F).length
  rw [List.length_append, List.length_append, List.length_replicate]
  unfold sub
  rw [List.length_map, hlen]
theorem comp_blockN {X : Cx} {pins : List (Addr × Obj)} {σ : St} {H : Hp} {s : Shared} {sc : Scope} {TN F : List Str} {ix : List Nat} {elt tg iter : Expr} {ifs : List Expr} {pos : Pos} {g : TG} {tc : TT} {te : TE} {J : It} {fp : List Addr} {it : Addr} {tn : Nat → Heap → Prop} {Q : VK}
  {RR : Value → Addr → Result → Shared → Prop} {E : Value → Shared → Prop}
  (S : NScope X.env.scope sc TN F) (hix : ix.map (fun i => X.N[i]?) = F.map some) (hc : X.calm = true) (I : Inv X pins σ H s) (T : Turn X.prog X.w X.K tg J fp it tn) (st : tn 0 s.heap) (hf : ∀ b ∈ fp, FpOk X pins H b)
  (hg : ∀ cl C fp s3 H3 xe, PG (cxN X (TN ++ F) sc cl C fp s3 H3 xe) tg g) (ht : ∀ cl C fp s3 H3 xe, PTs (cxN X (TN ++ F) sc cl C fp s3 H3 xe) ifs tc) (he : ∀ cl C fp s3 H3 xe, PE (cxN X (TN ++ F) sc cl C fp s3 H3 xe) elt te)
  (hW : ∀ D, H D = none → CGo J D g tc te Q (List.replicate TN.length none ++ sub ix σ) H)
  (fin : ∀ D C H' s', Inv X pins σ H' s' → (∃ m, s'.heap.Ns C m) → H' C = none → C ≠ X.env.locals → X.s₀.heap.objs.size ≤ C → (∀ x c, X.env.cells.lookup x = some c → c ≠ C) → (∀ p ∈ X.pn ++ pins, p.1 ≠ C) → Q (.ref D) H' → RR (.ref D) C (.ok .next) s') :
  wpAny (model X.prog X.w) X.A (newList []) (fun acc s₃ => wpAny (model X.prog X.w) X.A (newFunctionEnv sc X.env.globals (cloF X.env sc.names []) [] X.env.qual none .none (some X.env)) (fun cenv s₄ =>
   codeAny (model X.prog X.w) X.A (.compStart (.ListComp elt [⟨tg, iter, ifs, 0⟩] sc pos) 0 (.ref it) acc { cenv with scope := relabel sc X.env }) (RR acc cenv.locals) s₄) E s₃) E s := by
 have hfo : ∀ b ∈ fp, ∃ o, s.heap.get? b = some o := fun b hb => let ⟨o, e, _⟩ := T.obj 0 _ st b hb; ⟨o, e⟩
 refine wpAny_newObj_type ?_
 obtain ⟨W, ⟨m0, w0⟩, go⟩ := hW s.heap.objs.size I.fresh
 have I3 : Inv X pins σ (upd H s.heap.objs.size (.lst [])) { s with heap := s.heap.push { cls := .type "list", data := .seq ([] : List Value).toArray } } := I.lnew (its := []) (ys := []) (t' := s.toks) .nil (Nat.zero_le _)
 generalize hs3 : ({ s with heap := s.heap.push { cls := .type "list", data := .seq ([] : List Value).toArray } } : Shared) = s3 at I3
 have hk3 : ∀ b o, s.heap.get? b = some o → s3.heap.get? b = some o := fun b o e => by
  rw [← hs3]
  exact Heap.get?_push_of_some _ e
 have hf3 : ∀ b ∈ fp, FpOk X pins (upd H s.heap.objs.size (.lst [])) b := fun b hb => by
  obtain ⟨o, e⟩ := hfo b hb
  exact ⟨by rw [upd_ne (Nat.ne_of_lt (Heap.lt_size e))]; exact (hf b hb).1, (hf b hb).2⟩
 have st3 : tn 0 s3.heap := T.keep 0 _ _ st fun b hb o e => hk3 b o e
 show wpAny _ _ _ _ _ s3
 refine newEnv_cells (fun h4 hn4 hk4 hcl4 hap4 => ?_)
 generalize hR : RR (.ref s.heap.objs.size) s3.heap.objs.size = R
 have loop : ∀ s4 : Shared, s4 = { s3 with heap := h4 } →
   codeAny (model X.prog X.w) X.A (.compLoop (.ListComp elt [⟨tg, iter, ifs, 0⟩] sc pos) 0 (.ref it) (.ref s.heap.objs.size) (compEnvC sc (allC X.env s3.heap.objs.size sc) s3.heap.objs.size X.env)) R s4 := by
  rintro s4 rfl
  let X' : Cx := cxN X (TN ++ F) sc (allC X.env s3.heap.objs.size sc) s3.heap.objs.size fp s3 (upd H s.heap.objs.size (.lst [])) (notedBy (model X.prog X.w) X.A (compEnvC sc (allC X.env s3.heap.objs.size sc) s3.heap.objs.size X.env) fun e s' => R (.error e) s')
  have I4 : Inv X' [] (List.replicate TN.length none ++ sub ix σ) (upd H s.heap.objs.size (.lst [])) { s3 with heap := h4 } :=
   inv_compN S hix I3 hf3 (fun b hb => let ⟨o, e⟩ := hfo b hb; ⟨o, hk3 b o e⟩) hk4 hn4 hcl4 hap4
  have fpx : ∀ {H' : Hp}, (∀ b ∈ fp, H' b = none) → ∀ b ∈ fp, FpOk X' [] H' b := fun {H'} hn b hb => by
   refine ⟨hn b hb, (I4.ok.exf b hb).1, fun z => I4.ok.exfs b hb z, .inl hb, fun x c e => (I4.ok.exf b hb).2 x c e, fun p hp => absurd (show p ∈ ([] : List (Addr × Obj)) from hp) (by simp)⟩
  refine comp_loop (fun n s' => ∃ i τ ys H', Inv X' [] τ H' s' ∧ tn i s'.heap ∧ (∀ b ∈ fp, H' b = none) ∧ W i n τ ys H') ?_ m0 ⟨0, _, [], _, I4, T.keep 0 _ _ st3 fun b hb o e => hk4 b o e, fun b hb => (hf3 b hb).1, w0⟩
  rintro n s5 ⟨i, τ, ys, H5, I5, st5, fr5, w5⟩
  obtain ⟨hD, hgo⟩ := go i n τ ys H5 w5
  rcases hgo with ⟨stop, q⟩ | ⟨hgo, step⟩
  ·refine thn (T.done X' rfl rfl rfl hc i [] s5 τ H5 X'.xe I5 (fpx fr5) st5 stop) fun r s6 ⟨hr, I6⟩ => ?_
   subst hr
   show R (.ok .next) s6
   rw [← hR]
   have J6 : Inv X pins σ H5 s6 := I3.call' (ch := fp) I6.os I6.base I6.hok I6.bare fun b hb => ⟨(hf3 b hb).2.2.2.1, (hf3 b hb).2.1, (hf3 b hb).2.2.2.2.1, (hf3 b hb).2.2.2.2.2⟩
   refine fin s.heap.objs.size s3.heap.objs.size H5 s6 J6 (let ⟨m, hn, _⟩ := I6.loc; ⟨m, hn⟩) I6.free (Nat.ne_of_gt I3.lt) I3.sz (fun x c e z => ?_) (fun p hp z => ?_) q
   ·obtain ⟨v, o, ho, _⟩ := I3.cell x c e
    exact absurd (Heap.lt_size ho) (by rw [z]; exact Nat.lt_irrefl _)
   ·exact absurd (Heap.lt_size (I3.pin p hp).1) (by rw [z]; exact Nat.lt_irrefl _)
  ·refine thn (T.item X' rfl rfl rfl hc i [] s5 τ H5 X'.xe I5 (fpx fr5) st5 hgo) fun r s6 ⟨u, hr, h6⟩ => ?_
   subst hr
   refine thn h6 fun _ s7 ⟨v, H7, I7, r7, y7, st7, fr7⟩ => ?_
   have I7' := I7.pinned (fpx fr7) (T.obj _ _ st7)
   refine thn (hg _ _ _ _ _ _ _ s7 τ H7 v u _ I7' r7 (step v H7 y7)) fun _ s8 ⟨τ8, H8, I8, q8⟩ => ?_
   refine thn (ht _ _ _ _ _ _ _ s8 τ8 H8 _ I8 q8) fun ok s9 ⟨H9, I9, q9⟩ => ?_
   have again : ∀ {ys' : List V} {H' : Hp} {s' : Shared}, Inv X' ([] ++ pinsAt fp s7.heap) τ8 H' s' → (∃ m', m' < n ∧ W (i + 1) m' τ8 ys' H') → ∃ m, m < n ∧ ∃ i τ ys H'', Inv X' [] τ H'' s' ∧ tn i s'.heap ∧ (∀ b ∈ fp, H'' b = none) ∧ W i m τ ys H'' := fun {ys' H' s'} I' ⟨m', hm, w'⟩ => by
    refine ⟨m', hm, i + 1, τ8, ys', H', I'.unpinned, T.keep _ _ _ st7 fun b hb o e => (I'.pin (b, o) (List.mem_append_right _ (List.mem_append_right _ (mem_pinsAt hb e)))).1, fun b hb => ?_, w'⟩
    obtain ⟨o, e, d⟩ := T.obj _ _ st7 b hb
    exact (I'.pin (b, o) (List.mem_append_right _ (List.mem_append_right _ (mem_pinsAt hb e)))).2.1
   cases ok with
   | false =>
    exact again I9 q9
   | true =>
    refine thn (he _ _ _ _ _ _ _ s9 τ8 H9 _ I9 q9) fun x s10 ⟨y, H10, I10, r10, hD10, hz10, q10⟩ => ?_
    exact append_ok (X := X') I10 hD10 hz10 r10 fun s11 I11 => again I11 q10
 subst hR
 exact codeAny_compStart_list (loop _ rfl) (T.self X.A 0 _ _ _ (T.keep 0 _ _ st3 fun b hb o e => hk4 b o e) (loop _ rfl))
section
variable {X : Cx} {sc : Scope} {TN F : List Str} {ix : List Nat} {elt tg iter : Expr} {ifs : List Expr} {pos : Pos} {g : TG} {tc : TT} {te : TE} {wi : TI}
theorem closure_ofN (S : NScope X.env.scope sc TN F) {pins : List (Addr × Obj)} {σ : St} {H : Hp} {s : Shared} (I : Inv X pins σ H s) : closureFor sc X.env = pure (cloF X.env sc.names []) :=
 closure_eq fun x hx hk => I.ok.has x.1 (.inl (S.fr x hx hk).1)
theorem ps_setCN {i : Nat} {y : Str} {py spos : Pos} (hN : X.N.Nodup) (hiy : X.N[i]? = some y) (hy : X.env.scope.names.lookup y = some .local) (S : NScope X.env.scope sc TN F) (hix : ix.map (fun i => X.N[i]?) = F.map some) (hc : X.calm = true) (hi : PI X tg iter wi)
  (hg : ∀ cl C fp s3 H3 xe, PG (cxN X (TN ++ F) sc cl C fp s3 H3 xe) tg g) (ht : ∀ cl C fp s3 H3 xe, PTs (cxN X (TN ++ F) sc cl C fp s3 H3 xe) ifs tc) (he : ∀ cl C fp s3 H3 xe, PE (cxN X (TN ++ F) sc cl C fp s3 H3 xe) elt te)
  (hsw : swapsWith (.ListComp elt [⟨tg, iter, ifs, 0⟩] sc pos) (some (.Name y py)) spos.line X.env = pure true := by rfl)
  (hs : ∀ x, foldedSetIterable iter X.env x = pure x := by intro _; rfl) : PS X (.Assign [.Name y py] (.ListComp elt [⟨tg, iter, ifs, 0⟩] sc pos) spos) (tAsg (tComp wi TN.length ix g tc te) (gName i)) := by
 intro pins s σ H D I h
 rw [exec_Assign_Name_used _ _ _ _ hsw]; refine wpAny_bind (wpAny_standAt (wpAny_bind ?_))
 show wpAny _ X.A (do let _ ← comprehension (.ListComp elt [⟨tg, iter, ifs, 0⟩] sc pos) sc X.env _ (newList []) false (eval iter X.env) (some (assign (.Name y py) X.env))) _ _ s
 refine wpAny_bind (wpAny_mono (wpAny_comprehension_free (use := some (assign (.Name y py) X.env)) (Q := fun _ s' => SP X pins D .next s') rfl hs (closure_ofN S I) S.kind S.names
  (thn (hi pins s σ H _ I h) fun v s1 h1 => thn h1 fun itv s2 h2 => ?_)) (fun _ s' hq => wpAny_pure (wpAny_pure hq)) fun _ _ e => e)
 obtain ⟨it, fp, tn, J, H2, e, I2, T, st2, f2, q2⟩ := h2
 subst e
 refine comp_blockN (RR := fun acc C => compPost (model X.prog X.w) X.A X.xe (some (assign (.Name y py) X.env)) (fun _ s' => SP X pins D .next s') acc C) S hix hc I2 T st2 f2 hg ht he q2 fun Dl C H' s' I' hn hC1 hC2 hC3 hC4 hC5 q => ?_
 obtain ⟨m, hn⟩ := hn
 show wpAny _ X.A (assign (.Name y py) X.env (.ref Dl)) _ _ _
 refine wpAny_assign_Name (store_ok2 I' hN hiy (.inl hy) (show RelV (.ref Dl) (.ref Dl) from rfl) (fun s'' I'' ⟨a, hsb, ha⟩ => ?_) (.inr hy))
 have haC : C ≠ a := by
  rcases ha with z | z
  ·rw [z]; exact hC2
  ·exact fun z' => hC4 y a z z'.symm
 refine ⟨m, hn.sameBut hsb haC, fun h' hs' => ?_⟩
 exact ⟨_, H', I''.turned (t' := s''.toks) (fun b o hb e => (hs'.2 b hb).trans e) hC1 hC2 (.inr hC3) hC4 hC5, q⟩
end
structure NBScope (o sc : Scope) (TN F G : List Str) : Prop extends NScope o sc TN F where
 nd : (TN ++ F).Nodup
 vis : ∀ x ∈ TN ++ F, Vis (relabelS sc o) x
 loc : ∀ x ∈ TN, (relabelS sc o).names.lookup x = some .local ∨ ((relabelS sc o).names.lookup x = some .cell ∧ sc.names.lookup x = some .cell)
 gl : ∀ x ∈ G, (relabelS sc o).names.lookup x = some .globalImplicit
section
variable {X : Cx} {sc : Scope} {TN F G : List Str} {cl : List (Str × Addr)} {C : Addr} {fp : List Addr} {s3 : Shared} {H3 : Hp} {xe : Value → Shared → Prop} {x : Str} {pos : Pos}
theorem pvbN (S : NBScope X.env.scope sc TN F G) (i : Nat) (hN : (TN ++ F)[i]? = some x := by rfl) (hd : (x == ("__debug__" : Str)) = false := by decide) (hcd : (x == ("__classdict__" : Str)) = false := by decide) : PE (cxN X (TN ++ F) sc cl C fp s3 H3 xe) (.Name x pos) (tVar i) :=
 pe_var hN (S.vis x (List.mem_of_getElem? hN)) hd hcd
theorem pgbN (S : NBScope X.env.scope sc TN F G) (i : Nat) (hN : (TN ++ F)[i]? = some x := by rfl) (hT : TN[i]? = some x := by rfl) : PG (cxN X (TN ++ F) sc cl C fp s3 H3 xe) (.Name x pos) (gName i) := by
 rcases S.loc x (List.mem_of_getElem? hT) with z | ⟨z, z'⟩
 ·exact pg_name S.nd hN (.inl z) (.inr z)
 ·exact pg_name S.nd hN (.inr z) (.inl (by show (sc.names.lookup x == some .cell) = true; rw [z']; rfl))
theorem pgb_tupN {N : List Str} {es : List Expr} {k n : Nat} {t : TGs} (hc : X.calm = true) (h : PGs (cxN X N sc cl C fp s3 H3 xe) es t)
  (hn : (assignEach es (cxN X N sc cl C fp s3 H3 xe).env).length = n := by rfl) (hst : (assignEach es (cxN X N sc cl C fp s3 H3 xe).env).findIdx? (·.1) = none := by rfl) : PG (cxN X N sc cl C fp s3 H3 xe) (.Tuple es k pos) (gTup X.K n t) := pg_tup (X := cxN X N sc cl C fp s3 H3 xe) hc h hn hst
theorem NBScope.g (S : NBScope X.env.scope sc TN F G) (i : Nat) (hG : G[i]? = some x := by rfl) : Gl (cxN X (TN ++ F) sc cl C fp s3 H3 xe) x := S.gl x (List.mem_of_getElem? hG)
end
end L2
namespace PySem
open Sem (wp)
open Builtin
open AutoSeq1 (wpAny_loadPart')
end PySem
namespace L2
open PySem PySem.Spec PyProof.Rows
section
variable {X : Cx}
theorem iteNB {c A B : Prop} [Decidable c] (h1 : ¬ c → A) (h2 : c → B) : if (!decide c) = true then A else B := by
 by_cases hc : c
 ·rw [decide_eq_true hc]
  exact h2 hc
 ·rw [decide_eq_false hc]
  exact h1 hc
theorem rep_one (m : Nat) (c : Int) : (List.replicate m [V.int c]).flatten = (List.replicate m c).map V.int := by
 induction m with
 | zero => rfl
 | succ m ih => rw [List.replicate_succ, List.flatten_cons, ih, List.replicate_succ]; rfl
end
section
variable {prog : Program} {w : World} {A : Around} {E : Value → Shared → Prop} {s : Shared}
end
section
variable {prog : Program} {w : World} {A : Around} {E : Value → Shared → Prop} {s : Shared}
end
section
variable {X : Cx} {es : List Expr} {kt : Nat} {pt : Pos}
end
section
variable {D : Addr} {te : TE} {tc : TT} {Q : VK} {ρ : St} {H : Hp}
end
end L2
namespace HT
open PySem PyProof.Rows
section
variable {prog : Program} {w : World} {A : Around} {E : Value → Shared → Prop} {s : Shared}
end
end HT
namespace L2
open PySem PySem.Spec PyProof.Rows
section
variable {X : Cx}
def rCatG : R2 := fun x y H Q => ∃ a b xs ys, x = .ref a ∧ y = .ref b ∧ H a = some (.tup xs) ∧ H b = some (.tup ys) ∧ xs.length + ys.length ≤ 1000 ∧ ∀ q H', Same H H' → H' q = some (.tup (xs ++ ys)) → Q (.ref q) H'
theorem op_catG : OpR X (binaryOp .Add) rCatG := by
 intro pins s σ H x y v u Q I rx ry h
 obtain ⟨a, b, xs, ys, rfl, rfl, ha, hb, hz, q⟩ := h
 have hz' : xs.length + ys.length ≤ sizeLine := Nat.le_trans hz (by decide)
 by_cases hx : xs = []
 ·cases rx
  cases ry
  obtain ⟨its, r1, p1, _⟩ := I.tuple (SqT.of ha)
  obtain ⟨its2, r2, p2, _⟩ := I.tuple (SqT.of hb)
  obtain ⟨⟨cls, dd, data, sl⟩, ho, hc, n, hd⟩ := id p1
  obtain ⟨⟨cls2, dd2, data2, sl2⟩, ho2, hc2, n2, hd2⟩ := id p2
  simp only at hc hd hc2 hd2
  subst hc hd hc2 hd2
  have hv : its = [] := r1.nil_iff.mpr hx
  refine concat_meets ⟨_, ho, rfl⟩ ⟨_, ho2, rfl⟩ noFill_tuple_add seq_tuple_add PySem.F.slot_tuple_add PySem.F.entry_tuple_add (PySem.F.args_tuple_add_2 _ _)
   (tuple_addW0 a b its.toArray its2.toArray n n2 dd dd2 sl sl2 (by simp [hv])) ⟨ho, ho2, ?_⟩
  refine ⟨.ref b, H, I, rfl, q b H (Same.refl H) ?_⟩
  rw [hx, List.nil_append]
  exact hb
 ·refine op_catT pins s σ H _ _ v u Q I rx ry ⟨a, b, xs, ys, rfl, rfl, SqT.of ha, SqT.of hb, hx, hz', fun e => ?_, fun _ p hp => q p _ (Same.new (Same.refl H) hp) upd_same⟩
  refine q a H (Same.refl H) ?_
  rw [e, List.append_nil]
  exact ha
end
end L2
namespace PySem
open Sem (wp)
open Builtin
open AutoSeq1 (wpAny_loadPart')
end PySem
namespace L2
open PySem PySem.Spec PyProof.Rows
section
variable {X : Cx}
end
end L2
namespace K29
open PySem L2 G2
local macro_rules | `(tactic| walk_at "v") => `(tactic| repeat (with_reducible first
  | refine w_seq ?_ | refine w_asg ?_ | refine w_gname ?_ | refine w_op ?_ | refine w_var rfl ?_ | refine w_c ?_ | refine w_rI0 ?_ | refine w_ifs ?_ | refine w_ife ?_ | refine w_test ?_ | refine w_tb ?_ | refine w_bl ?_ | refine w_not ?_ | refine w_ret ?_ | refine w_retN ?_
  | refine w_nil ?_ | refine w_cons ?_ | refine w_lst ?_ | refine w_tup ?_ | refine w_cb ?_ | refine w_call ?_ | refine w_gsub ?_ | refine w_and ?_ | refine w_or ?_ | refine w_next ?_ | refine w_all ?_ | refine w_vals ?_ | refine w_compR ?_ | refine w_compT ?_ | refine w_forR ?_ | refine w_forT ?_ | refine w_forL ?_ | refine w_drop ?_ | refine w_bm ?_ | refine w_compZ ?_ | refine w_compL ?_ | refine w_chain ?_ | refine w_sl ?_ | refine w_nopart ?_ | refine w_part ?_ | refine w_unI ?_ | refine iteT ?_ | refine iteF ?_))
abbrev sTape : Stmt := top 32
abbrev sDraw : Stmt := top 33
abbrev sNames : Stmt := top 34
abbrev sRule : Stmt := top 35
structure Blt (mg : Str → Option Value) : Prop where
 len : mg "len" = none
 range : mg "range" = none
 tuple : mg "tuple" = none
section
variable {P : Program} {w : World} {K : PySem.W.Frag} {mg : Str → Option Value} {base : Heap}
theorem nmTape : Nm ["_law_script"] (defScope sTape) := ⟨by decide +kernel, by decide +kernel⟩
theorem scTape : FnScope ["_law_script"] ["_law_script"] (defScope sTape) := ⟨rfl, rfl, rfl, by decide +kernel, rfl, by decide +kernel, by decide +kernel⟩
def spTape (K : PySem.W.Frag) : Sp := fun vs H Q _ => ∃ (a : Addr) (ns : List Int), vs = [.ref a] ∧ SqL K H a (ns.map V.int) ∧ ∀ p l (ms : List Int) H', ms.length ≤ 63 → Tp H' p l ms → Same H H' → Q (.ref p) H'
theorem cut63 (ns : List Int) : cutV (ns.map V.int) none (some 63) = (ns.take 63).map V.int := by
 unfold cutV HT.sIx
 dsimp only
 rw [if_neg (by decide : ¬ (63 : Int) < 0), List.drop_zero, Nat.sub_zero, List.map_take, List.length_map]
 show List.take (min 63 ns.length) _ = _
 by_cases h : ns.length ≤ 63
 ·rw [Nat.min_eq_right h, List.take_of_length_le (by rw [List.length_map]; omega), List.take_of_length_le (by rw [List.length_map]; omega)]
 ·rw [Nat.min_eq_left (by omega)]
theorem ok_tape {f : Addr} {fd : FuncData} (F : Fun K "_law_tape" "_law_tape" sTape f fd) : FnOk P w K mg base CX0 1 f fd ["_law_script"] (spTape K) := by
 refine F.ok scTape (fun vs H Q E h => ?_) (fun cdv A outer s H vs Q E hr h => ?_)
 ·obtain ⟨a, ns, rfl, _⟩ := h
  rfl
 ·obtain ⟨a, ns, rfl, hS, k⟩ := h
  refine' ⟨_, ?hb, ?rd⟩
  case hb =>
   refine' pss_one ?s1
   case' s1 => refine' ps_ret ?p1
   case' p1 => refine' pe_lst ?q1
   case' q1 => refine' pa_c ?u1 ?u2
   case u2 => exact pa_2 pe_int pe_int
   case u1 => exact pe_slice sl_list (pvd nmTape 0) po_none (po_some pe_int)
  case rd =>
   walk_at "v"
   refine ⟨_, rfl, ?_⟩
   refine ⟨a, _, rfl, hS, fun l hl => ?_⟩
   rw [cut63]
   walk_at "v"
   refine ⟨by show 3 ≤ sizeLine; decide, fun p hp => ?_⟩
   have nlp : l ≠ p := by
    intro z
    rw [← z, upd_same] at hp
    cases hp
   refine k p l (ns.take 63) _ (by rw [List.length_take]; omega) ⟨⟨_, _, upd_same⟩, by rw [upd_ne nlp, upd_same], Ne.symm nlp⟩ ((Same.new (Same.refl H) hl).new hp)
abbrev nDraw : List Str := ["_law_tape_here", "_law_many", "_law_cell", "_law_mixed", "_law_found"]
theorem nmDraw : Nm nDraw (defScope sDraw) := ⟨by decide +kernel, by decide +kernel⟩
theorem scDraw : FnScope nDraw ["_law_tape_here", "_law_many"] (defScope sDraw) := ⟨rfl, rfl, rfl, by decide +kernel, rfl, by decide +kernel, by decide +kernel⟩
def spDraw : Sp := fun vs H Q _ => ∃ (p l : Addr) (ns : List Int) (m : Int), vs = [.ref p, .int m] ∧ Tp H p l ns ∧ 0 < m ∧ m < 1000000 ∧ ∀ (r c e : Int), 0 ≤ r → r < m → Q (.int r) (upd H p (.lst [.ref l, .int c, .int e]))
set_option maxHeartbeats 2000000 in
theorem ok_draw {f : Addr} {fd : FuncData} (B : Blt mg) (F : Fun K "_law_draw" "_law_draw" sDraw f fd) : FnOk P w K mg base CX0 1 f fd ["_law_tape_here", "_law_many"] spDraw := by
 refine F.ok scDraw (fun vs H Q E h => ?_) (fun cdv A outer s H vs Q E hr h => ?_)
 ·obtain ⟨p, l, ns, m, rfl, _⟩ := h
  rfl
 ·obtain ⟨p, l, ns, m, rfl, ⟨⟨c, e, hp⟩, hl, hne⟩, hm, hm2, k⟩ := h
  refine' ⟨_, ?hb, ?rd⟩
  case hb =>
   refine' pss_cons ?s1 ?r1
   case' r1 => refine' pss_cons ?s2 ?r2
   case' r2 => refine' pss_cons ?s3 ?r3
   case' r3 => refine' pss_cons ?s4 ?r4
   case' r4 => refine' pss_one ?s5
   case s1 => exact ps_asg (pe_op op_add (pe_ix ix_d (pvd nmDraw 0) pe_int (fun _ _ => rfl)) pe_int) (pg_sub (pvd nmDraw 0) pe_int set_d)
   case s3 => exact ps_setD nmDraw 4 (pe_op op_mod (pe_ix ix_d (pvd nmDraw 0) pe_int (fun _ _ => rfl)) (pvd nmDraw 1))
   case s4 => exact ps_asg (pe_op op_fdiv (pe_ix ix_d (pvd nmDraw 0) pe_int (fun _ _ => rfl)) (pvd nmDraw 1)) (pg_sub (pvd nmDraw 0) pe_int set_d)
   case s5 => exact ps_ret (pvd nmDraw 4)
   case s2 =>
    refine' ps_if (pt_cmpR op_eq (pe_ix ix_d (pvd nmDraw 0) pe_int (fun _ _ => rfl)) pe_int (nomark _)) ?b2 pss_nil
    case b2 =>
     refine' pss_cons ?t1 ?u1
     case' u1 => refine' pss_cons ?t2 ?u2
     case' u2 => refine' pss_cons ?t3 ?u3
     case' u3 => refine' pss_one ?t4
     case t1 => exact ps_setD nmDraw 2 pe_int
     case t2 =>
      refine' ps_if ?c2 ?d2 pss_nil
      case c2 => exact pt_cmpR op_gt (pe_cB call_len_seq B.len PySem.boot_len (pa_1 (pe_ix ix_d (pvd nmDraw 0) pe_int (fun _ _ => rfl)))) pe_int (nomark _)
      case' d2 => refine' pss_one ?e2
      case' e2 => refine' ps_setD nmDraw 2 ?f2
      case' f2 => refine' pe_ix ix_d (pe_ix ix_d (pvd nmDraw 0) pe_int (fun _ _ => rfl)) ?g2 (fun _ _ => rfl)
      case g2 => exact pe_op op_mod (pe_ix ix_d (pvd nmDraw 0) pe_int (fun _ _ => rfl)) (pe_cB call_len_seq B.len PySem.boot_len (pa_1 (pe_ix ix_d (pvd nmDraw 0) pe_int (fun _ _ => rfl))))
     case t3 =>
      refine' ps_if (pt_cmpR op_lt (pvd nmDraw 2) (pe_op op_pow pe_int pe_int) (nomark _)) ?d3 pss_nil
      case d3 =>
       refine' pss_cons ?v1 ?w1
       case' w1 => refine' pss_cons ?v2 ?w2
       case' w2 => refine' pss_one ?v3
       case v1 => exact ps_setD nmDraw 3 (pe_op op_mod (pe_op op_add (pe_op op_add (pe_op op_mul (pe_op op_mod (pvd nmDraw 2) pe_int) pe_int) (pe_op op_mul (pe_ix ix_d (pvd nmDraw 0) pe_int (fun _ _ => rfl)) pe_int)) pe_int) pe_int)
       case v2 => exact ps_setD nmDraw 3 (pe_op op_mod (pe_op op_mul (pvd nmDraw 3) (pe_op op_add (pvd nmDraw 3) pe_int)) pe_int)
       case v3 => exact ps_ret (pe_op op_mod (pe_op op_mod (pe_op op_mul (pvd nmDraw 3) pe_int) pe_int) (pvd nmDraw 1))
     case t4 => exact ps_asg (pe_op op_sub (pvd nmDraw 2) (pe_op op_pow pe_int pe_int)) (pg_sub (pvd nmDraw 0) pe_int set_d)
  case rd =>
   have hl' : ∀ {o : HO}, upd H p o l = some (.lst (ns.map V.int)) := fun {o} => by rw [upd_ne (Ne.symm hne)]; exact hl
   walk_at "v"
   refine w_ixL hp rfl ?_
   walk_at "v"
   refine w_set hp rfl ?_
   with_reducible refine seq_post (fun σ' H' => ∃ (u2 u3 : Option V) (c' e' : Int), σ' = [some (.ref p), some (.int m), u2, u3, none] ∧ H' = upd H p (.lst [.ref l, .int c', .int e'])) ?_ fun fin => ?_
   ·rintro σ' H' ⟨u2, u3, c', e', rfl, rfl⟩
    walk_at "v"
    refine w_ixL upd_same rfl ?_
    walk_at "v"
    refine w_rI hm ?_
    walk_at "v"
    refine w_ixL upd_same rfl ?_
    walk_at "v"
    refine w_rI ⟨hm, by omega⟩ ?_
    walk_at "v"
    refine w_set upd_same rfl ?_
    walk_at "v"
    rw [upd_upd]
    exact k _ _ _ (md hm).1 (md hm).2
   walk_at "v"
   refine w_ixL upd_same rfl ?_
   walk_at "v"
   refine ⟨rfl, ?_⟩
   walk_at "v"
   refine iteD (fun _ => ?_) (fun _ => ?_)
   ·refine w_seq ?_
    refine w_asg ?_
    refine w_c ?_
    refine w_gname ?_
    with_reducible refine seq_post (fun σ' H' => ∃ cell : Int, σ' = [some (.ref p), some (.int m), some (.int cell), none, none] ∧ H' = upd H p (.lst [.ref l, .int (c + 1), .int e])) ?_ fun tail => ?_
    ·rintro σ' H' ⟨cell, rfl, rfl⟩
     walk_at "v"
     refine w_rI ⟨by decide, by decide, by decide⟩ ?_
     walk_at "v"
     refine iteD (fun _ => ?_) (fun _ => ?_)
     ·walk_at "v"
      refine w_rI (by decide) ?_
      walk_at "v"
      refine w_rI (mulR (by decide) (by decide)) ?_
      walk_at "v"
      refine w_ixL upd_same rfl ?_
      walk_at "v"
      refine w_rI (mulR (by decide) (by decide)) ?_
      walk_at "v"
      refine w_rI (by decide) ?_
      generalize hx : (cell % 2147483647 * 48271 + (c + 1) * 7919 + 12345) % 2147483629 = x
      have h1 := md (i := cell % 2147483647 * 48271 + (c + 1) * 7919 + 12345) (j := 2147483629) (by decide)
      rw [hx] at h1
      walk_at "v"
      refine w_rI (mulL (by omega) (by omega)) ?_
      walk_at "v"
      refine w_rI (by decide) ?_
      walk_at "v"
      refine w_rI (mulR (by decide) (by decide)) ?_
      walk_at "v"
      refine w_rI (by decide) ?_
      walk_at "v"
      refine w_rI hm ?_
      exact k _ _ _ (md hm).1 (md hm).2
     ·walk_at "v"
      refine w_rI ⟨by decide, by decide, by decide⟩ ?_
      walk_at "v"
      refine w_set upd_same rfl ?_
      exact fin _ _ ⟨_, _, _, _, rfl, upd_upd⟩
    walk_at "v"
    refine w_ixL upd_same rfl ?_
    walk_at "v"
    refine ⟨l, _, rfl, .inl (SqL.of hl'), ?_⟩
    rw [List.length_map]
    walk_at "v"
    refine iteD (fun h0 => ?_) (fun _ => ?_)
    ·have h0' : 0 < ns.length := by omega
     walk_at "v"
     refine w_ixL upd_same rfl ?_
     walk_at "v"
     refine w_ixL upd_same rfl ?_
     walk_at "v"
     refine w_ixL upd_same rfl ?_
     walk_at "v"
     refine ⟨l, _, rfl, .inl (SqL.of hl'), ?_⟩
     rw [List.length_map]
     refine w_rI h0 ?_
     obtain ⟨j, hj⟩ : ∃ j : Nat, (c + 1) % (ns.length : Int) = (j : Int) := ofI (md h0).1
     have hjl : j < ns.length := by
      have := (md (i := c + 1) h0).2
      omega
     rw [hj]
     refine w_ixL (v := .int ns[j]) hl' (atI_nat (by simp [hjl])) ?_
     exact tail _ _ ⟨_, rfl, rfl⟩
    ·exact tail _ _ ⟨_, rfl, rfl⟩
   ·exact fin _ _ ⟨_, _, _, _, rfl, rfl⟩
end
def Bp (p : Addr) (H H' : Hp) : Prop := ∀ q o, q ≠ p → H q = some o → H' q = some o
section
variable {p l a : Addr} {H H' H'' : Hp} {o : HO} {ns : List Int}
theorem Bp.refl : Bp p H H := fun _ _ _ e => e
theorem Bp.new (b : Bp p H H') (h : H' a = none) : Bp p H (upd H' a o) := fun q u hq e => by
 have e' := b q u hq e
 rw [upd_ne (ne_of_none e' h)]
 exact e'
theorem Bp.at (b : Bp p H H') : Bp p H (upd H' p o) := fun q u hq e => by
 rw [upd_ne hq]
 exact b q u hq e
theorem Bp.put (b : Bp p H H') (h : H a = none) : Bp p H (upd H' a o) := fun q u hq e => by
 rw [upd_ne (ne_of_none e h)]
 exact b q u hq e
theorem Bp.trans (a : Bp p H H') (b : Bp p H' H'') : Bp p H H'' := fun q o hq e => b q o hq (a q o hq e)
theorem Bp.same (k : Same H H') : Bp p H H' := fun q o _ e => k q o e
theorem Bp.free (b : Bp p H H') (hp : p ≠ a) (h : H' a = none) : H a = none := by
 cases e : H a with
 | none => rfl
 | some o => rw [b a o (Ne.symm hp) e] at h; cases h
theorem Tp.tkb (t : Tp H p l ns) (b : Bp p H H') : TK H H' := by
 obtain ⟨c, e, hp⟩ := t.ex
 exact ⟨fun q xs eq => b q _ (ne_of eq hp (by intro z; cases z)) eq, fun q o u eq => b q _ (ne_of eq hp (by intro z; cases z)) eq⟩
end
def pool12 : List Str := ["a", "ab", "abc", "b", "sort", "rules", "into", "begins", "inx", "outs", "tox", "abcdefgh"]
abbrev nNames : List Str := ["_law_tape_here", "_law_many", "_law_pool", "_law_start", "_law_step"]
theorem nmNames : Nm nNames (defScope sNames) := ⟨by decide +kernel, by decide +kernel⟩
theorem scNames : FnScope nNames ["_law_tape_here", "_law_many"] (defScope sNames) := ⟨rfl, rfl, rfl, by decide +kernel, rfl, by decide +kernel, by decide +kernel⟩
def retTup (s : Stmt) : Scope := match s with
 | .Return (some (.Call _ [.ListComp _ _ sc _] _ _)) _ => sc
 | _ => { kind := .function, names := [], isGenerator := false, isCoroutine := false }
abbrev cNames : Scope := retTup ((defBody sNames).getD 3 (.Pass ⟨0, 0, 0, 0⟩))
theorem bsNames : BScope (defScope sNames) cNames ["_law_k"] ["_law_pool", "_law_start", "_law_step"] [] := { okind := by decide +kernel, kind := by decide +kernel, nocell := by decide +kernel, names := by decide +kernel, fr := by decide +kernel, ff := by decide +kernel, nd := by decide +kernel, vis := by decide +kernel, loc := by decide +kernel, gl := by decide +kernel }
theorem pickZ {xs : List Int} {r : Int} (h0 : 0 ≤ r) (h1 : r < xs.length) : ∃ x, x ∈ xs ∧ atI (xs.map V.int) r = some (.int x) := by
 obtain ⟨j, rfl⟩ := ofI h0
 have hj : j < xs.length := by omega
 exact ⟨xs[j], List.getElem_mem hj, atI_nat (by simp [hj])⟩
theorem pickW {xs : List Str} {r : Int} (h0 : 0 ≤ r) (h1 : r < xs.length) : ∃ x, x ∈ xs ∧ atI (xs.map V.str) r = some (.str x) := by
 obtain ⟨j, rfl⟩ := ofI h0
 have hj : j < xs.length := by omega
 exact ⟨xs[j], List.getElem_mem hj, atI_nat (by simp [hj])⟩
def spNames : Sp := fun vs H Q _ => ∃ (p l : Addr) (ns : List Int) (m : Nat), vs = [.ref p, .int (m : Int)] ∧ Tp H p l ns ∧ m ≤ 8 ∧ ∀ (q : Addr) (nm : List Str) (H' : Hp), nm.length = m → (∀ x ∈ nm, x ∈ pool12) → H' q = some (.tup (nm.map V.str)) → Tp H' p l ns → Bp p H H' → Q (.ref q) H'
section
variable {P : Program} {w : World} {K : PySem.W.Frag} {mg : Str → Option Value} {base : Heap}
set_option maxHeartbeats 4000000 in
theorem ok_Names {f : Addr} {fd : FuncData} (B : Blt mg) (D : Has P w K mg base 1 "_law_draw" ["_law_tape_here", "_law_many"] spDraw) (F : Fun K "_law_names" "_law_names" sNames f fd) : FnOk P w K mg base CX0 2 f fd ["_law_tape_here", "_law_many"] spNames := by
 refine F.ok scNames (fun vs H Q E h => ?_) (fun cdv A outer s H vs Q E hr h => ?_)
 ·obtain ⟨p, l, ns, m, rfl, _⟩ := h
  rfl
 ·obtain ⟨p, l, ns, m, rfl, T0, hm8, k⟩ := h
  refine' ⟨_, ?hb, ?rd⟩
  case hb =>
   refine' pss_cons ?s1 ?r1
   case' r1 => refine' pss_cons ?s2 ?r2
   case' r2 => refine' pss_cons ?s3 ?r3
   case' r3 => refine' pss_one ?s4
   case s1 =>
    refine' ps_setD nmNames 2 ?p1
    case p1 =>
     refine pe_lstW (vs := pool12.map V.str) ?_
     decide +kernel
   case s2 => exact ps_setD nmNames 3 (pe_f D hr (by decide) (pa_2 (pvd nmNames 0) pe_int))
   case s3 =>
    refine' ps_setD nmNames 4 ?p3
    case' p3 => refine' pe_ix ix_d ?a3 (pe_f D hr (by decide) (pa_2 (pvd nmNames 0) pe_int)) (fun _ _ => rfl)
    case a3 =>
     refine pe_lstW (vs := ([1, 5, 7, 11] : List Int).map V.int) ?_
     decide +kernel
   case s4 =>
    refine' ps_ret ?p4
    case' p4 => refine' pe_cT call_tuple_of B.tuple PyProof.Rows.boot_tuple ?p5
    case' p5 => refine' pa_1 ?p6
    case p6 =>
     refine' pe_comp (ix := [2, 3, 4]) bsNames.toCScope rfl rfl (pi_r1 B.range (pa_1 (pvd nmNames 1))) ?h4 ?h5 ?h6
     case h4 => exact fun _ _ _ _ _ _ => pgb bsNames 0
     case h5 => exact fun _ _ _ _ _ _ => pts_nil
     case h6 => exact fun _ _ _ _ _ _ => pe_ix ix_d (pvb bsNames 1) (pe_op op_mod (pe_op op_add (pvb bsNames 2) (pe_op op_mul (pvb bsNames 3) (pvb bsNames 0))) pe_int) (fun _ _ => rfl)
  case rd =>
   walk_at "v"
   refine ⟨by show 12 ≤ sizeLine; decide, fun a1 ha1 => ?_⟩
   have T1 := T0.new (o := .lst (pool12.map V.str)) ha1
   have np1 := T0.np ha1
   have b1 : Bp p H (upd H a1 (.lst (pool12.map V.str))) := Bp.refl.new ha1
   have e1 : upd H a1 (.lst (pool12.map V.str)) a1 = some (.lst (pool12.map V.str)) := upd_same
   generalize upd H a1 (.lst (pool12.map V.str)) = H1 at T1 b1 e1 ⊢
   walk_at "v"
   refine ⟨p, l, ns, 12, rfl, T1, by decide, by decide, fun st c e s0 s1 => ?_⟩
   have T2 := T1.draw (c := c) (e := e)
   have b2 : Bp p H (upd H1 p (.lst [.ref l, .int c, .int e])) := b1.at
   have e2 : upd H1 p (.lst [.ref l, .int c, .int e]) a1 = some (.lst (pool12.map V.str)) := by rw [upd_ne (Ne.symm np1)]; exact e1
   generalize upd H1 p (.lst [.ref l, .int c, .int e]) = H2 at T2 b2 e2 ⊢
   walk_at "v"
   refine ⟨by show 4 ≤ sizeLine; decide, fun a2 ha2 => ?_⟩
   have T3 := T2.new (o := .lst (([1, 5, 7, 11] : List Int).map V.int)) ha2
   have np2 := T2.np ha2
   have b3 : Bp p H (upd H2 a2 (.lst (([1, 5, 7, 11] : List Int).map V.int))) := b2.new ha2
   have e3 : upd H2 a2 (.lst (([1, 5, 7, 11] : List Int).map V.int)) a1 = some (.lst (pool12.map V.str)) := by rw [upd_ne (ne_of_none e2 ha2)]; exact e2
   have g3 : upd H2 a2 (.lst (([1, 5, 7, 11] : List Int).map V.int)) a2 = some (.lst (([1, 5, 7, 11] : List Int).map V.int)) := upd_same
   generalize upd H2 a2 (.lst (([1, 5, 7, 11] : List Int).map V.int)) = H3 at T3 b3 e3 g3 ⊢
   walk_at "v"
   refine ⟨p, l, ns, 4, rfl, T3, by decide, by decide, fun r c e r0 r1 => ?_⟩
   obtain ⟨sp, hsp, hat⟩ := pickZ (xs := [1, 5, 7, 11]) r0 r1
   refine w_ixL (by rw [upd_ne (Ne.symm np2)]; exact g3) hat ?_
   have T4 := T3.draw (c := c) (e := e)
   have b4 : Bp p H (upd H3 p (.lst [.ref l, .int c, .int e])) := b3.at
   have e4 : upd H3 p (.lst [.ref l, .int c, .int e]) a1 = some (.lst (pool12.map V.str)) := by rw [upd_ne (Ne.symm np1)]; exact e3
   generalize upd H3 p (.lst [.ref l, .int c, .int e]) = H4 at T4 b4 e4 ⊢
   walk_at "v"
   refine ⟨_, rfl, by omega, by omega, fun d hd => ?_⟩
   rw [Int.toNat_natCast]
   refine cgo_range (ρ := [some (.ref a1), some (.int st), some (.int sp)]) (fun i ys H' => ∃ nm : List Str, ys = nm.map V.str ∧ nm.length = i ∧ (∀ x ∈ nm, x ∈ pool12) ∧ Same H4 H') ⟨[], rfl, rfl, (fun x h => by cases h), Same.new (Same.refl H4) hd⟩ ?_ ?_
   ·rintro i ys H' hi ⟨nm, rfl, hnl, hnm, K'⟩ hD R S kR _
    have hs4 : 1 ≤ sp ∧ sp ≤ 11 := by
     simp only [List.mem_cons, List.not_mem_nil, or_false] at hsp
     omega
    walk_at "v"
    refine w_rI (mulL (by omega) (by omega)) ?_
    walk_at "v"
    refine w_rI (by decide) ?_
    have q12 := md (i := st + sp * (0 + (i : Int))) (j := 12) (by decide)
    obtain ⟨x, hx, hax⟩ := pickW (xs := pool12) q12.1 (by show _ < (12 : Int); exact q12.2)
    refine w_ixL (K' _ _ e4) hax ?_
    refine kR _ _ hD (by rw [List.length_map]; exact small1000 (by omega)) ⟨nm ++ [x], by rw [List.map_append]; rfl, by simp [hnl], fun y hy => ?_, K'.put hd⟩
    rcases List.mem_append.mp hy with old | new
    ·exact hnm y old
    ·rw [List.mem_singleton.mp new]
     exact hx
   ·rintro ys H5 ⟨nm, rfl, hnl, hnm, K5⟩ hD
    walk_at "v"
    refine ⟨d, _, rfl, .inl ⟨SqL.of hD, fun q hq => ?_⟩⟩
    exact k q nm _ hnl hnm upd_same ((T4.same K5).new hq) ((b4.trans (Bp.same K5)).new hq)
end
abbrev nRule : List Str := ["_law_tape_here", "_law_many", "_law_takes", "_law_k", "_law_gives"]
theorem nmRule : Nm nRule (defScope sRule) := ⟨by decide +kernel, by decide +kernel⟩
theorem scRule : FnScope nRule ["_law_tape_here", "_law_many"] (defScope sRule) := ⟨rfl, rfl, rfl, by decide +kernel, rfl, by decide +kernel, by decide +kernel⟩
def Cn9 (m : Nat) (H : Hp) (a : Addr) : Prop := ∃ xs : List Int, H a = some (.lst (xs.map V.int)) ∧ xs.length = m ∧ ∀ x ∈ xs, 0 ≤ x ∧ x ≤ 9
theorem Cn9.new {m : Nat} {H : Hp} {a b : Addr} {o : HO} (c : Cn9 m H a) (h : a ≠ b) : Cn9 m (upd H b o) a := let ⟨xs, e, r⟩ := c; ⟨xs, by rw [upd_ne h]; exact e, r⟩
theorem Cn9.ne {m : Nat} {H : Hp} {a b : Addr} (c : Cn9 m H a) (h : H b = none) : a ≠ b := let ⟨_, e, _⟩ := c; ne_of_none e h
theorem Cn9.zero {m : Nat} {H : Hp} {a : Addr} (e : H a = some (.lst ((List.replicate m (0 : Int)).map V.int))) : Cn9 m H a := ⟨_, e, List.length_replicate, fun x hx => by rw [List.eq_of_mem_replicate hx]; exact ⟨by decide, by decide⟩⟩
theorem Cn9.set {m j : Nat} {H : Hp} {a : Addr} {xs : List Int} {v : Int} (hl : xs.length = m) (hb : ∀ x ∈ xs, 0 ≤ x ∧ x ≤ 9) (hv : 0 ≤ v ∧ v ≤ 9) : Cn9 m (upd H a (.lst ((xs.map V.int).set j (.int v)))) a := by
 refine ⟨xs.set j v, by rw [upd_same, List.map_set], by rw [List.length_set]; exact hl, fun x hx => ?_⟩
 rcases List.mem_or_eq_of_mem_set hx with h | h
 ·exact hb x h
 ·rw [h]
  exact hv
theorem ixK {n : Nat} {r : Int} (h0 : 0 ≤ r) (h1 : r < n) : ixN n r = some r.toNat := by
 unfold ixN
 rw [if_pos h0, if_pos h1]
def RuleT (m : Nat) (H : Hp) (r : Addr) : Prop := ∃ (a b : Addr) (ts gs : List Int), H r = some (.tup [.ref a, .ref b]) ∧ H a = some (.tup (ts.map V.int)) ∧ H b = some (.tup (gs.map V.int)) ∧ ts.length = m ∧ gs.length = m ∧ (∀ x ∈ ts, 0 ≤ x ∧ x ≤ 9) ∧ (∀ x ∈ gs, 0 ≤ x ∧ x ≤ 9)
def spRule : Sp := fun vs H Q _ => ∃ (p l : Addr) (ns : List Int) (m : Nat), vs = [.ref p, .int (m : Int)] ∧ Tp H p l ns ∧ 0 < m ∧ m ≤ 8 ∧ ∀ (q : Addr) (H' : Hp), RuleT m H' q → Tp H' p l ns → Bp p H H' → Q (.ref q) H'
section
variable {P : Program} {w : World} {K : PySem.W.Frag} {mg : Str → Option Value} {base : Heap}
set_option maxHeartbeats 4000000 in
theorem ok_Rule {f : Addr} {fd : FuncData} (B : Blt mg) (D : Has P w K mg base 1 "_law_draw" ["_law_tape_here", "_law_many"] spDraw) (F : Fun K "_law_rule" "_law_rule" sRule f fd) : FnOk P w K mg base CX0 2 f fd ["_law_tape_here", "_law_many"] spRule := by
 refine F.ok scRule (fun vs H Q E h => ?_) (fun cdv A outer s H vs Q E hr h => ?_)
 ·obtain ⟨p, l, ns, m, rfl, _⟩ := h
  rfl
 ·obtain ⟨p, l, ns, m, rfl, T0, hm0, hm8, k⟩ := h
  refine' ⟨_, ?hb, ?rd⟩
  case hb =>
   refine' pss_cons ?s1 ?r1
   case' r1 => refine' pss_cons ?s2 ?r2
   case' r2 => refine' pss_cons ?s3 ?r3
   case' r3 => refine' pss_cons ?s4 ?r4
   case' r4 => refine' pss_cons ?s5 ?r5
   case' r5 => refine' pss_one ?s6
   case s1 => exact ps_setD nmRule 2 (pe_op op_rep (pe_lst (pa_1 pe_int)) (pvd nmRule 1))
   case s3 => exact ps_setD nmRule 4 (pe_op op_rep (pe_lst (pa_1 pe_int)) (pvd nmRule 1))
   case s2 =>
    refine' ps_for PassesOwn.never rfl (pi_r1 B.range (pa_1 (pe_op op_add pe_int (pe_f D hr (by decide) (pa_2 (pvd nmRule 0) pe_int))))) (pgd nmRule 3) ?fb
    case fb =>
     refine' pss_one ?f1
     case' f1 => refine' ps_asg ?f2 (pg_sub (pvd nmRule 2) (pe_f D hr (by decide) (pa_2 (pvd nmRule 0) (pvd nmRule 1))) set_d)
     case' f2 => refine' pe_ix ix_d ?f3 (pe_f D hr (by decide) (pa_2 (pvd nmRule 0) pe_int)) (fun _ _ => rfl)
     case f3 =>
      refine pe_lstW (vs := ([1, 1, 2, 9] : List Int).map V.int) ?_
      decide +kernel
   case s4 =>
    refine' ps_for PassesOwn.never rfl (pi_r1 B.range (pa_1 (pe_f D hr (by decide) (pa_2 (pvd nmRule 0) pe_int)))) (pgd nmRule 3) ?gb
    case gb =>
     refine' pss_one ?g1
     case' g1 => refine' ps_asg ?g2 (pg_sub (pvd nmRule 4) (pe_f D hr (by decide) (pa_2 (pvd nmRule 0) (pvd nmRule 1))) set_d)
     case' g2 => refine' pe_ix ix_d ?g3 (pe_f D hr (by decide) (pa_2 (pvd nmRule 0) pe_int)) (fun _ _ => rfl)
     case g3 =>
      refine pe_lstW (vs := ([1, 1, 2, 9] : List Int).map V.int) ?_
      decide +kernel
   case s5 =>
    refine' ps_if (pt_cmpR (op_eqD hr) (pvd nmRule 4) (pvd nmRule 2) (nomark _)) ?h1 pss_nil
    case' h1 => refine' pss_one ?h2
    case' h2 => refine' ps_asg ?h3 (pg_sub (pvd nmRule 4) pe_int set_d)
    case h3 => exact pe_op op_mod (pe_op op_add (pe_ix ix_d (pvd nmRule 4) pe_int (fun _ _ => rfl)) pe_int) pe_int
   case s6 =>
    refine' ps_ret ?j1
    case' j1 => refine' pe_tup ?j2
    case j2 => exact pa_2 (pe_cT call_tuple_of B.tuple PyProof.Rows.boot_tuple (pa_1 (pvd nmRule 2))) (pe_cT call_tuple_of B.tuple PyProof.Rows.boot_tuple (pa_1 (pvd nmRule 4)))
  case rd =>
   walk_at "v"
   refine ⟨by show 1 ≤ sizeLine; decide, fun z0 hz0 => ?_⟩
   have K1 : Same H (upd H z0 (.lst [.int 0])) := Same.new (Same.refl H) hz0
   have e1 : upd H z0 (.lst [.int 0]) z0 = some (.lst [.int 0]) := upd_same
   generalize upd H z0 (.lst [.int 0]) = H1 at K1 e1 ⊢
   walk_at "v"
   refine ⟨z0, _, _, rfl, rfl, e1, by omega, by omega, by rw [Int.toNat_natCast]; exact Nat.le_of_lt (small1000 (by simp; omega)), fun a ha => ?_⟩
   rw [Int.toNat_natCast, rep_one]
   have T1 := T0.same K1
   have npa := T1.np ha
   have nla := T1.nl ha
   have h0a : H a = none := by
    cases e : H a with
    | none => rfl
    | some o => rw [K1 _ _ e] at ha; cases ha
   have T2 := T1.new (o := .lst ((List.replicate m (0 : Int)).map V.int)) ha
   have b2 : Bp p H (upd H1 a (.lst ((List.replicate m (0 : Int)).map V.int))) := (Bp.same K1).new ha
   have c2 : Cn9 m (upd H1 a (.lst ((List.replicate m (0 : Int)).map V.int))) a := Cn9.zero upd_same
   generalize upd H1 a (.lst ((List.replicate m (0 : Int)).map V.int)) = H2 at T2 b2 c2 ⊢
   walk_at "v"
   refine ⟨p, l, ns, 2, rfl, T2, by decide, by decide, fun r c e r0 r1 => ?_⟩
   have T3 := T2.draw (c := c) (e := e)
   have b3 : Bp p H (upd H2 p (.lst [.ref l, .int c, .int e])) := b2.at
   have c3 := c2.new (o := .lst [.ref l, .int c, .int e]) (Ne.symm npa)
   generalize upd H2 p (.lst [.ref l, .int c, .int e]) = H3 at T3 b3 c3 ⊢
   walk_at "v"
   refine ⟨_, rfl, by omega, by omega, ?_⟩
   refine for_range (fun i σ H' => ∃ (u3 : Option V), σ = [some (.ref p), some (.int (m : Int)), some (.ref a), u3, none] ∧ Tp H' p l ns ∧ Bp p H H' ∧ Cn9 m H' a) ⟨none, rfl, T3, b3, c3⟩ ?_ ?_
   ·rintro i σ H' hi ⟨u3, rfl, T, bb, cc⟩
    walk_at "v"
    refine ⟨by show 4 ≤ sizeLine; decide, fun z hz => ?_⟩
    have Tz := T.new (o := .lst (([1, 1, 2, 9] : List Int).map V.int)) hz
    have npz := T.np hz
    have bz : Bp p H (upd H' z (.lst (([1, 1, 2, 9] : List Int).map V.int))) := bb.new hz
    have ez : upd H' z (.lst (([1, 1, 2, 9] : List Int).map V.int)) z = some (.lst (([1, 1, 2, 9] : List Int).map V.int)) := upd_same
    have cz := cc.new (o := .lst (([1, 1, 2, 9] : List Int).map V.int)) (cc.ne hz)
    generalize upd H' z (.lst (([1, 1, 2, 9] : List Int).map V.int)) = Hz at Tz bz ez cz ⊢
    walk_at "v"
    refine ⟨p, l, ns, 4, rfl, Tz, by decide, by decide, fun r c e r0 r1 => ?_⟩
    obtain ⟨v, hv, hat⟩ := pickZ (xs := [1, 1, 2, 9]) r0 r1
    refine w_ixL (by rw [upd_ne (Ne.symm npz)]; exact ez) hat ?_
    have hv9 : 0 ≤ v ∧ v ≤ 9 := by
     simp only [List.mem_cons, List.not_mem_nil, or_false] at hv
     omega
    have Ty := Tz.draw (c := c) (e := e)
    have by' : Bp p H (upd Hz p (.lst [.ref l, .int c, .int e])) := bz.at
    have cy := cz.new (o := .lst [.ref l, .int c, .int e]) (Ne.symm npa)
    generalize upd Hz p (.lst [.ref l, .int c, .int e]) = Hy at Ty by' cy ⊢
    walk_at "v"
    refine ⟨p, l, ns, m, rfl, Ty, by omega, by omega, fun r c e r0 r1 => ?_⟩
    have Tx := Ty.draw (c := c) (e := e)
    have bx : Bp p H (upd Hy p (.lst [.ref l, .int c, .int e])) := by'.at
    have cx := cy.new (o := .lst [.ref l, .int c, .int e]) (Ne.symm npa)
    generalize upd Hy p (.lst [.ref l, .int c, .int e]) = Hx at Tx bx cx ⊢
    obtain ⟨xs, ex, hxl, hxb⟩ := cx
    walk_at "v"
    refine w_set ex (ixK r0 (by rw [List.length_map, hxl]; exact r1)) ?_
    refine ⟨_, rfl, Tx.put npa nla, bx.put h0a, Cn9.set hxl hxb hv9⟩
   ·rintro σ H4 ⟨u3, rfl, T4, b4, c4⟩
    walk_at "v"
    refine ⟨by show 1 ≤ sizeLine; decide, fun z1 hz1 => ?_⟩
    have K5 : Same H4 (upd H4 z1 (.lst [.int 0])) := Same.new (Same.refl H4) hz1
    have e5 : upd H4 z1 (.lst [.int 0]) z1 = some (.lst [.int 0]) := upd_same
    have c5 := c4.new (o := .lst [.int 0]) (c4.ne hz1)
    generalize upd H4 z1 (.lst [.int 0]) = H5 at K5 e5 c5 ⊢
    walk_at "v"
    refine ⟨z1, _, _, rfl, rfl, e5, by omega, by omega, by rw [Int.toNat_natCast]; exact Nat.le_of_lt (small1000 (by simp; omega)), fun g hg => ?_⟩
    rw [Int.toNat_natCast, rep_one]
    have noa : a ≠ g := c5.ne hg
    have npo : p ≠ a := npa
    have T5 := T4.same K5
    have npg := T5.np hg
    have nlg := T5.nl hg
    have b5 : Bp p H H5 := b4.trans (Bp.same K5)
    have h0g : H g = none := b5.free npg hg
    have T6 := T5.new (o := .lst ((List.replicate m (0 : Int)).map V.int)) hg
    have b6 : Bp p H (upd H5 g (.lst ((List.replicate m (0 : Int)).map V.int))) := b5.new hg
    have c6 : Cn9 m (upd H5 g (.lst ((List.replicate m (0 : Int)).map V.int))) g := Cn9.zero upd_same
    have o6 := c5.new (o := .lst ((List.replicate m (0 : Int)).map V.int)) noa
    generalize upd H5 g (.lst ((List.replicate m (0 : Int)).map V.int)) = H6 at T6 b6 c6 o6 ⊢
    walk_at "v"
    refine ⟨p, l, ns, 4, rfl, T6, by decide, by decide, fun r c e r0 r1 => ?_⟩
    have T7 := T6.draw (c := c) (e := e)
    have b7 : Bp p H (upd H6 p (.lst [.ref l, .int c, .int e])) := b6.at
    have c7 := c6.new (o := .lst [.ref l, .int c, .int e]) (Ne.symm npg)
    have o7 := o6.new (o := .lst [.ref l, .int c, .int e]) (Ne.symm npa)
    generalize upd H6 p (.lst [.ref l, .int c, .int e]) = H7 at T7 b7 c7 o7 ⊢
    walk_at "v"
    refine ⟨_, rfl, by omega, by omega, ?_⟩
    refine for_range (fun i σ H' => ∃ (u3 : Option V), σ = [some (.ref p), some (.int (m : Int)), some (.ref a), u3, some (.ref g)] ∧ Tp H' p l ns ∧ Bp p H H' ∧ Cn9 m H' g ∧ Cn9 m H' a) ⟨_, rfl, T7, b7, c7, o7⟩ ?_ ?_
    ·rintro i σ H' hi ⟨u3, rfl, T, bb, cc, oo⟩
     walk_at "v"
     refine ⟨by show 4 ≤ sizeLine; decide, fun z hz => ?_⟩
     have Tz := T.new (o := .lst (([1, 1, 2, 9] : List Int).map V.int)) hz
     have npz := T.np hz
     have bz : Bp p H (upd H' z (.lst (([1, 1, 2, 9] : List Int).map V.int))) := bb.new hz
     have ez : upd H' z (.lst (([1, 1, 2, 9] : List Int).map V.int)) z = some (.lst (([1, 1, 2, 9] : List Int).map V.int)) := upd_same
     have cz := cc.new (o := .lst (([1, 1, 2, 9] : List Int).map V.int)) (cc.ne hz)
     have oz := oo.new (o := .lst (([1, 1, 2, 9] : List Int).map V.int)) (oo.ne hz)
     generalize upd H' z (.lst (([1, 1, 2, 9] : List Int).map V.int)) = Hz at Tz bz ez cz oz ⊢
     walk_at "v"
     refine ⟨p, l, ns, 4, rfl, Tz, by decide, by decide, fun r c e r0 r1 => ?_⟩
     obtain ⟨v, hv, hat⟩ := pickZ (xs := [1, 1, 2, 9]) r0 r1
     refine w_ixL (by rw [upd_ne (Ne.symm npz)]; exact ez) hat ?_
     have hv9 : 0 ≤ v ∧ v ≤ 9 := by
      simp only [List.mem_cons, List.not_mem_nil, or_false] at hv
      omega
     have Ty := Tz.draw (c := c) (e := e)
     have by' : Bp p H (upd Hz p (.lst [.ref l, .int c, .int e])) := bz.at
     have cy := cz.new (o := .lst [.ref l, .int c, .int e]) (Ne.symm npg)
     have oy := oz.new (o := .lst [.ref l, .int c, .int e]) (Ne.symm npa)
     generalize upd Hz p (.lst [.ref l, .int c, .int e]) = Hy at Ty by' cy oy ⊢
     walk_at "v"
     refine ⟨p, l, ns, m, rfl, Ty, by omega, by omega, fun r c e r0 r1 => ?_⟩
     have Tx := Ty.draw (c := c) (e := e)
     have bx : Bp p H (upd Hy p (.lst [.ref l, .int c, .int e])) := by'.at
     have cx := cy.new (o := .lst [.ref l, .int c, .int e]) (Ne.symm npg)
     have ox := oy.new (o := .lst [.ref l, .int c, .int e]) (Ne.symm npa)
     generalize upd Hy p (.lst [.ref l, .int c, .int e]) = Hx at Tx bx cx ox ⊢
     obtain ⟨xs, ex, hxl, hxb⟩ := cx
     walk_at "v"
     refine w_set ex (ixK r0 (by rw [List.length_map, hxl]; exact r1)) ?_
     refine ⟨_, rfl, Tx.put npg nlg, bx.put h0g, Cn9.set hxl hxb hv9, ox.new noa⟩
    ·rintro σ H8 ⟨u3, rfl, T8, b8, ⟨gs, eg, hgl, hgb⟩, ⟨ts, et, htl, htb⟩⟩
     have last : ∀ (gs : List Int) (H9 : Hp), gs.length = m → (∀ x ∈ gs, 0 ≤ x ∧ x ≤ 9) → H9 g = some (.lst (gs.map V.int)) → H9 a = some (.lst (ts.map V.int)) → Tp H9 p l ns → Bp p H H9 → True := fun _ _ _ _ _ _ _ _ => trivial
     with_reducible refine seq_post (fun σ' H' => ∃ (u3 : Option V) (gs : List Int), σ' = [some (.ref p), some (.int (m : Int)), some (.ref a), u3, some (.ref g)] ∧ gs.length = m ∧ (∀ x ∈ gs, 0 ≤ x ∧ x ≤ 9) ∧ H' g = some (.lst (gs.map V.int)) ∧ H' a = some (.lst (ts.map V.int)) ∧ Tp H' p l ns ∧ Bp p H H') ?_ fun rest => ?_
     ·rintro σ' H9 ⟨u3, gs, rfl, hgl, hgb, eg, et, T9, b9⟩
      walk_at "v"
      refine ⟨a, _, rfl, .inl ⟨SqL.of et, fun qa hqa => ?_⟩⟩
      have KA : Same H9 (upd H9 qa (.tup (ts.map V.int))) := Same.new (Same.refl H9) hqa
      have eA : upd H9 qa (.tup (ts.map V.int)) qa = some (.tup (ts.map V.int)) := upd_same
      generalize upd H9 qa (.tup (ts.map V.int)) = HA at KA eA ⊢
      walk_at "v"
      refine ⟨g, _, rfl, .inl ⟨SqL.of (KA _ _ eg), fun qb hqb => ?_⟩⟩
      have KB : Same HA (upd HA qb (.tup (gs.map V.int))) := Same.new (Same.refl HA) hqb
      have eB : upd HA qb (.tup (gs.map V.int)) qb = some (.tup (gs.map V.int)) := upd_same
      generalize upd HA qb (.tup (gs.map V.int)) = HB at KB eB ⊢
      walk_at "v"
      refine ⟨by show 2 ≤ sizeLine; decide, fun q hq => ?_⟩
      have KC : Same HB (upd HB q (.tup [.ref qa, .ref qb])) := Same.new (Same.refl HB) hq
      have K9 := (KA.trans KB).trans KC
      exact k q _ ⟨qa, qb, ts, gs, upd_same, KC _ _ (KB _ _ eA), KC _ _ eB, htl, hgl, htb, hgb⟩ (T9.same K9) (b9.trans (Bp.same K9))
     ·walk_at "v"
      refine w_eqL eg et ?_
      walk_at "v"
      refine iteD (fun _ => ?_) (fun _ => ?_)
      ·have hg0 : 0 < gs.length := by omega
       have hg00 := hgb _ (List.getElem_mem hg0)
       walk_at "v"
       refine w_ixL (v := .int gs[0]) eg (show atI _ ((0 : Nat) : Int) = _ from atI_nat (by simp [hg0])) ?_
       walk_at "v"
       refine w_rI (by decide) ?_
       walk_at "v"
       have q10 := md (i := gs[0] + 1) (j := 10) (by decide)
       refine w_set eg (ixK (by decide) (by rw [List.length_map]; omega)) ?_
       obtain ⟨gs', eg', hgl', hgb'⟩ := Cn9.set (H := H8) (a := g) (j := (0 : Int).toNat) hgl hgb ⟨q10.1, by omega⟩
       exact rest _ _ ⟨_, gs', rfl, hgl', hgb', eg', by rw [upd_ne noa]; exact et, T8.put npg nlg, b8.put h0g⟩
      ·exact rest _ _ ⟨_, gs, rfl, hgl, hgb, eg, et, T8, b8⟩
end
abbrev sPot : Stmt := top 36
structure Blt2 (mg : Str → Option Value) : Prop extends Blt mg where
 list : mg "list" = none
 min : mg "min" = none
abbrev nPot : List Str := ["_law_tape_here", "_law_most", "_law_rules", "_law_many", "_law_names_here", "_law_some", "_law_left", "_law_inputs", "_law_k", "_law_begin"]
theorem nmPot : Nm nPot (defScope sPot) := ⟨by decide +kernel, by decide +kernel⟩
theorem scPot : FnScope nPot ["_law_tape_here", "_law_most", "_law_rules"] (defScope sPot) := ⟨rfl, rfl, rfl, by decide +kernel, rfl, by decide +kernel, by decide +kernel⟩
def asgTupC (s : Stmt) : Scope := match s with
 | .Assign _ (.Call _ [.ListComp _ _ sc _] _ _) _ => sc
 | _ => { kind := .function, names := [], isGenerator := false, isCoroutine := false }
abbrev cPotA : Scope := asgTupC ((defBody sPot).getD 2 (.Pass ⟨0, 0, 0, 0⟩))
abbrev cPotB : Scope := asgTupC ((defBody sPot).getD 6 (.Pass ⟨0, 0, 0, 0⟩))
theorem bsPotA : BScope (defScope sPot) cPotA ["_law_k"] ["_law_tape_here", "_law_many"] ["_law_rule"] := { okind := by decide +kernel, kind := by decide +kernel, nocell := by decide +kernel, names := by decide +kernel, fr := by decide +kernel, ff := by decide +kernel, nd := by decide +kernel, vis := by decide +kernel, loc := by decide +kernel, gl := by decide +kernel }
theorem bsPotB : BScope (defScope sPot) cPotB ["_law_k"] ["_law_tape_here"] ["_law_draw"] := { okind := by decide +kernel, kind := by decide +kernel, nocell := by decide +kernel, names := by decide +kernel, fr := by decide +kernel, ff := by decide +kernel, nd := by decide +kernel, vis := by decide +kernel, loc := by decide +kernel, gl := by decide +kernel }
structure SS (p l : Addr) (ns : List Int) (H0 H : Hp) : Prop where
 tp : Tp H p l ns
 bt : Bp p H0 H
section
variable {p l a : Addr} {ns : List Int} {H0 H H' : Hp} {o : HO}
theorem SS.draw (r : SS p l ns H0 H) {c e : Int} : SS p l ns H0 (upd H p (.lst [.ref l, .int c, .int e])) := ⟨r.tp.draw, r.bt.at⟩
theorem SS.new (r : SS p l ns H0 H) (h : H a = none) : SS p l ns H0 (upd H a o) := ⟨r.tp.new h, r.bt.new h⟩
theorem SS.put (r : SS p l ns H0 H) (h : H0 a = none) (h1 : p ≠ a) (h2 : l ≠ a) : SS p l ns H0 (upd H a o) := ⟨r.tp.put h1 h2, r.bt.put h⟩
theorem SS.call (r : SS p l ns H0 H) (t : Tp H' p l ns) (b : Bp p H H') : SS p l ns H0 H' := ⟨t, r.bt.trans b⟩
theorem SS.none (r : SS p l ns H0 H) (h : H a = none) : H0 a = none := r.bt.free (r.tp.np h) h
theorem SS.tk (r : SS p l ns H0 H) {c e : Int} : TK H (upd H p (.lst [.ref l, .int c, .int e])) := r.tp.tk
end
theorem RuleT.tk {m : Nat} {H H' : Hp} {r : Addr} (k : TK H H') (R : RuleT m H r) : RuleT m H' r := let ⟨a, b, ts, gs, h1, h2, h3, h4⟩ := R; ⟨a, b, ts, gs, k.t _ _ h1, k.t _ _ h2, k.t _ _ h3, h4⟩
theorem map_eraseB (k : Nat) (xs : List Int) : (xs.map V.int).eraseIdx k = (xs.eraseIdx k).map V.int := map_erase k xs
structure PotT (H : Hp) (q : Addr) (nm : List Str) (rs : List Addr) (ins beg : List Int) (ans : Int) (m : Nat) : Prop where
 ex : ∃ ps pr pin pb : Addr, H q = some (.tup [.ref ps, .ref pr, .ref pin, .ref pb, .int ans]) ∧ H ps = some (.tup (nm.map V.str)) ∧ H pr = some (.tup (rs.map V.ref)) ∧ H pin = some (.tup (ins.map V.int)) ∧ H pb = some (.tup (beg.map V.int))
 hr : ∀ r ∈ rs, RuleT m H r
 nl : nm.length = m
 np : ∀ x ∈ nm, x ∈ pool12
 r8 : rs.length ≤ 8
 m0 : 0 < m
 m8 : m ≤ 8
 hi : ∀ i ∈ ins, 0 ≤ i ∧ i < (m : Int)
 i3 : ins.length ≤ 3
 bl : beg.length = m
 hb : ∀ b ∈ beg, 0 ≤ b ∧ b ≤ 99
 ha : 0 ≤ ans ∧ ans < (m : Int)
theorem PotT.tk {H H' : Hp} {q : Addr} {nm : List Str} {rs : List Addr} {ins beg : List Int} {ans : Int} {m : Nat} (k : TK H H') (h : PotT H q nm rs ins beg ans m) : PotT H' q nm rs ins beg ans m :=
 let ⟨ps, pr, pin, pb, h1, h2, h3, h4, h5⟩ := h.ex
 ⟨⟨ps, pr, pin, pb, k.t _ _ h1, k.t _ _ h2, k.t _ _ h3, k.t _ _ h4, k.t _ _ h5⟩, fun r hr => (h.hr r hr).tk k, h.nl, h.np, h.r8, h.m0, h.m8, h.hi, h.i3, h.bl, h.hb, h.ha⟩
def spPot : Sp := fun vs H Q _ => ∃ (p l : Addr) (ns : List Int) (mo ru : Nat), vs = [.ref p, .int (mo : Int), .int (ru : Int)] ∧ Tp H p l ns ∧ 0 < mo ∧ mo ≤ 8 ∧ ru ≤ 8 ∧ ∀ (q : Addr) (nm : List Str) (rs : List Addr) (ins beg : List Int) (ans : Int) (m : Nat) (H' : Hp), PotT H' q nm rs ins beg ans m → Tp H' p l ns → Bp p H H' → Q (.ref q) H'
section
variable {P : Program} {w : World} {K : PySem.W.Frag} {mg : Str → Option Value} {base : Heap}
set_option maxHeartbeats 4000000 in
theorem ok_Pot {f : Addr} {fd : FuncData} (B : Blt2 mg) (D : Has P w K mg base 1 "_law_draw" ["_law_tape_here", "_law_many"] spDraw) (N : Has P w K mg base 2 "_law_names" ["_law_tape_here", "_law_many"] spNames) (R : Has P w K mg base 2 "_law_rule" ["_law_tape_here", "_law_many"] spRule) (F : Fun K "_law_pot" "_law_pot" sPot f fd) : FnOk P w K mg base CX0 3 f fd ["_law_tape_here", "_law_most", "_law_rules"] spPot := by
 refine F.ok scPot (fun vs H Q E h => ?_) (fun cdv A outer s H vs Q E hr h => ?_)
 ·obtain ⟨p, l, ns, mo, ru, rfl, _⟩ := h
  rfl
 ·obtain ⟨p, l, ns, mo, ru, rfl, T0, mo0, mo8, ru8, k⟩ := h
  refine' ⟨_, ?hb, ?rd⟩
  case hb =>
   refine' pss_cons ?s1 ?r1
   case' r1 => refine' pss_cons ?s2 ?r2
   case' r2 => refine' pss_cons ?s3 ?r3
   case' r3 => refine' pss_cons ?s4 ?r4
   case' r4 => refine' pss_cons ?s5 ?r5
   case' r5 => refine' pss_cons ?s6 ?r6
   case' r6 => refine' pss_cons ?s7 ?r7
   case' r7 => refine' pss_one ?s8
   case s1 => exact ps_setD nmPot 3 (pe_op op_add pe_int (pe_f D hr (by decide) (pa_2 (pvd nmPot 0) (pvd nmPot 1))))
   case s2 => exact ps_setD nmPot 4 (pe_f N hr (by decide) (pa_2 (pvd nmPot 0) (pvd nmPot 3)))
   case s3 =>
    refine' ps_setD nmPot 5 ?p3
    case' p3 => refine' pe_cT call_tuple_of B.tuple PyProof.Rows.boot_tuple ?qc3
    case' qc3 => refine' pa_1 ?c3
    case c3 =>
     refine' pe_comp (ix := [0, 3]) bsPotA.toCScope rfl rfl ?h3 ?h4 ?h5 ?h6
     case' h3 => refine' pi_r1 B.range ?pa3
     case' pa3 => refine' pa_1 ?i3
     case' i3 => refine' pe_f D hr (by decide) ?i4
     case i4 => exact pa_2 (pvd nmPot 0) (pe_op op_add (pvd nmPot 2) pe_int)
     case h4 => exact fun _ _ _ _ _ _ => pgb bsPotA 0
     case h5 => exact fun _ _ _ _ _ _ => pts_nil
     case h6 => exact fun _ _ _ _ _ _ => pe_f R hr (by decide) (pa_2 (pvb bsPotA 1) (pvb bsPotA 2)) (bsPotA.g 0)
   case s4 =>
    refine' ps_setD nmPot 6 ?p4
    case' p4 => refine' pe_cT (call_listRng rfl) B.list PyProof.Rows.boot_list ?q4
    case' q4 => refine' pa_1 ?u4
    case u4 => exact pe_cT call_rangeV B.range PyProof.Rows.boot_range (pa_1 (pvd nmPot 3))
   case s5 => exact ps_setD nmPot 7 (pe_lst pa_nil)
   case s6 =>
    refine' ps_for PassesOwn.never rfl ?i6 (pgd nmPot 8) ?b6
    case' i6 => refine' pi_r1 B.range ?pa6
    case' pa6 => refine' pa_1 ?j6
    case' j6 => refine' pe_cB (call_min2 rfl) B.min PyProof.Rows.boot_min ?q6
    case q6 => exact pa_2 (pe_f D hr (by decide) (pa_2 (pvd nmPot 0) pe_int)) (pvd nmPot 3)
    case b6 =>
     refine' pss_one ?b6a
     case' b6a => refine' ps_expr ?b6b
     case' b6b => refine' pe_bm PySem.F.plainAttrs_list PySem.F.slot_list_append PySem.F.type_list_append mt_append (pvd nmPot 7) ?b6c
     case' b6c => refine' pa_1 ?b6d
     case' b6d => refine' pe_bm PySem.F.plainAttrs_list PySem.F.slot_list_pop PySem.F.type_list_pop mt_popAt (pvd nmPot 6) ?b6e
     case' b6e => refine' pa_1 ?b6f
     case' b6f => refine' pe_f D hr (by decide) ?b6g
     case' b6g => refine' pa_2 (pvd nmPot 0) ?b6h
     case b6h => exact pe_cB call_len_seq B.len PySem.boot_len (pa_1 (pvd nmPot 6))
   case s7 =>
    refine' ps_setD nmPot 9 ?p7
    case' p7 => refine' pe_cT call_tuple_of B.tuple PyProof.Rows.boot_tuple ?qc7
    case' qc7 => refine' pa_1 ?c7
    case c7 =>
     refine' pe_comp (ix := [0]) bsPotB.toCScope rfl rfl (pi_r1 B.range (pa_1 (pvd nmPot 3))) ?k4 ?k5 ?k6
     case k4 => exact fun _ _ _ _ _ _ => pgb bsPotB 0
     case k5 => exact fun _ _ _ _ _ _ => pts_nil
     case k6 =>
      intro _ _ _ _ _ _
      refine' pe_ix ix_d ?e7 ?g7 (fun _ _ => rfl)
      case g7 => exact pe_f D hr (by decide) (pa_2 (pvb bsPotB 1) pe_int) (bsPotB.g 0)
      case e7 =>
       refine pe_lstW (vs := ([0, 0, 1, 2, 99] : List Int).map V.int) ?_
       decide +kernel
   case s8 =>
    refine' ps_ret ?z1
    case' z1 => refine' pe_tup ?z2
    case' z2 => refine' pa_c (pvd nmPot 4) ?z3
    case' z3 => refine' pa_c (pvd nmPot 5) ?z4
    case' z4 => refine' pa_c (pe_cT call_tuple_of B.tuple PyProof.Rows.boot_tuple (pa_1 (pvd nmPot 7))) ?z5
    case z5 => exact pa_2 (pvd nmPot 9) (pe_f D hr (by decide) (pa_2 (pvd nmPot 0) (pvd nmPot 3)))
  case rd =>
   walk_at "v"
   refine ⟨p, l, ns, mo, rfl, T0, by omega, by omega, fun r c e r0 r1 => ?_⟩
   have S1 : SS p l ns H (upd H p (.lst [.ref l, .int c, .int e])) := ⟨T0.draw, Bp.refl.at⟩
   generalize upd H p (.lst [.ref l, .int c, .int e]) = H1 at S1 ⊢
   obtain ⟨r', rfl⟩ := ofI r0
   obtain ⟨m, hm⟩ : ∃ m : Nat, (1 + (r' : Int)) = (m : Int) := ⟨1 + r', by omega⟩
   have m0 : 0 < m := by omega
   have m8 : m ≤ 8 := by omega
   walk_at "v"
   rw [hm]
   refine ⟨p, l, ns, m, rfl, S1.tp, m8, fun ps nm H2 hnl hnm e2 T2 b2 => ?_⟩
   have S2 := S1.call T2 b2
   walk_at "v"
   refine ⟨p, l, ns, _, rfl, T2, by omega, by omega, fun r c e r0 r1 => ?_⟩
   have S3 := S2.draw (c := c) (e := e)
   have e3 := (S2.tk (c := c) (e := e)).t _ _ e2
   generalize upd H2 p (.lst [.ref l, .int c, .int e]) = H3 at S3 e3 ⊢
   obtain ⟨rn, rfl⟩ := ofI r0
   have rn8 : rn ≤ 8 := by omega
   refine ⟨_, rfl, by omega, by omega, fun d hd => ?_⟩
   rw [Int.toNat_natCast]
   have npd := S3.tp.np hd
   have nld := S3.tp.nl hd
   have h0d := S3.none hd
   refine G2.rng_gen (ρ := [some (.ref p), some (.int (m : Int))]) (fun H' => SS p l ns H H' ∧ TK H3 H') (fun y H' => ∃ r, y = V.ref r ∧ RuleT m H' r) (by omega) ⟨S3.new hd, TK.new hd⟩ (fun H' ys zs ⟨a1, a2⟩ hD => ⟨a1.put h0d npd nld, a2.trans (TK.lst hD)⟩) (fun y H' ys zs ⟨r, hy, hr⟩ _ hD => ⟨r, hy, hr.tk (TK.lst hD)⟩) (fun i' H' ys hi' ⟨a1, a2⟩ hD R' kR => ?_) (fun ys H4 hyl hys ⟨S4, TK4⟩ hD => ?_)
   ·walk_at "v"
    refine ⟨p, l, ns, m, rfl, a1.tp, m0, m8, fun q H'' hq t' b' => ?_⟩
    have tk' := Tp.tkb a1.tp b'
    exact kR _ H'' ⟨q, rfl, hq⟩ ⟨a1.call t' b', a2.trans tk'⟩ (b' _ _ (Ne.symm npd) hD) fun z ⟨r, hz, hr⟩ => ⟨r, hz, hr.tk tk'⟩
   obtain ⟨rs, rfl, hrs⟩ : ∃ rs : List Addr, ys = rs.map V.ref ∧ ∀ r ∈ rs, RuleT m H4 r := by
    clear hyl hD
    induction ys with
    | nil => exact ⟨[], rfl, fun r h => by cases h⟩
    | cons y ys ih =>
     obtain ⟨r, rfl, hr'⟩ := hys y List.mem_cons_self
     obtain ⟨rs, rfl, h⟩ := ih fun z hz => hys z (List.mem_cons_of_mem _ hz)
     exact ⟨r :: rs, rfl, fun x hx => by
      rcases List.mem_cons.mp hx with rfl | hx
      ·exact hr'
      ·exact h x hx⟩
   rw [List.length_map] at hyl
   have e4 := TK4.t _ _ e3
   walk_at "v"
   refine ⟨d, _, rfl, .inl ⟨SqL.of hD, fun pr hpr => ?_⟩⟩
   have S8 := S4.new (o := .tup (rs.map V.ref)) hpr
   have T8 : TK H4 (upd H4 pr (.tup (rs.map V.ref))) := TK.new hpr
   have ep8 := T8.t _ _ e4
   have hrs8 : ∀ r ∈ rs, RuleT m (upd H4 pr (.tup (rs.map V.ref))) r := fun r h => (hrs r h).tk T8
   have er8 : upd H4 pr (.tup (rs.map V.ref)) pr = some (.tup (rs.map V.ref)) := upd_same
   generalize upd H4 pr (.tup (rs.map V.ref)) = H8 at S8 ep8 er8 hrs8 ⊢
   clear T8 hD hrs hpr hys
   walk_at "v"
   refine ⟨m, rfl, fun rg hrg => ?_⟩
   have S9 := S8.new (o := .rng 0 m) hrg
   have T9 : TK H8 (upd H8 rg (.rng 0 m)) := TK.new hrg
   have erg : upd H8 rg (.rng 0 m) rg = some (.rng 0 m) := upd_same
   generalize upd H8 rg (.rng 0 m) = H9 at S9 T9 erg ⊢
   walk_at "v"
   refine ⟨rg, m, rfl, erg, by omega, fun pl hpl => ?_⟩
   have S10 := S9.new (o := .lst ((List.range m).map fun (i : Nat) => V.int (i : Int))) hpl
   have T10 := T9.trans (TK.new (o := .lst ((List.range m).map fun (i : Nat) => V.int (i : Int))) hpl)
   have n0l := S9.none hpl
   have ppl := S9.tp.np hpl
   have lpl := S9.tp.nl hpl
   have el : upd H9 pl (.lst ((List.range m).map fun (i : Nat) => V.int (i : Int))) pl = some (.lst (((List.range m).map fun (i : Nat) => (i : Int)).map V.int)) := by rw [upd_same, List.map_map]; rfl
   generalize upd H9 pl (.lst ((List.range m).map fun (i : Nat) => V.int (i : Int))) = H10 at S10 T10 el ⊢
   clear S9 T9 erg hpl hrg
   walk_at "v"
   refine ⟨Nat.zero_le _, fun pi hpi => ?_⟩
   have S11 := S10.new (o := .lst []) hpi
   have T11 := T10.trans (TK.new (o := .lst []) hpi)
   have n0i := S10.none hpi
   have ppi := S10.tp.np hpi
   have lpi := S10.tp.nl hpi
   have nli : pl ≠ pi := ne_of_none el hpi
   have el11 : upd H10 pi (.lst []) pl = some (.lst (((List.range m).map fun (i : Nat) => (i : Int)).map V.int)) := by rw [upd_ne nli]; exact el
   have ei11 : upd H10 pi (.lst []) pi = some (.lst (([] : List Int).map V.int)) := upd_same
   generalize upd H10 pi (.lst []) = H11 at S11 T11 el11 ei11 ⊢
   clear S10 T10 el hpi
   walk_at "v"
   refine ⟨p, l, ns, 4, rfl, S11.tp, by decide, by decide, fun r c e r0 r1 => ?_⟩
   have S13 := S11.draw (c := c) (e := e)
   have T13 := T11.trans (S11.tk (c := c) (e := e))
   have el13 : upd H11 p (.lst [.ref l, .int c, .int e]) pl = some (.lst (((List.range m).map fun (i : Nat) => (i : Int)).map V.int)) := by rw [upd_ne (Ne.symm ppl)]; exact el11
   have ei13 : upd H11 p (.lst [.ref l, .int c, .int e]) pi = some (.lst (([] : List Int).map V.int)) := by rw [upd_ne (Ne.symm ppi)]; exact ei11
   generalize upd H11 p (.lst [.ref l, .int c, .int e]) = H13 at S13 T13 el13 ei13 ⊢
   clear S11 T11 el11 ei11
   obtain ⟨c4, rfl⟩ := ofI r0
   walk_at "v"
   refine ⟨_, _, rfl, ?_⟩
   obtain ⟨cn, hcn, cn3, cnm⟩ : ∃ cn : Nat, (if (m : Int) < (c4 : Int) then (m : Int) else (c4 : Int)) = (cn : Int) ∧ cn ≤ 3 ∧ cn ≤ m := by
    by_cases h : (m : Int) < (c4 : Int)
    ·exact ⟨m, by rw [if_pos h], by omega, by omega⟩
    ·exact ⟨c4, by rw [if_neg h], by omega, by omega⟩
   rw [hcn]
   walk_at "v"
   refine ⟨_, rfl, by omega, by omega, ?_⟩
   rw [Int.toNat_natCast]
   refine for_range (fun i σ H' => ∃ (u : Option V) (lf is : List Int), σ = [some (.ref p), some (.int (mo : Int)), some (.int (ru : Int)), some (.int (m : Int)), some (.ref ps), some (.ref pr), some (.ref pl), some (.ref pi), u, none] ∧ H' pl = some (.lst (lf.map V.int)) ∧ H' pi = some (.lst (is.map V.int)) ∧ lf.length + i = m ∧ is.length = i ∧ (∀ j ∈ lf, 0 ≤ j ∧ j < (m : Int)) ∧ (∀ j ∈ is, 0 ≤ j ∧ j < (m : Int)) ∧ SS p l ns H H' ∧ TK H8 H')
    ⟨none, _, [], rfl, el13, ei13, by simp, rfl, fun j hj => by
     obtain ⟨q, hq, rfl⟩ := List.mem_map.mp hj
     have := List.mem_range.mp hq
     omega, (fun j hj => by cases hj), S13, T13⟩ ?_ ?_
   ·rintro i σ H' hi ⟨u, lf, is, rfl, el, ei, hlen1, hlen2, hlf, his, S, T⟩
    walk_at "v"
    refine ⟨.inl ⟨rfl, _, SqL.of ei⟩, ?_⟩
    walk_at "v"
    refine ⟨.inl ⟨rfl, _, SqL.of el⟩, ?_⟩
    walk_at "v"
    refine ⟨pl, _, rfl, .inl (SqL.of el), ?_⟩
    rw [List.length_map]
    refine ⟨p, l, ns, lf.length, rfl, S.tp, by omega, by omega, fun r c e r0 r1 => ?_⟩
    have S' := S.draw (c := c) (e := e)
    have T' := T.trans (S.tk (c := c) (e := e))
    have el' : upd H' p (.lst [.ref l, .int c, .int e]) pl = some (.lst (lf.map V.int)) := by rw [upd_ne (Ne.symm ppl)]; exact el
    have ei' : upd H' p (.lst [.ref l, .int c, .int e]) pi = some (.lst (is.map V.int)) := by rw [upd_ne (Ne.symm ppi)]; exact ei
    generalize upd H' p (.lst [.ref l, .int c, .int e]) = H2 at S' T' el' ei' ⊢
    obtain ⟨j, rfl⟩ := ofI r0
    have hj : j < lf.length := by omega
    have hix : ixN (lf.map V.int).length (j : Int) = some j := by
     rw [List.length_map]
     unfold ixN
     rw [if_pos r0, if_pos r1]
     rfl
    walk_at "v"
    refine ⟨pl, _, _, j, .int lf[j], rfl, rfl, el', by omega, by omega, (ixN_seq hix).1, by simp [hj], ?_⟩
    have S'' := S'.put (o := .lst ((lf.map V.int).eraseIdx j)) n0l ppl lpl
    have T'' := T'.trans (TK.lst (o := .lst ((lf.map V.int).eraseIdx j)) el')
    have el'' : upd H2 pl (.lst ((lf.map V.int).eraseIdx j)) pl = some (.lst ((lf.eraseIdx j).map V.int)) := by rw [upd_same, map_eraseB]
    have ei'' : upd H2 pl (.lst ((lf.map V.int).eraseIdx j)) pi = some (.lst (is.map V.int)) := by rw [upd_ne (Ne.symm nli)]; exact ei'
    generalize upd H2 pl (.lst ((lf.map V.int).eraseIdx j)) = H3' at S'' T'' el'' ei'' ⊢
    walk_at "v"
    refine ⟨pi, _, _, rfl, rfl, ei'', by rw [List.length_map]; exact small1000 (by omega), ?_⟩
    refine ⟨_, lf.eraseIdx j, is ++ [lf[j]], rfl, by rw [upd_ne nli]; exact el'', by rw [upd_same, List.map_append]; rfl, ?_, by simp [hlen2], ?_, ?_, S''.put n0i ppi lpi, T''.trans (TK.lst ei'')⟩
    ·rw [List.length_eraseIdx_of_lt hj]
     omega
    ·exact fun q hq => hlf q (List.mem_of_mem_eraseIdx hq)
    ·intro q hq
     rcases List.mem_append.mp hq with old | new
     ·exact his q old
     ·rw [List.mem_singleton.mp new]
      exact hlf _ (List.getElem_mem hj)
   ·rintro σ H14 ⟨u, lf, is, rfl, el, ei, hlen1, hlen2, hlf, his, S14, T14⟩
    have hi3 : is.length ≤ 3 := by omega
    walk_at "v"
    refine ⟨_, rfl, by omega, by omega, fun db hdb => ?_⟩
    rw [Int.toNat_natCast]
    have pdb := S14.tp.np hdb
    have ldb := S14.tp.nl hdb
    have n0b := S14.none hdb
    have nib : pi ≠ db := ne_of_none ei hdb
    refine cgo_range (ρ := [some (.ref p)]) (fun i ys H' => ∃ bs : List Int, ys = bs.map V.int ∧ bs.length = i ∧ (∀ b ∈ bs, 0 ≤ b ∧ b ≤ 99) ∧ SS p l ns H H' ∧ TK H8 H' ∧ H' pi = some (.lst (is.map V.int)))
     ⟨[], rfl, rfl, (fun b hb => by cases hb), S14.new hdb, T14.trans (TK.new hdb), by rw [upd_ne nib]; exact ei⟩ ?_ ?_
    ·rintro i ys H' hi ⟨bs, rfl, hbl, hbs, S, T, ei'⟩ hD R' S' kR _
     walk_at "v"
     refine ⟨by show 5 ≤ sizeLine; decide, fun z hz => ?_⟩
     have Sz := S.new (o := .lst (([0, 0, 1, 2, 99] : List Int).map V.int)) hz
     have Tz := T.trans (TK.new (o := .lst (([0, 0, 1, 2, 99] : List Int).map V.int)) hz)
     have npz := S.tp.np hz
     have ez : upd H' z (.lst (([0, 0, 1, 2, 99] : List Int).map V.int)) z = some (.lst (([0, 0, 1, 2, 99] : List Int).map V.int)) := upd_same
     have dz : upd H' z (.lst (([0, 0, 1, 2, 99] : List Int).map V.int)) db = some (.lst (bs.map V.int)) := by rw [upd_ne (ne_of_none hD hz)]; exact hD
     have iz : upd H' z (.lst (([0, 0, 1, 2, 99] : List Int).map V.int)) pi = some (.lst (is.map V.int)) := by rw [upd_ne (ne_of_none ei' hz)]; exact ei'
     generalize upd H' z (.lst (([0, 0, 1, 2, 99] : List Int).map V.int)) = Hz at Sz Tz ez dz iz ⊢
     walk_at "v"
     refine ⟨p, l, ns, 5, rfl, Sz.tp, by decide, by decide, fun r c e r0 r1 => ?_⟩
     obtain ⟨v, hv, hat⟩ := pickZ (xs := [0, 0, 1, 2, 99]) r0 r1
     refine w_ixL (by rw [upd_ne (Ne.symm npz)]; exact ez) hat ?_
     have hD' : upd Hz p (.lst [.ref l, .int c, .int e]) db = some (.lst (bs.map V.int)) := by rw [upd_ne (Ne.symm pdb)]; exact dz
     have hI' : upd Hz p (.lst [.ref l, .int c, .int e]) pi = some (.lst (is.map V.int)) := by rw [upd_ne (Ne.symm ppi)]; exact iz
     refine kR _ _ hD' (by rw [List.length_map]; exact small1000 (by omega)) ⟨bs ++ [v], by rw [List.map_append]; rfl, by simp [hbl], fun b hb => ?_, (Sz.draw).put n0b pdb ldb, (Tz.trans Sz.tk).trans (TK.lst hD'), by rw [upd_ne nib]; exact hI'⟩
     rcases List.mem_append.mp hb with old | new
     ·exact hbs b old
     ·rw [List.mem_singleton.mp new]
      simp only [List.mem_cons, List.not_mem_nil, or_false] at hv
      omega
    ·rintro ys H15 ⟨bs, rfl, hbl, hbs, S15, T15, ei15⟩ hD
     walk_at "v"
     refine ⟨db, _, rfl, .inl ⟨SqL.of hD, fun pb hpb => ?_⟩⟩
     have S16 := S15.new (o := .tup (bs.map V.int)) hpb
     have T16 := T15.trans (TK.new (o := .tup (bs.map V.int)) hpb)
     have eb : upd H15 pb (.tup (bs.map V.int)) pb = some (.tup (bs.map V.int)) := upd_same
     have ei16 : upd H15 pb (.tup (bs.map V.int)) pi = some (.lst (is.map V.int)) := by rw [upd_ne (ne_of_none ei15 hpb)]; exact ei15
     generalize upd H15 pb (.tup (bs.map V.int)) = H16 at S16 T16 eb ei16 ⊢
     walk_at "v"
     refine ⟨pi, _, rfl, .inl ⟨SqL.of ei16, fun pin hpin => ?_⟩⟩
     have S17 := S16.new (o := .tup (is.map V.int)) hpin
     have T67 : TK H16 (upd H16 pin (.tup (is.map V.int))) := TK.new hpin
     have T17 := T16.trans T67
     have en : upd H16 pin (.tup (is.map V.int)) pin = some (.tup (is.map V.int)) := upd_same
     have eb17 := T67.t _ _ eb
     generalize upd H16 pin (.tup (is.map V.int)) = H17 at S17 T17 en eb17 ⊢
     walk_at "v"
     refine ⟨p, l, ns, m, rfl, S17.tp, by omega, by omega, fun ans c e a0 a1 => ?_⟩
     have S18 := S17.draw (c := c) (e := e)
     have T78 := S17.tk (c := c) (e := e)
     generalize upd H17 p (.lst [.ref l, .int c, .int e]) = H18 at S18 T78 ⊢
     walk_at "v"
     refine ⟨by show 5 ≤ sizeLine; decide, fun q hq => ?_⟩
     have T89 : TK H18 (upd H18 q (.tup [.ref ps, .ref pr, .ref pin, .ref pb, .int ans])) := TK.new hq
     have T19 := (T17.trans T78).trans T89
     have S19 := S18.new (o := .tup [.ref ps, .ref pr, .ref pin, .ref pb, .int ans]) hq
     exact k q nm rs is bs ans m _ ⟨⟨ps, pr, pin, pb, upd_same, T19.t _ _ ep8, T19.t _ _ er8, (T78.trans T89).t _ _ en, (T78.trans T89).t _ _ eb17⟩, fun r hr' => (hrs8 r hr').tk T19, hnl, hnm, by omega, m0, m8, his, hi3, hbl, hbs, a0, a1⟩ S19.tp S19.bt
end
end K29
namespace L2
open PySem PySem.Spec PyProof.Rows
theorem Same.none {H H' : Hp} {a : Addr} (k : Same H H') (h : H' a = .none) : H a = .none := by
 cases e : H a with
 | none => rfl
 | some o => rw [k _ _ e] at h; cases h
section
variable {X : Cx}
theorem flat_rep {α : Type} (k : Nat) (v : α) : (List.replicate k [v]).flatten = List.replicate k v := by
 induction k with
 | zero => rfl
 | succ k ih => rw [List.replicate_succ, List.flatten_cons, ih, List.replicate_succ]; rfl
def rLnT : List V → Hp → VK → Prop := fun xs H Q => ∃ (p : Addr) (ys : List V), xs = [.ref p] ∧ H p = some (.tup ys) ∧ Q (.int ys.length) H
theorem call_lnT : CallR X (.builtin "len") rLnT := fun pins s σ H xs us Q I r h => call_len_seq pins s σ H xs us Q I r (let ⟨p, ys, e, hp, q⟩ := h; ⟨p, ys, e, .inr (SqT.of hp), q⟩)
def rLnL : List V → Hp → VK → Prop := fun xs H Q => ∃ (p : Addr) (ys : List V), xs = [.ref p] ∧ H p = some (.lst ys) ∧ Q (.int ys.length) H
theorem call_lnL : CallR X (.builtin "len") rLnL := fun pins s σ H xs us Q I r h => call_len_seq pins s σ H xs us Q I r (let ⟨p, ys, e, hp, q⟩ := h; ⟨p, ys, e, .inl (SqL.of hp), q⟩)
def rTupL : List V → Hp → VK → Prop := fun xs H Q => ∃ (p : Addr) (ys : List V), xs = [.ref p] ∧ H p = some (.lst ys) ∧ ∀ q H', Same H H' → H' q = some (.tup ys) → Q (.ref q) H'
theorem call_tupL : CallR X (.type "tuple") rTupL := fun pins s σ H xs us Q I r h => call_tuple_of pins s σ H xs us Q I r (let ⟨p, ys, e, hp, q⟩ := h; ⟨p, ys, e, .inl ⟨SqL.of hp, fun l hl => q l _ (Same.new (Same.refl H) hl) upd_same⟩⟩)
end
end L2
namespace G2
open PySem L2
def Fms (H : Hp) : List Addr → List Fm → Prop
 | [], [] => True
 | q :: qs, f :: fs => FmAt H q f ∧ Fms H qs fs
 | _, _ => False
theorem Fms.tk {H H' : Hp} (k : TK H H') : ∀ {qs : List Addr} {fs : List Fm}, Fms H qs fs → Fms H' qs fs
 | [], [], _ => trivial
 | q :: qs, f :: fs, h => ⟨h.1.tk k, Fms.tk k h.2⟩
 | [], _ :: _, h => h.elim
 | _ :: _, [], h => h.elim
theorem Fms.len {H : Hp} : ∀ {qs : List Addr} {fs : List Fm}, Fms H qs fs → qs.length = fs.length
 | [], [], _ => rfl
 | q :: qs, f :: fs, h => by rw [List.length_cons, List.length_cons, Fms.len h.2]
 | [], _ :: _, h => h.elim
 | _ :: _, [], h => h.elim
theorem Fms.app {H : Hp} {ps : List Addr} {gs : List Fm} (h' : Fms H ps gs) : ∀ {qs : List Addr} {fs : List Fm}, Fms H qs fs → Fms H (qs ++ ps) (fs ++ gs)
 | [], [], _ => h'
 | q :: qs, f :: fs, h => ⟨h.1, Fms.app h' h.2⟩
 | [], _ :: _, h => h.elim
 | _ :: _, [], h => h.elim
theorem Fms.one {H : Hp} {q : Addr} {f : Fm} (h : FmAt H q f) : Fms H [q] [f] := ⟨h, trivial⟩
theorem Fms.two {H : Hp} {q r : Addr} {f g : Fm} (h : FmAt H q f) (h' : FmAt H r g) : Fms H [q, r] [f, g] := ⟨h, h', trivial⟩
section
variable {D : Addr} {te : TE} {tc : TT} {Q : VK} {ρ : St} {H : Hp} {K : PySem.W.Frag} {a b : Addr}
theorem rng_fms {n : Nat} (g : Nat → Fm) (hn : n ≤ 1000)
  (step : ∀ (i : Nat) (H' : Hp), i < n → Same H H' → ∀ R : V → Hp → Prop, (∀ q H'', Same H' H'' → FmAt H'' q (g i) → R (.ref q) H'') → te (some (.int (i : Int)) :: ρ) H' R)
  (q : ∀ qs H', Same H H' → Fms H' qs ((List.range n).map g) → H' D = some (.lst (qs.map V.ref)) → Q (.ref D) H') (hD : H D = none) : CGo (Itr 0 n) D (gName 0) tAll te Q (none :: ρ) H := by
 refine cgo_range (fun i zs H' => ∃ qs : List Addr, zs = qs.map V.ref ∧ Fms H' qs ((List.range i).map g) ∧ Same H H') ⟨[], rfl, trivial, Same.new (Same.refl H) hD⟩ ?_ ?_
 ·rintro i zs H' hi ⟨qs, rfl, hf, K'⟩ hDz R S kR _
  rw [Int.zero_add]
  refine w_all ?_
  refine iteT ?_
  refine step i _ hi K' R fun r H'' K'' hr => ?_
  have t2 : TK H'' (upd H'' D (.lst (qs.map V.ref ++ [.ref r]))) := TK.lst (K'' _ _ hDz)
  refine kR _ _ (K'' _ _ hDz) ?_ ⟨qs ++ [r], by rw [List.map_append]; rfl, ?_, (K'.trans K'').put hD⟩
  ·have := hf.len
   rw [List.length_map, List.length_range] at this
   rw [List.length_map]
   exact small1000 (by omega)
  ·rw [List.range_succ, List.map_append]
   exact Fms.app (Fms.one (hr.tk t2)) (hf.tk ((TK.same K'').trans t2))
 ·rintro zs H' ⟨qs, rfl, hf, K'⟩ hDz
  exact q qs H' K' hf hDz
theorem tup_mapA {xs : List V} (g : V → Int) (ha : H a = some (.tup xs)) (hn : xs.length ≤ 1000)
  (step : ∀ (i : Nat) (x : V) (H' : Hp), xs[i]? = some x → Same H H' → ∀ R : V → Hp → Prop, (∀ H'', Same H' H'' → R (.int (g x)) H'') → te (some x :: ρ) H' R)
  (q : ∀ H', Same H H' → H' D = some (.lst ((xs.map g).map V.int)) → Q (.ref D) H') (hD : H D = none) : CGo (Itt K a) D (gName 0) tAll te Q (none :: ρ) H := by
 refine cgo_tup (xs := xs) (fun i zs H' => zs = ((xs.map g).take i).map V.int ∧ Same H H') ⟨rfl, Same.new (Same.refl H) hD⟩ (fun i zs H' _ ⟨_, k'⟩ => SqT.of (k' _ _ ha)) ?_ ?_
 ·rintro i x zs H' hx ⟨rfl, K'⟩ hDz R S kR _
  have hi1 : i < xs.length := (List.getElem?_eq_some_iff.mp hx).1
  have ex : x = xs[i] := by
   rw [List.getElem?_eq_getElem hi1] at hx
   exact (Option.some.inj hx).symm
  refine w_all ?_
  refine iteT ?_
  refine step i _ _ hx K' R fun H'' K'' => ?_
  refine kR _ _ (K'' _ _ hDz) (by rw [List.length_map, List.length_take]; exact small1000 (by omega)) ⟨?_, (K'.trans K'').put hD⟩
  rw [List.take_add_one, List.map_append]
  simp [hi1, ex]
 ·rintro zs H' ⟨rfl, K'⟩ hDz
  refine q H' K' ?_
  rw [hDz, List.take_of_length_le]
  simp
end
end G2
namespace K29
open PySem L2 G2
local macro_rules | `(tactic| walk_at "v") => `(tactic| repeat (with_reducible first
  | refine w_seq ?_ | refine w_asg ?_ | refine w_gname ?_ | refine w_op ?_ | refine w_var rfl ?_ | refine w_c ?_ | refine w_rI0 ?_ | refine w_ifs ?_ | refine w_ife ?_ | refine w_test ?_ | refine w_tb ?_ | refine w_bl ?_ | refine w_not ?_ | refine w_ret ?_ | refine w_retN ?_
  | refine w_nil ?_ | refine w_cons ?_ | refine w_lst ?_ | refine w_tup ?_ | refine w_cb ?_ | refine w_call ?_ | refine w_gsub ?_ | refine w_and ?_ | refine w_or ?_ | refine w_next ?_ | refine w_all ?_ | refine w_vals ?_ | refine w_compR ?_ | refine w_compT ?_ | refine w_forR ?_ | refine w_forT ?_ | refine w_forL ?_ | refine w_drop ?_ | refine w_bm ?_ | refine w_compZ ?_ | refine w_compL ?_ | refine w_chain ?_ | refine w_sl ?_ | refine w_nopart ?_ | refine w_part ?_ | refine w_unI ?_ | refine iteT ?_ | refine iteF ?_))
abbrev sTimes : Stmt := top 3
abbrev sOften : Stmt := top 18
abbrev sAmt : Stmt := top 14
abbrev sDrp : Stmt := top 15
abbrev sNgt : Stmt := top 16
abbrev sOne : Stmt := top 17
def Kn (mg : Str → Option Value) (x : Str) (i : Int) : Prop := ∃ t, mg x = some (Value.int i t)
theorem pe_k {X : Cx} {x : Str} {i : Int} {pos : Pos} (h : Kn X.mg x i) (hg : Gl X x := by rfl) (hd : (x == ("__debug__" : Str)) = false := by decide) : PE X (.Name x pos) (tC (.int i)) := by
 obtain ⟨t, e⟩ := h
 exact pe_glob hg e ⟨t, rfl⟩ hd
structure Blt3 (mg : Str → Option Value) : Prop extends Blt2 mg where
 int : mg "int" = none
 sum : mg "sum" = none
 zip : mg "zip" = none
 repr : mg "repr" = none
 soK : Kn mg "SORTS" 0
 inK : Kn mg "INPUTS" 2
 beK : Kn mg "BEGIN" 3
 biK : Kn mg "BY_INPUTS" 0
 bsK : Kn mg "BY_SORTS" 1
 plK : Kn mg "PLUS" 2
def retCallComp (s : Stmt) : Scope := match s with
 | .Return (some (.Call _ [.ListComp _ _ sc _] _ _)) _ => sc
 | _ => { kind := .function, names := [], isGenerator := false, isCoroutine := false }
theorem nmTimes : Nm ["ones", "others"] (defScope sTimes) := ⟨by decide +kernel, by decide +kernel⟩
theorem scTimes : FnScope ["ones", "others"] ["ones", "others"] (defScope sTimes) := ⟨rfl, rfl, rfl, by decide +kernel, rfl, by decide +kernel, by decide +kernel⟩
abbrev cTimes : Scope := retCallComp ((defBody sTimes).getD 0 (.Pass ⟨0, 0, 0, 0⟩))
theorem bsTimes : BScope (defScope sTimes) cTimes ["one", "other"] [] [] := { okind := by decide +kernel, kind := by decide +kernel, nocell := by decide +kernel, names := by decide +kernel, fr := by decide +kernel, ff := by decide +kernel, nd := by decide +kernel, vis := by decide +kernel, loc := by decide +kernel, gl := by decide +kernel }
def spTimes : Sp := fun vs H Q _ => ∃ (a b : Addr) (xs ys : List Int), vs = [.ref a, .ref b] ∧ H a = some (.tup (xs.map V.int)) ∧ H b = some (.tup (ys.map V.int)) ∧ xs.length = ys.length ∧ xs.length ≤ 1000 ∧ MulOk xs ys ∧ ∀ H', Same H H' → Q (.int (dot xs ys)) H'
section
variable {P : Program} {w : World} {K : PySem.W.Frag} {mg : Str → Option Value} {base : Heap}
set_option maxHeartbeats 2000000 in
theorem ok_times {f : Addr} {fd : FuncData} (B : Blt3 mg) (F : Fun K "times_added" "times_added" sTimes f fd) : FnOk P w K mg base CX0 1 f fd ["ones", "others"] spTimes := by
 refine F.ok scTimes (fun vs H Q E h => ?_) (fun cdv A outer s H vs Q E hr h => ?_)
 ·obtain ⟨a, b, xs, ys, rfl, _⟩ := h
  rfl
 ·obtain ⟨a, b, xs, ys, rfl, ha, hb, hlen, h1000, hm, k⟩ := h
  refine' ⟨_, ?hb, ?rd⟩
  case hb =>
   refine' pss_one ?s1
   case' s1 => refine' ps_ret ?p1
   case' p1 => refine' pe_cB (call_sum rfl) B.sum PyProof.Rows.boot_sum ?q1
   case' q1 => refine' pa_1 ?u1
   case u1 =>
    refine' pe_comp (ix := []) bsTimes.toCScope rfl rfl ?h3 ?h4 ?h5 ?h6
    case h3 => exact pi_zp B.zip (pa_2 (pvd nmTimes 0) (pvd nmTimes 1))
    case h4 =>
     intro _ _ _ _ _ _
     refine' pgb_tup (n := 2) rfl ?z1
     case' z1 => refine' pgs_cons ?z2 ?z3
     case z2 => exact pgb bsTimes 0
     case' z3 => refine' pgs_cons ?z4 pgs_nil
     case z4 => exact pgb bsTimes 1
    case h5 => exact fun _ _ _ _ _ _ => pts_nil
    case h6 => exact fun _ _ _ _ _ _ => pe_op op_mul (pvb bsTimes 0) (pvb bsTimes 1)
  case rd =>
   walk_at "v"
   refine ⟨a, b, rfl, ⟨_, SqT.of ha⟩, ⟨_, SqT.of hb⟩, fun D hD => ?_⟩
   refine cgo_zip (xs := xs.map V.int) (zs := ys.map V.int) (ρ := []) (by simp [hlen]) (fun i zs H' => ∃ ps : List Int, zs = ps.map V.int ∧ ps.length = i ∧ ps.sum + dot (xs.drop i) (ys.drop i) = dot xs ys ∧ Same H H') ⟨[], rfl, rfl, by simp, Same.new (Same.refl H) hD⟩ (fun i zs H' _ ⟨_, _, _, _, k'⟩ => ⟨SqT.of (k' _ _ ha), SqT.of (k' _ _ hb)⟩) ?_ ?_
   ·rintro i x z zs H' p hx hz ⟨ps, rfl, hpl, hps, K'⟩ hDz hp R S kR _
    have hi1 : i < xs.length := by
     have := (List.getElem?_eq_some_iff.mp hx).1
     simpa using this
    have hi2 : i < ys.length := by omega
    have ex : x = .int xs[i] := by
     rw [List.getElem?_map, List.getElem?_eq_getElem hi1] at hx
     exact (Option.some.inj hx).symm
    have ez : z = .int ys[i] := by
     rw [List.getElem?_map, List.getElem?_eq_getElem hi2] at hz
     exact (Option.some.inj hz).symm
    subst ex ez
    walk_at "v"
    refine w_rI (hm i _ _ (by simp [hi1]) (by simp [hi2])) ?_
    have K'' : Same H (upd H' p (.tup [.int xs[i], .int ys[i]])) := K'.new hp
    have hD' : upd H' p (.tup [.int xs[i], .int ys[i]]) D = some (.lst (ps.map V.int)) := by rw [upd_ne (ne_of_none hDz hp)]; exact hDz
    refine kR _ _ hD' (by rw [List.length_map]; exact small1000 (by omega)) ⟨ps ++ [xs[i] * ys[i]], by rw [List.map_append]; rfl, by simp [hpl], ?_, K''.put hD⟩
    rw [← hps, List.drop_eq_getElem_cons hi1, List.drop_eq_getElem_cons hi2, List.sum_append]
    show _ = ps.sum + (xs[i] * ys[i] + dot (xs.drop (i + 1)) (ys.drop (i + 1)))
    simp [Int.add_assoc]
   ·rintro zs H' ⟨ps, rfl, hpl, hps, K'⟩ hDz
    rw [List.length_map, List.drop_length, dot_nil, Int.add_zero] at hps
    walk_at "v"
    refine ⟨D, ps, rfl, hDz, ?_⟩
    rw [hps]
    exact k _ K'
end
def tupComp (s : Stmt) (i : Nat) : Scope := match s with
 | .Return (some (.Tuple es _ _)) _ => match es.getD i (.Name "" ⟨0, 0, 0, 0⟩) with
  | .Call _ [.ListComp _ _ sc _] _ _ => sc
  | _ => { kind := .function, names := [], isGenerator := false, isCoroutine := false }
 | _ => { kind := .function, names := [], isGenerator := false, isCoroutine := false }
section
variable {P : Program} {w : World} {K : PySem.W.Frag} {mg : Str → Option Value} {base : Heap}
abbrev nOften : List Str := ["form", "times"]
theorem nmOften : Nm nOften (defScope sOften) := ⟨by decide +kernel, by decide +kernel⟩
theorem scOften : FnScope nOften ["form", "times"] (defScope sOften) := ⟨rfl, rfl, rfl, by decide +kernel, rfl, by decide +kernel, by decide +kernel⟩
abbrev cOften (i : Nat) : Scope := tupComp ((defBody sOften).getD 0 (.Pass ⟨0, 0, 0, 0⟩)) i
theorem bsOften0 : BScope (defScope sOften) (cOften 0) ["number"] ["times"] [] := { okind := by decide +kernel, kind := by decide +kernel, nocell := by decide +kernel, names := by decide +kernel, fr := by decide +kernel, ff := by decide +kernel, nd := by decide +kernel, vis := by decide +kernel, loc := by decide +kernel, gl := by decide +kernel }
theorem bsOften1 : BScope (defScope sOften) (cOften 1) ["number"] ["times"] [] := { okind := by decide +kernel, kind := by decide +kernel, nocell := by decide +kernel, names := by decide +kernel, fr := by decide +kernel, ff := by decide +kernel, nd := by decide +kernel, vis := by decide +kernel, loc := by decide +kernel, gl := by decide +kernel }
def spOften : Sp := fun vs H Q _ => ∃ (p : Addr) (f : Fm) (t : Int), vs = [.ref p, .int t] ∧ FmAt H p f ∧ f.ins.length ≤ 1000 ∧ f.sts.length ≤ 1000 ∧ (∀ x ∈ f.ins, IntMulOk t x) ∧ (∀ x ∈ f.sts, IntMulOk t x) ∧ IntMulOk t f.plus ∧ ∀ r H', Same H H' → FmAt H' r (oftF t f) → Q (.ref r) H'
set_option maxHeartbeats 4000000 in
theorem ok_Often {f : Addr} {fd : FuncData} (B : Blt3 mg) (F : Fun K "so_often" "so_often" sOften f fd) : FnOk P w K mg base CX0 1 f fd ["form", "times"] spOften := by
 refine F.ok scOften (fun vs H Q E h => ?_) (fun cdv A outer s H vs Q E hr h => ?_)
 ·obtain ⟨p, f, t, rfl, _⟩ := h
  rfl
 ·obtain ⟨p, fm, t, rfl, ⟨a, b, h1, h2, h3⟩, hn1, hn2, m1, m2, m3, k⟩ := h
  refine' ⟨_, ?hb, ?rd⟩
  case hb =>
   refine' pss_one ?s1
   case' s1 => refine' ps_ret ?p1
   case' p1 => refine' pe_tup ?q1
   case' q1 => refine' pa_c ?x1 ?y1
   case' y1 => refine' pa_2 ?x2 ?x3
   case x3 => exact pe_op op_mulB (pvd nmOften 1) (pe_ix ix_d (pvd nmOften 0) (pe_k B.plK) (fun _ _ => rfl))
   case' x1 => refine' pe_cT call_tuple_of B.tuple PyProof.Rows.boot_tuple ?x1a
   case' x1a => refine' pa_1 ?x1b
   case x1b =>
    refine' pe_comp (ix := [1]) bsOften0.toCScope rfl rfl ?h3 ?h4 ?h5 ?h6
    case h3 =>
     refine' pi_tup ?h3a
     case h3a => exact pe_ix ix_d (pvd nmOften 0) (pe_k B.biK) (fun _ _ => rfl)
    case h4 => exact fun _ _ _ _ _ _ => pgb bsOften0 0
    case h5 => exact fun _ _ _ _ _ _ => pts_nil
    case h6 => exact fun _ _ _ _ _ _ => pe_op op_mulB (pvb bsOften0 1) (pvb bsOften0 0)
   case' x2 => refine' pe_cT call_tuple_of B.tuple PyProof.Rows.boot_tuple ?x2a
   case' x2a => refine' pa_1 ?x2b
   case x2b =>
    refine' pe_comp (ix := [1]) bsOften1.toCScope rfl rfl ?i3 ?i4 ?i5 ?i6
    case i3 =>
     refine' pi_tup ?i3a
     case i3a => exact pe_ix ix_d (pvd nmOften 0) (pe_k B.bsK) (fun _ _ => rfl)
    case i4 => exact fun _ _ _ _ _ _ => pgb bsOften1 0
    case i5 => exact fun _ _ _ _ _ _ => pts_nil
    case i6 => exact fun _ _ _ _ _ _ => pe_op op_mulB (pvb bsOften1 1) (pvb bsOften1 0)
  case rd =>
   walk_at "v"
   refine w_ixT h1 rfl ?_
   refine ⟨a, rfl, ⟨_, SqT.of h2⟩, fun D hD => ?_⟩
   refine tup_map (ρ := [some (.int t)]) (fun x => t * x) h2 hn1 (fun i x H' hx _ R kR => ?_) (fun H1 K1 hD1 => ?_) hD
   ·walk_at "v"
    refine w_rI (m1 x (List.mem_of_getElem? hx)) ?_
    exact kR _ (Same.refl _)
   walk_at "v"
   refine ⟨D, _, rfl, .inl ⟨SqL.of hD1, fun t1 ht1 => ?_⟩⟩
   have K2 := K1.new (o := .tup ((fm.ins.map fun x => t * x).map V.int)) ht1
   have e2 : upd H1 t1 (.tup ((fm.ins.map fun x => t * x).map V.int)) t1 = some (.tup ((fm.ins.map fun x => t * x).map V.int)) := upd_same
   generalize upd H1 t1 (.tup ((fm.ins.map fun x => t * x).map V.int)) = H2 at K2 e2 ⊢
   walk_at "v"
   refine w_ixT (K2 _ _ h1) rfl ?_
   refine ⟨b, rfl, ⟨_, SqT.of (K2 _ _ h3)⟩, fun D2 hD2 => ?_⟩
   refine tup_map (ρ := [some (.int t)]) (fun x => t * x) (K2 _ _ h3) hn2 (fun i x H' hx _ R kR => ?_) (fun H3 K3 hD3 => ?_) hD2
   ·walk_at "v"
    refine w_rI (m2 x (List.mem_of_getElem? hx)) ?_
    exact kR _ (Same.refl _)
   walk_at "v"
   refine ⟨D2, _, rfl, .inl ⟨SqL.of hD3, fun t2 ht2 => ?_⟩⟩
   have K4 := K3.new (o := .tup ((fm.sts.map fun x => t * x).map V.int)) ht2
   have e4 : upd H3 t2 (.tup ((fm.sts.map fun x => t * x).map V.int)) t2 = some (.tup ((fm.sts.map fun x => t * x).map V.int)) := upd_same
   generalize upd H3 t2 (.tup ((fm.sts.map fun x => t * x).map V.int)) = H4 at K4 e4 ⊢
   have KA := K2.trans K4
   walk_at "v"
   refine w_ixT (KA _ _ h1) rfl ?_
   refine w_rI m3 ?_
   walk_at "v"
   refine ⟨by show 3 ≤ sizeLine; decide, fun r hr => ?_⟩
   refine k r _ (KA.new hr) ⟨t1, t2, upd_same, ?_, ?_⟩
   ·rw [upd_ne (ne_of_none (K4 _ _ e2) hr)]
    exact K4 _ _ e2
   ·rw [upd_ne (ne_of_none e4 hr)]
    exact e4
end
def oneH (n : Nat) (i : Int) : List Int := (List.range n).map fun (j : Nat) => if (j : Int) = i then (1 : Int) else 0
def amtF (n m : Nat) (i : Int) : Fm := ⟨oneH n i, List.replicate m 0, 0⟩
def drpF (n m : Nat) (i : Int) : Fm := ⟨List.replicate n 0, oneH m i, 0⟩
def kn (c : List Int) (i : Int) : Int := c.getD i.toNat 0
def kepF (ins beg c : List Int) : Fm := ⟨ins.map fun i => -(kn c i), c, -(dot c beg)⟩
def negF (ins beg c : List Int) : Fm := ⟨ins.map fun i => kn c i, c.map fun x => -x, dot c beg⟩
def base0 (n m : Nat) : List Fm := ((List.range n).map fun (i : Nat) => amtF n m (i : Int)) ++ (List.range m).map fun (i : Nat) => drpF n m (i : Int)
def facts (ins beg : List Int) (m : Nat) (cs : List (List Int)) : List Fm := base0 ins.length m ++ cs.flatMap fun c => [kepF ins beg c, negF ins beg c]
theorem oft_kep (ins beg c : List Int) : oftF (-1) (kepF ins beg c) = negF ins beg c := by
 unfold oftF kepF negF
 congr 1
 ·rw [List.map_map]
  refine List.map_congr_left fun i _ => ?_
  show -1 * -(kn c i) = kn c i
  omega
 ·refine List.map_congr_left fun i _ => ?_
  show -1 * i = -i
  omega
 ·show -1 * -(dot c beg) = dot c beg
  omega
def KOk (m : Nat) (c : List Int) : Prop := c.length = m ∧ True
def Kps (H : Hp) (m : Nat) : List Addr → List (List Int) → Prop
 | [], [] => True
 | q :: qs, c :: cs => (H q = some (.tup (c.map V.int)) ∧ KOk m c) ∧ Kps H m qs cs
 | _, _ => False
theorem Kps.tk {H H' : Hp} {m : Nat} (k : TK H H') : ∀ {qs : List Addr} {cs : List (List Int)}, Kps H m qs cs → Kps H' m qs cs
 | [], [], _ => trivial
 | q :: qs, f :: fs, h => ⟨⟨k.t _ _ h.1.1, h.1.2⟩, Kps.tk k h.2⟩
 | [], _ :: _, h => h.elim
 | _ :: _, [], h => h.elim
theorem Kps.len {H : Hp} {m : Nat} : ∀ {qs : List Addr} {cs : List (List Int)}, Kps H m qs cs → qs.length = cs.length
 | [], [], _ => rfl
 | q :: qs, f :: fs, h => by rw [List.length_cons, List.length_cons, Kps.len h.2]
 | [], _ :: _, h => h.elim
 | _ :: _, [], h => h.elim
theorem Kps.app {H : Hp} {m : Nat} {ps : List Addr} {gs : List (List Int)} (h' : Kps H m ps gs) : ∀ {qs : List Addr} {cs : List (List Int)}, Kps H m qs cs → Kps H m (qs ++ ps) (cs ++ gs)
 | [], [], _ => h'
 | q :: qs, f :: fs, h => ⟨h.1, Kps.app h' h.2⟩
 | [], _ :: _, h => h.elim
 | _ :: _, [], h => h.elim
theorem Kps.at {H : Hp} {m : Nat} : ∀ {qs : List Addr} {cs : List (List Int)}, Kps H m qs cs → ∀ (i : Nat) (q : Addr), qs[i]? = some q → ∃ c, cs[i]? = some c ∧ H q = some (.tup (c.map V.int)) ∧ KOk m c
 | [], [], _, i, q, e => by simp at e
 | q :: qs, f :: fs, h, 0, q', e => by
  simp at e
  subst e
  exact ⟨f, rfl, h.1⟩
 | q :: qs, f :: fs, h, i + 1, q', e => by
  obtain ⟨c, h1, h2⟩ := Kps.at h.2 i q' (by simpa using e)
  exact ⟨c, by simpa using h1, h2⟩
 | [], _ :: _, h, _, _, _ => h.elim
 | _ :: _, [], h, _, _, _ => h.elim
theorem Kps.ok {H : Hp} {m : Nat} : ∀ {qs : List Addr} {cs : List (List Int)}, Kps H m qs cs → ∀ c ∈ cs, KOk m c
 | [], [], _, c, e => by cases e
 | q :: qs, f :: fs, h, c, e => by
  rcases List.mem_cons.mp e with rfl | e
  ·exact h.1.2
  ·exact Kps.ok h.2 c e
 | [], _ :: _, h, _, _ => h.elim
 | _ :: _, [], h, _, _ => h.elim
structure Pt (H : Hp) (q : Addr) (ins beg : List Int) (m : Nat) : Prop where
 ex : ∃ (ps pr pin pb : Addr) (a : V) (xs : List V), H q = some (.tup [.ref ps, .ref pr, .ref pin, .ref pb, a]) ∧ H ps = some (.tup xs) ∧ xs.length = m ∧ H pin = some (.tup (ins.map V.int)) ∧ H pb = some (.tup (beg.map V.int))
 m8 : m ≤ 8
 i3 : ins.length ≤ 3
 hi : ∀ i ∈ ins, 0 ≤ i ∧ i < (m : Int)
 bl : beg.length = m
 hb : ∀ b ∈ beg, 0 ≤ b ∧ b ≤ 99
theorem Pt.tk {H H' : Hp} {q : Addr} {ins beg : List Int} {m : Nat} (k : TK H H') (h : Pt H q ins beg m) : Pt H' q ins beg m :=
 let ⟨ps, pr, pin, pb, a, xs, h1, h2, h3, h4, h5⟩ := h.ex
 ⟨⟨ps, pr, pin, pb, a, xs, k.t _ _ h1, k.t _ _ h2, h3, k.t _ _ h4, k.t _ _ h5⟩, h.m8, h.i3, h.hi, h.bl, h.hb⟩
theorem Pt.same {H H' : Hp} {q : Addr} {ins beg : List Int} {m : Nat} (k : Same H H') (h : Pt H q ins beg m) : Pt H' q ins beg m := h.tk (TK.same k)
theorem PotT.pt {H : Hp} {q : Addr} {nm : List Str} {rs : List Addr} {ins beg : List Int} {ans : Int} {m : Nat} (h : PotT H q nm rs ins beg ans m) : Pt H q ins beg m :=
 let ⟨ps, pr, pin, pb, h1, h2, h3, h4, h5⟩ := h.ex
 ⟨⟨ps, pr, pin, pb, _, _, h1, h2, by rw [List.length_map]; exact h.nl, h4, h5⟩, h.m8, h.i3, h.hi, h.bl, h.hb⟩
theorem oneH_len (n : Nat) (i : Int) : (oneH n i).length = n := by
 unfold oneH
 rw [List.length_map, List.length_range]
theorem flat2 {α β : Type} (g : α → List β) (h : ∀ x, (g x).length = 2) : ∀ cs : List α, (cs.flatMap g).length = 2 * cs.length
 | [] => rfl
 | c :: cs => by rw [List.flatMap_cons, List.length_append, h, flat2 g h cs, List.length_cons]; omega
theorem facts_len {m : Nat} {ins beg : List Int} {cs : List (List Int)} : (facts ins beg m cs).length = ins.length + m + 2 * cs.length := by
 unfold facts base0
 rw [List.length_append, List.length_append, List.length_map, List.length_map, List.length_range, List.length_range, flat2 _ (fun _ => rfl)]
theorem rep0 : ∀ xs : List V, (xs.map fun _ => (0 : Int)) = List.replicate xs.length 0
 | [] => rfl
 | x :: xs => by rw [List.map_cons, rep0 xs, List.length_cons, List.replicate_succ]
def spNgt : Sp := fun vs H Q _ => ∃ (p : Addr) (xs : List V), vs = [.ref p] ∧ H p = some (.tup xs) ∧ xs.length ≤ 1000 ∧ ∀ q H', Same H H' → H' q = some (.tup ((List.replicate xs.length (0 : Int)).map V.int)) → Q (.ref q) H'
def spOne : Sp := fun vs H Q _ => ∃ (p : Addr) (xs : List V) (i : Int), vs = [.ref p, .int i] ∧ H p = some (.tup xs) ∧ xs.length ≤ 1000 ∧ ∀ q H', Same H H' → H' q = some (.tup ((oneH xs.length i).map V.int)) → Q (.ref q) H'
def spFm (g : Nat → Nat → Int → Fm) : Sp := fun vs H Q _ => ∃ (p : Addr) (ins beg : List Int) (m : Nat) (i : Int), vs = [.ref p, .int i] ∧ Pt H p ins beg m ∧ ∀ r H', Same H H' → FmAt H' r (g ins.length m i) → Q (.ref r) H'
def spKep : Sp := fun vs H Q _ => ∃ (p kq : Addr) (ins beg c : List Int) (m : Nat), vs = [.ref p, .ref kq] ∧ Pt H p ins beg m ∧ H kq = some (.tup (c.map V.int)) ∧ KOk m c ∧ ∀ r H', Same H H' → FmAt H' r (kepF ins beg c) → Q (.ref r) H'
def spFof : Sp := fun vs H Q _ => ∃ (p kp : Addr) (ins beg : List Int) (m : Nat) (ks : List Addr) (cs : List (List Int)), vs = [.ref p, .ref kp] ∧ Pt H p ins beg m ∧ H kp = some (.tup (ks.map V.ref)) ∧ Kps H m ks cs ∧ cs.length ≤ 8 ∧
 ∀ fl qs H', Same H H' → H fl = none → H' fl = some (.lst (qs.map V.ref)) → Fms H' qs (facts ins beg m cs) → Q (.ref fl) H'
abbrev nNgt : List Str := ["things"]
theorem nmNgt : Nm nNgt (defScope sNgt) := ⟨by decide +kernel, by decide +kernel⟩
theorem scNgt : FnScope nNgt ["things"] (defScope sNgt) := ⟨rfl, rfl, rfl, by decide +kernel, rfl, by decide +kernel, by decide +kernel⟩
abbrev nOne : List Str := ["things", "place"]
theorem nmOne : Nm nOne (defScope sOne) := ⟨by decide +kernel, by decide +kernel⟩
theorem scOne : FnScope nOne ["things", "place"] (defScope sOne) := ⟨rfl, rfl, rfl, by decide +kernel, rfl, by decide +kernel, by decide +kernel⟩
abbrev nAmt : List Str := ["pot", "place"]
theorem nmAmt : Nm nAmt (defScope sAmt) := ⟨by decide +kernel, by decide +kernel⟩
theorem scAmt : FnScope nAmt ["pot", "place"] (defScope sAmt) := ⟨rfl, rfl, rfl, by decide +kernel, rfl, by decide +kernel, by decide +kernel⟩
abbrev nDrp : List Str := ["pot", "sort"]
theorem nmDrp : Nm nDrp (defScope sDrp) := ⟨by decide +kernel, by decide +kernel⟩
theorem scDrp : FnScope nDrp ["pot", "sort"] (defScope sDrp) := ⟨rfl, rfl, rfl, by decide +kernel, rfl, by decide +kernel, by decide +kernel⟩
abbrev cNgt : Scope := retCallComp ((defBody sNgt).getD 0 (.Pass ⟨0, 0, 0, 0⟩))
abbrev cOne : Scope := retCallComp ((defBody sOne).getD 0 (.Pass ⟨0, 0, 0, 0⟩))
theorem bsNgt : BScope (defScope sNgt) cNgt ["thing"] [] [] := { okind := by decide +kernel, kind := by decide +kernel, nocell := by decide +kernel, names := by decide +kernel, fr := by decide +kernel, ff := by decide +kernel, nd := by decide +kernel, vis := by decide +kernel, loc := by decide +kernel, gl := by decide +kernel }
theorem bsOne : BScope (defScope sOne) cOne ["number"] ["place"] [] := { okind := by decide +kernel, kind := by decide +kernel, nocell := by decide +kernel, names := by decide +kernel, fr := by decide +kernel, ff := by decide +kernel, nd := by decide +kernel, vis := by decide +kernel, loc := by decide +kernel, gl := by decide +kernel }
section
variable {P : Program} {w : World} {K : PySem.W.Frag} {mg : Str → Option Value} {base : Heap}
set_option maxHeartbeats 4000000 in
theorem ok_Ngt {f : Addr} {fd : FuncData} (B : Blt3 mg) (F : Fun K "noughts" "noughts" sNgt f fd) : FnOk P w K mg base CX0 1 f fd ["things"] spNgt := by
 refine F.ok scNgt (fun vs H Q E h => ?_) (fun cdv A outer s H vs Q E hr h => ?_)
 ·obtain ⟨p, xs, rfl, _⟩ := h
  rfl
 ·obtain ⟨p, xs, rfl, hp, hn, k⟩ := h
  refine' ⟨_, ?hb, ?rd⟩
  case hb =>
   refine' pss_one ?s1
   case' s1 => refine' ps_ret ?p1
   case' p1 => refine' pe_cT call_tuple_of B.tuple PyProof.Rows.boot_tuple ?q1
   case' q1 => refine' pa_1 ?u1
   case u1 =>
    refine' pe_comp (ix := []) bsNgt.toCScope rfl rfl (pi_tup (pvd nmNgt 0)) ?h4 ?h5 ?h6
    case h4 => exact fun _ _ _ _ _ _ => pgb bsNgt 0
    case h5 => exact fun _ _ _ _ _ _ => pts_nil
    case h6 => exact fun _ _ _ _ _ _ => pe_int
  case rd =>
   walk_at "v"
   refine ⟨p, rfl, ⟨_, SqT.of hp⟩, fun D hD => ?_⟩
   refine tup_mapA (ρ := []) (fun _ => 0) hp hn (fun i x H' hx K' R kR => ?_) (fun H1 K1 e1 => ?_) hD
   ·walk_at "v"
    exact kR _ (Same.refl _)
   rw [rep0] at e1
   walk_at "v"
   refine ⟨D, _, rfl, .inl ⟨SqL.of e1, fun q hq => ?_⟩⟩
   exact k q _ (K1.new hq) upd_same
set_option maxHeartbeats 4000000 in
theorem ok_One {f : Addr} {fd : FuncData} (B : Blt3 mg) (F : Fun K "one_at" "one_at" sOne f fd) : FnOk P w K mg base CX0 1 f fd ["things", "place"] spOne := by
 refine F.ok scOne (fun vs H Q E h => ?_) (fun cdv A outer s H vs Q E hr h => ?_)
 ·obtain ⟨p, xs, i, rfl, _⟩ := h
  rfl
 ·obtain ⟨p, xs, i, rfl, hp, hn, k⟩ := h
  refine' ⟨_, ?hb, ?rd⟩
  case hb =>
   refine' pss_one ?s1
   case' s1 => refine' ps_ret ?p1
   case' p1 => refine' pe_cT call_tuple_of B.tuple PyProof.Rows.boot_tuple ?q1
   case' q1 => refine' pa_1 ?u1
   case u1 =>
    refine' pe_comp (ix := [1]) bsOne.toCScope rfl rfl ?h3 ?h4 ?h5 ?h6
    case h3 => exact pi_r1 B.range (pa_1 (pe_cB call_lnT B.len PySem.boot_len (pa_1 (pvd nmOne 0))))
    case h4 => exact fun _ _ _ _ _ _ => pgb bsOne 0
    case h5 => exact fun _ _ _ _ _ _ => pts_nil
    case h6 => exact fun _ _ _ _ _ _ => pe_ifExp (pt_cmpR op_eq (pvb bsOne 0) (pvb bsOne 1) (nomark _)) pe_int pe_int
  case rd =>
   walk_at "v"
   refine ⟨p, _, rfl, hp, ?_⟩
   refine ⟨_, rfl, by omega, by omega, fun D hD => ?_⟩
   rw [Int.toNat_natCast]
   refine rng_map (ρ := [some (.int i)]) (fun j => if (j : Int) = i then (1 : Int) else 0) hn (fun j H' hj K' R kR => ?_) (fun H1 K1 e1 => ?_) hD
   ·have kR' := kR _ (Same.refl _)
    walk_at "v"
    refine ⟨rfl, ?_⟩
    walk_at "v"
    refine iteD (fun h => ?_) (fun h => ?_)
    ·rw [if_pos (V.int.inj h)] at kR'
     walk_at "v"
     exact kR'
    ·rw [if_neg fun z => h (congrArg V.int z)] at kR'
     walk_at "v"
     exact kR'
   walk_at "v"
   refine ⟨D, _, rfl, .inl ⟨SqL.of e1, fun q hq => ?_⟩⟩
   exact k q _ (K1.new hq) upd_same
set_option maxHeartbeats 4000000 in
theorem ok_Amt {f : Addr} {fd : FuncData} (B : Blt3 mg) (fO : Has P w K mg base 1 "one_at" ["things", "place"] spOne) (fN : Has P w K mg base 1 "noughts" ["things"] spNgt) (F : Fun K "form_of_amount" "form_of_amount" sAmt f fd) : FnOk P w K mg base CX0 2 f fd ["pot", "place"] (spFm amtF) := by
 refine F.ok scAmt (fun vs H Q E h => ?_) (fun cdv A outer s H vs Q E hr h => ?_)
 ·obtain ⟨p, ins, beg, m, i, rfl, _⟩ := h
  rfl
 ·obtain ⟨p, ins, beg, m, i, rfl, hp, k⟩ := h
  refine' ⟨_, ?hb, ?rd⟩
  case hb =>
   refine' pss_one ?s1
   case' s1 => refine' ps_ret ?p1
   case' p1 => refine' pe_tup ?q1
   case' q1 => refine' pa_c ?x1 ?y1
   case x1 => exact pe_f fO hr (by decide) (pa_2 (pe_ix ix_d (pvd nmAmt 0) (pe_k B.inK) (fun _ _ => rfl)) (pvd nmAmt 1))
   case' y1 => refine' pa_2 ?x2 pe_int
   case x2 => exact pe_f fN hr (by decide) (pa_1 (pe_ix ix_d (pvd nmAmt 0) (pe_k B.soK) (fun _ _ => rfl)))
  case rd =>
   obtain ⟨ps, pr, pin, pb, a, xs, h1, h2, h3, h4, h5⟩ := hp.ex
   have m8 := hp.m8
   have i3 := hp.i3
   walk_at "v"
   refine w_ixT h1 rfl ?_
   walk_at "v"
   refine ⟨pin, _, i, rfl, h4, by rw [List.length_map]; omega, fun q1 H1 K1 e1 => ?_⟩
   rw [List.length_map] at e1
   walk_at "v"
   refine w_ixT (K1 _ _ h1) rfl ?_
   walk_at "v"
   refine ⟨ps, _, rfl, K1 _ _ h2, by omega, fun q2 H2 K2 e2 => ?_⟩
   rw [h3] at e2
   walk_at "v"
   refine ⟨by show 3 ≤ sizeLine; decide, fun r hr => ?_⟩
   refine k r _ ((K1.trans K2).new hr) ⟨q1, q2, upd_same, ?_, ?_⟩
   ·rw [upd_ne (ne_of_none (K2 _ _ e1) hr)]
    exact K2 _ _ e1
   ·rw [upd_ne (ne_of_none e2 hr)]
    exact e2
set_option maxHeartbeats 4000000 in
theorem ok_Drp {f : Addr} {fd : FuncData} (B : Blt3 mg) (fO : Has P w K mg base 1 "one_at" ["things", "place"] spOne) (fN : Has P w K mg base 1 "noughts" ["things"] spNgt) (F : Fun K "form_of_drops" "form_of_drops" sDrp f fd) : FnOk P w K mg base CX0 2 f fd ["pot", "sort"] (spFm drpF) := by
 refine F.ok scDrp (fun vs H Q E h => ?_) (fun cdv A outer s H vs Q E hr h => ?_)
 ·obtain ⟨p, ins, beg, m, i, rfl, _⟩ := h
  rfl
 ·obtain ⟨p, ins, beg, m, i, rfl, hp, k⟩ := h
  refine' ⟨_, ?hb, ?rd⟩
  case hb =>
   refine' pss_one ?s1
   case' s1 => refine' ps_ret ?p1
   case' p1 => refine' pe_tup ?q1
   case' q1 => refine' pa_c ?x1 ?y1
   case x1 => exact pe_f fN hr (by decide) (pa_1 (pe_ix ix_d (pvd nmDrp 0) (pe_k B.inK) (fun _ _ => rfl)))
   case' y1 => refine' pa_2 ?x2 pe_int
   case x2 => exact pe_f fO hr (by decide) (pa_2 (pe_ix ix_d (pvd nmDrp 0) (pe_k B.soK) (fun _ _ => rfl)) (pvd nmDrp 1))
  case rd =>
   obtain ⟨ps, pr, pin, pb, a, xs, h1, h2, h3, h4, h5⟩ := hp.ex
   have m8 := hp.m8
   have i3 := hp.i3
   walk_at "v"
   refine w_ixT h1 rfl ?_
   walk_at "v"
   refine ⟨pin, _, rfl, h4, by rw [List.length_map]; omega, fun q1 H1 K1 e1 => ?_⟩
   rw [List.length_map] at e1
   walk_at "v"
   refine w_ixT (K1 _ _ h1) rfl ?_
   walk_at "v"
   refine ⟨ps, _, i, rfl, K1 _ _ h2, by omega, fun q2 H2 K2 e2 => ?_⟩
   rw [h3] at e2
   walk_at "v"
   refine ⟨by show 3 ≤ sizeLine; decide, fun r hr => ?_⟩
   refine k r _ ((K1.trans K2).new hr) ⟨q1, q2, upd_same, ?_, ?_⟩
   ·rw [upd_ne (ne_of_none (K2 _ _ e1) hr)]
    exact K2 _ _ e1
   ·rw [upd_ne (ne_of_none e2 hr)]
    exact e2
end
abbrev sKep : Stmt := top 21
abbrev sFof : Stmt := top 20
abbrev nKep : List Str := ["pot", "kept", "by_inputs"]
theorem nmKep : Nm nKep (defScope sKep) := ⟨by decide +kernel, by decide +kernel⟩
theorem scKep : FnScope nKep ["pot", "kept"] (defScope sKep) := ⟨rfl, rfl, rfl, by decide +kernel, rfl, by decide +kernel, by decide +kernel⟩
abbrev nFof : List Str := ["pot", "kepts", "facts", "kept", "form"]
theorem nmFof : Nm nFof (defScope sFof) := ⟨by decide +kernel, by decide +kernel⟩
theorem scFof : FnScope nFof ["pot", "kepts"] (defScope sFof) := ⟨rfl, rfl, rfl, by decide +kernel, rfl, by decide +kernel, by decide +kernel⟩
def asgComp (s : Stmt) : Scope := match s with
 | .Assign _ (.ListComp _ _ sc _) _ => sc
 | _ => { kind := .function, names := [], isGenerator := false, isCoroutine := false }
def exprComp (s : Stmt) : Scope := match s with
 | .Expr (.Call _ [.ListComp _ _ sc _] _ _) _ => sc
 | _ => { kind := .function, names := [], isGenerator := false, isCoroutine := false }
abbrev cKep : Scope := asgTupC ((defBody sKep).getD 0 (.Pass ⟨0, 0, 0, 0⟩))
abbrev cFa : Scope := asgComp ((defBody sFof).getD 0 (.Pass ⟨0, 0, 0, 0⟩))
abbrev cFb : Scope := exprComp ((defBody sFof).getD 1 (.Pass ⟨0, 0, 0, 0⟩))
theorem locFof : (defScope sFof).names.lookup ("facts" : Str) = some .local := by decide +kernel
theorem bsKep : BScope (defScope sKep) cKep ["sort"] ["kept"] [] := { okind := by decide +kernel, kind := by decide +kernel, nocell := by decide +kernel, names := by decide +kernel, fr := by decide +kernel, ff := by decide +kernel, nd := by decide +kernel, vis := by decide +kernel, loc := by decide +kernel, gl := by decide +kernel }
theorem bsFa : BScope (defScope sFof) cFa ["place"] ["pot"] ["form_of_amount"] := { okind := by decide +kernel, kind := by decide +kernel, nocell := by decide +kernel, names := by decide +kernel, fr := by decide +kernel, ff := by decide +kernel, nd := by decide +kernel, vis := by decide +kernel, loc := by decide +kernel, gl := by decide +kernel }
theorem bsFb : BScope (defScope sFof) cFb ["sort"] ["pot"] ["form_of_drops"] := { okind := by decide +kernel, kind := by decide +kernel, nocell := by decide +kernel, names := by decide +kernel, fr := by decide +kernel, ff := by decide +kernel, nd := by decide +kernel, vis := by decide +kernel, loc := by decide +kernel, gl := by decide +kernel }
theorem kn_at {m j : Nat} {c : List Int} (h : KOk m c) (hj : j < m) : atI (c.map V.int) (j : Int) = some (.int (kn c (j : Int))) := by
 have hj' : j < c.length := by rw [h.1]; exact hj
 exact atI_nat (by simp [kn, List.getD_eq_getElem?_getD, hj'])
theorem mul_kb {c beg : List Int} (hb : ∀ b ∈ beg, 0 ≤ b ∧ b ≤ 99) : MulOk c beg := fun i x y hx hy => by
 have := hb y (List.mem_of_getElem? hy)
 exact mulR (by omega) (by omega)
theorem mulNeg (x : Int) : IntMulOk (-1) x := .of_left (by decide)
theorem fm_bg (f : Fm) : (∀ x ∈ f.ins, IntMulOk (-1) x) ∧ (∀ x ∈ f.sts, IntMulOk (-1) x) ∧ IntMulOk (-1) f.plus := ⟨fun x _ => mulNeg x, fun x _ => mulNeg x, mulNeg _⟩
section
variable {P : Program} {w : World} {K : PySem.W.Frag} {mg : Str → Option Value} {base : Heap}
set_option maxHeartbeats 4000000 in
theorem ok_Kep {f : Addr} {fd : FuncData} (B : Blt3 mg) (fT : Has P w K mg base 1 "times_added" ["ones", "others"] spTimes) (F : Fun K "form_of_kept" "form_of_kept" sKep f fd) : FnOk P w K mg base CX0 2 f fd ["pot", "kept"] spKep := by
 refine F.ok scKep (fun vs H Q E h => ?_) (fun cdv A outer s H vs Q E hr h => ?_)
 ·obtain ⟨p, kq, ins, beg, c, m, rfl, _⟩ := h
  rfl
 ·obtain ⟨p, kq, ins, beg, c, m, rfl, hp, hk, hc, k⟩ := h
  refine' ⟨_, ?hb, ?rd⟩
  case hb =>
   refine' pss_cons ?s1 ?r1
   case' r1 => refine' pss_one ?s2
   case s1 =>
    refine' ps_setD nmKep 2 ?p1
    case' p1 => refine' pe_cT call_tuple_of B.tuple PyProof.Rows.boot_tuple ?q1
    case' q1 => refine' pa_1 ?u1
    case u1 =>
     refine' pe_comp (ix := [1]) bsKep.toCScope rfl rfl (pi_tup (pe_ix ix_d (pvd nmKep 0) (pe_k B.inK) (fun _ _ => rfl))) ?h4 ?h5 ?h6
     case h4 => exact fun _ _ _ _ _ _ => pgb bsKep 0
     case h5 => exact fun _ _ _ _ _ _ => pts_nil
     case h6 => exact fun _ _ _ _ _ _ => pe_un un_neg (pe_ix ix_d (pvb bsKep 1) (pvb bsKep 0) (fun _ _ => rfl))
   case s2 =>
    refine' ps_ret ?p2
    case' p2 => refine' pe_tup ?q2
    case' q2 => refine' pa_c (pvd nmKep 2) ?y2
    case' y2 => refine' pa_2 (pe_cT call_tuple_of B.tuple PyProof.Rows.boot_tuple (pa_1 (pvd nmKep 1))) ?z2
    case' z2 => refine' pe_un un_neg ?w2
    case w2 => exact pe_f fT hr (by decide) (pa_2 (pvd nmKep 1) (pe_ix ix_d (pvd nmKep 0) (pe_k B.beK) (fun _ _ => rfl)))
  case rd =>
   obtain ⟨ps, pr, pin, pb, a, xs, h1, h2, h3, h4, h5⟩ := hp.ex
   have m8 := hp.m8
   have i3 := hp.i3
   walk_at "v"
   refine w_ixT h1 rfl ?_
   refine ⟨pin, rfl, ⟨_, SqT.of h4⟩, fun D hD => ?_⟩
   refine tup_map (ρ := [some (.ref kq)]) (fun i => -(kn c i)) h4 (by omega) (fun i x H' hx K' R kR => ?_) (fun H1 K1 e1 => ?_) hD
   ·have hx0 := hp.hi x (List.mem_of_getElem? hx)
    obtain ⟨j, rfl⟩ := ofI hx0.1
    walk_at "v"
    refine w_ixT (K' _ _ hk) (kn_at hc (by omega)) ?_
    refine ⟨_, rfl, ?_⟩
    exact kR _ (Same.refl _)
   walk_at "v"
   refine ⟨D, _, rfl, .inl ⟨SqL.of e1, fun t1 ht1 => ?_⟩⟩
   have K2 := K1.new (o := .tup ((ins.map fun i => -(kn c i)).map V.int)) ht1
   have e2 : upd H1 t1 (.tup ((ins.map fun i => -(kn c i)).map V.int)) t1 = some (.tup ((ins.map fun i => -(kn c i)).map V.int)) := upd_same
   generalize upd H1 t1 (.tup ((ins.map fun i => -(kn c i)).map V.int)) = H2 at K2 e2 ⊢
   walk_at "v"
   refine ⟨kq, _, rfl, .inr ⟨SqT.of (K2 _ _ hk), ?_⟩⟩
   walk_at "v"
   refine w_ixT (K2 _ _ h1) rfl ?_
   walk_at "v"
   refine ⟨kq, pb, c, beg, rfl, K2 _ _ hk, K2 _ _ h5, by rw [hc.1, hp.bl], by rw [hc.1]; omega, mul_kb hp.hb, fun H3 K3 => ?_⟩
   walk_at "v"
   refine ⟨_, rfl, ?_⟩
   walk_at "v"
   refine ⟨by show 3 ≤ sizeLine; decide, fun r hr => ?_⟩
   have K4 : Same H3 (upd H3 r (.tup [.ref t1, .ref kq, .int (-(dot c beg))])) := Same.new (Same.refl H3) hr
   exact k r _ ((K2.trans K3).new hr) ⟨t1, kq, upd_same, K4 _ _ (K3 _ _ e2), K4 _ _ (K3 _ _ (K2 _ _ hk))⟩
set_option maxHeartbeats 4000000 in
theorem ok_Fof {f : Addr} {fd : FuncData} (B : Blt3 mg) (fA : Has P w K mg base 2 "form_of_amount" ["pot", "place"] (spFm amtF)) (fD : Has P w K mg base 2 "form_of_drops" ["pot", "sort"] (spFm drpF)) (fK : Has P w K mg base 2 "form_of_kept" ["pot", "kept"] spKep) (fO : Has P w K mg base 1 "so_often" ["form", "times"] spOften) (F : Fun K "facts_of" "facts_of" sFof f fd) : FnOk P w K mg base CX0 3 f fd ["pot", "kepts"] spFof := by
 refine F.ok scFof (fun vs H Q E h => ?_) (fun cdv A outer s H vs Q E hr h => ?_)
 ·obtain ⟨p, kp, ins, beg, m, ks, cs, rfl, _⟩ := h
  rfl
 ·obtain ⟨p, kp, ins, beg, m, ks, cs, rfl, hp, hkp, hks, c8, k⟩ := h
  refine' ⟨_, ?hb, ?rd⟩
  case hb =>
   refine' pss_cons ?s1 ?r1
   case' r1 => refine' pss_cons ?s2 ?r2
   case' r2 => refine' pss_cons ?s3 ?r3
   case' r3 => refine' pss_one ?s4
   case s1 =>
    refine' ps_setC (i := 2) (ix := [0]) nmFof.nd rfl locFof bsFa.toCScope rfl rfl ?h3 ?h4 ?h5 ?h6
    case h3 => exact pi_r1 B.range (pa_1 (pe_cB call_lnT B.len PySem.boot_len (pa_1 (pe_ix ix_d (pvd nmFof 0) (pe_k B.inK) (fun _ _ => rfl)))))
    case h4 => exact fun _ _ _ _ _ _ => pgb bsFa 0
    case h5 => exact fun _ _ _ _ _ _ => pts_nil
    case h6 => exact fun _ _ _ _ _ _ => pe_f fA hr (by decide) (pa_2 (pvb bsFa 1) (pvb bsFa 0)) (bsFa.g 0)
   case s2 =>
    refine' ps_expr ?e1
    case' e1 => refine' pe_bm PySem.F.plainAttrs_list PySem.F.slot_list_extend PySem.F.type_list_extend mt_extend (pvd nmFof 2) ?e2
    case' e2 => refine' pa_1 ?e3
    case e3 =>
     refine' pe_comp (ix := [0]) bsFb.toCScope rfl rfl ?i3 ?i4 ?i5 ?i6
     case i3 => exact pi_r1 B.range (pa_1 (pe_cB call_lnT B.len PySem.boot_len (pa_1 (pe_ix ix_d (pvd nmFof 0) (pe_k B.soK) (fun _ _ => rfl)))))
     case i4 => exact fun _ _ _ _ _ _ => pgb bsFb 0
     case i5 => exact fun _ _ _ _ _ _ => pts_nil
     case i6 => exact fun _ _ _ _ _ _ => pe_f fD hr (by decide) (pa_2 (pvb bsFb 1) (pvb bsFb 0)) (bsFb.g 0)
   case s3 =>
    refine' ps_for PassesOwn.never rfl (pi_tup (pvd nmFof 1)) (pgd nmFof 3) ?b1
    case b1 =>
     refine' pss_cons ?t1 ?v1
     case' v1 => refine' pss_one ?t2
     case t1 => exact ps_setD nmFof 4 (pe_f fK hr (by decide) (pa_2 (pvd nmFof 0) (pvd nmFof 3)))
     case t2 =>
      refine' ps_expr ?f1
      case' f1 => refine' pe_bm PySem.F.plainAttrs_list PySem.F.slot_list_extend PySem.F.type_list_extend mt_extend (pvd nmFof 2) ?f2
      case' f2 => refine' pa_1 ?f3
      case' f3 => refine' pe_lst ?f4
      case' f4 => refine' pa_2 (pvd nmFof 4) ?f5
      case f5 => exact pe_f fO hr (by decide) (pa_2 (pvd nmFof 4) (pe_un un_neg pe_int))
   case s4 => exact ps_ret (pvd nmFof 2)
  case rd =>
   obtain ⟨ps, pr, pin, pb, a, xs, h1, h2, h3, h4, h5⟩ := id hp.ex
   have m8 := hp.m8
   have i3 := hp.i3
   have hksl := hks.len
   walk_at "v"
   refine w_ixT h1 rfl ?_
   refine ⟨pin, _, rfl, h4, ?_⟩
   rw [List.length_map]
   refine ⟨_, rfl, by omega, by omega, fun fl hfl => ?_⟩
   rw [Int.toNat_natCast]
   refine rng_fms (ρ := [some (.ref p)]) (fun i => amtF ins.length m (i : Int)) (by omega) (fun i H' hi K' R kR => ?_) (fun qs H1 K1 hq1 e1 => ?_) hfl
   ·walk_at "v"
    exact ⟨p, ins, beg, m, _, rfl, hp.same K', fun r H2 K2 hr => kR _ _ K2 hr⟩
   walk_at "v"
   refine ⟨.inl ⟨rfl, _, SqL.of e1⟩, ?_⟩
   walk_at "v"
   refine w_ixT (K1 _ _ h1) rfl ?_
   refine ⟨ps, _, rfl, K1 _ _ h2, ?_⟩
   rw [h3]
   refine ⟨_, rfl, by omega, by omega, fun d hd => ?_⟩
   rw [Int.toNat_natCast]
   refine rng_fms (ρ := [some (.ref p)]) (fun i => drpF ins.length m (i : Int)) (by omega) (fun i H' hi K' R kR => ?_) (fun qs2 H2 K2 hq2 e2 => ?_) hd
   ·walk_at "v"
    exact ⟨p, ins, beg, m, _, rfl, (hp.same K1).same K', fun r H3 K3 hr => kR _ _ K3 hr⟩
   have l1 := hq1.len
   have l2 := hq2.len
   rw [List.length_map, List.length_range] at l1 l2
   have e1' := K2 _ _ e1
   walk_at "v"
   refine ⟨fl, d, _, _, rfl, rfl, e1', e2, by rw [List.length_map, List.length_map]; exact Nat.le_of_lt (small1000 (by omega)), ?_⟩
   have T3 : TK H2 (upd H2 fl (.lst (qs.map V.ref ++ qs2.map V.ref))) := TK.lst e1'
   have K3 : Same H (upd H2 fl (.lst (qs.map V.ref ++ qs2.map V.ref))) := (K1.trans K2).put hfl
   have hq3 : Fms (upd H2 fl (.lst (qs.map V.ref ++ qs2.map V.ref))) (qs ++ qs2) (base0 ins.length m) := Fms.app (hq2.tk T3) (hq1.tk ((TK.same K2).trans T3))
   have e3 : upd H2 fl (.lst (qs.map V.ref ++ qs2.map V.ref)) fl = some (.lst ((qs ++ qs2).map V.ref)) := by rw [upd_same, List.map_append]
   generalize upd H2 fl (.lst (qs.map V.ref ++ qs2.map V.ref)) = H3 at K3 hq3 e3 ⊢
   clear e1 e1' e2 hq1 hq2 T3
   walk_at "v"
   refine ⟨kp, rfl, ⟨_, SqT.of (K3 _ _ hkp)⟩, ?_⟩
   refine for_tup (xs := ks.map V.ref) (fun i σ H' => ∃ (u3 u4 : Option V) (qs : List Addr), σ = [some (.ref p), some (.ref kp), some (.ref fl), u3, u4] ∧ H' fl = some (.lst (qs.map V.ref)) ∧ Fms H' qs (base0 ins.length m ++ (cs.take i).flatMap fun c => [kepF ins beg c, negF ins beg c]) ∧ Same H H') ⟨none, none, _, rfl, e3, by simpa using hq3, K3⟩ (fun i σ H' _ ⟨_, _, _, _, _, _, k'⟩ => SqT.of (k' _ _ hkp)) ?_ ?_
   ·rintro i x σ H4 hx ⟨u3, u4, qs, rfl, e4, hq4, K4⟩
    have hi : i < ks.length := by
     have := (List.getElem?_eq_some_iff.mp hx).1
     simpa using this
    have ex : x = .ref ks[i] := by
     rw [List.getElem?_map, List.getElem?_eq_getElem hi] at hx
     exact (Option.some.inj hx).symm
    subst ex
    obtain ⟨c, hci, hkc, hkok⟩ := hks.at i ks[i] (by simp [hi])
    have hl4 := hq4.len
    rw [List.length_append, flat2 _ (fun _ => rfl), List.length_take] at hl4
    have hb0 : (base0 ins.length m).length = ins.length + m := by
     unfold base0
     rw [List.length_append, List.length_map, List.length_map, List.length_range, List.length_range]
    walk_at "v"
    refine ⟨p, ks[i], ins, beg, c, m, rfl, hp.same K4, K4 _ _ hkc, hkok, fun r H5 K5 hr => ?_⟩
    walk_at "v"
    refine ⟨.inl ⟨rfl, _, SqL.of (K5 _ _ e4)⟩, ?_⟩
    walk_at "v"
    refine ⟨_, rfl, ?_⟩
    have fok := fm_bg (kepF ins beg c)
    refine ⟨r, kepF ins beg c, -1, rfl, hr, ?_, ?_, fok.1, fok.2.1, fok.2.2, fun r2 H6 K6 hr2 => ?_⟩
    ·show (ins.map _).length ≤ 1000
     rw [List.length_map]
     omega
    ·show c.length ≤ 1000
     rw [hkok.1]
     omega
    rw [oft_kep] at hr2
    walk_at "v"
    refine ⟨by show 2 ≤ sizeLine; decide, fun z hz => ?_⟩
    have K7 : Same H6 (upd H6 z (.lst [.ref r, .ref r2])) := Same.new (Same.refl H6) hz
    have ez : upd H6 z (.lst [.ref r, .ref r2]) z = some (.lst [.ref r, .ref r2]) := upd_same
    generalize upd H6 z (.lst [.ref r, .ref r2]) = H7 at K7 ez ⊢
    have K47 := (K5.trans K6).trans K7
    have e7 := K47 _ _ e4
    walk_at "v"
    refine ⟨fl, z, _, _, rfl, rfl, e7, ez, by rw [List.length_map]; exact Nat.le_of_lt (small1000 (by show qs.length + 2 ≤ 1000; omega)), ?_⟩
    have T8 : TK H7 (upd H7 fl (.lst (qs.map V.ref ++ [.ref r, .ref r2]))) := TK.lst e7
    refine ⟨_, _, qs ++ [r, r2], rfl, by rw [upd_same, List.map_append]; rfl, ?_, (K4.trans K47).put hfl⟩
    rw [List.take_add_one, hci, List.flatMap_append, ← List.append_assoc]
    refine Fms.app ?_ (hq4.tk ((TK.same K47).trans T8))
    exact Fms.two ((hr.same (K6.trans K7)).tk T8) ((hr2.same K7).tk T8)
   ·rintro σ H4 ⟨u3, u4, qs, rfl, e4, hq4, K4⟩
    rw [List.length_map, hksl, List.take_length] at hq4
    walk_at "v"
    exact k fl qs H4 K4 hfl e4 hq4
end
end K29
namespace L2
open PySem PySem.Spec PyProof.Rows
section
variable {κ : Type} [DecidableEq κ]
def valV (kvs : List (κ × V)) (k : κ) : Option V := (kvs.find? fun kv => decide (kv.1 = k)).map (·.2)
def putK (kvs : List (κ × V)) (k : κ) (v : V) : List (κ × V) :=
 if (kvs.any fun kv => decide (kv.1 = k)) = true then kvs.map (fun kv => if kv.1 = k then (kv.1, v) else kv) else kvs ++ [(k, v)]
theorem valV_pos {p : κ × V} {r : List (κ × V)} {k : κ} (e : p.1 = k) : valV (p :: r) k = some p.2 := by simp [valV, List.find?_cons, e]
theorem valV_neg {p : κ × V} {r : List (κ × V)} {k : κ} (e : ¬ p.1 = k) : valV (p :: r) k = valV r k := by simp [valV, List.find?_cons, e]
theorem length_putK (kvs : List (κ × V)) (k : κ) (v : V) : (putK kvs k v).length ≤ kvs.length + 1 := by
 unfold putK
 split
 ·rw [List.length_map]; omega
 ·rw [List.length_append, List.length_cons, List.length_nil]; omega
theorem RelO.getD {o : Option V} {u : Option Value} {d : V} {d' : Value} (r : RelO o u) (rd : RelV d d') : RelV (o.getD d) (u.getD d') := by
 cases o with
 | none => cases u with
  | none => exact rd
  | some _ => exact (show False from r).elim
 | some _ => cases u with
  | none => exact (show False from r).elim
  | some _ => exact r
theorem KV.val {kvs : List (κ × V)} {vs : List (κ × Value)} (r : KV kvs vs) (k : κ) : RelO (valV kvs k) (valueAt vs k) := by
 unfold KV at r
 induction r with
 | nil => exact True.intro
 | @cons p q ps qs h t ih =>
  obtain ⟨h1, h2⟩ := h
  by_cases e : p.1 = k
  ·have e' : q.1 = k := h1.symm.trans e
   have b : valueAt (q :: qs) k = some q.2 := by simp [valueAt, List.find?_cons, e']
   rw [valV_pos e, b]; exact h2
  ·have e' : ¬ q.1 = k := fun z => e (h1.trans z)
   have b : valueAt (q :: qs) k = valueAt qs k := by simp [valueAt, List.find?_cons, e']
   rw [valV_neg e, b]; exact ih
theorem KV.any {kvs : List (κ × V)} {vs : List (κ × Value)} (r : KV kvs vs) (k : κ) : (kvs.any fun kv => decide (kv.1 = k)) = vs.any fun kv => decide (kv.1 = k) := by
 unfold KV at r
 induction r with
 | nil => rfl
 | cons h t ih => rw [List.any_cons, List.any_cons, ih, h.1]
theorem KV.repl {kvs : List (κ × V)} {vs : List (κ × Value)} (r : KV kvs vs) (k : κ) {y : V} {u : Value} (ry : RelV y u) :
  KV (kvs.map fun kv => if kv.1 = k then (kv.1, y) else kv) (vs.map fun kv => if kv.1 = k then (kv.1, u) else kv) := by
 unfold KV at r ⊢
 induction r with
 | nil => exact .nil
 | @cons p q ps qs h t ih =>
  rw [List.map_cons, List.map_cons]
  refine .cons ?_ ih
  obtain ⟨h1, h2⟩ := h
  by_cases e : p.1 = k
  ·rw [if_pos e, if_pos (h1.symm.trans e)]; exact ⟨h1, ry⟩
  ·rw [if_neg e, if_neg (fun z => e (h1.trans z))]; exact ⟨h1, h2⟩
theorem KV.put {kvs : List (κ × V)} {vs : List (κ × Value)} (r : KV kvs vs) (k : κ) {y : V} {u : Value} (ry : RelV y u) : KV (putK kvs k y) (stored vs k u) := by
 unfold putK stored
 rw [r.any k]
 by_cases e : (vs.any fun kv => decide (kv.1 = k)) = true
 ·rw [if_pos e, if_pos e]; exact r.repl k ry
 ·rw [if_neg e, if_neg e]; exact Paired.snoc r ⟨rfl, ry⟩
end
theorem kV_is {P : Program} {w : World} {k : Key} {u : Value} (r : RelV (kV k) u) : (mixKind P w).is k u = true := by
 cases k with
 | inl i => obtain ⟨t, e⟩ := (show ∃ t, u = Value.int i t from r); subst e; exact mixKind_int P w i t
 | inr x => obtain ⟨t, e⟩ := (show ∃ t, u = Value.str x t from r); subst e; exact mixKind_str P w x t
theorem items_are {P : Program} {w : World} : ∀ {ks : List Key} {us : List Value}, Vals (ks.map kV) us → ItemsAre (mixKind P w) ks us
 | [], _, r => by rw [List.map_nil] at r; cases r; exact .nil
 | k :: ks, _, r => by
  rw [List.map_cons] at r
  cases r with
  | cons h t => exact .cons (kV_is h) (items_are t)
abbrev KT (H : Hp) : List (List Key × V) → List (List Key × Addr × Value) → Prop := Paired fun p q => p.1 = q.1 ∧ H q.2.1 = some (.tup (p.1.map kV)) ∧ RelV p.2 q.2.2
theorem KT.val {H : Hp} {kvs : List (List Key × V)} {xs : List (List Key × Addr × Value)} (r : KT H kvs xs) (k : List Key) : RelO (valV kvs k) ((atKey xs k).map (·.2)) := by
 induction r with
 | nil => exact True.intro
 | @cons p q ps qs h t ih =>
  obtain ⟨h1, _, h2⟩ := h
  by_cases e : p.1 = k
  ·have e' : q.1 = k := h1.symm.trans e
   have b : atKey (q :: qs) k = some q.2 := by simp [atKey, List.find?_cons, e']
   rw [valV_pos e, b]; exact h2
  ·have e' : ¬ q.1 = k := fun z => e (h1.trans z)
   have b : atKey (q :: qs) k = atKey qs k := by simp [atKey, List.find?_cons, e']
   rw [valV_neg e, b]; exact ih
section
variable {P : Program} {w : World} {H : Hp} {h : Heap} {a : Addr}
theorem rd_of {u : HO} (ok : HOk P w H h) (e : Rd H a u) : ObjOk P w H h a u := e.ok ok
theorem dk_rd {kvs : List (Key × V)} (ok : HOk P w H h) (e : Rd H a (.dK kvs)) : kvs.length ≤ sizeLine ∧ (a == sysModules) = false ∧ ∃ vs, KV kvs vs ∧ h.DictOf (mixKind P w) a vs :=
 show ObjOk P w H h a (.dK kvs) from rd_of ok e
theorem dk_of {kvs : List (Key × V)} (ok : HOk P w H h) (e : H a = some (.dK kvs)) : kvs.length ≤ sizeLine ∧ (a == sysModules) = false ∧ ∃ vs, KV kvs vs ∧ h.DictOf (mixKind P w) a vs := dk_rd ok (.inl e)
theorem key_of {ks : List Key} (ok : HOk P w H h) (e : H a = some (.tup (ks.map kV))) : (tupleKind (mixKind P w)).is h ks a := by
 obtain ⟨_, its, r, o, h1, h2, n, h3⟩ := (show ObjOk P w H h a (.tup (ks.map kV)) from ok a _ e)
 exact ⟨o, its.toArray, n, h1, h2, h3, by simpa using items_are r⟩
theorem dt_rd {kvs : List (List Key × V)} (ok : HOk P w H h) (e : Rd H a (.dT kvs)) : kvs.length ≤ sizeLine ∧ (a == sysModules) = false ∧
  ∃ xs, KT H kvs xs ∧ h.DictOfH (tupleKind (mixKind P w)) a xs := by
 obtain ⟨z, y, xs, r, o, es, ep, h1, h2, h3, h4, h5⟩ := (show ObjOk P w H h a (.dT kvs) from rd_of ok e)
 refine ⟨z, y, xs, r, o, es, ep, h1, h2, h3, h4, fun x hx => ?_, h5⟩
 have all : ∀ {l : List (List Key × V)} {m : List (List Key × Addr × Value)}, KT H l m → ∀ x ∈ m, (tupleKind (mixKind P w)).is h x.1 x.2.1 := by
  intro l m q
  induction q with
  | nil => intro x hx; exact nomatch hx
  | @cons p q ps qs hq t ih =>
   intro x hx
   rcases List.mem_cons.mp hx with e | hx
   ·subst e
    exact key_of ok (by rw [← hq.1]; exact hq.2.1)
   ·exact ih x hx
 exact all r x hx
end
def DGet (H : Hp) (a : Addr) (y : V) (r : Option V) : Prop :=
 (∃ kvs k, Rd H a (.dK kvs) ∧ y = kV k ∧ r = valV kvs k) ∨ ∃ kvs k b, Rd H a (.dT kvs) ∧ y = .ref b ∧ H b = some (.tup (k.map kV)) ∧ r = valV kvs k
section
variable {X : Cx} {pins : List (Addr × Obj)} {σ : St} {H : Hp} {s : Shared} {a : Addr} {y v : V} {u r : Value} {o : Option V} {A : Around} {E : Value → Shared → Prop}
theorem Inv.big (I : Inv X pins σ H s) : sysModules < s.heap.objs.size := by
 have h : mainGlobals < s.heap.objs.size := (I.mod.glob.keeps I.bk).lt
 exact Nat.lt_trans (by decide) h
theorem d_write {h' : Heap} {t' : Nat} {ob : HO} (I : Inv X pins σ H s) (mu : Mut (H a)) (hs : Heap.SameBut a s.heap h') (he : ∃ q, h'.get? a = some q) (new : ObjOk X.prog X.w (upd H a ob) h' a ob) :
  Inv X pins σ (upd H a ob) { s with heap := h', toks := t' } :=
 I.write (x := a) (e := a) mu (.inl rfl) (fun b q hb z => (hs.2 b hb).trans z) he new
theorem dk_new {P : Program} {w : World} {H' : Hp} {h' : Heap} {kvs : List (Key × V)} {vs : List (Key × Value)} (z : kvs.length ≤ sizeLine) (hd : (a == sysModules) = false) (rel : KV kvs vs) (dd : h'.DictOf (mixKind P w) a vs) :
  ObjOk P w H' h' a (.dK kvs) := ⟨z, hd, vs, rel, dd⟩
end
section
variable {X : Cx} {pins : List (Addr × Obj)} {σ : St} {H : Hp} {s : Shared} {a : Addr} {kvs : List (Key × V)} {k : Key} {u : Value} {A : Around} {E : Value → Shared → Prop}
end
section
variable {X : Cx} {o i e value : Expr} {pos pos' tpos : Pos} {td ty tv : TE}
end
theorem dk_empty {P : Program} {w : World} {H : Hp} (h : Heap) (hb : sysModules < h.objs.size) : ObjOk P w H (h.push { cls := .type "dict", data := .dict #[] }) h.objs.size (.dK []) :=
 ⟨Nat.zero_le _, beq_eq_false_iff_ne.mpr (Ne.symm (Nat.ne_of_lt hb)), [], .nil, Heap.DictOf.new h⟩
def tDNewK : TE := fun _ H Q => ∀ p, H p = none → Q (.ref p) (upd H p (.dK []))
section
variable {X : Cx} {pos : Pos}
theorem pe_dnewK : PE X (.Dict [] [] pos) tDNewK := fun pins s σ H Q I h =>
 wpAny_Dict_empty ⟨.ref s.heap.objs.size, _, I.laid (a := s.heap.objs.size) (o := .dK []) (t' := s.toks) (fun _ _ q => Heap.get?_push_of_some _ q) (Nat.le_refl _) (dk_empty s.heap I.big), rfl, h _ (I.hok.fresh (Nat.le_refl _))⟩
end
def tPairs : List (TE × TE) → St → Hp → (List (V × V) → Hp → Prop) → Prop
 | [], _, H, Q => Q [] H
 | (tk, tv) :: r, σ, H, Q => tk σ H fun x H1 => tv σ H1 fun y H2 => tPairs r σ H2 fun ps H3 => Q ((x, y) :: ps) H3
abbrev VV : List (V × V) → List (Value × Value) → Prop := Paired fun p q => RelV p.1 q.1 ∧ RelV p.2 q.2
def PPs (X : Cx) (pos : Pos) (keys : List (Option Expr)) (values : List Expr) (trs : List (TE × TE)) : Prop :=
 ∀ (pins : List (Addr × Obj)) (s : Shared) (σ : St) (H : Hp) (Q : List (V × V) → Hp → Prop), Inv X pins σ H s → tPairs trs σ H Q →
  wpAny (model X.prog X.w) X.A (evalPairs (pairTrees keys values X.env pos)) (fun vs s' => ∃ ps H', Inv X pins σ H' s' ∧ VV ps vs ∧ Q ps H') X.xe s
theorem pps_nil {X : Cx} {pos : Pos} : PPs X pos [] [] [] := fun pins s σ H Q I h => pairTrees_nil_walk ⟨[], H, I, .nil, h⟩
theorem pps_cons {X : Cx} {pos : Pos} {k v : Expr} {ks : List (Option Expr)} {vs : List Expr} {tk tv : TE} {trs : List (TE × TE)} (hk : PE X k tk) (hv : PE X v tv) (hr : PPs X pos ks vs trs) :
  PPs X pos (some k :: ks) (v :: vs) ((tk, tv) :: trs) := fun pins s σ H Q I h =>
 pairTrees_cons_walk (thn (hk pins s σ H _ I h) fun u s1 ⟨x, H1, I1, rx, q1⟩ => thn (hv pins s1 σ H1 _ I1 q1) fun w2 s2 ⟨y, H2, I2, ry, q2⟩ =>
  thn (hr pins s2 σ H2 _ I2 q2) fun ws s3 ⟨ps, H3, I3, rel, q3⟩ => ⟨(x, y) :: ps, H3, I3, .cons ⟨rx, ry⟩ rel, q3⟩)
def mergeK (kvs more : List (Key × V)) : List (Key × V) := more.foldl (fun acc kv => putK acc kv.1 kv.2) kvs
theorem KV.merge : ∀ {more : List (Key × V)} {rs : List (Key × Value)} {kvs : List (Key × V)} {vs : List (Key × Value)}, KV more rs → KV kvs vs → KV (mergeK kvs more) (merged vs rs) := by
 intro more rs kvs vs r
 unfold KV at r
 induction r generalizing kvs vs with
 | nil => intro q; exact q
 | @cons p q ps qs h t ih =>
  intro r0
  have e : KV (putK kvs p.1 p.2) (stored vs q.1 q.2) := by
   have := r0.put p.1 h.2
   rw [← h.1]; exact this
  exact ih e
theorem length_mergeK : ∀ (more kvs : List (Key × V)), (mergeK kvs more).length ≤ kvs.length + more.length
 | [], kvs => by show kvs.length ≤ kvs.length + 0; omega
 | p :: r, kvs => by
  have h1 := length_mergeK r (putK kvs p.1 p.2)
  have h2 := length_putK kvs p.1 p.2
  show (mergeK (putK kvs p.1 p.2) r).length ≤ _
  rw [List.length_cons]; omega
theorem carries_of {P : Program} {w : World} : ∀ {kvs : List (Key × V)} {ws : List (Value × Value)}, VV (kvs.map fun kv => (kV kv.1, kv.2)) ws → ∃ rs, Carries (mixKind P w) ws rs ∧ KV kvs rs
 | [], _, r => by rw [List.map_nil] at r; cases r; exact ⟨[], True.intro, .nil⟩
 | p :: kvs, _, r => by
  rw [List.map_cons] at r
  cases r with
  | @cons a b as bs h t =>
   obtain ⟨rs, c, q⟩ := carries_of (P := P) (w := w) t
   obtain ⟨b1, b2⟩ := b
   exact ⟨(p.1, b2) :: rs, ⟨kV_is h.1, rfl, c⟩, .cons ⟨rfl, h.2⟩ q⟩
def tDisp (trs : List (TE × TE)) : TE := fun σ H Q => ∀ p, H p = none → tPairs trs σ (upd H p (.dK [])) fun ps H2 => H2 p = some (.dK []) ∧ ∃ kvs : List (Key × V), ps = kvs.map (fun kv => (kV kv.1, kv.2)) ∧ kvs.length ≤ 15 ∧ Q (.ref p) (upd H2 p (.dK (mergeK [] kvs)))
theorem pe_disp {X : Cx} {pos : Pos} {keys : List (Option Expr)} {values : List Expr} {trs : List (TE × TE)} (h : PPs X pos keys values trs) (hall : keys.all (·.isSome) = true) (hl : keys.length = values.length) (h0 : keys ≠ [])
  (h15 : keys.length ≤ 15) : PE X (.Dict keys values pos) (tDisp trs) := by
 intro pins s σ H Q I q
 have hn := I.hok.fresh (Nat.le_refl s.heap.objs.size)
 have I1 := I.laid (a := s.heap.objs.size) (o := .dK []) (h' := s.heap.push { cls := .type "dict", data := .dict #[] }) (t' := s.toks) (fun _ _ q => Heap.get?_push_of_some _ q) (Nat.le_refl _) (dk_empty s.heap I.big)
 refine wpAny_Dict_walk (knd := mixKind X.prog X.w) hall hl h0 h15 (thn (h pins _ σ _ _ I1 (q _ hn)) fun ws s2 ⟨ps, H2, I2, rel, e, kvs, ep, lk, q2⟩ => ?_)
 subst ep
 obtain ⟨rs, c, rk⟩ := carries_of (P := X.prog) (w := X.w) rel
 obtain ⟨z, hd, vs0, r0, dd⟩ := dk_of I2.hok e
 cases r0
 refine ⟨rs, c, dd, fun h' dd' hs => ⟨.ref s.heap.objs.size, _, ?_, rfl, q2⟩⟩
 have hz : (mergeK [] kvs).length ≤ sizeLine := by
  have h1 := length_mergeK kvs []
  rw [List.length_nil] at h1
  rw [sizeLine_eq]; omega
 have he : ∃ q, h'.get? s.heap.objs.size = some q := let ⟨q, _, _, hq, _⟩ := dd'; ⟨q, hq⟩
 exact d_write I2 (by rw [e]; exact True.intro) hs he (dk_new hz hd (rk.merge .nil) dd')
structure M1 (X : Cx) (o : Expr) (m : Str) (apos : Pos) (e : Expr) (cpos : Pos) : Prop where
 base : attributeBase o m X.env (eval o X.env) = eval o X.env
 few : ((backTo cpos (starEach [e] X.env)).all (fun x => !x.1) && (backToKw cpos (keywordEach [] X.env)).all (fun x => x.1.isSome)
  && decide (([e] : List Expr).length + ([] : List Keyword).length + (if ([] : List Keyword).isEmpty then 0 else 1) < 30)) = true
 line : (apos.endLine == cpos.line) = true
 trees : backTo cpos (starEach [e] X.env) = [(false, eval e X.env)]
structure M2 (X : Cx) (o : Expr) (m : Str) (apos : Pos) (e f : Expr) (cpos : Pos) : Prop where
 base : attributeBase o m X.env (eval o X.env) = eval o X.env
 few : ((backTo cpos (starEach [e, f] X.env)).all (fun x => !x.1) && (backToKw cpos (keywordEach [] X.env)).all (fun x => x.1.isSome)
  && decide (([e, f] : List Expr).length + ([] : List Keyword).length + (if ([] : List Keyword).isEmpty then 0 else 1) < 30)) = true
 line : (apos.endLine == cpos.line) = true
 trees : backTo cpos (starEach [e, f] X.env) = [(false, eval e X.env), (false, eval f X.env)]
def IsD (H : Hp) (a : Addr) : Prop := (∃ kvs, Rd H a (.dK kvs)) ∨ ∃ kvs, Rd H a (.dT kvs)
theorem isD_at {X : Cx} {pins : List (Addr × Obj)} {σ : St} {H : Hp} {s : Shared} {a : Addr} (I : Inv X pins σ H s) (d : IsD H a) :
  s.TypeIs (.ref a) "dict" ∧ (∀ b, Value.ref a = .ref b → ∃ ob, s.heap.get? b = some ob ∧ ob.dict = none) ∧ (a == sysModules) = false := by
 rcases d with ⟨kvs, e⟩ | ⟨kvs, e⟩
 ·obtain ⟨_, hd, vs, _, dd⟩ := dk_rd I.hok e
  refine ⟨dd.typeIs, fun b q => ?_, hd⟩
  cases q
  obtain ⟨ob, _, _, h1, h2, _⟩ := dd
  exact ⟨ob, h1, h2.2.1⟩
 ·obtain ⟨_, hd, xs, _, dd⟩ := dt_rd I.hok e
  refine ⟨dd.typeIs, fun b q => ?_, hd⟩
  cases q
  obtain ⟨ob, _, _, h1, h2, _⟩ := dd
  exact ⟨ob, h1, h2.2.1⟩
section
variable {X : Cx} {pins : List (Addr × Obj)} {σ : St} {H : Hp} {s : Shared} {a : Addr} {y d : V} {u r : Value} {o : Option V} {A : Around} {E : Value → Shared → Prop}
theorem d_get2 {Q : Value → Shared → Prop} (hu : A.units + 1 < cLine) (I : Inv X pins σ H s) (g : DGet H a y o) (ry : RelV y u) (rd : RelV d r) (h : ∀ w' s', Inv X pins σ H s' → RelV (o.getD d) w' → Q w' s') :
  wpAny (model X.prog X.w) A (call (.builtin "dict.get") [.ref a, u, r]) Q E s := by
 rcases g with ⟨kvs, k, e, ey, l⟩ | ⟨kvs, k, b, e, ey, eb, l⟩
 ·subst ey
  obtain ⟨z, hd, vs, rel, dd⟩ := dk_rd I.hok e
  refine call_meetsIn PySem.F.slot_dict_get dd.typeIs PySem.F.entry_dict_get (PySem.F.args_dict_get_3 _ _ _) (meets_dict_get_default (mixKind X.prog X.w) a (kV_is ry) hd r) ⟨_, dd.mapOf, h _ _ (I.tok _) ?_⟩
  rw [l]
  exact (rel.val k).getD rd
 ·subst ey
  cases (show u = Value.ref b from ry)
  obtain ⟨z, hd, xs, rel, dd⟩ := dt_rd I.hok e
  refine call_meetsIn PySem.F.slot_dict_get dd.typeIs PySem.F.entry_dict_get (PySem.F.args_dict_get_3 _ _ _) (meetsH_dict_get_default (tupleKind (mixKind X.prog X.w)) a b hd r) ⟨tupleKind_room_in1 hu, k, xs, key_of I.hok eb, dd, h _ _ (I.tok _) ?_⟩
  rw [l]
  exact (rel.val k).getD rd
end
def tDGet2 (td ty tx : TE) : TE := fun σ H Q => td σ H fun x H1 => ∃ a, x = .ref a ∧ IsD H1 a ∧ ty σ H1 fun y H2 => tx σ H2 fun z H3 => ∃ o, DGet H3 a y o ∧ Q (o.getD z) H3
section
variable {X : Cx} {o e f : Expr} {apos cpos : Pos} {td ty tx : TE}
theorem pe_dget2 (hu : X.A.units + 1 < cLine) (ho : PE X o td) (he : PE X e ty) (hf : PE X f tx) (m : M2 X o "get" apos e f cpos) : PE X (.Call (.Attribute o "get" apos) [e, f] [] cpos) (tDGet2 td ty tx) := by
 intro pins s σ H Q I h
 refine wpAny_Call_method m.base m.few m.line PySem.F.plainAttrs_dict PySem.F.slot_dict_get PySem.F.type_dict_get (thn (ho pins s σ H _ I h) fun u s1 ⟨x, H1, I1, rx, a, ex, d, q1⟩ => ?_)
 subst ex
 obtain rfl : u = Value.ref a := rx
 obtain ⟨t1, t2, _⟩ := isD_at I1 d
 refine ⟨t1, t2, ?_⟩
 rw [m.trees]
 refine Calls.callWith_builtin rfl (Calls.evalArgs_plain (Calls.spliced_cons (thn (he pins s1 σ H1 _ I1 q1) fun iv s2 ⟨y, H2, I2, ry, q2⟩ =>
  Calls.spliced_cons (thn (hf pins s2 σ H2 _ I2 q2) fun fv s3 ⟨z, H3, I3, rz, ov, g, q3⟩ => Calls.spliced_nil ?_))))
 exact d_get2 hu I3 g ry rz fun w' s4 I4 rw' => ⟨_, H3, I4, rw', q3⟩
end
section
variable {X : Cx} {pins : List (Addr × Obj)} {σ : St} {H : Hp} {s : Shared} {a : Addr} {kvs : List (Key × V)} {A : Around} {E : Value → Shared → Prop}
end
section
variable {X : Cx} {pins : List (Addr × Obj)} {σ : St} {H : Hp} {s : Shared} {a : Addr} {y : V} {u : Value} {A : Around} {E : Value → Shared → Prop}
end
section
variable {X : Cx} {pins : List (Addr × Obj)} {σ : St} {H : Hp} {s : Shared} {a o : Addr} {kvs more : List (Key × V)} {A : Around} {E : Value → Shared → Prop}
end
section
variable {X : Cx} {k : Nat}
end
end L2
namespace PySem.SeqAt
open PySem.MeetsSeq PySem PySem.Spec
section
variable {A : Around} {s : Shared}
end
end PySem.SeqAt
namespace HT
open PySem PySem.Spec PyProof.Rows
section
variable {prog : Program} {w : World} {A : Around} {E : Value → Shared → Prop} {s : Shared}
end
end HT
namespace L2
open PySem PySem.Spec PyProof.Rows
inductive Th where
 | non
 | bl (b : Bool)
 | int (i : Int)
 | str (s : Str)
 | tup (ts : List Th)
 | lst
 | dct
mutual
inductive ThAt (H : Hp) : V → Th → Prop
 | non : ThAt H .non .non
 | bl (b : Bool) : ThAt H (.bl b) (.bl b)
 | int (i : Int) : ThAt H (.int i) (.int i)
 | str (s : Str) : ThAt H (.str s) (.str s)
 | tup {p : Addr} {vs : List V} {ts : List Th} : H p = some (.tup vs) → ThsAt H vs ts → ThAt H (.ref p) (.tup ts)
 | lst {p : Addr} {vs : List V} : H p = some (.lst vs) → ThAt H (.ref p) .lst
 | dct {p : Addr} {kvs : List (Key × V)} : H p = some (.dK kvs) → ThAt H (.ref p) .dct
inductive ThsAt (H : Hp) : List V → List Th → Prop
 | nil : ThsAt H [] []
 | cons {v : V} {t : Th} {vs : List V} {ts : List Th} : ThAt H v t → ThsAt H vs ts → ThsAt H (v :: vs) (t :: ts)
end
structure KS (H H' : Hp) : Prop where
 t : ∀ q xs, H q = some (.tup xs) → H' q = some (.tup xs)
 l : ∀ q xs, H q = some (.lst xs) → ∃ ys, H' q = some (.lst ys)
 d : ∀ q xs, H q = some (.dK xs) → ∃ ys, H' q = some (.dK ys)
section
variable {H H' H'' : Hp} {a : Addr}
mutual
theorem ThAt.ks (k : KS H H') {v : V} {t : Th} : ThAt H v t → ThAt H' v t
 | .non => .non
 | .bl b => .bl b
 | .int i => .int i
 | .str s => .str s
 | .tup h hs => .tup (k.t _ _ h) (ThsAt.ks k hs)
 | .lst h => let ⟨_, h'⟩ := k.l _ _ h; .lst h'
 | .dct h => let ⟨_, h'⟩ := k.d _ _ h; .dct h'
theorem ThsAt.ks (k : KS H H') {vs : List V} {ts : List Th} : ThsAt H vs ts → ThsAt H' vs ts
 | .nil => .nil
 | .cons h hs => .cons (ThAt.ks k h) (ThsAt.ks k hs)
end
end
def Th.tn : Th → String
 | .non => "NoneType"
 | .bl _ => "bool"
 | .int _ => "int"
 | .str _ => "str"
 | .tup _ => "tuple"
 | .lst => "list"
 | .dct => "dict"
def Th.isI : Th → Bool
 | .bl _ => true
 | .int _ => true
 | _ => false
def Th.isT : Th → Bool
 | .tup _ => true
 | _ => false
section
variable {X : Cx} {k : Nat}
end
end L2
namespace L2
open PySem PySem.Spec PyProof.Rows Builtin Builtin.Str
section
variable {X : Cx}
end
end L2
namespace L2
open PySem
end L2
namespace L2
open PySem PyProof.Rows
def sg (x : Str) : List Str := x.cps.toList.map fun c => ⟨#[c]⟩
section
variable {P : Program} {w : World} {K : PySem.W.Frag} {tg : Expr}
end
section
variable {X : Cx} {tg : Expr}
end
end L2
namespace PySem.W
open PySem PySem.Calls PyProof.Rows
def KasT.eval {α : Type} (lt : Nat → Nat → Bool) : KasT α → α
 | .ret a => a
 | .ask i j k => (k (lt i j)).eval lt
inductive Nums : List Value → List Int → Prop
 | nil : Nums [] []
 | cons {i : Int} {t : Tok} {us : List Value} {ns : List Int} : Nums us ns → Nums (.int i t :: us) (i :: ns)
section
variable {prog : Program} {w : World} {A : Around} {E : Value → Shared → Prop} {s : Shared}
end
end PySem.W
namespace PySem
open Sem (wp)
open AutoSeq1 (wpAny_loadPart')
section
variable {prog : Program} {w : World} {A : Around} {E : Value → Shared → Prop} {s : Shared}
end
end PySem
namespace L2
open PySem PySem.Spec PyProof.Rows
section
variable {X : Cx} {k : Nat}
end
section
variable {X : Cx}
end
structure Fly (lo : Nat) (h : Heap) (H : Hp) (a : Addr) (T : Option Addr) (C : Value) (d : Option Addr) (fl : Value) : Prop where
 at_ : ∃ (vs : Array Value) (sl : Array (Option Value)), h.get? a = some ⟨C, d, .fields vs, sl⟩ ∧
  (match T with
   | none => vs[1]? = some .none
   | some t => vs[1]? = some (.ref t) ∧ t ≠ a ∧ ∃ oT ts, h.get? t = some oT ∧ oT.data = .fields ts ∧ ts[3]? = some fl)
 lo : ∀ b ∈ a :: T.toList, lo ≤ b ∧ H b = none
section
variable {M : Model} {A : Around} {E : Value → Shared → Prop} {s : Shared} {base : Heap} {env : Env} {outer : List Env} {L a : Addr} {T : Option Addr} {C : Value} {d : Option Addr} {H : Hp} {lo : Nat} {fl : Value} {Q : Unit → Shared → Prop}
end
section
variable {X : Cx} {EX : St → XK} {k j : Nat} {f : Addr} {fd : FuncData} {ps : List Str} {sp : Sp} {x : Str} {p pos : Pos} {e : Expr} {es : List Expr} {t : TA}
end
open Builtin Builtin.ObjectAttr
abbrev bmV : List Value := [.type "ValueError", .type "Exception", .type "BaseException", .type "object"]
inductive OverV : List Value → Prop
 | base : OverV bmV
 | own (a : Addr) {l : List Value} : OverV l → OverV (.ref a :: l)
structure XC (K : PySem.W.Frag) (C : Addr) (bm : List Value) : Prop where
 at_ : ∃ (nm q : Str) (N : Addr) (bs : List Value) (sn : List Str) (sub : List Value) (ab : Bool) (col : Option Bool) (dd : Option Addr) (k0 k1 k2 k3 k5 : Option Value),
  K.lookup C = some (excClassObj nm q C N bs bm true sn sub ab col dd k0 k1 k2 k3 k5 "ValueError.__new__")
 ov : OverV bm
structure XA (K : PySem.W.Frag) (C : Addr) : Prop where
 bm : ∃ bm, XC K C bm
 ga : PySem.W.findIn K (.ref C) "__getattribute__" = some (some (.builtin "BaseException.__getattribute__"))
 gt : PySem.W.findIn K (.ref C) "__getattr__" = some none
 sa : PySem.W.findIn K (.ref C) "__setattr__" = some (some (.builtin "object.__setattr__"))
 cl : PySem.W.findIn K (.ref C) "__class__" = some (some (.builtin "object.__class__"))
 sg : PySem.W.specialIn K (.builtin "object.__class__") "__get__" = some (some (.builtin "getset_descriptor.__get__"))
 tk : PySem.W.takesIn K (.builtin "object.__class__") = some true
end L2
namespace PySem
open Sem (wp)
open Builtin Builtin.ObjectAttr
open L2 (OverV)
section
variable {prog : Program} {w : World} {A : Around} {E : Value → Shared → Prop} {h : Heap} {g : Array GenState} {d : Drawn} {t : Nat} {os : OsState}
variable {nm q : Str} {C N : Addr} {bs bm : List Value} {sn : List Str} {sub : List Value} {ab : Bool} {col : Option Bool} {dd : Option Addr} {k0 k1 k2 k3 k5 : Option Value}
end
end PySem
namespace PySem
open Sem (wp)
open Builtin Builtin.ObjectAttr
open L2 (OverV XC XA bmV)
section
variable {prog : Program} {w : World} {A : Around} {E : Value → Shared → Prop} {h : Heap} {g : Array GenState} {d : Drawn} {t : Nat} {os : OsState}
variable {nm q : Str} {C N x : Addr} {bs bm : List Value} {sn : List Str} {sub : List Value} {ab : Bool} {col : Option Bool} {dd : Option Addr} {k0 k1 k2 k3 k5 : Option Value}
 {mA : Str → Option Value} {name : Str} {v : Value}
end
section
variable {prog : Program} {w : World} {A : Around} {E : Value → Shared → Prop} {h : Heap} {g : Array GenState} {d : Drawn} {t : Nat} {os : OsState} {K : PySem.W.Frag}
variable {nm q : Str} {C N x : Addr} {bs bm : List Value} {sn : List Str} {sub : List Value} {ab : Bool} {col : Option Bool} {dd : Option Addr} {k0 k1 k2 k3 k5 : Option Value}
 {name : Str} {v : Value} {ox : Obj} {od : Option Obj}
end
end PySem
namespace L2
open PySem PySem.Spec PyProof.Rows
section
variable {P : Program} {w : World} {H : Hp} {h : Heap} {a C dx : Addr} {d : Option Addr} {vs : Array Value} {fs : List (Str × V)}
end
section
variable {X : Cx} {pins : List (Addr × Obj)} {σ : St} {H : Hp} {s : Shared} {h' : Heap}
end
section
variable {X : Cx} {e o value : Expr} {ta tv : TE} {f : Str} {pos pos' : Pos}
end
end L2
namespace PySem
open Sem (wp)
open L2 (OverV)
section
variable {M : Model} {A : Around} {E : Value → Shared → Prop} {env : Env}
variable {nm q : Str} {C N : Addr} {bs bm : List Value} {sn : List Str} {sub : List Value} {ab : Bool} {col : Option Bool} {dd : Option Addr} {k0 k1 k2 k3 k5 : Option Value}
end
end PySem
namespace L2
open PySem PySem.Spec PyProof.Rows
structure XMk (K : PySem.W.Frag) (C f : Addr) : Prop where
 init : PySem.W.findIn K (.ref C) "__init__" = some (some (.ref f))
 fn : PySem.W.isFn K (.ref f) = true
 kp : PySem.W.keepIn K (.ref C) = true
 xa : XA K C
section
variable {X : Cx} {pins : List (Addr × Obj)} {σ : St} {H : Hp} {s : Shared}
end
end L2
namespace PySem
open Sem (wp)
open L2 (OverV)
end PySem
namespace L2
open PySem PySem.Spec PyProof.Rows
abbrev Cx.tr (X : Cx) (pn : List (Addr × Obj)) (xe : Value → Shared → Prop) : Cx := { X with pn := pn, xe := xe }
abbrev Cx.hdl (X : Cx) (a : Addr) : Cx := { X with A := X.A.mark (some (.ref a)), calm := false, xe := fun _ _ => False }
section
variable {X : Cx} {pins q : List (Addr × Obj)} {σ : St} {H : Hp} {s : Shared} {xe : Value → Shared → Prop}
end
end L2
namespace PySem
open Sem (wp)
open Builtin Builtin.ObjectAttr
open L2 (OverV XC XA bmV)
section
variable {prog : Program} {w : World} {A : Around} {E : Value → Shared → Prop} {h : Heap} {g : Array GenState} {d : Drawn} {t : Nat} {os : OsState} {K : PySem.W.Frag}
variable {nm q : Str} {C N x : Addr} {bs bm : List Value} {sn : List Str} {sub : List Value} {ab : Bool} {col : Option Bool} {dd : Option Addr} {k0 k1 k2 k3 k5 : Option Value}
 {ox : Obj} {od : Option Obj}
end
end PySem
namespace L2
open PySem PySem.Spec PyProof.Rows
section
variable {X : Cx} {pins : List (Addr × Obj)} {σ : St} {H : Hp} {s : Shared}
end
structure XUni (K : PySem.W.Frag) (mg : Str → Option Value) (D : Addr) (cs : List (Str × Addr)) : Prop where
 base : XC K D bmV
 mD : mg "DropError" = some (.ref D)
 cls : ∀ c ∈ cs, mg c.1 = some (.ref c.2) ∧ XC K c.2 (.ref D :: bmV) ∧ XA K c.2
 nd : (D :: cs.map (·.2)).Nodup
end L2
namespace PySem
open Sem (wp)
open L2 (OverV bmV)
section
variable {prog : Program} {w : World} {A : Around} {E : Value → Shared → Prop} {h : Heap} {g : Array GenState} {d : Drawn} {t : Nat} {os : OsState}
variable {nm q : Str} {C N : Addr} {bs : List Value} {sn : List Str} {sub : List Value} {ab : Bool} {col : Option Bool} {dd : Option Addr} {k0 k1 k2 k3 k5 : Option Value}
end
end PySem
namespace L2
open PySem PySem.Spec PyProof.Rows
structure FnOkH (P : Program) (w : World) (K : PySem.W.Frag) (mg : Str → Option Value) (base : Heap) (k : Nat) (f : Addr) (fd : FuncData) (ps : List Str) (sp : Sp) : Prop where
 len : ∀ vs H Q E, sp vs H Q E → vs.length = ps.length
 run : ∀ (A : Around) (a : Addr) (outer : List Env) (s : Shared) (H : Hp) (args : Args) (us : List Value) (vs : List V) (Q : VK), Room k A → Env0 P w K mg base A outer s H → BindsTo s fd args (ps.zip us) → Vals vs us → sp vs H Q E0 →
  codeAny (model P w) (A.mark (some (.ref a))) (.call (.ref f) args) (CR CX0 outer P w H s Q E0) s
section
variable {X : Cx} {k j : Nat} {f a : Addr} {fd : FuncData} {ps : List Str} {sp : Sp} {x : Str} {p pos : Pos} {e : Expr} {es : List Expr} {t : TA}
end
structure XBase (K : PySem.W.Frag) (C : Addr) : Prop where
 at_ : ∃ (nm q : Str) (N : Addr) (bs : List Value) (sn : List Str) (sub : List Value) (ab : Bool) (col : Option Bool) (dd : Option Addr) (k0 k1 k2 k3 k5 : Option Value),
  K.lookup C = some (excClassObj nm q C N bs bmV true sn sub ab col dd k0 k1 k2 k3 k5 "ValueError.__new__")
 fi : PySem.W.findIn K (.ref C) "__init__" = some (some (.builtin "ValueError.__init__"))
 kp : PySem.W.keepIn K (.ref C) = true
section
variable {X : Cx} {k : Nat}
end
section
variable {pr : Program} {wo : World} {Ar : Around} {R : Result → Shared → Prop} {I : Addr} {fp wr : List Addr} {G : Array GenState → Array GenState → Prop} {n : Nat} {P : Nat → Value → Prop} {St : Nat → Shared → Prop}
end
section
variable {pr : Program} {wo : World} {Ar : Around} {E : Value → Shared → Prop} {s : Shared}
end
end L2
namespace L2
open PySem
structure Bl (mg : Str → Option Value) : Prop where
 len : mg "len" = none
 range : mg "range" = none
 tuple : mg "tuple" = none
 int : mg "int" = none
 bool : mg "bool" = none
 list : mg "list" = none
 str : mg "str" = none
 all : mg "all" = none
 any : mg "any" = none
 isi : mg "isinstance" = none
 repr : mg "repr" = none
 zip : mg "zip" = none
 min : mg "min" = none
 max : mg "max" = none
 sum : mg "sum" = none
 enu : mg "enumerate" = none
 sorted : mg "sorted" = none
 set : mg "set" = none
 dict : mg "dict" = none
 abs : mg "abs" = none
def Kn (mg : Str → Option Value) (x : Str) (i : Int) : Prop := ∃ t, mg x = some (Value.int i t)
theorem pe_k {X : Cx} {x : Str} {i : Int} {pos : Pos} (h : Kn X.mg x i) (hg : Gl X x := by rfl) (hd : (x == ("__debug__" : Str)) = false := by decide) : PE X (.Name x pos) (tC (.int i)) := by
 obtain ⟨t, e⟩ := h
 exact pe_glob hg e ⟨t, rfl⟩ hd
theorem pi_r2 {X : Cx} {a b tg : Expr} {ta : TA} {p pos : Pos} (hm : X.mg "range" = none) (ha : PA X [a, b] ta) (hg : Gl X "range" := by rfl) (h : isStar a = false := by rfl) (h' : isStar b = false := by rfl) : PI X tg (.Call (.Name "range" p) [a, b] [] pos) (iRng2 ta) := pi_range2 hg hm ha (by rw [star1 h, star1 h']; rfl) (by rw [star1 h']; rfl)
theorem w_forR2 {ta : TA} {g : TG} {tb : TS} {D : Ends} {σ : St} {H : Hp} (h : ta σ H fun vs H1 => ∃ i j : Int, vs = [.int i, .int j] ∧ (-(2 ^ 62) ≤ i ∧ i < 2 ^ 62 ∧ -(2 ^ 62) ≤ j ∧ j < 2 ^ 62) ∧ ForJ (Itr i (j - i).toNat) g tb D σ H1) : tFor (iRng2 ta) g tb D σ H := h
theorem iteP {c A B : Prop} [Decidable c] (hc : c) (h : A) : if decide c = true then A else B := by rw [decide_eq_true hc]; exact iteT h
theorem iteQ {c A B : Prop} [Decidable c] (hc : ¬ c) (h : B) : if decide c = true then A else B := by rw [decide_eq_false hc]; exact iteF h
end L2
namespace L2
open PySem PySem.Spec PyProof.Rows Builtin Builtin.Str
section
variable {X : Cx}
def isT (b : Str) : Value → Bool
 | .str a _ => decide (a = b)
 | _ => false
end
section
variable {X : Cx} {tg : Expr}
end
end L2
namespace L2
open PySem PySem.Spec PyProof.Rows
section
variable {X : Cx} {e st : Expr} {te ts : TE} {pos p2 : Pos}
end
section
variable {D : Addr} {te : TE} {Q : VK} {ρ : St} {H : Hp}
theorem cg_rng {lo : Int} {n : Nat} (r : Nat → V) (hn : n ≤ 1000) (hD : H D = none)
  (h : ∀ i, i < n → ∀ H', Same H H' → ∀ R : V → Hp → Prop, (∀ H'', Same H' H'' → R (r i) H'') → te (some (.int (lo + i)) :: ρ) H' R)
  (q : ∀ H', Same H H' → H' D = some (.lst ((List.range n).map r)) → Q (.ref D) H') : CGo (Itr lo n) D (gName 0) tAll te Q (none :: ρ) H := by
 refine cgo_range (n := n) (fun i ys H' => ys = (List.range i).map r ∧ Same H H') ⟨rfl, Same.new (Same.refl H) hD⟩ ?_ ?_
 ·rintro i ys H' hi ⟨rfl, K'⟩ hDy R S kR _
  refine w_all (iteT ?_)
  refine h i hi H' K' _ fun H2 K2 => ?_
  refine kR _ _ (K2 _ _ hDy) (by rw [List.length_map, List.length_range]; exact small1000 (by omega)) ⟨?_, (K'.trans K2).put hD⟩
  rw [List.range_succ, List.map_append]
  rfl
 ·rintro ys H1 ⟨rfl, K1⟩ e1
  exact q H1 K1 e1
theorem cg_lst {K : PySem.W.Frag} {a : Addr} {α : Type} {ws : List α} (c r : α → V) (hs : H a = some (.lst (ws.map c))) (hn : ws.length ≤ 1000) (hD : H D = none)
  (h : ∀ w ∈ ws, ∀ H', Same H H' → ∀ R : V → Hp → Prop, (∀ H'', Same H' H'' → R (r w) H'') → te (some (c w) :: ρ) H' R)
  (q : ∀ H', Same H H' → H' D = some (.lst (ws.map r)) → Q (.ref D) H') : CGo (Itl K a) D (gName 0) tAll te Q (none :: ρ) H := by
 refine cgo_list (xs := ws.map c) (fun i ys H' => ys = (ws.take i).map r ∧ Same H H') ⟨rfl, Same.new (Same.refl H) hD⟩ (fun i ys H' _ ⟨_, k'⟩ => SqL.of (k' _ _ hs)) ?_ ?_
 ·rintro i x ys H' hx ⟨rfl, K'⟩ hDy R S kR _
  have hi : i < ws.length := by
   have := (List.getElem?_eq_some_iff.mp hx).1
   simpa using this
  have ex : x = c ws[i] := by
   rw [List.getElem?_map, List.getElem?_eq_getElem hi] at hx
   exact (Option.some.inj hx).symm
  subst ex
  refine w_all (iteT ?_)
  refine h _ (List.getElem_mem hi) H' K' _ fun H2 K2 => ?_
  refine kR _ _ (K2 _ _ hDy) (by rw [List.length_map, List.length_take]; exact small1000 (by omega)) ⟨?_, (K'.trans K2).put hD⟩
  rw [List.take_add_one, List.getElem?_eq_getElem hi, List.map_append]
  rfl
 ·rintro ys H1 ⟨rfl, K1⟩ e1
  rw [List.length_map, List.take_length] at e1
  exact q H1 K1 e1
end
end L2
namespace EL
inductive Sp (S : (Nat → Int) → Prop) : (Nat → Int) → Prop
 | of {v} : S v → Sp S v
 | zero : Sp S (fun _ => 0)
 | add {u v} : Sp S u → Sp S v → Sp S (fun j => u j + v j)
 | smul {u} (c : Int) : Sp S u → Sp S (fun j => c * u j)
 | div {u} {c : Int} : c ≠ 0 → Sp S (fun j => c * u j) → Sp S u
theorem Sp.le {S T : (Nat → Int) → Prop} (h : ∀ v, S v → Sp T v) {v : Nat → Int} (p : Sp S v) : Sp T v := by
 induction p with
 | of a => exact h _ a
 | zero => exact .zero
 | add _ _ a b => exact .add a b
 | smul c _ a => exact .smul c a
 | div hc _ a => exact .div hc a
theorem Sp.lin {S : (Nat → Int) → Prop} {u v w : Nat → Int} {a b d : Int} (hd : d ≠ 0) (hu : Sp S u) (hv : Sp S v) (h : ∀ j, d * w j = a * u j + b * v j) : Sp S w := by
 refine .div hd ?_
 rw [show (fun j => d * w j) = (fun j => a * u j + b * v j) from funext h]
 exact .add (.smul a hu) (.smul b hv)
def cf (xs : List Int) : Nat → Int := fun j => xs.getD j 0
def SpR (rows : List (List Int)) : (Nat → Int) → Prop := Sp (fun v => ∃ r ∈ rows, v = cf r)
theorem SpR.mem {rows : List (List Int)} {r : List Int} (h : r ∈ rows) : SpR rows (cf r) := .of ⟨r, h, rfl⟩
theorem SpR.le {R T : List (List Int)} (h : ∀ r ∈ R, SpR T (cf r)) {v : Nat → Int} (p : SpR R v) : SpR T v := Sp.le (fun v ⟨r, hr, e⟩ => e ▸ h r hr) p
def gcdL (xs : List Int) : Nat := xs.foldl (fun g x => Nat.gcd g x.natAbs) 0
theorem gcd_fold : ∀ (xs : List Int) (g : Nat), xs.foldl (fun g x => Nat.gcd g x.natAbs) g ∣ g ∧ ∀ x ∈ xs, xs.foldl (fun g x => Nat.gcd g x.natAbs) g ∣ x.natAbs
 | [], g => ⟨Nat.dvd_refl g, fun x h => nomatch h⟩
 | y :: xs, g => by
  obtain ⟨h1, h2⟩ := gcd_fold xs (Nat.gcd g y.natAbs)
  refine ⟨Nat.dvd_trans h1 (Nat.gcd_dvd_left _ _), fun x hx => ?_⟩
  rcases List.mem_cons.mp hx with rfl | hx
  ·exact Nat.dvd_trans h1 (Nat.gcd_dvd_right _ _)
  ·exact h2 x hx
theorem gcdL_dvd {xs : List Int} {x : Int} (h : x ∈ xs) : gcdL xs ∣ x.natAbs := (gcd_fold xs 0).2 x h
theorem dvd_fold {d : Nat} : ∀ (xs : List Int) (g : Nat), d ∣ g → (∀ x ∈ xs, d ∣ x.natAbs) → d ∣ xs.foldl (fun g x => Nat.gcd g x.natAbs) g
 | [], _, h, _ => h
 | y :: xs, g, h, k => dvd_fold xs _ (Nat.dvd_gcd h (k y List.mem_cons_self)) fun x hx => k x (List.mem_cons_of_mem _ hx)
theorem dvd_gcdL {d : Nat} {xs : List Int} (h : ∀ x ∈ xs, d ∣ x.natAbs) : d ∣ gcdL xs := dvd_fold xs 0 (Nat.dvd_zero d) h
theorem gcdL_zero {xs : List Int} (h : gcdL xs = 0) : ∀ x ∈ xs, x = 0 := fun x hx => by
 have := gcdL_dvd hx
 rw [h, Nat.zero_dvd] at this
 omega
theorem gcdL_le {xs : List Int} {x : Int} (h : x ∈ xs) (h0 : x ≠ 0) : gcdL xs ≤ x.natAbs := Nat.le_of_dvd (by omega) (gcdL_dvd h)
theorem gcdL_ex {xs : List Int} (h : gcdL xs ≠ 0) : ∃ x ∈ xs, x ≠ 0 := by
 refine Classical.byContradiction fun hn => h ?_
 have : ∀ x ∈ xs, 0 ∣ x.natAbs := fun x hx => by
  have : x = 0 := Classical.byContradiction fun q => hn ⟨x, hx, q⟩
  rw [this]
  exact Nat.dvd_refl 0
 exact Nat.zero_dvd.mp (dvd_gcdL this)
def wd (xs : List Int) : List Int := xs.map fun x => if 0 < gcdL xs then x / (gcdL xs : Int) else 0
theorem wd_len (xs : List Int) : (wd xs).length = xs.length := List.length_map _
def dv (xs : List Int) : Int := if 0 < gcdL xs then (gcdL xs : Int) else 1
theorem dv_pos (xs : List Int) : 0 < dv xs := by
 unfold dv
 split <;> omega
theorem wd_mul {xs : List Int} {x : Int} (h : x ∈ xs) : dv xs * (if 0 < gcdL xs then x / (gcdL xs : Int) else 0) = x := by
 unfold dv
 split
 ·exact Int.mul_ediv_cancel' (Int.ofNat_dvd_left.mpr (gcdL_dvd h))
 ·rw [gcdL_zero (by omega) x h]
  rfl
theorem getD_mem {α : Type} {xs : List α} {j : Nat} {d : α} (h : j < xs.length) : xs.getD j d ∈ xs := by
 rw [List.getD_eq_getElem?_getD, List.getElem?_eq_getElem h]
 exact List.getElem_mem h
theorem getD_out {α : Type} {xs : List α} {j : Nat} {d : α} (h : xs.length ≤ j) : xs.getD j d = d := by
 rw [List.getD_eq_getElem?_getD, List.getElem?_eq_none h]
 rfl
theorem getD_map' {α β : Type} (f : α → β) {xs : List α} {j : Nat} {d : β} {e : α} (h : j < xs.length) : (xs.map f).getD j d = f (xs.getD j e) := by
 rw [List.getD_eq_getElem?_getD, List.getD_eq_getElem?_getD, List.getElem?_map, List.getElem?_eq_getElem h]
 rfl
theorem wd_at (xs : List Int) (j : Nat) : dv xs * cf (wd xs) j = cf xs j := by
 unfold cf
 by_cases h : j < xs.length
 ·unfold wd
  rw [getD_map' (e := 0) _ h]
  exact wd_mul (getD_mem h)
 ·rw [getD_out (by rw [wd_len]; omega), getD_out (by omega), Int.mul_zero]
theorem natAbs_le_mul {d y x : Int} (hd : 0 < d) (h : d * y = x) : y.natAbs ≤ x.natAbs := by
 rw [← h, Int.natAbs_mul]
 exact Nat.le_mul_of_pos_left _ (by omega)
theorem wd_abs {xs : List Int} {y : Int} (h : y ∈ wd xs) : ∃ x ∈ xs, y.natAbs ≤ x.natAbs := by
 obtain ⟨x, hx, rfl⟩ := List.mem_map.mp h
 exact ⟨x, hx, natAbs_le_mul (dv_pos xs) (wd_mul hx)⟩
def wcol (row lead : List Int) (c : Nat) : List Int := wd (List.zipWith (fun a b => lead.getD c 0 * a - row.getD c 0 * b) row lead)
theorem zw_at {row lead : List Int} {n : Nat} (h1 : row.length = n) (h2 : lead.length = n) (g : Int → Int → Int) (g0 : g 0 0 = 0) (j : Nat) : cf (List.zipWith g row lead) j = g (cf row j) (cf lead j) := by
 unfold cf
 by_cases h : j < n
 ·rw [List.getD_eq_getElem?_getD, List.getD_eq_getElem?_getD, List.getD_eq_getElem?_getD, List.getElem?_zipWith, List.getElem?_eq_getElem (by omega), List.getElem?_eq_getElem (by omega)]
  rfl
 ·rw [getD_out (by rw [List.length_zipWith]; omega), getD_out (by omega), getD_out (by omega), g0]
theorem wcol_len {row lead : List Int} {n : Nat} (h1 : row.length = n) (h2 : lead.length = n) (c : Nat) : (wcol row lead c).length = n := by
 unfold wcol
 rw [wd_len, List.length_zipWith]
 omega
theorem wcol_at {row lead : List Int} {n : Nat} (h1 : row.length = n) (h2 : lead.length = n) (c : Nat) : ∃ d : Int, 0 < d ∧ ∀ j, d * cf (wcol row lead c) j = cf lead c * cf row j - cf row c * cf lead j :=
 ⟨_, dv_pos _, fun j => by
  unfold wcol
  rw [wd_at, zw_at h1 h2 _ (by simp)]
  rfl⟩
end EL
namespace EL
def ro (left : List (List Int)) (i j : Nat) : Int := cf (left.getD i []) j
def firstW (rows : List (List Int)) (start c : Nat) : Option Nat := (List.range' start (rows.length - start)).find? fun i => decide (ro rows i c ≠ 0)
def nextL (left : List (List Int)) (m p c : Nat) : List (List Int) := (((left.eraseIdx p).map fun r => wcol r (left.getD p []) c).insertIdx m (left.getD p []))
def redS (c : Nat) (st : List (List Int) × List Nat) : List (List Int) × List Nat := match firstW st.1 st.2.length c with
 | none => st
 | some p => (nextL st.1 st.2.length p c, st.2 ++ [c])
def red (rows : List (List Int)) : Nat → List (List Int) × List Nat
 | 0 => (rows, [])
 | c + 1 => redS c (red rows c)
def bdE (b : Nat) : Nat → Nat
 | 0 => b
 | k + 1 => 2 * bdE b k + 1
structure Rd (b n : Nat) (rows : List (List Int)) (c : Nat) (left : List (List Int)) (leads : List Nat) : Prop where
 len : ∀ r ∈ left, r.length = n
 cnt : left.length = rows.length
 le : leads.length ≤ left.length
 sp1 : ∀ v, SpR left v → SpR rows v
 sp2 : ∀ v, SpR rows v → SpR left v
 up : leads.Pairwise (· < ·)
 lt : ∀ l ∈ leads, l < c
 own : ∀ i, i < leads.length → ro left i (leads.getD i 0) ≠ 0
 oth : ∀ i k, i < leads.length → k < left.length → k ≠ i → ro left k (leads.getD i 0) = 0
 bef : ∀ i j, i < leads.length → j < leads.getD i 0 → ro left i j = 0
 low : ∀ k j, leads.length ≤ k → k < left.length → j < c → ro left k j = 0
 bit : ∀ r ∈ left, ∀ x ∈ r, x.natAbs < 2 ^ bdE b leads.length
theorem firstW_none {rows : List (List Int)} {s c : Nat} (h : firstW rows s c = none) : ∀ k, s ≤ k → k < rows.length → ro rows k c = 0 := fun k h1 h2 => by
 have := List.find?_eq_none.mp h k (List.mem_range'_1.mpr ⟨h1, by omega⟩)
 simpa using this
theorem firstW_some {rows : List (List Int)} {s c p : Nat} (h : firstW rows s c = some p) : s ≤ p ∧ p < rows.length ∧ ro rows p c ≠ 0 := by
 have h1 := List.find?_some h
 have h2 := List.mem_range'_1.mp (List.mem_of_find?_eq_some h)
 exact ⟨h2.1, by omega, by simpa using h1⟩
theorem nextL_len {left : List (List Int)} {m p c : Nat} (hp : p < left.length) (hm : m ≤ p) : (nextL left m p c).length = left.length := by
 unfold nextL
 rw [List.length_insertIdx, List.length_map, List.length_eraseIdx, if_pos hp]
 split <;> omega
theorem nextL_at {left : List (List Int)} {m p c : Nat} (hp : p < left.length) (hm : m ≤ p) (i : Nat) (hi : i < left.length) :
  (i = m ∧ (nextL left m p c).getD i [] = left.getD p []) ∨ (i ≠ m ∧ ∃ k, k < left.length ∧ k ≠ p ∧ (nextL left m p c).getD i [] = wcol (left.getD k []) (left.getD p []) c ∧ (i < m → k = i) ∧ (m < i → m ≤ k)) := by
 have hl : ((left.eraseIdx p).map fun r => wcol r (left.getD p []) c).length = left.length - 1 := by rw [List.length_map, List.length_eraseIdx, if_pos hp]
 have gq : ∀ q, q < left.length → left[q]? = some (left.getD q []) := fun q hq => by
  rw [List.getD_eq_getElem?_getD, List.getElem?_eq_getElem hq]
  rfl
 have key : ∀ q, q < left.length - 1 → ∃ k, k < left.length ∧ k ≠ p ∧ ((left.eraseIdx p).map fun r => wcol r (left.getD p []) c)[q]? = some (wcol (left.getD k []) (left.getD p []) c) ∧ (q < p → k = q) ∧ (p ≤ q → k = q + 1) := fun q hq => by
  by_cases h : q < p
  ·refine ⟨q, by omega, by omega, ?_, fun _ => rfl, fun h' => by omega⟩
   rw [List.getElem?_map, List.getElem?_eraseIdx, if_pos h, gq q (by omega)]
   rfl
  ·refine ⟨q + 1, by omega, by omega, ?_, fun h' => absurd h' h, fun _ => rfl⟩
   rw [List.getElem?_map, List.getElem?_eraseIdx, if_neg h, gq (q + 1) (by omega)]
   rfl
 unfold nextL
 by_cases h1 : i = m
 ·refine .inl ⟨h1, ?_⟩
  rw [List.getD_eq_getElem?_getD, List.getElem?_insertIdx, if_neg (by omega), if_pos h1, if_pos (by rw [hl]; omega)]
  rfl
 ·refine .inr ⟨h1, ?_⟩
  by_cases h2 : i < m
  ·obtain ⟨k, k1, k2, k3, k4, k5⟩ := key i (by omega)
   refine ⟨k, k1, k2, ?_, fun _ => k4 (by omega), fun h => by omega⟩
   rw [List.getD_eq_getElem?_getD, List.getElem?_insertIdx, if_pos h2, k3]
   rfl
  ·obtain ⟨k, k1, k2, k3, k4, k5⟩ := key (i - 1) (by omega)
   refine ⟨k, k1, k2, ?_, fun h => absurd h h2, fun h => ?_⟩
   ·rw [List.getD_eq_getElem?_getD, List.getElem?_insertIdx, if_neg h2, if_neg h1, k3]
    rfl
   ·rcases Nat.lt_or_ge (i - 1) p with z | z
    ·rw [k4 z]
     omega
    ·rw [k5 z]
     omega
theorem mem_getD {left : List (List Int)} {r : List Int} (h : r ∈ left) : ∃ i, i < left.length ∧ left.getD i [] = r := by
 obtain ⟨i, hi, e⟩ := List.getElem_of_mem h
 exact ⟨i, hi, by rw [List.getD_eq_getElem?_getD, List.getElem?_eq_getElem hi, e]; rfl⟩
theorem nextL_mem {left : List (List Int)} {m p c : Nat} (hp : p < left.length) (hm : m ≤ p) {r : List Int} (h : r ∈ nextL left m p c) : r = left.getD p [] ∨ ∃ k, k < left.length ∧ k ≠ p ∧ r = wcol (left.getD k []) (left.getD p []) c := by
 obtain ⟨i, hi, e⟩ := mem_getD h
 rw [nextL_len hp hm] at hi
 rcases nextL_at (c := c) hp hm i hi with ⟨_, h2⟩ | ⟨_, k, k1, k2, k3, _⟩
 ·exact .inl (e.symm.trans h2)
 ·exact .inr ⟨k, k1, k2, e.symm.trans k3⟩
theorem nextL_lead {left : List (List Int)} {m p c : Nat} (hp : p < left.length) (hm : m ≤ p) : left.getD p [] ∈ nextL left m p c := by
 unfold nextL
 rw [List.mem_insertIdx (by rw [List.length_map, List.length_eraseIdx, if_pos hp]; omega)]
 exact .inl rfl
theorem nextL_wcol {left : List (List Int)} {m p c k : Nat} (hp : p < left.length) (hm : m ≤ p) (hk : k < left.length) (hkp : k ≠ p) : wcol (left.getD k []) (left.getD p []) c ∈ nextL left m p c := by
 unfold nextL
 rw [List.mem_insertIdx (by rw [List.length_map, List.length_eraseIdx, if_pos hp]; omega)]
 refine .inr (List.mem_map.mpr ⟨_, ?_, rfl⟩)
 rw [List.mem_eraseIdx_iff_getElem?]
 exact ⟨k, hkp, by rw [List.getD_eq_getElem?_getD, List.getElem?_eq_getElem hk]; rfl⟩
theorem lt_pow_mul {a b : Int} {m : Nat} (ha : a.natAbs < 2 ^ m) (hb : b.natAbs < 2 ^ m) : (a * b).natAbs < 2 ^ (2 * m) := by
 rw [Int.natAbs_mul, Nat.two_mul, Nat.pow_add]
 exact Nat.mul_lt_mul_of_lt_of_lt ha hb
theorem getD_app1 {α : Type} {xs : List α} {a d : α} {i : Nat} (h : i < xs.length) : (xs ++ [a]).getD i d = xs.getD i d := by
 rw [List.getD_eq_getElem?_getD, List.getElem?_append_left h, List.getD_eq_getElem?_getD]
theorem getD_app2 {α : Type} {xs : List α} {a d : α} : (xs ++ [a]).getD xs.length d = a := by
 rw [List.getD_eq_getElem?_getD, List.getElem?_append_right (Nat.le_refl _), Nat.sub_self]
 rfl
theorem cf_bit {b : Nat} {r : List Int} (h : ∀ x ∈ r, x.natAbs < 2 ^ b) (j : Nat) : (cf r j).natAbs < 2 ^ b := by
 unfold cf
 by_cases hj : j < r.length
 ·exact h _ (getD_mem hj)
 ·rw [getD_out (by omega)]
  exact Nat.two_pow_pos b
theorem Rd.step {b n c : Nat} {rows left : List (List Int)} {leads : List Nat} (I : Rd b n rows c left leads) : Rd b n rows (c + 1) (redS c (left, leads)).1 (redS c (left, leads)).2 := by
 unfold redS
 cases hf : firstW left leads.length c with
 | none =>
  have z := firstW_none hf
  refine ⟨I.len, I.cnt, I.le, I.sp1, I.sp2, I.up, fun l hl => Nat.lt_succ_of_lt (I.lt l hl), I.own, I.oth, I.bef, fun k j h1 h2 h3 => ?_, I.bit⟩
  rcases Nat.lt_or_ge j c with q | q
  ·exact I.low k j h1 h2 q
  ·have : j = c := by omega
   rw [this]
   exact z k h1 h2
 | some p =>
  obtain ⟨p1, p2, p3⟩ := firstW_some hf
  show Rd b n rows (c + 1) (nextL left leads.length p c) (leads ++ [c])
  have hL := nextL_len (c := c) p2 p1
  have lenP : (left.getD p []).length = n := I.len _ (getD_mem p2)
  have lenK : ∀ k, k < left.length → (left.getD k []).length = n := fun k hk => I.len _ (getD_mem hk)
  have ll : (leads ++ [c]).length = leads.length + 1 := by simp
  have bitK : ∀ k, k < left.length → ∀ j, (ro left k j).natAbs < 2 ^ bdE b leads.length := fun k hk j => cf_bit (I.bit _ (getD_mem hk)) j
  have at_ := fun i hi => nextL_at (c := c) p2 p1 i hi
  refine ⟨fun r hr => ?_, hL.trans I.cnt, ?_, fun v hv => I.sp1 v (SpR.le (fun r hr => ?_) hv), fun v hv => SpR.le (fun r hr => ?_) (I.sp2 v hv), ?_, fun l hl => ?_, fun i hi => ?_, fun i k hi hk hki => ?_, fun i j hi hj => ?_, fun k j h1 h2 h3 => ?_, fun r hr x hx => ?_⟩
  ·rcases nextL_mem p2 p1 hr with e | ⟨k, k1, _, e⟩
   ·rw [e]; exact lenP
   ·rw [e]; exact wcol_len (lenK k k1) lenP c
  ·rw [ll, hL]
   omega
  ·rcases nextL_mem p2 p1 hr with e | ⟨k, k1, _, e⟩
   ·rw [e]; exact SpR.mem (getD_mem p2)
   ·obtain ⟨d, d0, hd⟩ := wcol_at (lenK k k1) lenP c
    rw [e]
    exact Sp.lin (d := d) (a := cf (left.getD p []) c) (b := -cf (left.getD k []) c) (by omega) (SpR.mem (getD_mem k1)) (SpR.mem (getD_mem p2)) fun j => by rw [hd, Int.neg_mul, Int.sub_eq_add_neg]
  ·obtain ⟨k, k1, e⟩ := mem_getD hr
   by_cases hkp : k = p
   ·rw [← e, hkp]; exact SpR.mem (nextL_lead p2 p1)
   ·obtain ⟨d, d0, hd⟩ := wcol_at (lenK k k1) lenP c
    rw [← e]
    refine Sp.lin (a := d) (b := cf (left.getD k []) c) p3 (SpR.mem (nextL_wcol p2 p1 k1 hkp)) (SpR.mem (nextL_lead p2 p1)) fun j => ?_
    rw [hd]
    show ro left p c * _ = _
    unfold ro
    omega
  ·rw [List.pairwise_append]
   exact ⟨I.up, List.pairwise_singleton _ _, fun a ha b' hb => by rw [List.mem_singleton.mp hb]; exact I.lt a ha⟩
  ·rcases List.mem_append.mp hl with h | h
   ·exact Nat.lt_succ_of_lt (I.lt l h)
   ·rw [List.mem_singleton.mp h]; omega
  ·rw [ll] at hi
   unfold ro
   rcases at_ i (by omega) with ⟨h1, h2⟩ | ⟨h1, k, k1, k2, k3, k4, k5⟩
   ·rw [h2, h1, getD_app2]
    exact p3
   ·have hi' : i < leads.length := by omega
    obtain ⟨d, d0, hd⟩ := wcol_at (lenK k k1) lenP c
    have := hd (leads.getD i 0)
    rw [k3, getD_app1 hi']
    have e1 : cf (left.getD p []) (leads.getD i 0) = 0 := I.oth i p hi' p2 (by omega)
    have e2 : cf (left.getD k []) (leads.getD i 0) ≠ 0 := by rw [k4 hi']; exact I.own i hi'
    rw [e1, Int.mul_zero, Int.sub_zero] at this
    intro z
    rw [z, Int.mul_zero] at this
    exact (Int.mul_eq_zero.mp this.symm).elim p3 e2
  ·rw [ll] at hi
   rw [hL] at hk
   unfold ro
   by_cases hic : i = leads.length
   ·rw [hic, getD_app2]
    rcases at_ k hk with ⟨h1, h2⟩ | ⟨h1, q, k1, k2, k3, k4, k5⟩
    ·omega
    ·obtain ⟨d, d0, hd⟩ := wcol_at (lenK q k1) lenP c
     have := hd c
     rw [k3]
     rw [Int.mul_comm (cf (left.getD q []) c), Int.sub_self] at this
     exact (Int.mul_eq_zero.mp this).resolve_left (by omega)
   ·have hi' : i < leads.length := by omega
    rw [getD_app1 hi']
    have e1 : cf (left.getD p []) (leads.getD i 0) = 0 := I.oth i p hi' p2 (by omega)
    rcases at_ k hk with ⟨h1, h2⟩ | ⟨h1, q, k1, k2, k3, k4, k5⟩
    ·rw [h2]; exact e1
    ·obtain ⟨d, d0, hd⟩ := wcol_at (lenK q k1) lenP c
     have := hd (leads.getD i 0)
     have hqi : q ≠ i := by
      rcases Nat.lt_or_ge k leads.length with z | z
      ·rw [k4 z]; omega
      ·have := k5 (by omega); omega
     rw [k3]
     rw [e1, show cf (left.getD q []) (leads.getD i 0) = 0 from I.oth i q hi' k1 hqi, Int.mul_zero, Int.mul_zero, Int.sub_self] at this
     exact (Int.mul_eq_zero.mp this).resolve_left (by omega)
  ·rw [ll] at hi
   unfold ro
   rcases at_ i (by omega) with ⟨h1, h2⟩ | ⟨h1, k, k1, k2, k3, k4, k5⟩
   ·rw [h1, getD_app2] at hj
    rw [h2]
    exact I.low p j (by omega) p2 hj
   ·have hi' : i < leads.length := by omega
    rw [getD_app1 hi'] at hj
    have hc := I.lt (leads.getD i 0) (getD_mem hi')
    obtain ⟨d, d0, hd⟩ := wcol_at (lenK k k1) lenP c
    have := hd j
    rw [k3]
    rw [show cf (left.getD p []) j = 0 from I.low p j p1 p2 (by omega), show cf (left.getD k []) j = 0 by rw [k4 hi']; exact I.bef i j hi' hj, Int.mul_zero, Int.mul_zero, Int.sub_self] at this
    exact (Int.mul_eq_zero.mp this).resolve_left (by omega)
  ·rw [ll] at h1
   rw [hL] at h2
   unfold ro
   rcases at_ k h2 with ⟨h4, _⟩ | ⟨h4, q, k1, k2, k3, k4, k5⟩
   ·omega
   ·obtain ⟨d, d0, hd⟩ := wcol_at (lenK q k1) lenP c
    have := hd j
    rw [k3]
    rcases Nat.lt_or_ge j c with z | z
    ·rw [show cf (left.getD p []) j = 0 from I.low p j p1 p2 z, show cf (left.getD q []) j = 0 from I.low q j (k5 (by omega)) k1 z, Int.mul_zero, Int.mul_zero, Int.sub_self] at this
     exact (Int.mul_eq_zero.mp this).resolve_left (by omega)
    ·have hj : j = c := by omega
     rw [hj, Int.mul_comm (cf (left.getD q []) c), Int.sub_self] at this
     rw [hj]
     exact (Int.mul_eq_zero.mp this).resolve_left (by omega)
  ·rw [ll]
   show x.natAbs < 2 ^ (2 * bdE b leads.length + 1)
   have up1 : ∀ y : Int, y.natAbs < 2 ^ bdE b leads.length → y.natAbs < 2 ^ (2 * bdE b leads.length + 1) := fun y hy => Nat.lt_of_lt_of_le hy (Nat.pow_le_pow_right (by decide) (by omega))
   rcases nextL_mem p2 p1 hr with e | ⟨k, k1, _, e⟩
   ·rw [e] at hx
    exact up1 x (I.bit _ (getD_mem p2) x hx)
   ·rw [e] at hx
    obtain ⟨y, hy, hxy⟩ := wd_abs hx
    refine Nat.lt_of_le_of_lt hxy ?_
    obtain ⟨j, hj, e2⟩ := List.getElem_of_mem hy
    have e3 : y = cf (left.getD p []) c * cf (left.getD k []) j - cf (left.getD k []) c * cf (left.getD p []) j := by
     have := zw_at (lenK k k1) lenP (fun a b => (left.getD p []).getD c 0 * a - (left.getD k []).getD c 0 * b) (by simp) j
     unfold cf at this ⊢
     rw [← this, List.getD_eq_getElem?_getD, List.getElem?_eq_getElem hj]
     exact e2.symm
    have a1 := lt_pow_mul (bitK p p2 c) (bitK k k1 j)
    have a2 := lt_pow_mul (bitK k k1 c) (bitK p p2 j)
    unfold ro at a1 a2
    rw [e3, Nat.pow_succ]
    omega
theorem Rd.all {b n : Nat} {rows : List (List Int)} (hl : ∀ r ∈ rows, r.length = n) (hb : ∀ r ∈ rows, ∀ x ∈ r, x.natAbs < 2 ^ b) : ∀ c, Rd b n rows c (red rows c).1 (red rows c).2
 | 0 => ⟨hl, rfl, Nat.zero_le _, fun _ h => h, fun _ h => h, List.Pairwise.nil, (fun l h => nomatch h), fun i h => absurd h (Nat.not_lt_zero i), fun i k h => absurd h (Nat.not_lt_zero i), fun i j h => absurd h (Nat.not_lt_zero i), fun k j _ _ h => absurd h (Nat.not_lt_zero j), hb⟩
 | c + 1 => (Rd.all hl hb c).step
end EL
namespace EL
def dotF : Nat → (Nat → Int) → (Nat → Int) → Int
 | 0, _, _ => 0
 | n + 1, u, v => dotF n u v + u n * v n
def cm (a b : Int) : Int := ((a * b).natAbs : Int) / (gcdL [a, b] : Int)
theorem gcdL_two (a b : Int) : gcdL [a, b] = Nat.gcd a.natAbs b.natAbs := by
 show Nat.gcd (Nat.gcd 0 a.natAbs) b.natAbs = _
 rw [Nat.gcd_zero_left]
theorem cm_eq (a b : Int) : cm a b = (Nat.lcm a.natAbs b.natAbs : Nat) := by
 unfold cm Nat.lcm
 rw [gcdL_two, Int.natAbs_mul]
 rfl
theorem cm_pos {a b : Int} (ha : a ≠ 0) (hb : b ≠ 0) : 0 < cm a b := by
 rw [cm_eq]
 have := Nat.lcm_pos (m := a.natAbs) (n := b.natAbs) (by omega) (by omega)
 omega
theorem cm_left (a b : Int) : a ∣ cm a b := by
 rw [cm_eq]
 exact Int.ofNat_dvd_right.mpr (Nat.dvd_lcm_left _ _)
theorem cm_right (a b : Int) : b ∣ cm a b := by
 rw [cm_eq]
 exact Int.ofNat_dvd_right.mpr (Nat.dvd_lcm_right _ _)
theorem cm_abs (a b : Int) : (cm a b).natAbs ≤ a.natAbs * b.natAbs := by
 rw [cm_eq, Int.natAbs_natCast]
 exact Nat.div_le_self _ _
def botK (rows : List (List Int)) (leads : List Nat) : Nat → Int
 | 0 => 1
 | k + 1 => cm (botK rows leads k) (ro rows k (leads.getD k 0))
def numV (rows : List (List Int)) (leads : List Nat) (free k : Nat) (bt : Int) : Int := -ro rows k free * (bt.fdiv (ro rows k (leads.getD k 0)))
def numK (n : Nat) (rows : List (List Int)) (leads : List Nat) (free : Nat) (bt : Int) : Nat → List Int
 | 0 => (List.replicate n 0).set free bt
 | k + 1 => (numK n rows leads free bt k).set (leads.getD k 0) (numV rows leads free k bt)
theorem bot_all {rows : List (List Int)} {leads : List Nat} {m : Nat} (h : ∀ i, i < m → ro rows i (leads.getD i 0) ≠ 0) : ∀ k, k ≤ m → 0 < botK rows leads k ∧ ∀ i, i < k → ro rows i (leads.getD i 0) ∣ botK rows leads k
 | 0, _ => ⟨by unfold botK; decide, fun i h => absurd h (Nat.not_lt_zero i)⟩
 | k + 1, hk => by
  obtain ⟨h1, h2⟩ := bot_all h k (by omega)
  refine ⟨cm_pos (by omega) (h k (by omega)), fun i hi => ?_⟩
  rcases Nat.lt_or_ge i k with z | z
  ·exact Int.dvd_trans (h2 i z) (cm_left _ _)
  ·have : i = k := by omega
   rw [this]
   exact cm_right _ _
theorem bot_bit {rows : List (List Int)} {leads : List Nat} {m B : Nat} (h : ∀ i, i < m → (ro rows i (leads.getD i 0)).natAbs < 2 ^ B) : ∀ k, k ≤ m → (botK rows leads k).natAbs ≤ 2 ^ (k * B)
 | 0, _ => by simp [botK]
 | k + 1, hk => by
  refine Nat.le_trans (cm_abs _ _) ?_
  rw [Nat.succ_mul, Nat.pow_add]
  exact Nat.mul_le_mul (bot_bit h k (by omega)) (Nat.le_of_lt (h k (by omega)))
theorem numK_len {n : Nat} {rows : List (List Int)} {leads : List Nat} {free : Nat} {bt : Int} : ∀ k, (numK n rows leads free bt k).length = n
 | 0 => by unfold numK; rw [List.length_set, List.length_replicate]
 | k + 1 => by unfold numK; rw [List.length_set, numK_len k]
theorem cf_set {xs : List Int} {i : Nat} {v : Int} (h : i < xs.length) (j : Nat) : cf (xs.set i v) j = if i = j then v else cf xs j := by
 unfold cf
 rw [List.getD_eq_getElem?_getD, List.getElem?_set]
 split
 ·rfl
 ·rw [List.getD_eq_getElem?_getD]
theorem cf_rep (n j : Nat) : cf (List.replicate n 0) j = 0 := by
 unfold cf
 rw [List.getD_eq_getElem?_getD, List.getElem?_replicate]
 split <;> rfl
theorem numK_at {n : Nat} {rows : List (List Int)} {leads : List Nat} {free : Nat} {bt : Int} (hf : free < n) : ∀ k, k ≤ leads.length → (∀ i, i < k → leads.getD i 0 < n ∧ leads.getD i 0 ≠ free) → (∀ i j, i < j → j < k → leads.getD i 0 ≠ leads.getD j 0) →
  cf (numK n rows leads free bt k) free = bt ∧ (∀ i, i < k → cf (numK n rows leads free bt k) (leads.getD i 0) = numV rows leads free i bt) ∧ ∀ j, j ≠ free → (∀ i, i < k → j ≠ leads.getD i 0) → cf (numK n rows leads free bt k) j = 0
 | 0, _, _, _ => by
  unfold numK
  refine ⟨?_, fun i h => absurd h (Nat.not_lt_zero i), fun j hj _ => ?_⟩
  ·rw [cf_set (by rw [List.length_replicate]; exact hf), if_pos rfl]
  ·rw [cf_set (by rw [List.length_replicate]; exact hf), if_neg (fun e => hj e.symm), cf_rep]
 | k + 1, hk, h1, h2 => by
  obtain ⟨a1, a2, a3⟩ := numK_at (rows := rows) (bt := bt) hf k (by omega) (fun i hi => h1 i (by omega)) (fun i j hi hj => h2 i j hi (by omega))
  obtain ⟨b1, b2⟩ := h1 k (by omega)
  have hl : leads.getD k 0 < (numK n rows leads free bt k).length := by rw [numK_len]; exact b1
  unfold numK
  refine ⟨?_, fun i hi => ?_, fun j hj hq => ?_⟩
  ·rw [cf_set hl, if_neg b2]; exact a1
  ·rw [cf_set hl]
   by_cases e : i = k
   ·rw [e, if_pos rfl]
   ·rw [if_neg (fun q => h2 i k (by omega) (by omega) q.symm)]
    exact a2 i (by omega)
  ·rw [cf_set hl, if_neg (fun q => hq k (by omega) q.symm)]
   exact a3 j hj fun i hi => hq i (by omega)
def vecF (n : Nat) (rows : List (List Int)) (leads : List Nat) (free : Nat) : List Int := wd (numK n rows leads free (botK rows leads leads.length) leads.length)
theorem pw_lt {leads : List Nat} (h : leads.Pairwise (· < ·)) {i j : Nat} (hij : i < j) (hj : j < leads.length) : leads.getD i 0 < leads.getD j 0 := by
 rw [List.getD_eq_getElem?_getD, List.getD_eq_getElem?_getD, List.getElem?_eq_getElem (by omega), List.getElem?_eq_getElem hj]
 exact List.pairwise_iff_getElem.mp h i j (by omega) hj hij
structure Vf (n : Nat) (rows : List (List Int)) (leads : List Nat) (f : Nat) (v : List Int) : Prop where
 len : v.length = n
 own : cf v f ≠ 0
 oth : ∀ g, g ≠ f → g ∉ leads → cf v g = 0
 ker : ∀ r ∈ rows, dotF n (cf v) (cf r) = 0
 gcd : gcdL v = 1
 aft : ∀ j, f < j → cf v j = 0
 pos : 0 < cf v f
theorem Rd.glog {b n : Nat} {rows left : List (List Int)} {leads : List Nat} (I : Rd b n rows n left leads) {f : Nat} (hf : f < n) (hn : f ∉ leads) : gcdL (numK n left leads f (botK left leads leads.length) leads.length) < 2 ^ (leads.length * bdE b leads.length + 1) := by
 have B := bot_all (rows := left) (leads := leads) (m := leads.length) I.own leads.length (Nat.le_refl _)
 have mm : ∀ i, i < leads.length → leads.getD i 0 ∈ leads := fun i hi => getD_mem hi
 have A := numK_at (rows := left) (leads := leads) (bt := botK left leads leads.length) hf leads.length (Nat.le_refl _) (fun i hi => ⟨I.lt _ (mm i hi), fun e => hn (e ▸ mm i hi)⟩) (fun i j hij hj => Nat.ne_of_lt (pw_lt I.up hij hj))
 have bitR : ∀ k, k < left.length → ∀ j, (ro left k j).natAbs < 2 ^ bdE b leads.length := fun k hk j => cf_bit (I.bit _ (getD_mem hk)) j
 have BB := bot_bit (rows := left) (leads := leads) (m := leads.length) (B := bdE b leads.length) (fun i hi => bitR i (Nat.lt_of_lt_of_le hi I.le) _) leads.length (Nat.le_refl _)
 have h1 : cf (numK n left leads f (botK left leads leads.length) leads.length) f ∈ numK n left leads f (botK left leads leads.length) leads.length := getD_mem (by rw [numK_len]; exact hf)
 have h2 := gcdL_le h1 (by rw [A.1]; have := B.1; omega)
 rw [A.1] at h2
 have h3 : 2 ^ (leads.length * bdE b leads.length) < 2 ^ (leads.length * bdE b leads.length + 1) := Nat.pow_lt_pow_right (by decide) (by omega)
 omega
theorem ro_take {left : List (List Int)} {m i : Nat} (h : i < m) (j : Nat) : ro (left.take m) i j = ro left i j := by
 unfold ro
 rw [List.getD_eq_getElem?_getD, List.getElem?_take, if_pos h, List.getD_eq_getElem?_getD]
theorem bot_take {left : List (List Int)} {leads : List Nat} {m : Nat} : ∀ k, k ≤ m → botK (left.take m) leads k = botK left leads k
 | 0, _ => rfl
 | k + 1, h => by
  unfold botK
  rw [bot_take k (by omega), ro_take (by omega)]
theorem num_take {n : Nat} {left : List (List Int)} {leads : List Nat} {m f : Nat} {bt : Int} : ∀ k, k ≤ m → numK n (left.take m) leads f bt k = numK n left leads f bt k
 | 0, _ => rfl
 | k + 1, h => by
  unfold numK numV
  rw [num_take k (by omega), ro_take (by omega), ro_take (by omega)]
theorem vec_take {n : Nat} {left : List (List Int)} {leads : List Nat} {f : Nat} : vecF n (left.take leads.length) leads f = vecF n left leads f := by
 unfold vecF
 rw [bot_take _ (Nat.le_refl _), num_take _ (Nat.le_refl _)]
end EL
namespace EL
structure Lr (b n p : Nat) (left : List (List Int)) : Prop where
 len : ∀ r ∈ left, r.length = n
 low : ∀ r ∈ left, ∀ j, j < p → cf r j = 0
 bit : ∀ r ∈ left, ∀ x ∈ r, x.natAbs < 2 ^ bdE b p
theorem cnt_in {n : Nat} : ∀ {leads : List Nat}, leads.Nodup → (∀ l ∈ leads, l < n) → ((List.range n).filter fun j => decide (j ∈ leads)).length = leads.length := by
 induction n with
 | zero =>
  intro leads _ h
  cases leads with
  | nil => rfl
  | cons l _ => exact absurd (h l List.mem_cons_self) (Nat.not_lt_zero l)
 | succ n ih =>
  intro leads nd h
  rw [List.range_succ, List.filter_append, List.length_append]
  by_cases hm : n ∈ leads
  ·have e1 : (List.range n).filter (fun j => decide (j ∈ leads)) = (List.range n).filter (fun j => decide (j ∈ leads.erase n)) := List.filter_congr fun j hj => by
    have : j < n := List.mem_range.mp hj
    have q : j ≠ n := by omega
    exact decide_eq_decide.mpr ⟨fun h => nd.mem_erase_iff.mpr ⟨q, h⟩, fun h => (nd.mem_erase_iff.mp h).2⟩
   rw [e1, ih (nd.erase n) fun l hl => by
    rw [nd.mem_erase_iff] at hl
    have := h l hl.2
    omega, List.length_erase_of_mem hm]
   have : 0 < leads.length := List.length_pos_of_mem hm
   simp [hm]
   omega
  ·rw [ih nd fun l hl => by
    have := h l hl
    have : l ≠ n := fun e => hm (e ▸ hl)
    omega]
   simp [hm]
theorem Rd.nd {b n c : Nat} {rows left : List (List Int)} {leads : List Nat} (I : Rd b n rows c left leads) : leads.Nodup := I.up.imp fun h => Nat.ne_of_lt h
def frees (n : Nat) (leads : List Nat) : List Nat := (List.range n).filter fun j => decide (j ∉ leads)
theorem frees_len {n : Nat} {leads : List Nat} (nd : leads.Nodup) (h : ∀ l ∈ leads, l < n) : (frees n leads).length + leads.length = n := by
 have e := cnt_in nd h
 have p := (List.filter_append_perm (fun j => decide (j ∈ leads)) (List.range n)).length_eq
 rw [List.length_append, List.length_range, e] at p
 have : frees n leads = (List.range n).filter (fun j => !decide (j ∈ leads)) := List.filter_congr fun j _ => by simp
 rw [this]
 omega
end EL
namespace EL
open PySem L2
open PySem.Builtin.Int
def Bb (x : Int) : Prop := intBits x ≤ 60000000
theorem mulBb {x y : Int} (hx : Bb x) (hy : Bb y) : IntMulOk x y := IntMulOk.of_le hx hy (by decide)
theorem bb_of {x : Int} {m : Nat} (h : x.natAbs < 2 ^ m) (hm : m ≤ 60000000) : Bb x := Nat.le_trans (intBits_le_iff.mpr h) hm
theorem log_of {x m : Nat} (h : x < 2 ^ m) (hm : m ≤ 9000) : x.log2 < 9000 := by
 by_cases h0 : x = 0
 ·rw [h0]; decide +kernel
 ·exact Nat.lt_of_lt_of_le ((Nat.log2_lt h0).mpr h) hm
theorem op_fdivL {X : Cx} : OpR X (binaryOp .FloorDiv) (rI (fun _ j => 0 < j ∧ j.natAbs.log2 < 9000) fun i j => .int (i / j)) := opI fun i j _ _ _ _ _ hc q =>
 PyProof.Rows.floordiv_int (by have := hc.1; omega) (by rw [Int.fdiv_eq_ediv_of_nonneg i (Int.le_of_lt hc.1)]; exact q) (.inl (PyProof.noPylong_of_log2 hc.2))
theorem op_fdivNL {X : Cx} : OpR X (binaryOp .FloorDiv) (rI (fun _ j => j ≠ 0 ∧ j.natAbs.log2 < 9000) fun i j => .int (i.fdiv j)) := opI fun i j _ _ _ _ _ hc q =>
 PyProof.Rows.floordiv_int hc.1 q (.inl (PyProof.noPylong_of_log2 hc.2))
theorem w_forZl {K : PySem.W.Frag} {ta : TA} {g : TG} {tb : TS} {D : Ends} {σ : St} {H : Hp} (h : ta σ H fun vs H1 => ∃ a b, vs = [.ref a, .ref b] ∧ (∃ xs, SqL K H1 a xs) ∧ (∃ ys, SqL K H1 b ys) ∧ ForJ (Itzl K a b) g tb D σ H1) : tFor (iZpl K ta) g tb D σ H := h
theorem for_zpl {K : PySem.W.Frag} {a b : Addr} {xs zs : List V} (hz : zs.length = xs.length) {g : TG} {tb : TS} {D : Ends} {σ : St} {H : Hp} (Pv : Nat → St → Hp → Prop) (h0 : Pv 0 σ H) (hl : ∀ i σ H, Pv i σ H → SqL K H a xs ∧ SqL K H b zs)
  (hs : ∀ (i : Nat) (x y : V) σ H p, xs[i]? = some x → zs[i]? = some y → Pv i σ H → H p = none → g (.ref p) σ (upd H p (.tup [x, y])) fun σ2 H2 => tb { D with nx := Pv (i + 1), ct := Pv (i + 1), bk := D.nx } σ2 H2) (hd : ∀ σ H, Pv xs.length σ H → D.nx σ H) :
  ForJ (Itzl K a b) g tb D σ H := by
 refine ⟨fun i m σ H => m = xs.length - i ∧ i ≤ xs.length ∧ Pv i σ H, ⟨xs.length, by simp, Nat.zero_le _, h0⟩, ?_⟩
 rintro i m σ H ⟨rfl, hi, p⟩
 have qa := hl i σ H p
 by_cases hlt : i < xs.length
 ·have hlz : i < zs.length := by omega
  refine .inr ⟨⟨xs, zs, xs[i], zs[i], qa.1, qa.2, by simp [hlt], by simp [hlz]⟩, Pv (i + 1), fun σ' H' p' => ⟨xs.length - (i + 1), by omega, rfl, hlt, p'⟩, fun v H' yv => ?_⟩
  obtain ⟨q, x, y, rfl, hq, rfl, ex, ey⟩ := yv
  exact hs i x y σ H q (ex xs qa.1) (ey zs qa.2) p hq
 ·have e : i = xs.length := by omega
  subst e
  exact .inl ⟨⟨xs, zs, qa.1, qa.2, .inl (Nat.le_refl _)⟩, hd σ H p⟩
theorem w_while {c : TT} {tb : TS} {D : Ends} {σ : St} {H : Hp} (h : ∃ W : Nat → St → Hp → Prop, (∃ m, W m σ H) ∧ ∀ m σ H, W m σ H → c σ H fun b H1 => if b = true then ∃ N : St → Hp → Prop, (∀ σ' H', N σ' H' → ∃ m', m' < m ∧ W m' σ' H') ∧ tb { D with nx := N, ct := N, bk := D.nx } σ H1 else D.nx σ H1) : tWhile c tb D σ H := h
def rNiL : R2 := fun x y H Q => ∃ p xs, y = .ref p ∧ H p = some (.lst xs) ∧ flatV x = true ∧ xs.all flatV = true ∧ Q (.bl (!inV x xs)) H
theorem op_notInL {X : Cx} : OpR X (compareOp .NotIn) rNiL := fun pins s σ H x y v u Q I rx ry h => op_notIn_seq pins s σ H x y v u Q I rx ry (let ⟨p, xs, e, hp, f1, f2, q⟩ := h; ⟨p, xs, e, .inl (SqL.of hp), f1, f2, q⟩)
def RL (H : Hp) (as : List Addr) (rows : List (List Int)) : Prop := as.length = rows.length ∧ ∀ (i : Nat) (a : Addr) (r : List Int), as[i]? = some a → rows[i]? = some r → H a = some (.lst (r.map V.int))
theorem RL.same {H H' : Hp} {as : List Addr} {rows : List (List Int)} (k : Same H H') (h : RL H as rows) : RL H' as rows := ⟨h.1, fun i a r e1 e2 => k _ _ (h.2 i a r e1 e2)⟩
theorem RL.off {H : Hp} {as : List Addr} {rows : List (List Int)} {D : Addr} {o : HO} (hD : D ∉ as) (h : RL H as rows) : RL (upd H D o) as rows := ⟨h.1, fun i a r e1 e2 => by
 rw [upd_ne (fun e => hD (by rw [← e]; exact List.mem_of_getElem? e1))]
 exact h.2 i a r e1 e2⟩
theorem RL.snoc {H : Hp} {as : List Addr} {rows : List (List Int)} {a : Addr} {r : List Int} (h : RL H as rows) (ha : H a = some (.lst (r.map V.int))) : RL H (as ++ [a]) (rows ++ [r]) := by
 refine ⟨by rw [List.length_append, List.length_append, h.1]; rfl, fun i b q e1 e2 => ?_⟩
 by_cases hi : i < as.length
 ·rw [List.getElem?_append_left hi] at e1
  rw [List.getElem?_append_left (by rw [← h.1]; exact hi)] at e2
  exact h.2 i b q e1 e2
 ·have hi' : i = as.length := by
   have := (List.getElem?_eq_some_iff.mp e1).1
   rw [List.length_append] at this
   have : i < as.length + 1 := this
   omega
  rw [hi', List.getElem?_append_right (Nat.le_refl _), Nat.sub_self] at e1
  rw [hi', h.1, List.getElem?_append_right (Nat.le_refl _), Nat.sub_self] at e2
  cases e1
  cases e2
  exact ha
theorem RL.nil {H : Hp} : RL H [] [] := ⟨rfl, fun i a r e => nomatch e⟩
theorem RL.at_ {H : Hp} {as : List Addr} {rows : List (List Int)} (h : RL H as rows) {i : Nat} (hi : i < rows.length) : ∃ a, as[i]? = some a ∧ rows[i]? = some (rows.getD i []) ∧ H a = some (.lst ((rows.getD i []).map V.int)) := by
 have hi' : i < as.length := by rw [h.1]; exact hi
 have e : rows[i]? = some (rows.getD i []) := by rw [List.getD_eq_getElem?_getD, List.getElem?_eq_getElem hi]; rfl
 exact ⟨as[i], List.getElem?_eq_getElem hi', e, h.2 i _ _ (List.getElem?_eq_getElem hi') e⟩
theorem RL.map {H : Hp} : ∀ {as : List Addr} {rows : List (List Int)} (h : RL H as rows) {a : Addr}, a ∈ as → ∃ r ∈ rows, H a = some (.lst (r.map V.int)) := fun {as rows} h a ha => by
 obtain ⟨i, hi, e⟩ := List.getElem_of_mem ha
 have hi' : i < rows.length := by rw [← h.1]; exact hi
 exact ⟨rows[i], List.getElem_mem hi', h.2 i a _ (by rw [List.getElem?_eq_getElem hi, e]) (List.getElem?_eq_getElem hi')⟩
theorem RL.ne {H : Hp} {as : List Addr} {rows : List (List Int)} (h : RL H as rows) {l : Addr} (hl : H l = some (.lst (as.map V.ref))) : l ∉ as := fun hm => by
 obtain ⟨r, _, e⟩ := h.map hm
 rw [hl] at e
 cases as with
 | nil => exact nomatch hm
 | cons a as => cases r <;> simp at e
theorem cg_LL {D : Addr} {te : TE} {Q : VK} {ρ : St} {H : Hp} {K : PySem.W.Frag} {a : Addr} {as : List Addr} {rows : List (List Int)} (g : List Int → List Int) (ha : H a = some (.lst (as.map V.ref))) (hr : RL H as rows) (hn : rows.length ≤ 1000) (hD : H D = none)
  (h : ∀ (i : Nat) (q : Addr), as[i]? = some q → rows[i]? = some (rows.getD i []) → H q = some (.lst ((rows.getD i []).map V.int)) → ∀ H', Same H H' → ∀ R : V → Hp → Prop, (∀ y H'', Same H' H'' → H' y = none → H'' y = some (.lst ((g (rows.getD i [])).map V.int)) → R (.ref y) H'') → te (some (.ref q) :: ρ) H' R)
  (q : ∀ bs H', Same H H' → H' D = some (.lst (bs.map V.ref)) → RL H' bs (rows.map g) → (∀ b ∈ bs, H b = none) → Q (.ref D) H') : CGo (Itl K a) D (gName 0) tAll te Q (none :: ρ) H := by
 refine cgo_list (xs := as.map V.ref) (fun i ys H' => ∃ bs : List Addr, ys = bs.map V.ref ∧ RL H' bs ((rows.take i).map g) ∧ Same H H' ∧ D ∉ bs ∧ ∀ b ∈ bs, H b = none) ⟨[], rfl, by simpa using RL.nil, Same.new (Same.refl H) hD, by simp, by simp⟩ (fun i ys H' _ ⟨_, _, _, k', _⟩ => SqL.of (k' _ _ ha)) ?_ ?_
 ·rintro i x ys H' hx ⟨bs, rfl, hb, K', hDb, hfr⟩ hDy R S kR _
  have hi : i < as.length := by
   have := (List.getElem?_eq_some_iff.mp hx).1
   simpa using this
  have hi' : i < rows.length := by rw [← hr.1]; exact hi
  have ex : x = .ref as[i] := by
   rw [List.getElem?_map, List.getElem?_eq_getElem hi] at hx
   exact (Option.some.inj hx).symm
  subst ex
  have eg : rows[i]? = some (rows.getD i []) := by rw [List.getD_eq_getElem?_getD, List.getElem?_eq_getElem hi']; rfl
  refine w_all (iteT ?_)
  refine h i as[i] (List.getElem?_eq_getElem hi) eg (hr.2 i _ _ (List.getElem?_eq_getElem hi) eg) H' K' _ fun y H2 K2 hy ey => ?_
  have hyD : y ≠ D := fun e => by rw [e, hDy] at hy; cases hy
  have hyb : y ∉ bs := fun hm => by
   obtain ⟨r, _, e⟩ := hb.map hm
   rw [e] at hy
   cases hy
  have hyH : H y = none := by
   cases e : H y with
   | none => rfl
   | some o => rw [K' _ _ e] at hy; cases hy
  refine kR _ _ (K2 _ _ hDy) ?_ ⟨bs ++ [y], by rw [List.map_append]; rfl, ?_, (K'.trans K2).put hD, ?_, fun b hm => ?_⟩
  ·rw [List.length_map, hb.1, List.length_map, List.length_take]
   exact small1000 (by omega)
  ·rw [List.take_add_one, eg, List.map_append]
   refine RL.off ?_ (RL.snoc (hb.same K2) ey)
   rw [List.mem_append]
   rintro (z | z)
   ·exact hDb z
   ·exact hyD (List.mem_singleton.mp z).symm
  ·rw [List.mem_append]
   rintro (z | z)
   ·exact hDb z
   ·exact hyD (List.mem_singleton.mp z).symm
  ·rcases List.mem_append.mp hm with z | z
   ·exact hfr b z
   ·rw [List.mem_singleton.mp z]; exact hyH
 ·rintro ys H1 ⟨bs, rfl, hb, K1, _, hfr⟩ e1
  rw [List.length_map, List.take_of_length_le (by rw [hr.1]; exact Nat.le_refl _)] at hb
  exact q bs H1 K1 e1 hb hfr
theorem absN (x : Int) : (if x < 0 then -x else x) = (x.natAbs : Int) := by split <;> omega
theorem gcd_take (xs : List Int) (i : Nat) (hi : i < xs.length) : gcdL (xs.take (i + 1)) = Nat.gcd (gcdL (xs.take i)) (xs.getD i 0).natAbs := by
 unfold gcdL
 rw [List.take_add_one, List.getElem?_eq_getElem hi, List.foldl_append, List.getD_eq_getElem?_getD, List.getElem?_eq_getElem hi]
 rfl
theorem atL {xs : List Int} {i : Nat} (h : i < xs.length) : atI (xs.map V.int) (i : Int) = some (.int (xs.getD i 0)) := by
 refine atI_nat ?_
 rw [List.getElem?_map, List.getElem?_eq_getElem h, List.getD_eq_getElem?_getD, List.getElem?_eq_getElem h]
 rfl
theorem itI {xs : List Int} {i : Nat} {x : V} (h : (xs.map V.int)[i]? = some x) : i < xs.length ∧ x = .int (xs.getD i 0) := by
 have hi : i < xs.length := by
  have := (List.getElem?_eq_some_iff.mp h).1
  simpa using this
 rw [List.getElem?_map, List.getElem?_eq_getElem hi] at h
 refine ⟨hi, ?_⟩
 rw [List.getD_eq_getElem?_getD, List.getElem?_eq_getElem hi]
 exact (Option.some.inj h).symm
theorem itR {xs : List Addr} {i : Nat} {x : V} (h : (xs.map V.ref)[i]? = some x) : ∃ q, xs[i]? = some q ∧ x = .ref q := by
 have hi : i < xs.length := by
  have := (List.getElem?_eq_some_iff.mp h).1
  simpa using this
 rw [List.getElem?_map, List.getElem?_eq_getElem hi] at h
 exact ⟨_, List.getElem?_eq_getElem hi, (Option.some.inj h).symm⟩
theorem cg_zpl {D : Addr} {te : TE} {Q : VK} {ρ : St} {H : Hp} {K : PySem.W.Frag} {a b : Addr} {xs ys : List Int} (g : Int → Int → Int) (ha : H a = some (.lst (xs.map V.int))) (hb : H b = some (.lst (ys.map V.int))) (hlen : xs.length = ys.length) (hn : xs.length ≤ 1000) (hD : H D = none)
  (h : ∀ x ∈ xs, ∀ y ∈ ys, ∀ H', Same H H' → ∀ R : V → Hp → Prop, (∀ H'', Same H' H'' → R (.int (g x y)) H'') → te (some (.int x) :: some (.int y) :: ρ) H' R)
  (q : ∀ H', Same H H' → H' D = some (.lst ((List.zipWith g xs ys).map V.int)) → Q (.ref D) H') : CGo (Itzl K a b) D (gTup K 2 (gCons (gName 0) (gCons (gName 1) gNil))) tAll te Q (none :: none :: ρ) H := by
 have lz : (List.zipWith g xs ys).length = xs.length := by rw [List.length_zipWith]; omega
 refine cgo_zpl (xs := xs.map V.int) (zs := ys.map V.int) (n := xs.length) (by rw [List.length_map]; exact Nat.le_refl _) (by rw [List.length_map]; omega) (.inl (by rw [List.length_map]; exact Nat.le_refl _)) (fun i zs H' => zs = ((List.zipWith g xs ys).take i).map V.int ∧ Same H H') ⟨rfl, Same.new (Same.refl H) hD⟩ (fun i zs H' _ ⟨_, k'⟩ => ⟨SqL.of (k' _ _ ha), SqL.of (k' _ _ hb)⟩) ?_ ?_
 ·rintro i x y zs H' p hi hx hy ⟨rfl, K'⟩ hDy hp R S kR _
  obtain ⟨h1, rfl⟩ := itI hx
  obtain ⟨h2, rfl⟩ := itI hy
  refine w_all (iteT ?_)
  refine h _ (getD_mem h1) _ (getD_mem h2) _ (K'.new hp) _ fun H2 K2 => ?_
  have KK : Same H' H2 := (Same.new (Same.refl _) hp).trans K2
  refine kR _ _ (KK _ _ hDy) (by rw [List.length_map, List.length_take]; exact small1000 (by omega)) ⟨?_, (K'.trans KK).put hD⟩
  rw [List.take_add_one, List.getElem?_zipWith, List.map_append, List.getElem?_eq_getElem h1, List.getElem?_eq_getElem h2, List.getD_eq_getElem?_getD, List.getD_eq_getElem?_getD, List.getElem?_eq_getElem h1, List.getElem?_eq_getElem h2]
  rfl
 ·rintro zs H1 ⟨rfl, K1⟩ e1
  rw [List.take_of_length_le (by omega)] at e1
  exact q H1 K1 e1
def rListL : List V → Hp → VK → Prop := fun xs H Q => ∃ p ys, xs = [.ref p] ∧ H p = some (.lst ys) ∧ ∀ l, H l = none → Q (.ref l) (upd H l (.lst ys))
theorem call_listL {X : Cx} : CallR X (.type "list") rListL := fun pins s σ H xs us Q I r h => call_list_of pins s σ H xs us Q I r (let ⟨p, ys, e, hp, q⟩ := h; ⟨p, ys, e, .inl (SqL.of hp), q⟩)
theorem ins_td {α : Type} : ∀ (l : List α) (n : Nat) (a : α), n ≤ l.length → l.take n ++ a :: l.drop n = l.insertIdx n a
 | l, 0, a, _ => by simp
 | [], n + 1, a, h => absurd h (by simp)
 | x :: l, n + 1, a, h => by
  rw [List.take_succ_cons, List.drop_succ_cons, List.cons_append, List.insertIdx_succ_cons, ins_td l n a (by simpa using h)]
theorem RL.erase {H : Hp} {as : List Addr} {rows : List (List Int)} (h : RL H as rows) (p : Nat) : RL H (as.eraseIdx p) (rows.eraseIdx p) := by
 refine ⟨by rw [List.length_eraseIdx, List.length_eraseIdx, h.1], fun i a r e1 e2 => ?_⟩
 rw [List.getElem?_eraseIdx] at e1 e2
 split at e1
 ·next hi => rw [if_pos hi] at e2; exact h.2 _ _ _ e1 e2
 ·next hi => rw [if_neg hi] at e2; exact h.2 _ _ _ e1 e2
theorem RL.insert {H : Hp} {as : List Addr} {rows : List (List Int)} (h : RL H as rows) {m : Nat} {a : Addr} {r : List Int} (ha : H a = some (.lst (r.map V.int))) (hm : m ≤ rows.length) : RL H (as.insertIdx m a) (rows.insertIdx m r) := by
 have hl := h.1
 refine ⟨by rw [List.length_insertIdx, List.length_insertIdx, hl], fun i b q e1 e2 => ?_⟩
 rw [List.getElem?_insertIdx] at e1 e2
 split at e1
 ·next hi => rw [if_pos hi] at e2; exact h.2 _ _ _ e1 e2
 ·next hi =>
  rw [if_neg hi] at e2
  split at e1
  ·next hj =>
   rw [if_pos hj] at e2
   rw [if_pos (by omega)] at e1 e2
   cases e1
   cases e2
   exact ha
  ·next hj => rw [if_neg hj] at e2; exact h.2 _ _ _ e1 e2
theorem RL.take {H : Hp} {as : List Addr} {rows : List (List Int)} (h : RL H as rows) (n : Nat) : RL H (as.take n) (rows.take n) := by
 refine ⟨by rw [List.length_take, List.length_take, h.1], fun i a r e1 e2 => ?_⟩
 rw [List.getElem?_take] at e1 e2
 split at e1
 ·next hi => rw [if_pos hi] at e2; exact h.2 _ _ _ e1 e2
 ·cases e1
def nL (ls : List Nat) : List V := ls.map fun n : Nat => V.int (n : Int)
def oV : Option Nat → V
 | none => .non
 | some t => .int (t : Int)
theorem w_isN {ta : TE} {σ : St} {H : Hp} {Q : VK} (h : ta σ H fun x H1 => Q (.bl (decide (x = .non))) H1) : tIsN ta σ H Q := h
theorem w_cont {D : Ends} {σ : St} {H : Hp} (h : D.ct σ H) : tCont D σ H := h
theorem seqIndex_nat {p n : Nat} (h : p < n) : seqIndex? (p : Int) n = some p := by
 have := PySem.StrLaws.seqIndex_nonneg (i := (p : Int)) (n := n) (by omega) (by omega)
 rw [Int.toNat_natCast] at this
 exact this
theorem cut_to {xs : List V} {k : Nat} (h : k ≤ xs.length) : cutV xs none (some (k : Int)) = xs.take k := by
 unfold cutV
 rw [HT.sIx_none, HT.sIx_nat, List.drop_zero, Nat.sub_zero, Nat.min_eq_left h]
theorem erase_map {α β : Type} (f : α → β) : ∀ (l : List α) (p : Nat), (l.map f).eraseIdx p = (l.eraseIdx p).map f
 | [], _ => rfl
 | _ :: _, 0 => rfl
 | a :: l, p + 1 => by
  rw [List.map_cons, List.eraseIdx_cons_succ, List.eraseIdx_cons_succ, List.map_cons, erase_map f l p]
theorem ins_map {α β : Type} (f : α → β) (l : List α) (n : Nat) (a : α) (h : n ≤ l.length) : (l.map f).insertIdx n (f a) = (l.insertIdx n a).map f := by
 rw [← ins_td _ _ _ h, ← ins_td _ _ _ (by rw [List.length_map]; exact h), List.map_append, List.map_cons, List.map_take, List.map_drop]
theorem ins_mem {α : Type} {l : List α} {n : Nat} {a b : α} (hn : n ≤ l.length) (h : b ∈ l.insertIdx n a) : b = a ∨ b ∈ l := (List.mem_insertIdx hn).mp h
theorem ixK' {n r : Nat} (h1 : r < n) : ixN n (r : Int) = some r := by
 unfold ixN
 rw [if_pos (by omega), if_pos (by omega), Int.toNat_natCast]
theorem bb_fdiv {x y : Int} (h : Bb x) : Bb (x.fdiv y) := intBits_fdiv_le h
end EL
namespace K29
open PySem L2 G2 EL
theorem nob {H : Hp} {a : Addr} (o : HO) (h : H a = none) : ∃ H2, upd H a o = H2 ∧ Same H H2 ∧ H2 a = some o := ⟨_, rfl, Same.new (Same.refl _) h, upd_same⟩
theorem nop {H G : Hp} {a : Addr} (o : HO) (M : Same H G) (h : H a = none) : ∃ H2, upd G a o = H2 ∧ Same H H2 ∧ H2 a = some o := ⟨_, rfl, M.put h, upd_same⟩
theorem lf2 {H H' : Hp} (k : Same H H') {a0 a1 : Addr} {o0 o1 : HO} (h0 : H a0 = some o0) (h1 : H a1 = some o1) : H' a0 = some o0 ∧ H' a1 = some o1 := ⟨k _ _ h0, k _ _ h1⟩
theorem lf3 {H H' : Hp} (k : Same H H') {a0 a1 a2 : Addr} {o0 o1 o2 : HO} (h0 : H a0 = some o0) (h1 : H a1 = some o1) (h2 : H a2 = some o2) : H' a0 = some o0 ∧ H' a1 = some o1 ∧ H' a2 = some o2 := ⟨k _ _ h0, k _ _ h1, k _ _ h2⟩
theorem lf4 {H H' : Hp} (k : Same H H') {a0 a1 a2 a3 : Addr} {o0 o1 o2 o3 : HO} (h0 : H a0 = some o0) (h1 : H a1 = some o1) (h2 : H a2 = some o2) (h3 : H a3 = some o3) : H' a0 = some o0 ∧ H' a1 = some o1 ∧ H' a2 = some o2 ∧ H' a3 = some o3 := ⟨k _ _ h0, k _ _ h1, k _ _ h2, k _ _ h3⟩
theorem lf5 {H H' : Hp} (k : Same H H') {a0 a1 a2 a3 a4 : Addr} {o0 o1 o2 o3 o4 : HO} (h0 : H a0 = some o0) (h1 : H a1 = some o1) (h2 : H a2 = some o2) (h3 : H a3 = some o3) (h4 : H a4 = some o4) : H' a0 = some o0 ∧ H' a1 = some o1 ∧ H' a2 = some o2 ∧ H' a3 = some o3 ∧ H' a4 = some o4 := ⟨k _ _ h0, k _ _ h1, k _ _ h2, k _ _ h3, k _ _ h4⟩
theorem lf6 {H H' : Hp} (k : Same H H') {a0 a1 a2 a3 a4 a5 : Addr} {o0 o1 o2 o3 o4 o5 : HO} (h0 : H a0 = some o0) (h1 : H a1 = some o1) (h2 : H a2 = some o2) (h3 : H a3 = some o3) (h4 : H a4 = some o4) (h5 : H a5 = some o5) : H' a0 = some o0 ∧ H' a1 = some o1 ∧ H' a2 = some o2 ∧ H' a3 = some o3 ∧ H' a4 = some o4 ∧ H' a5 = some o5 := ⟨k _ _ h0, k _ _ h1, k _ _ h2, k _ _ h3, k _ _ h4, k _ _ h5⟩
theorem lf7 {H H' : Hp} (k : Same H H') {a0 a1 a2 a3 a4 a5 a6 : Addr} {o0 o1 o2 o3 o4 o5 o6 : HO} (h0 : H a0 = some o0) (h1 : H a1 = some o1) (h2 : H a2 = some o2) (h3 : H a3 = some o3) (h4 : H a4 = some o4) (h5 : H a5 = some o5) (h6 : H a6 = some o6) : H' a0 = some o0 ∧ H' a1 = some o1 ∧ H' a2 = some o2 ∧ H' a3 = some o3 ∧ H' a4 = some o4 ∧ H' a5 = some o5 ∧ H' a6 = some o6 := ⟨k _ _ h0, k _ _ h1, k _ _ h2, k _ _ h3, k _ _ h4, k _ _ h5, k _ _ h6⟩
theorem lf8 {H H' : Hp} (k : Same H H') {a0 a1 a2 a3 a4 a5 a6 a7 : Addr} {o0 o1 o2 o3 o4 o5 o6 o7 : HO} (h0 : H a0 = some o0) (h1 : H a1 = some o1) (h2 : H a2 = some o2) (h3 : H a3 = some o3) (h4 : H a4 = some o4) (h5 : H a5 = some o5) (h6 : H a6 = some o6) (h7 : H a7 = some o7) : H' a0 = some o0 ∧ H' a1 = some o1 ∧ H' a2 = some o2 ∧ H' a3 = some o3 ∧ H' a4 = some o4 ∧ H' a5 = some o5 ∧ H' a6 = some o6 ∧ H' a7 = some o7 := ⟨k _ _ h0, k _ _ h1, k _ _ h2, k _ _ h3, k _ _ h4, k _ _ h5, k _ _ h6, k _ _ h7⟩
local macro_rules | `(tactic| walk_at "v") => `(tactic| repeat (with_reducible first
  | refine w_seq ?_ | refine w_asg ?_ | refine w_gname ?_ | refine w_op ?_ | refine w_var rfl ?_ | refine w_c ?_ | refine w_rI0 ?_ | refine w_ifs ?_ | refine w_ife ?_ | refine w_test ?_ | refine w_tb ?_ | refine w_bl ?_ | refine w_not ?_ | refine w_ret ?_ | refine w_retN ?_
  | refine w_nil ?_ | refine w_cons ?_ | refine w_lst ?_ | refine w_tup ?_ | refine w_cb ?_ | refine w_call ?_ | refine w_gsub ?_ | refine w_and ?_ | refine w_or ?_ | refine w_next ?_ | refine w_all ?_ | refine w_vals ?_ | refine w_compR ?_ | refine w_compT ?_ | refine w_forR ?_ | refine w_forT ?_ | refine w_forL ?_ | refine w_drop ?_ | refine w_bm ?_ | refine w_compZ ?_ | refine w_compL ?_ | refine w_chain ?_ | refine w_sl ?_ | refine w_nopart ?_ | refine w_part ?_ | refine w_unI ?_ | refine iteT ?_ | refine iteF ?_))
abbrev Rows := List (List Int × List Int)
def Rls (H : Hp) (rs : List Addr) (tg : Rows) (m : Nat) : Prop := rs.length = tg.length ∧ ∀ (i : Nat) (r : Addr) (t g : List Int), rs[i]? = some r → tg[i]? = some (t, g) → t.length = m ∧ g.length = m ∧ (∀ x ∈ t, 0 ≤ x ∧ x ≤ 30) ∧ (∀ x ∈ g, 0 ≤ x ∧ x ≤ 30) ∧ ∃ a b, H r = some (.tup [.ref a, .ref b]) ∧ H a = some (.tup (t.map V.int)) ∧ H b = some (.tup (g.map V.int))
theorem Rls.tk {H H' : Hp} {rs : List Addr} {tg : Rows} {m : Nat} (k : TK H H') (h : Rls H rs tg m) : Rls H' rs tg m := ⟨h.1, fun i r t g e1 e2 => let ⟨h1, h2, h3, h4, a, b, h5, h6, h7⟩ := h.2 i r t g e1 e2; ⟨h1, h2, h3, h4, a, b, k.t _ _ h5, k.t _ _ h6, k.t _ _ h7⟩⟩
theorem Rls.get {H : Hp} {rs : List Addr} {tg : Rows} {m i : Nat} (h : Rls H rs tg m) (hi : i < tg.length) : ∃ (r a b : Addr), rs[i]? = some r ∧ H r = some (.tup [.ref a, .ref b]) ∧ H a = some (.tup (tg[i].1.map V.int)) ∧ H b = some (.tup (tg[i].2.map V.int)) ∧ tg[i].1.length = m ∧ tg[i].2.length = m ∧ (∀ x ∈ tg[i].1, 0 ≤ x ∧ x ≤ 30) ∧ (∀ x ∈ tg[i].2, 0 ≤ x ∧ x ≤ 30) := by
 have hi' : i < rs.length := by have := h.1; omega
 obtain ⟨h1, h2, h3, h4, a, b, h5, h6, h7⟩ := h.2 i rs[i] tg[i].1 tg[i].2 (by simp [hi']) (by simp [hi])
 exact ⟨rs[i], a, b, by simp [hi'], h5, h6, h7, h1, h2, h3, h4⟩
def chg (x : List Int × List Int) : List Int := (List.range x.1.length).map fun j => x.2.getD j 0 - x.1.getD j 0
structure PotK (H : Hp) (p : Addr) (m : Nat) (tg : Rows) : Prop where
 ex : ∃ (ps pr pin pb : Addr) (ans : Int) (rs : List Addr) (nm : List Str), H p = some (.tup [.ref ps, .ref pr, .ref pin, .ref pb, .int ans]) ∧ H ps = some (.tup (nm.map V.str)) ∧ nm.length = m ∧ H pr = some (.tup (rs.map V.ref)) ∧ Rls H rs tg m
 n8 : tg.length ≤ 8
 m8 : m ≤ 8
 m0 : 0 < m
abbrev sCd : Stmt := top 1
abbrev nCd : List Str := ["numbers", "divisor", "number", "other", "rest"]
theorem nmCd : Nm nCd (defScope sCd) := ⟨by decide +kernel, by decide +kernel⟩
theorem scCd : FnScope nCd ["numbers"] (defScope sCd) := ⟨rfl, rfl, rfl, by decide +kernel, rfl, by decide +kernel, by decide +kernel⟩
def spCd : Sp := fun vs H Q _ => ∃ (p : Addr) (xs : List Int), vs = [.ref p] ∧ H p = some (.lst (xs.map V.int)) ∧ Q (.int ((gcdL xs : Nat) : Int)) H
section
variable {P : Program} {w : World} {K : PySem.W.Frag} {mg : Str → Option Value} {base : Heap}
set_option maxHeartbeats 4000000 in
theorem ok_Cd {f : Addr} {fd : FuncData} (B : Bl mg) (F : Fun K "common_divisor" "common_divisor" sCd f fd) : FnOk P w K mg base CX0 1 f fd ["numbers"] spCd := by
 refine F.ok scCd (fun vs H Q E h => ?_) (fun cdv A outer s H vs Q E hr h => ?_)
 ·obtain ⟨p, xs, rfl, _⟩ := h
  rfl
 ·obtain ⟨p, xs, rfl, hp, k⟩ := h
  refine' ⟨_, ?hb, ?rd⟩
  case' hb => skip
  case' hb => refine' pss_cons ?g1 ?g2
  case' g2 => refine' pss_cons ?g3 ?g4
  case' g4 => refine' pss_one ?g5
  case g1 => exact ps_setD nmCd 1 pe_int
  case' g3 => refine' ps_for PassesOwn.never rfl ?g6 (pgd nmCd 2) ?g7
  case g6 => exact pi_list (pvd nmCd 0)
  case' g7 => refine' pss_cons ?g8 ?g9
  case' g9 => refine' pss_one ?g10
  case g8 => exact ps_setD nmCd 3 (pe_cB call_abs B.abs PyProof.Rows.boot_abs (pa_1 (pvd nmCd 2)))
  case' g10 => refine' ps_while PassesOwn.never ?g11 ?g12
  case g11 => exact pt_cmpR op_ne (pvd nmCd 3) pe_int (nomark _)
  case' g12 => refine' pss_cons ?g13 ?g14
  case' g14 => refine' pss_cons ?g15 ?g16
  case' g16 => refine' pss_one ?g17
  case g13 => exact ps_setD nmCd 4 (pe_op op_mod (pvd nmCd 1) (pvd nmCd 3))
  case g15 => exact ps_setD nmCd 1 (pvd nmCd 3)
  case g17 => exact ps_setD nmCd 3 (pvd nmCd 4)
  case g5 => exact ps_ret (pvd nmCd 1)
  case rd =>
   walk_at "v"
   refine ⟨p, rfl, ⟨_, SqL.of hp⟩, ?_⟩
   refine for_list (xs := xs.map V.int) (fun i σ H' => ∃ u2 u3 u4, σ = [some (.ref p), some (.int ((gcdL (xs.take i) : Nat) : Int)), u2, u3, u4] ∧ H = H') ⟨none, none, none, rfl, rfl⟩ (fun i σ H' _ ⟨_, _, _, _, e⟩ => e ▸ SqL.of hp) ?_ ?_
   ·rintro i x σ H' hx ⟨u2, u3, u4, rfl, rfl⟩
    obtain ⟨hi, rfl⟩ := itI hx
    walk_at "v"
    refine ⟨_, rfl, ?_⟩
    rw [absN]
    walk_at "v"
    refine w_while ⟨fun n σ H' => ∃ (d o : Nat) (u4 : Option V), σ = [some (.ref p), some (.int (d : Int)), some (.int (xs.getD i 0)), some (.int (o : Int)), u4] ∧ H = H' ∧ n = o ∧ Nat.gcd d o = Nat.gcd (gcdL (xs.take i)) (xs.getD i 0).natAbs, ⟨_, _, _, u4, rfl, rfl, rfl, rfl⟩, ?_⟩
    rintro n σ H' ⟨d, o, u4', rfl, rfl, rfl, hg⟩
    walk_at "v"
    refine ⟨rfl, ?_⟩
    walk_at "v"
    refine iteNB (fun h => ?_) (fun h => ?_)
    ·have ho : n ≠ 0 := fun z => h (by rw [z]; rfl)
     refine ⟨_, fun σ' H' w => ⟨d % n, Nat.mod_lt _ (by omega), w⟩, ?_⟩
     walk_at "v"
     refine ⟨_, _, rfl, rfl, by omega, ?_⟩
     walk_at "v"
     refine ⟨n, d % n, _, rfl, rfl, rfl, ?_⟩
     rw [← hg, Nat.gcd_comm, ← Nat.gcd_rec, Nat.gcd_comm]
    ·have ho : n = 0 := by injection h with h; omega
     subst ho
     rw [Nat.gcd_zero_right] at hg
     rw [hg, ← gcd_take xs i hi]
     exact ⟨_, _, _, rfl, rfl⟩
   ·rintro σ H' ⟨u2, u3, u4, rfl, rfl⟩
    rw [List.length_map, List.take_length]
    walk_at "v"
    exact k
end
abbrev sWd : Stmt := top 2
abbrev nWd : List Str := ["numbers", "divisor"]
theorem nmWd : Nm nWd (defScope sWd) := ⟨by decide +kernel, by decide +kernel⟩
theorem scWd : FnScope nWd ["numbers"] (defScope sWd) := ⟨rfl, rfl, rfl, by decide +kernel, rfl, by decide +kernel, by decide +kernel⟩
def qWda (s : Stmt) : Scope := match s with
 | .Return (some (.ListComp _ _ sc _)) _ => sc
 | _ => { kind := .function, names := [], isGenerator := false, isCoroutine := false }
abbrev cWda : Scope := qWda ((defBody sWd).getD 1 (.Pass ⟨0, 0, 0, 0⟩))
theorem bsWda : BScope (defScope sWd) cWda ["number"] ["divisor"] [] := { okind := by decide +kernel, kind := by decide +kernel, nocell := by decide +kernel, names := by decide +kernel, fr := by decide +kernel, ff := by decide +kernel, nd := by decide +kernel, vis := by decide +kernel, loc := by decide +kernel, gl := by decide +kernel }
def spWd : Sp := fun vs H Q _ => ∃ (p : Addr) (xs : List Int), vs = [.ref p] ∧ H p = some (.lst (xs.map V.int)) ∧ xs.length ≤ 1000 ∧ (gcdL xs).log2 < 9000 ∧ ∀ q H', Same H H' → H q = none → H' q = some (.lst ((wd xs).map V.int)) → Q (.ref q) H'
section
variable {P : Program} {w : World} {K : PySem.W.Frag} {mg : Str → Option Value} {base : Heap}
set_option maxHeartbeats 4000000 in
theorem ok_Wd {f : Addr} {fd : FuncData} (B : Bl mg) (fC : Has P w K mg base 1 "common_divisor" ["numbers"] spCd) (F : Fun K "without_divisor" "without_divisor" sWd f fd) : FnOk P w K mg base CX0 2 f fd ["numbers"] spWd := by
 refine F.ok scWd (fun vs H Q E h => ?_) (fun cdv A outer s H vs Q E hr h => ?_)
 ·obtain ⟨p, xs, rfl, _⟩ := h
  rfl
 ·obtain ⟨p, xs, rfl, hp, hl, hg, k⟩ := h
  refine' ⟨_, ?hb, ?rd⟩
  case' hb => skip
  case' hb => refine' pss_cons ?g1 ?g2
  case' g2 => refine' pss_one ?g3
  case g1 => exact ps_setD nmWd 1 (pe_f fC hr (by decide) (pa_1 (pvd nmWd 0)))
  case' g3 => refine' ps_ret ?g4
  case' g4 => refine' pe_comp (ix := [1]) bsWda.toCScope rfl rfl ?g5 ?g6 ?g7 ?g8
  case g5 => exact pi_list (pvd nmWd 0)
  case g6 => exact fun _ _ _ _ _ _ => pgb bsWda 0
  case g7 => exact fun _ _ _ _ _ _ => pts_nil
  case g8 => exact fun _ _ _ _ _ _ => pe_ifExp (pt_cmpR op_gt (pvb bsWda 1) pe_int (nomark _)) (pe_op op_fdivL (pvb bsWda 0) (pvb bsWda 1)) pe_int
  case rd =>
   walk_at "v"
   refine ⟨p, xs, rfl, hp, ?_⟩
   walk_at "v"
   refine ⟨p, rfl, ⟨_, SqL.of hp⟩, fun D hD => ?_⟩
   refine cg_lst (ws := xs) V.int (fun x => V.int (if 0 < gcdL xs then x / (gcdL xs : Int) else 0)) hp hl hD (fun x hx H' K' R kR => ?_) (fun H2 K2 e2 => ?_)
   ·walk_at "v"
    have kR := kR _ (Same.refl _)
    refine iteD (fun h => ?_) (fun h => ?_)
    ·rw [if_pos (by omega)] at kR
     walk_at "v"
     exact ⟨_, _, rfl, rfl, ⟨by omega, by rw [Int.natAbs_natCast]; exact hg⟩, kR⟩
    ·rw [if_neg (by omega)] at kR
     walk_at "v"
     exact kR
   exact k D H2 K2 hD (by rw [e2]; unfold wd; rw [List.map_map]; rfl)
end
abbrev sFw : Stmt := top 24
abbrev nFw : List Str := ["rows", "start", "column", "place"]
theorem nmFw : Nm nFw (defScope sFw) := ⟨by decide +kernel, by decide +kernel⟩
theorem scFw : FnScope nFw ["rows", "start", "column"] (defScope sFw) := ⟨rfl, rfl, rfl, by decide +kernel, rfl, by decide +kernel, by decide +kernel⟩
def spFw : Sp := fun vs H Q _ => ∃ (l : Addr) (s c : Nat) (as : List Addr) (rows : List (List Int)), vs = [.ref l, .int (s : Int), .int (c : Int)] ∧ H l = some (.lst (as.map V.ref)) ∧ RL H as rows ∧ s ≤ rows.length ∧ rows.length ≤ 1000 ∧ (∀ r ∈ rows, c < r.length) ∧ Q (oV (firstW rows s c)) H
section
variable {P : Program} {w : World} {K : PySem.W.Frag} {mg : Str → Option Value} {base : Heap}
set_option maxHeartbeats 4000000 in
theorem ok_Fw {f : Addr} {fd : FuncData} (B : Bl mg) (F : Fun K "first_with" "first_with" sFw f fd) : FnOk P w K mg base CX0 1 f fd ["rows", "start", "column"] spFw := by
 refine F.ok scFw (fun vs H Q E h => ?_) (fun cdv A outer s H vs Q E hr h => ?_)
 ·obtain ⟨l, s', c, as, rows, rfl, _⟩ := h
  rfl
 ·obtain ⟨l, s', c, as, rows, rfl, hl, hr, hs, hn, hc, k⟩ := h
  refine' ⟨_, ?hb, ?rd⟩
  case' hb => skip
  case' hb => refine' pss_cons ?g1 ?g2
  case' g2 => refine' pss_one ?g3
  case' g1 => refine' ps_for PassesOwn.never rfl ?g4 (pgd nmFw 3) ?g5
  case g4 => exact pi_r2 B.range (pa_2 (pvd nmFw 1) (pe_cB call_len_seq B.len PySem.boot_len (pa_1 (pvd nmFw 0))))
  case' g5 => refine' pss_one ?g6
  case' g6 => refine' ps_if ?g7 ?g8 pss_nil
  case g7 => exact pt_cmpR op_ne (pe_ix ix_d (pe_ix ix_d (pvd nmFw 0) (pvd nmFw 3) (fun _ _ => rfl)) (pvd nmFw 2) (fun _ _ => rfl)) pe_int (nomark _)
  case' g8 => refine' pss_one ?g10
  case g10 => exact ps_ret (pvd nmFw 3)
  case g3 => exact ps_ret pe_non
  case rd =>
   walk_at "v"
   refine w_forR2 ?_
   walk_at "v"
   refine ⟨l, _, rfl, .inl (SqL.of hl), ?_⟩
   rw [List.length_map, hr.1]
   walk_at "v"
   refine ⟨_, _, rfl, ⟨by omega, by omega, by omega, by omega⟩, ?_⟩
   rw [show ((rows.length : Int) - (s' : Int)).toNat = rows.length - s' by omega]
   refine for_range (n := rows.length - s') (fun i σ H' => ∃ u, σ = [some (.ref l), some (.int (s' : Int)), some (.int (c : Int)), u] ∧ H = H' ∧ ∀ j, s' ≤ j → j < s' + i → ro rows j c = 0) ⟨none, rfl, rfl, fun j h1 h2 => by omega⟩ ?_ ?_
   ·rintro i σ H' hi ⟨u, rfl, rfl, hf⟩
    obtain ⟨a, e1, e2, e3⟩ := hr.at_ (i := s' + i) (by omega)
    have ei : (s' : Int) + (i : Int) = ((s' + i : Nat) : Int) := by omega
    rw [ei]
    walk_at "v"
    refine w_ixL (v := .ref a) hl (atI_nat (by rw [List.getElem?_map, e1]; rfl)) ?_
    walk_at "v"
    refine w_ixL e3 (atL (hc _ (List.mem_of_getElem? e2))) ?_
    walk_at "v"
    refine ⟨rfl, ?_⟩
    walk_at "v"
    refine iteNB (fun h => ?_) (fun h => ?_)
    ·have hne : ro rows (s' + i) c ≠ 0 := fun z => h (congrArg V.int z)
     have ef : firstW rows s' c = some (s' + i) := by
      unfold firstW
      rw [List.find?_range'_eq_some]
      refine ⟨by simpa using hne, List.mem_range'_1.mpr ⟨by omega, by omega⟩, fun j h1 h2 => ?_⟩
      simpa using hf j h1 h2
     rw [ef] at k
     walk_at "v"
     exact k
    ·have he : ro rows (s' + i) c = 0 := by injection h
     refine ⟨_, rfl, rfl, fun j h1 h2 => ?_⟩
     rcases Nat.lt_or_ge j (s' + i) with z | z
     ·exact hf j h1 z
     ·rw [show j = s' + i by omega]; exact he
   ·rintro σ H' ⟨u, rfl, rfl, hf⟩
    have ef : firstW rows s' c = none := by
     unfold firstW
     rw [List.find?_eq_none]
     intro j hj
     have := List.mem_range'_1.mp hj
     simpa using hf j this.1 (by omega)
    rw [ef] at k
    walk_at "v"
    exact k
end
abbrev sWc : Stmt := top 25
abbrev nWc : List Str := ["row", "lead", "column", "size", "times"]
theorem nmWc : Nm nWc (defScope sWc) := ⟨by decide +kernel, by decide +kernel⟩
theorem scWc : FnScope nWc ["row", "lead", "column"] (defScope sWc) := ⟨rfl, rfl, rfl, by decide +kernel, rfl, by decide +kernel, by decide +kernel⟩
def qWca (s : Stmt) : Scope := match s with
 | .Return (some (.Call _ [(.ListComp _ _ sc _)] _ _)) _ => sc
 | _ => { kind := .function, names := [], isGenerator := false, isCoroutine := false }
abbrev cWca : Scope := qWca ((defBody sWc).getD 2 (.Pass ⟨0, 0, 0, 0⟩))
theorem bsWca : BScope (defScope sWc) cWca ["one", "other"] ["size", "times"] [] := { okind := by decide +kernel, kind := by decide +kernel, nocell := by decide +kernel, names := by decide +kernel, fr := by decide +kernel, ff := by decide +kernel, nd := by decide +kernel, vis := by decide +kernel, loc := by decide +kernel, gl := by decide +kernel }
def spWc : Sp := fun vs H Q _ => ∃ (a b : Addr) (c n m : Nat) (row lead : List Int), vs = [.ref a, .ref b, .int (c : Int)] ∧ H a = some (.lst (row.map V.int)) ∧ H b = some (.lst (lead.map V.int)) ∧ row.length = n ∧ lead.length = n ∧ n ≤ 1000 ∧ c < n ∧ (∀ x ∈ row, x.natAbs < 2 ^ m) ∧ (∀ x ∈ lead, x.natAbs < 2 ^ m) ∧ 2 * m + 1 ≤ 9000 ∧ ∀ q H', Same H H' → H q = none → H' q = some (.lst ((wcol row lead c).map V.int)) → Q (.ref q) H'
section
variable {P : Program} {w : World} {K : PySem.W.Frag} {mg : Str → Option Value} {base : Heap}
set_option maxHeartbeats 4000000 in
theorem ok_Wc {f : Addr} {fd : FuncData} (B : Bl mg) (fW : Has P w K mg base 2 "without_divisor" ["numbers"] spWd) (F : Fun K "without_column" "without_column" sWc f fd) : FnOk P w K mg base CX0 3 f fd ["row", "lead", "column"] spWc := by
 refine F.ok scWc (fun vs H Q E h => ?_) (fun cdv A outer s H vs Q E hr h => ?_)
 ·obtain ⟨a, b, c, n, m, row, lead, rfl, _⟩ := h
  rfl
 ·obtain ⟨a, b, c, n, m, row, lead, rfl, ha, hb, h1, h2, hn, hc, b1, b2, hm, k⟩ := h
  refine' ⟨_, ?hb, ?rd⟩
  case' hb => skip
  case' hb => refine' pss_cons ?g1 ?g2
  case' g2 => refine' pss_cons ?g3 ?g4
  case' g4 => refine' pss_one ?g5
  case g1 => exact ps_setD nmWc 3 (pe_ix ix_d (pvd nmWc 1) (pvd nmWc 2) (fun _ _ => rfl))
  case g3 => exact ps_setD nmWc 4 (pe_ix ix_d (pvd nmWc 0) (pvd nmWc 2) (fun _ _ => rfl))
  case' g5 => refine' ps_ret ?g6
  case' g6 => refine' pe_f fW hr (by decide) ?g7
  case' g7 => refine' pa_1 ?g8
  case' g8 => refine' pe_comp (ix := [3, 4]) bsWca.toCScope rfl rfl ?g9 ?g10 ?g11 ?g12
  case g9 => exact pi_zpl B.zip (pa_2 (pvd nmWc 0) (pvd nmWc 1))
  case g10 =>
   intro _ _ _ _ _ _
   refine' pgb_tup (n := 2) rfl ?g13
   case' g13 => refine' pgs_cons ?g17 ?g16
   case g17 => exact pgb bsWca 0
   case' g16 => refine' pgs_cons ?g19 pgs_nil
   case g19 => exact pgb bsWca 1
  case g11 => exact fun _ _ _ _ _ _ => pts_nil
  case g12 => exact fun _ _ _ _ _ _ => pe_op op_sub (pe_op op_mulB (pvb bsWca 2) (pvb bsWca 0)) (pe_op op_mulB (pvb bsWca 3) (pvb bsWca 1))
  case rd =>
   walk_at "v"
   refine w_ixL hb (atL (by omega)) ?_
   walk_at "v"
   refine w_ixL ha (atL (by omega)) ?_
   walk_at "v"
   refine w_compZl ?_
   walk_at "v"
   refine ⟨a, b, rfl, ⟨_, SqL.of ha⟩, ⟨_, SqL.of hb⟩, fun D hD => ?_⟩
   have q1 := cf_bit b1 c
   have q2 := cf_bit b2 c
   refine cg_zpl (fun x y => lead.getD c 0 * x - row.getD c 0 * y) ha hb (by omega) (by omega) hD (fun x hx y hy H' K' R kR => ?_) (fun H2 K2 e2 => ?_)
   ·walk_at "v"
    refine w_rI (mulBb (bb_of q2 (by omega)) (bb_of (b1 x hx) (by omega))) ?_
    walk_at "v"
    refine w_rI (mulBb (bb_of q1 (by omega)) (bb_of (b2 y hy) (by omega))) ?_
    walk_at "v"
    exact kR _ (Same.refl _)
   walk_at "v"
   refine ⟨D, _, rfl, e2, by rw [List.length_zipWith]; omega, ?_, fun q H3 K3 hq e3 => ?_⟩
   ·generalize hz : List.zipWith (fun x y => lead.getD c 0 * x - row.getD c 0 * y) row lead = Z
    by_cases h0 : gcdL Z = 0
    ·rw [h0]; decide +kernel
    obtain ⟨x, hx, x0⟩ := gcdL_ex h0
    refine log_of (m := 2 * m + 1) (Nat.lt_of_le_of_lt (gcdL_le hx x0) ?_) hm
    obtain ⟨j, hj, e⟩ := List.getElem_of_mem hx
    have ex : x = cf Z j := by
     unfold cf
     rw [List.getD_eq_getElem?_getD, List.getElem?_eq_getElem hj, e]
     rfl
    rw [ex, ← hz, zw_at h1 h2 _ (by simp), Nat.pow_succ]
    have a1 := lt_pow_mul q2 (cf_bit b1 j)
    have a2 := lt_pow_mul q1 (cf_bit b2 j)
    unfold cf at a1 a2 ⊢
    omega
   ·exact k q H3 (K2.trans K3) (Same.none K2 hq) e3
end
abbrev sRd : Stmt := top 23
abbrev nRd : List Str := ["many", "rows", "left", "leads", "column", "place", "lead"]
theorem nmRd : Nm nRd (defScope sRd) := ⟨by decide +kernel, by decide +kernel⟩
theorem scRd : FnScope nRd ["many", "rows"] (defScope sRd) := ⟨rfl, rfl, rfl, by decide +kernel, rfl, by decide +kernel, by decide +kernel⟩
def qRda (s : Stmt) : Scope := match s with
 | .Assign _ (.ListComp _ _ sc _) _ => sc
 | _ => { kind := .function, names := [], isGenerator := false, isCoroutine := false }
abbrev cRda : Scope := qRda ((defBody sRd).getD 0 (.Pass ⟨0, 0, 0, 0⟩))
theorem bsRda : BScope (defScope sRd) cRda ["row"] [] ["list"] := { okind := by decide +kernel, kind := by decide +kernel, nocell := by decide +kernel, names := by decide +kernel, fr := by decide +kernel, ff := by decide +kernel, nd := by decide +kernel, vis := by decide +kernel, loc := by decide +kernel, gl := by decide +kernel }
def qRdb (s : Stmt) : Scope := match s with
 | .For _ _ [_, _, _, (.Assign _ (.ListComp _ _ sc _) _), _, _] _ _ => sc
 | _ => { kind := .function, names := [], isGenerator := false, isCoroutine := false }
abbrev cRdb : Scope := qRdb ((defBody sRd).getD 2 (.Pass ⟨0, 0, 0, 0⟩))
theorem bsRdb : BScope (defScope sRd) cRdb ["row"] ["column", "lead"] ["without_column"] := { okind := by decide +kernel, kind := by decide +kernel, nocell := by decide +kernel, names := by decide +kernel, fr := by decide +kernel, ff := by decide +kernel, nd := by decide +kernel, vis := by decide +kernel, loc := by decide +kernel, gl := by decide +kernel }
theorem loRd_2 : (defScope sRd).names.lookup ("left" : Str) = some .local := by decide +kernel
def spRd : Sp := fun vs H Q _ => ∃ (l : Addr) (n b : Nat) (as : List Addr) (rows : List (List Int)), vs = [.int (n : Int), .ref l] ∧ H l = some (.lst (as.map V.ref)) ∧ RL H as rows ∧ (∀ r ∈ rows, r.length = n) ∧ n ≤ 100 ∧ rows.length ≤ 100 ∧ (∀ r ∈ rows, ∀ x ∈ r, x.natAbs < 2 ^ b) ∧ bdE b (min n rows.length) ≤ 9000 ∧
 ∀ t l1 l2 as' H', Same H H' → H' t = some (.tup [.ref l1, .ref l2]) → H' l1 = some (.lst (as'.map V.ref)) → RL H' as' ((red rows n).1.take (red rows n).2.length) → H' l2 = some (.lst (nL (red rows n).2)) → Q (.ref t) H'
theorem bdE_mono {b : Nat} : ∀ {i j : Nat}, i ≤ j → bdE b i ≤ bdE b j
 | i, 0, h => by rw [Nat.le_zero.mp h]; exact Nat.le_refl _
 | i, j + 1, h => by
  rcases Nat.lt_or_ge i (j + 1) with z | z
  ·have := bdE_mono (b := b) (i := i) (j := j) (by omega)
   show _ ≤ 2 * bdE b j + 1
   omega
  ·rw [show i = j + 1 by omega]; exact Nat.le_refl _
theorem Rd.lele {b n c : Nat} {rows left : List (List Int)} {leads : List Nat} (I : Rd b n rows c left leads) : leads.length ≤ c := by
 have h1 := cnt_in I.nd I.lt
 have h2 := List.length_filter_le (fun j => decide (j ∈ leads)) (List.range c)
 rw [List.length_range] at h2
 omega
section
variable {P : Program} {w : World} {K : PySem.W.Frag} {mg : Str → Option Value} {base : Heap}
set_option maxHeartbeats 4000000 in
theorem ok_Rd {f : Addr} {fd : FuncData} (B : Bl mg) (fF : Has P w K mg base 1 "first_with" ["rows", "start", "column"] spFw) (fW : Has P w K mg base 3 "without_column" ["row", "lead", "column"] spWc) (F : Fun K "reduced" "reduced" sRd f fd) : FnOk P w K mg base CX0 4 f fd ["many", "rows"] spRd := by
 refine F.ok scRd (fun vs H Q E h => ?_) (fun cdv A outer s H vs Q E hr h => ?_)
 ·obtain ⟨l, n, b, as, rows, rfl, _⟩ := h
  rfl
 ·obtain ⟨l, n, b, as, rows, rfl, hl, hR, hlen, hn, hrn, hb, hbd, k⟩ := h
  refine' ⟨_, ?hb, ?rd⟩
  case' hb => skip
  case' hb => refine' pss_cons ?g1 ?g2
  case' g2 => refine' pss_cons ?g3 ?g4
  case' g4 => refine' pss_cons ?g5 ?g6
  case' g6 => refine' pss_one ?g7
  case' g1 => refine' ps_setC (i := 2) (ix := []) nmRd.nd rfl loRd_2 bsRda.toCScope rfl rfl ?g8 ?g9 ?g10 ?g11
  case g8 => exact pi_list (pvd nmRd 1)
  case g9 => exact fun _ _ _ _ _ _ => pgb bsRda 0
  case g10 => exact fun _ _ _ _ _ _ => pts_nil
  case g11 => exact fun _ _ _ _ _ _ => pe_cT call_listL B.list PyProof.Rows.boot_list (pa_1 (pvb bsRda 0)) (bsRda.g 0)
  case g3 => exact ps_setD nmRd 3 (pe_lst pa_nil)
  case' g5 => refine' ps_for PassesOwn.never rfl ?g12 (pgd nmRd 4) ?g13
  case g12 => exact pi_r1 B.range (pa_1 (pvd nmRd 0))
  case' g13 => refine' pss_cons ?g14 ?g15
  case' g15 => refine' pss_cons ?g16 ?g17
  case' g17 => refine' pss_cons ?g18 ?g19
  case' g19 => refine' pss_cons ?g20 ?g21
  case' g21 => refine' pss_cons ?g22 ?g23
  case' g23 => refine' pss_one ?g24
  case g14 => exact ps_setD nmRd 5 (pe_f fF hr (by decide) (pa_c (pvd nmRd 2) (pa_2 (pe_cB call_len_seq B.len PySem.boot_len (pa_1 (pvd nmRd 3))) (pvd nmRd 4))))
  case' g16 => refine' ps_if ?g25 ?g26 pss_nil
  case g25 => exact pt_cmp (pc_isN (pvd nmRd 5))
  case' g26 => refine' pss_one ?g28
  case g28 => exact ps_continue
  case g18 => exact ps_setD nmRd 6 (pe_bm PySem.F.plainAttrs_list PySem.F.slot_list_pop PySem.F.type_list_pop mt_popAt (pvd nmRd 2) (pa_1 (pvd nmRd 5)))
  case' g20 => refine' ps_setC (i := 2) (ix := [4, 6]) nmRd.nd rfl loRd_2 bsRdb.toCScope rfl rfl ?g29 ?g30 ?g31 ?g32
  case g29 => exact pi_list (pvd nmRd 2)
  case g30 => exact fun _ _ _ _ _ _ => pgb bsRdb 0
  case g31 => exact fun _ _ _ _ _ _ => pts_nil
  case g32 => exact fun _ _ _ _ _ _ => pe_f fW hr (by decide) (pa_c (pvb bsRdb 0) (pa_2 (pvb bsRdb 2) (pvb bsRdb 1))) (bsRdb.g 0)
  case g22 => exact ps_expr (pe_bm PySem.F.plainAttrs_list PySem.F.slot_list_insert PySem.F.type_list_insert mt_insert (pvd nmRd 2) (pa_2 (pe_cB call_len_seq B.len PySem.boot_len (pa_1 (pvd nmRd 3))) (pvd nmRd 6)))
  case g24 => exact ps_expr (pe_bm PySem.F.plainAttrs_list PySem.F.slot_list_append PySem.F.type_list_append mt_append (pvd nmRd 3) (pa_1 (pvd nmRd 4)))
  case g7 => exact ps_ret (pe_tup (pa_2 (pe_slice sl_list (pvd nmRd 2) po_none (po_some (pe_cB call_len_seq B.len PySem.boot_len (pa_1 (pvd nmRd 3))))) (pvd nmRd 3)))
  case rd =>
   walk_at "v"
   refine ⟨l, rfl, ⟨_, SqL.of hl⟩, fun D hD => ?_⟩
   refine cg_LL id hl hR (by omega) hD (fun i q e1 e2 e3 H' K' R kR => ?_) (fun bs H1 K1 e1 hb1 hf1 => ?_)
   ·walk_at "v"
    refine ⟨q, _, rfl, K' _ _ e3, fun y hy => ?_⟩
    exact kR y _ (Same.new (Same.refl _) hy) hy upd_same
   rw [List.map_id] at hb1
   walk_at "v"
   refine ⟨Nat.zero_le _, fun ld hld => ?_⟩
   obtain ⟨H2, q, K2, e2⟩ := nob (.lst []) hld; rw [q]; clear q
   have hDH : H D = none := hD
   have hldD : ld ≠ D := fun e => by rw [e, e1] at hld; cases hld
   have hldH : H ld = none := Same.none K1 hld
   have hldb : ld ∉ bs := fun hm => by
    obtain ⟨r, _, e⟩ := hb1.map hm
    rw [e] at hld
    cases hld
   walk_at "v"
   refine ⟨_, rfl, by omega, by omega, ?_⟩
   rw [Int.toNat_natCast]
   refine for_range (n := n) (fun c σ H' => ∃ (u4 u5 u6 : Option V) (l' : Addr) (as' : List Addr), σ = [some (.int (n : Int)), some (.ref l), some (.ref l'), some (.ref ld), u4, u5, u6] ∧ Same H H' ∧ H' l' = some (.lst (as'.map V.ref)) ∧ RL H' as' (red rows c).1 ∧ H' ld = some (.lst (nL (red rows c).2)) ∧ H l' = none ∧ l' ≠ ld ∧ ld ∉ as') ⟨none, none, none, D, bs, rfl, K1.trans K2, K2 _ _ e1, hb1.same K2, e2, hDH, Ne.symm hldD, hldb⟩ ?_ ?_
   ·rintro c σ H3 hc ⟨u4, u5, u6, l', as', rfl, K3, e3, r3, f3, hl', hne, hni⟩
    have I := Rd.all hlen hb c
    have hcnt := I.cnt
    have hle := I.le
    have hlc := Rd.lele I
    have I1 := I.step
    rw [Int.zero_add]
    show _
    walk_at "v"
    refine ⟨ld, _, rfl, .inl (SqL.of f3), ?_⟩
    rw [show (nL (red rows c).2).length = (red rows c).2.length from List.length_map _]
    walk_at "v"
    refine ⟨l', (red rows c).2.length, c, as', (red rows c).1, rfl, e3, r3, hle, by omega, fun r hr' => by rw [I.len r hr']; exact hc, ?_⟩
    have er : red rows (c + 1) = redS c (red rows c) := rfl
    unfold redS at er
    walk_at "v"
    refine w_isN ?_
    walk_at "v"
    cases hf : firstW (red rows c).1 (red rows c).2.length c with
    | none =>
     rw [hf] at er
     refine iteP rfl ?_
     refine w_cont ?_
     exact ⟨_, _, _, l', as', rfl, K3, e3, er ▸ r3, er ▸ f3, hl', hne, hni⟩
    | some p =>
     rw [hf] at er
     obtain ⟨p1, p2, p3⟩ := firstW_some hf
     refine iteQ (fun z => by cases z) ?_
     obtain ⟨ap, a1, a2, a3⟩ := r3.at_ p2
     have hpa : p < as'.length := by rw [r3.1]; exact p2
     walk_at "v"
     refine ⟨.inl ⟨rfl, _, SqL.of e3⟩, ?_⟩
     walk_at "v"
     refine ⟨l', _, _, p, .ref ap, rfl, rfl, e3, by omega, by omega, ?_, ?_, ?_⟩
     ·exact seqIndex_nat (by rw [List.length_map]; exact hpa)
     ·rw [List.getElem?_map, a1]; rfl
     have hnl' : l' ∉ as' := r3.ne e3
     have K4 : Same H (upd H3 l' (.lst ((as'.map V.ref).eraseIdx p))) := K3.put hl'
     have e4 : upd H3 l' (.lst ((as'.map V.ref).eraseIdx p)) l' = some (.lst ((as'.eraseIdx p).map V.ref)) := by rw [upd_same, erase_map]
     have r4 : RL (upd H3 l' (.lst ((as'.map V.ref).eraseIdx p))) as' (red rows c).1 := r3.off hnl'
     have f4 : upd H3 l' (.lst ((as'.map V.ref).eraseIdx p)) ld = some (.lst (nL (red rows c).2)) := by rw [upd_ne (Ne.symm hne)]; exact f3
     have a4 : upd H3 l' (.lst ((as'.map V.ref).eraseIdx p)) ap = some (.lst (((red rows c).1.getD p []).map V.int)) := r4.2 p ap _ a1 a2
     generalize upd H3 l' (.lst ((as'.map V.ref).eraseIdx p)) = H4 at K4 e4 r4 f4 a4 ⊢
     walk_at "v"
     refine ⟨l', rfl, ⟨_, SqL.of e4⟩, fun D2 hD2 => ?_⟩
     have bdc : 2 * bdE b (red rows c).2.length + 1 ≤ 9000 := by
      have h1 : bdE b ((red rows c).2.length + 1) ≤ bdE b (min n rows.length) := bdE_mono (by omega)
      have h2 : bdE b ((red rows c).2.length + 1) = 2 * bdE b (red rows c).2.length + 1 := rfl
      omega
     refine cg_LL (fun r => wcol r ((red rows c).1.getD p []) c) e4 (r4.erase p) (by rw [List.length_eraseIdx]; split <;> omega) hD2 (fun i q g1 g2 g3 H' K' R kR => ?_) (fun bs2 H5 K5 e5 r5 hf5 => ?_)
     ·have hmem := List.mem_of_mem_eraseIdx (List.mem_of_getElem? g2)
      walk_at "v"
      exact ⟨q, ap, c, n, bdE b (red rows c).2.length, _, _, rfl, K' _ _ g3, K' _ _ a4, I.len _ hmem, I.len _ (List.mem_of_getElem? a2), by omega, hc, I.bit _ hmem, I.bit _ (List.mem_of_getElem? a2), bdc, fun y H'' KK hy ey => kR y H'' KK hy ey⟩
     have f5 := K5 _ _ f4
     have hD2H : H D2 = none := Same.none K4 hD2
     have hD2ld : D2 ≠ ld := fun e => by rw [e, f4] at hD2; cases hD2
     have hD2ap : D2 ≠ ap := fun e => by rw [e, a4] at hD2; cases hD2
     have hapld : ap ≠ ld := fun e => hni (e ▸ List.mem_of_getElem? a1)
     have hldb2 : ld ∉ bs2 := fun hm => by rw [hf5 _ hm] at f4; cases f4
     walk_at "v"
     refine ⟨.inl ⟨rfl, _, SqL.of e5⟩, ?_⟩
     walk_at "v"
     refine ⟨ld, _, rfl, .inl (SqL.of f5), ?_⟩
     rw [show (nL (red rows c).2).length = (red rows c).2.length from List.length_map _]
     walk_at "v"
     have lb2 : bs2.length = (red rows c).1.length - 1 := by rw [r5.1, List.length_map, List.length_eraseIdx, if_pos p2]
     generalize hmi : (((red rows c).2.length : Nat) : Int) = mi
     have hmn : mi.toNat = (red rows c).2.length := by omega
     refine ⟨D2, _, mi, .ref ap, rfl, rfl, e5, by omega, by rw [List.length_map]; omega, by rw [List.length_map]; exact small1000 (by omega), ?_⟩
     have e6 : (bs2.map V.ref).take mi.toNat ++ V.ref ap :: (bs2.map V.ref).drop mi.toNat = (bs2.insertIdx (red rows c).2.length ap).map V.ref := by
      rw [hmn, ins_td _ _ _ (by rw [List.length_map]; omega), ins_map _ _ _ _ (by omega)]
     rw [e6]
     have r6 : RL H5 (bs2.insertIdx (red rows c).2.length ap) (red rows (c + 1)).1 := by
      rw [er]
      exact RL.insert r5 (K5 _ _ a4) (by rw [List.length_map, List.length_eraseIdx, if_pos p2]; omega)
     have hD2n : D2 ∉ bs2.insertIdx (red rows c).2.length ap := fun hm => by
      rcases ins_mem (by omega) hm with z | z
      ·exact hD2ap z
      ·exact r5.ne e5 z
     have K6 : Same H (upd H5 D2 (.lst ((bs2.insertIdx (red rows c).2.length ap).map V.ref))) := (K4.trans K5).put hD2H
     have e7 : upd H5 D2 (.lst ((bs2.insertIdx (red rows c).2.length ap).map V.ref)) D2 = some (.lst ((bs2.insertIdx (red rows c).2.length ap).map V.ref)) := upd_same
     have r7 := r6.off (o := .lst ((bs2.insertIdx (red rows c).2.length ap).map V.ref)) hD2n
     have f7 : upd H5 D2 (.lst ((bs2.insertIdx (red rows c).2.length ap).map V.ref)) ld = some (.lst (nL (red rows c).2)) := by rw [upd_ne (Ne.symm hD2ld)]; exact f5
     generalize upd H5 D2 (.lst ((bs2.insertIdx (red rows c).2.length ap).map V.ref)) = H6 at K6 e7 r7 f7 ⊢
     have hldn : ld ∉ bs2.insertIdx (red rows c).2.length ap := fun hm => by
      rcases ins_mem (by omega) hm with z | z
      ·exact hapld z.symm
      ·exact hldb2 z
     walk_at "v"
     refine ⟨.inl ⟨rfl, _, SqL.of f7⟩, ?_⟩
     walk_at "v"
     refine ⟨ld, _, _, rfl, rfl, f7, by rw [show (nL (red rows c).2).length = (red rows c).2.length from List.length_map _]; exact small1000 (by omega), ?_⟩
     refine ⟨_, _, _, D2, bs2.insertIdx (red rows c).2.length ap, rfl, K6.put hldH, by rw [upd_ne hD2ld]; exact e7, r7.off hldn, ?_, hD2H, hD2ld, hldn⟩
     rw [upd_same, er]
     show some (HO.lst _) = some (HO.lst (nL ((red rows c).2 ++ [c])))
     unfold nL
     rw [List.map_append]
     rfl
   ·rintro σ H3 ⟨u4, u5, u6, l', as', rfl, K3, e3, r3, f3, hl', hne, hni⟩
    have I := Rd.all hlen hb n
    have hle := I.le
    have hcnt := I.cnt
    walk_at "v"
    refine ⟨ld, _, rfl, .inl (SqL.of f3), ?_⟩
    rw [show (nL (red rows n).2).length = (red rows n).2.length from List.length_map _]
    refine ⟨_, rfl, ?_⟩
    refine ⟨l', _, rfl, SqL.of e3, fun s1 hs1 => ?_⟩
    have ec : cutV (as'.map V.ref) none (some (((red rows n).2.length : Nat) : Int)) = (as'.take (red rows n).2.length).map V.ref := by
     rw [cut_to (by rw [List.length_map, r3.1]; exact hle), List.map_take]
    rw [ec]
    obtain ⟨H4, q, K4, e4⟩ := nob (.lst ((as'.take (red rows n).2.length).map V.ref)) hs1; rw [q]; clear q
    walk_at "v"
    refine ⟨by show 2 ≤ sizeLine; decide, fun t ht => ?_⟩
    obtain ⟨H5, q, K5, e5⟩ := nob (.tup [.ref s1, .ref ld]) ht; rw [q]; clear q
    exact k t s1 ld _ H5 ((K3.trans K4).trans K5) e5 (K5 _ _ e4) ((r3.take _).same (K4.trans K5)) ((K4.trans K5) _ _ f3)
end
abbrev sCm : Stmt := top 27
abbrev nCm : List Str := ["one", "other"]
theorem nmCm : Nm nCm (defScope sCm) := ⟨by decide +kernel, by decide +kernel⟩
theorem scCm : FnScope nCm ["one", "other"] (defScope sCm) := ⟨rfl, rfl, rfl, by decide +kernel, rfl, by decide +kernel, by decide +kernel⟩
def spCm : Sp := fun vs H Q _ => ∃ a b : Int, vs = [.int a, .int b] ∧ b ≠ 0 ∧ Bb a ∧ Bb b ∧ b.natAbs < 2 ^ 9000 ∧ ∀ H', Same H H' → Q (.int (cm a b)) H'
section
variable {P : Program} {w : World} {K : PySem.W.Frag} {mg : Str → Option Value} {base : Heap}
set_option maxHeartbeats 4000000 in
theorem ok_Cm {f : Addr} {fd : FuncData} (B : Bl mg) (fC : Has P w K mg base 1 "common_divisor" ["numbers"] spCd) (F : Fun K "common_multiple" "common_multiple" sCm f fd) : FnOk P w K mg base CX0 2 f fd ["one", "other"] spCm := by
 refine F.ok scCm (fun vs H Q E h => ?_) (fun cdv A outer s H vs Q E hr h => ?_)
 ·obtain ⟨a, b, rfl, _⟩ := h
  rfl
 ·obtain ⟨a, b, rfl, hb0, ha, hb, hbb, k⟩ := h
  refine' ⟨_, ?hb, ?rd⟩
  case' hb => skip
  case' hb => refine' pss_one ?g1
  case g1 => exact ps_ret (pe_op op_fdivL (pe_cB call_abs B.abs PyProof.Rows.boot_abs (pa_1 (pe_op op_mulB (pvd nmCm 0) (pvd nmCm 1)))) (pe_f fC hr (by decide) (pa_1 (pe_lst (pa_2 (pvd nmCm 0) (pvd nmCm 1))))))
  case rd =>
   walk_at "v"
   refine w_rI (mulBb ha hb) ?_
   walk_at "v"
   refine ⟨_, rfl, ?_⟩
   rw [absN]
   walk_at "v"
   refine ⟨by show 2 ≤ sizeLine; decide, fun l hl => ?_⟩
   obtain ⟨H1, q, K1, e1⟩ := nob (.lst [.int a, .int b]) hl; rw [q]; clear q
   walk_at "v"
   refine ⟨l, [a, b], rfl, e1, ?_⟩
   have hm : b ∈ [a, b] := by simp
   have hg := gcdL_le hm hb0
   have hz : gcdL [a, b] ≠ 0 := fun z => hb0 (gcdL_zero z b hm)
   refine ⟨_, _, rfl, rfl, ⟨by omega, by rw [Int.natAbs_natCast]; exact log_of (Nat.lt_of_le_of_lt hg hbb) (Nat.le_refl _)⟩, ?_⟩
   exact k _ K1
end
abbrev sNm : Stmt := top 26
abbrev nNm : List Str := ["many", "rows", "leads", "free", "bottom", "row", "lead", "numbers"]
theorem nmNm : Nm nNm (defScope sNm) := ⟨by decide +kernel, by decide +kernel⟩
theorem scNm : FnScope nNm ["many", "rows", "leads", "free"] (defScope sNm) := ⟨rfl, rfl, rfl, by decide +kernel, rfl, by decide +kernel, by decide +kernel⟩
def qNma (s : Stmt) : Scope := match s with
 | .Assign _ (.ListComp _ _ sc _) _ => sc
 | _ => { kind := .function, names := [], isGenerator := false, isCoroutine := false }
abbrev cNma : Scope := qNma ((defBody sNm).getD 2 (.Pass ⟨0, 0, 0, 0⟩))
theorem bsNma : BScope (defScope sNm) cNma ["column"] [] [] := { okind := by decide +kernel, kind := by decide +kernel, nocell := by decide +kernel, names := by decide +kernel, fr := by decide +kernel, ff := by decide +kernel, nd := by decide +kernel, vis := by decide +kernel, loc := by decide +kernel, gl := by decide +kernel }
theorem loNm_7 : (defScope sNm).names.lookup ("numbers" : Str) = some .local := by decide +kernel
def spNm : Sp := fun vs H Q _ => ∃ (l ld : Addr) (n f b : Nat) (as : List Addr) (R : List (List Int)) (leads : List Nat), vs = [.int (n : Int), .ref l, .ref ld, .int (f : Int)] ∧ H l = some (.lst (as.map V.ref)) ∧ RL H as R ∧ H ld = some (.lst (nL leads)) ∧ R.length = leads.length ∧ (∀ r ∈ R, r.length = n) ∧ n ≤ 100 ∧ leads.length ≤ 100 ∧ f < n ∧ (∀ x ∈ leads, x < n) ∧ (∀ i, i < leads.length → ro R i (leads.getD i 0) ≠ 0) ∧ (∀ r ∈ R, ∀ x ∈ r, x.natAbs < 2 ^ b) ∧ b ≤ 9000 ∧ (gcdL (numK n R leads f (botK R leads leads.length) leads.length)).log2 < 9000 ∧
 ∀ q H', Same H H' → H' q = some (.tup ((vecF n R leads f).map V.int)) → Q (.ref q) H'
theorem itN {ls : List Nat} {i : Nat} {x : V} (h : (nL ls)[i]? = some x) : i < ls.length ∧ x = .int ((ls.getD i 0 : Nat) : Int) := by
 unfold nL at h
 have hi : i < ls.length := by
  have := (List.getElem?_eq_some_iff.mp h).1
  simpa using this
 rw [List.getElem?_map, List.getElem?_eq_getElem hi] at h
 refine ⟨hi, ?_⟩
 rw [List.getD_eq_getElem?_getD, List.getElem?_eq_getElem hi]
 exact (Option.some.inj h).symm
theorem nL_len (ls : List Nat) : (nL ls).length = ls.length := List.length_map _
section
variable {P : Program} {w : World} {K : PySem.W.Frag} {mg : Str → Option Value} {base : Heap}
set_option maxHeartbeats 4000000 in
theorem ok_Nm {f : Addr} {fd : FuncData} (B : Bl mg) (fC : Has P w K mg base 2 "common_multiple" ["one", "other"] spCm) (fW : Has P w K mg base 2 "without_divisor" ["numbers"] spWd) (F : Fun K "nought_maker" "nought_maker" sNm f fd) : FnOk P w K mg base CX0 3 f fd ["many", "rows", "leads", "free"] spNm := by
 refine F.ok scNm (fun vs H Q E h => ?_) (fun cdv A outer s H vs Q E hr h => ?_)
 ·obtain ⟨l, ld, n, fr, b, as, R, leads, rfl, _⟩ := h
  rfl
 ·obtain ⟨l, ld, n, fr, b, as, R, leads, rfl, hl, hR, hld, hrl, hlen, hn, hll, hfr, hlt, hown, hbit, hb, hgl, k⟩ := h
  refine' ⟨_, ?hb, ?rd⟩
  case' hb => skip
  case' hb => refine' pss_cons ?g1 ?g2
  case' g2 => refine' pss_cons ?g3 ?g4
  case' g4 => refine' pss_cons ?g5 ?g6
  case' g6 => refine' pss_cons ?g7 ?g8
  case' g8 => refine' pss_cons ?g9 ?g10
  case' g10 => refine' pss_one ?g11
  case g1 => exact ps_setD nmNm 4 pe_int
  case' g3 => refine' ps_for PassesOwn.never rfl ?g12 (pg_tup rfl (pgs_cons (pgd nmNm 5) (pgs_cons (pgd nmNm 6) pgs_nil))) ?g13
  case g12 => exact pi_zpl B.zip (pa_2 (pvd nmNm 1) (pvd nmNm 2))
  case' g13 => refine' pss_one ?g14
  case g14 => exact ps_setD nmNm 4 (pe_f fC hr (by decide) (pa_2 (pvd nmNm 4) (pe_ix ix_d (pvd nmNm 5) (pvd nmNm 6) (fun _ _ => rfl))))
  case' g5 => refine' ps_setC (i := 7) (ix := []) nmNm.nd rfl loNm_7 bsNma.toCScope rfl rfl ?g15 ?g16 ?g17 ?g18
  case g15 => exact pi_r1 B.range (pa_1 (pvd nmNm 0))
  case g16 => exact fun _ _ _ _ _ _ => pgb bsNma 0
  case g17 => exact fun _ _ _ _ _ _ => pts_nil
  case g18 => exact fun _ _ _ _ _ _ => pe_int
  case g7 => exact ps_asg (pvd nmNm 4) (pg_sub (pvd nmNm 7) (pvd nmNm 3) set_d)
  case' g9 => refine' ps_for PassesOwn.never rfl ?g19 (pg_tup rfl (pgs_cons (pgd nmNm 5) (pgs_cons (pgd nmNm 6) pgs_nil))) ?g20
  case g19 => exact pi_zpl B.zip (pa_2 (pvd nmNm 1) (pvd nmNm 2))
  case' g20 => refine' pss_one ?g21
  case g21 => exact ps_asg (pe_op op_mulB (pe_un un_neg (pe_ix ix_d (pvd nmNm 5) (pvd nmNm 3) (fun _ _ => rfl))) (pe_op op_fdivNL (pvd nmNm 4) (pe_ix ix_d (pvd nmNm 5) (pvd nmNm 6) (fun _ _ => rfl)))) (pg_sub (pvd nmNm 7) (pvd nmNm 6) set_d)
  case g11 => exact ps_ret (pe_cT call_tupL B.tuple PyProof.Rows.boot_tuple (pa_1 (pe_f fW hr (by decide) (pa_1 (pvd nmNm 7)))))
  case rd =>
   have bbit := bot_bit (rows := R) (leads := leads) (m := leads.length) (B := b) (fun i hi => cf_bit (hbit _ (getD_mem (by omega))) _)
   have bbb : ∀ i, i ≤ leads.length → Bb (botK R leads i) := fun i hi => by
    refine bb_of (m := i * b + 1) (Nat.lt_of_le_of_lt (bbit i hi) (Nat.pow_lt_pow_right (by decide) (by omega))) ?_
    have : i * b ≤ 100 * 9000 := Nat.mul_le_mul (by omega) hb
    omega
   walk_at "v"
   refine w_forZl ?_
   walk_at "v"
   refine ⟨l, ld, rfl, ⟨_, SqL.of hl⟩, ⟨_, SqL.of hld⟩, ?_⟩
   refine for_zpl (xs := as.map V.ref) (zs := nL leads) (by rw [List.length_map, nL_len, hR.1, hrl]) (fun i σ H' => ∃ u5 u6 u7, σ = [some (.int (n : Int)), some (.ref l), some (.ref ld), some (.int (fr : Int)), some (.int (botK R leads i)), u5, u6, u7] ∧ Same H H') ⟨none, none, none, rfl, Same.refl H⟩ (fun i σ H' ⟨_, _, _, _, k'⟩ => ⟨SqL.of (k' _ _ hl), SqL.of (k' _ _ hld)⟩) ?_ ?_
   ·rintro i x y σ H1 z hx hy ⟨u5, u6, u7, rfl, K1⟩ hz
    obtain ⟨a, ea, rfl⟩ := itR hx
    obtain ⟨hi, rfl⟩ := itN hy
    obtain ⟨a', e1, e2, e3⟩ := hR.at_ (i := i) (by omega)
    rw [ea] at e1
    cases e1
    have hli := hlt _ (getD_mem (d := 0) hi)
    have hlr : (R.getD i []).length = n := hlen _ (List.mem_of_getElem? e2)
    have hbr := hbit _ (List.mem_of_getElem? e2)
    have q1 := cf_bit hbr (leads.getD i 0)
    refine w_gtup upd_same rfl ?_
    refine ⟨_, _, rfl, ?_⟩
    walk_at "v"
    refine ⟨_, _, rfl, ?_⟩
    walk_at "v"
    refine ⟨rfl, ?_⟩
    have K2 : Same H1 (upd H1 z (.tup [.ref a, .int ((leads.getD i 0 : Nat) : Int)])) := Same.new (Same.refl _) hz
    generalize upd H1 z (.tup [.ref a, .int ((leads.getD i 0 : Nat) : Int)]) = H2 at K2 ⊢
    have e4 := (K1.trans K2) _ _ e3
    walk_at "v"
    refine w_ixL e4 (atL (by omega)) ?_
    walk_at "v"
    refine ⟨_, _, rfl, hown i hi, bbb i (by omega), bb_of q1 (by omega), Nat.lt_of_lt_of_le q1 (Nat.pow_le_pow_right (by decide) hb), fun H3 K3 => ?_⟩
    exact ⟨_, _, _, rfl, (K1.trans K2).trans K3⟩
   rintro σ H1 ⟨u5, u6, u7, rfl, K1⟩
   rw [List.length_map, hR.1, hrl]
   generalize hbt : botK R leads leads.length = bt at *
   have hbbt : Bb bt := hbt ▸ bbb _ (Nat.le_refl _)
   walk_at "v"
   refine ⟨_, rfl, by omega, by omega, fun D hD => ?_⟩
   rw [Int.toNat_natCast]
   have hDH : H D = none := Same.none K1 hD
   refine cg_rng (lo := 0) (n := n) (fun _ => V.int 0) (by omega) hD (fun i hi H' K' R' kR => ?_) (fun H2 K2 e2 => ?_)
   ·walk_at "v"
    exact kR _ (Same.refl _)
   have e2' : H2 D = some (.lst ((List.replicate n (0 : Int)).map V.int)) := by
    rw [e2, List.map_const', List.length_range, List.map_replicate]
   walk_at "v"
   refine w_set (j := fr) e2' (ixK' (by rw [List.length_map, List.length_replicate]; exact hfr)) ?_
   rw [← List.map_set]
   have K3 : Same H (upd H2 D (.lst (((List.replicate n (0 : Int)).set fr bt).map V.int))) := (K1.trans K2).put hDH
   have e3 : upd H2 D (.lst (((List.replicate n (0 : Int)).set fr bt).map V.int)) D = some (.lst ((numK n R leads fr bt 0).map V.int)) := upd_same
   generalize upd H2 D (.lst (((List.replicate n (0 : Int)).set fr bt).map V.int)) = H3 at K3 e3 ⊢
   walk_at "v"
   refine w_forZl ?_
   walk_at "v"
   refine ⟨l, ld, rfl, ⟨_, SqL.of (K3 _ _ hl)⟩, ⟨_, SqL.of (K3 _ _ hld)⟩, ?_⟩
   refine for_zpl (xs := as.map V.ref) (zs := nL leads) (by rw [List.length_map, nL_len, hR.1, hrl]) (fun i σ H' => ∃ u5 u6, σ = [some (.int (n : Int)), some (.ref l), some (.ref ld), some (.int (fr : Int)), some (.int bt), u5, u6, some (.ref D)] ∧ Same H H' ∧ H' D = some (.lst ((numK n R leads fr bt i).map V.int))) ⟨_, _, rfl, K3, e3⟩ (fun i σ H' ⟨_, _, _, k', _⟩ => ⟨SqL.of (k' _ _ hl), SqL.of (k' _ _ hld)⟩) ?_ ?_
   ·rintro i x y σ H1 z hx hy ⟨u5, u6, rfl, K1, eD⟩ hz
    obtain ⟨a, ea, rfl⟩ := itR hx
    obtain ⟨hi, rfl⟩ := itN hy
    obtain ⟨a', e1, e2, e3⟩ := hR.at_ (i := i) (by omega)
    rw [ea] at e1
    cases e1
    have hli := hlt _ (getD_mem (d := 0) hi)
    have hlr : (R.getD i []).length = n := hlen _ (List.mem_of_getElem? e2)
    have hbr := hbit _ (List.mem_of_getElem? e2)
    have q1 := cf_bit hbr (leads.getD i 0)
    refine w_gtup upd_same rfl ?_
    refine ⟨_, _, rfl, ?_⟩
    walk_at "v"
    refine ⟨_, _, rfl, ?_⟩
    walk_at "v"
    refine ⟨rfl, ?_⟩
    have K2 : Same H1 (upd H1 z (.tup [.ref a, .int ((leads.getD i 0 : Nat) : Int)])) := Same.new (Same.refl _) hz
    generalize upd H1 z (.tup [.ref a, .int ((leads.getD i 0 : Nat) : Int)]) = H2 at K2 ⊢
    have e4 := (K1.trans K2) _ _ e3
    walk_at "v"
    refine w_ixL e4 (atL (by omega)) ?_
    refine ⟨_, rfl, ?_⟩
    walk_at "v"
    refine w_ixL e4 (atL (i := leads.getD i 0) (by omega)) ?_
    refine ⟨_, _, rfl, rfl, ⟨hown i hi, log_of q1 hb⟩, ?_⟩
    have q2 := cf_bit hbr fr
    have hnb : Bb (-(R.getD i []).getD fr 0) := bb_of (m := b) (by rw [Int.natAbs_neg]; exact q2) (by omega)
    have hdb : Bb (bt.fdiv ((R.getD i []).getD (leads.getD i 0) 0)) := bb_fdiv hbbt
    refine w_rI (mulBb hnb hdb) ?_
    walk_at "v"
    refine w_set (j := leads.getD i 0) (K2 _ _ eD) (ixK' (by rw [List.length_map, numK_len]; exact hli)) ?_
    refine ⟨_, _, rfl, (K1.trans K2).put hDH, ?_⟩
    rw [upd_same, ← List.map_set]
    rfl
   rintro σ H1 ⟨u5, u6, rfl, K1, eD⟩
   rw [List.length_map, hR.1, hrl] at eD
   walk_at "v"
   refine ⟨D, _, rfl, eD, by rw [numK_len]; omega, hgl, fun q H4 K4 hq e4 => ?_⟩
   walk_at "v"
   refine ⟨q, _, rfl, e4, fun t H5 K5 e5 => ?_⟩
   refine k t H5 ((K1.trans K4).trans K5) ?_
   rw [e5]
   unfold vecF
   rw [hbt]
end
structure KZ (mg : Str → Option Value) : Prop where
 sorts : Kn mg "SORTS" 0
 rules : Kn mg "RULES" 1
 takes : Kn mg "TAKES" 0
 gives : Kn mg "GIVES" 1
abbrev sCo : Stmt := top 30
abbrev nCo : List Str := ["rule"]
theorem nmCo : Nm nCo (defScope sCo) := ⟨by decide +kernel, by decide +kernel⟩
theorem scCo : FnScope nCo ["rule"] (defScope sCo) := ⟨rfl, rfl, rfl, by decide +kernel, rfl, by decide +kernel, by decide +kernel⟩
def qCoa (s : Stmt) : Scope := match s with
 | .Return (some (.ListComp _ _ sc _)) _ => sc
 | _ => { kind := .function, names := [], isGenerator := false, isCoroutine := false }
abbrev cCoa : Scope := qCoa ((defBody sCo).getD 0 (.Pass ⟨0, 0, 0, 0⟩))
theorem bsCoa : BScope (defScope sCo) cCoa ["taken", "given"] [] [] := { okind := by decide +kernel, kind := by decide +kernel, nocell := by decide +kernel, names := by decide +kernel, fr := by decide +kernel, ff := by decide +kernel, nd := by decide +kernel, vis := by decide +kernel, loc := by decide +kernel, gl := by decide +kernel }
theorem chg_zip {x : List Int × List Int} (h : x.1.length = x.2.length) : chg x = List.zipWith (fun t g => g - t) x.1 x.2 := by
 refine List.ext_getElem? fun i => ?_
 unfold chg
 rw [List.getElem?_map, List.getElem?_zipWith]
 by_cases hi : i < x.1.length
 ·rw [List.getElem?_range hi, List.getElem?_eq_getElem hi, List.getElem?_eq_getElem (by omega)]
  show some (x.2.getD i 0 - x.1.getD i 0) = some (x.2[i] - x.1[i])
  rw [List.getD_eq_getElem?_getD, List.getD_eq_getElem?_getD, List.getElem?_eq_getElem hi, List.getElem?_eq_getElem (by omega)]
  rfl
 ·rw [List.getElem?_eq_none (by rw [List.length_range]; omega), List.getElem?_eq_none (by omega)]
  rfl
theorem chg_len (x : List Int × List Int) : (chg x).length = x.1.length := by
 unfold chg
 rw [List.length_map, List.length_range]
def spCo : Sp := fun vs H Q _ => ∃ (r a b : Addr) (x : List Int × List Int), vs = [.ref r] ∧ H r = some (.tup [.ref a, .ref b]) ∧ H a = some (.tup (x.1.map V.int)) ∧ H b = some (.tup (x.2.map V.int)) ∧ x.1.length = x.2.length ∧ x.1.length ≤ 1000 ∧ ∀ q H', Same H H' → H q = none → H' q = some (.lst ((chg x).map V.int)) → Q (.ref q) H'
section
variable {P : Program} {w : World} {K : PySem.W.Frag} {mg : Str → Option Value} {base : Heap}
set_option maxHeartbeats 4000000 in
theorem ok_Co {f : Addr} {fd : FuncData} (B : Bl mg) (Z : KZ mg) (F : Fun K "change_of" "change_of" sCo f fd) : FnOk P w K mg base CX0 1 f fd ["rule"] spCo := by
 refine F.ok scCo (fun vs H Q E h => ?_) (fun cdv A outer s H vs Q E hr h => ?_)
 ·obtain ⟨r, a, b, x, rfl, _⟩ := h
  rfl
 ·obtain ⟨r, a, b, x, rfl, h1, h2, h3, hl, hn, k⟩ := h
  refine' ⟨_, ?hb, ?rd⟩
  case' hb => skip
  case' hb => refine' pss_one ?g1
  case' g1 => refine' ps_ret ?g2
  case' g2 => refine' pe_comp (ix := []) bsCoa.toCScope rfl rfl ?g3 ?g4 ?g5 ?g6
  case g3 => exact pi_zp B.zip (pa_2 (pe_ix ix_d (pvd nmCo 0) (pe_k Z.takes) (fun _ _ => rfl)) (pe_ix ix_d (pvd nmCo 0) (pe_k Z.gives) (fun _ _ => rfl)))
  case g4 =>
   intro _ _ _ _ _ _
   refine' pgb_tup (n := 2) rfl ?g7
   case' g7 => refine' pgs_cons ?g11 ?g10
   case g11 => exact pgb bsCoa 0
   case' g10 => refine' pgs_cons ?g13 pgs_nil
   case g13 => exact pgb bsCoa 1
  case g5 => exact fun _ _ _ _ _ _ => pts_nil
  case g6 => exact fun _ _ _ _ _ _ => pe_op op_sub (pvb bsCoa 1) (pvb bsCoa 0)
  case rd =>
   walk_at "v"
   refine w_ixT h1 rfl ?_
   walk_at "v"
   refine w_ixT h1 rfl ?_
   walk_at "v"
   refine ⟨a, b, rfl, ⟨_, SqT.of h2⟩, ⟨_, SqT.of h3⟩, fun D hD => ?_⟩
   refine G2.zip_map (fun t g => g - t) h2 h3 hl hn (fun i t g H' _ _ K' R kR => ?_) (fun H2 K2 e2 => ?_) hD
   ·walk_at "v"
    exact kR _ (Same.refl _)
   exact k D H2 K2 hD (by rw [e2, chg_zip hl])
end
abbrev sAk : Stmt := top 29
abbrev nAk : List Str := ["pot", "many", "solved"]
theorem nmAk : Nm nAk (defScope sAk) := ⟨by decide +kernel, by decide +kernel⟩
theorem scAk : FnScope nAk ["pot"] (defScope sAk) := ⟨rfl, rfl, rfl, by decide +kernel, rfl, by decide +kernel, by decide +kernel⟩
def qAka (s : Stmt) : Scope := match s with
 | .Assign _ (.Call _ [_, (.ListComp _ _ sc _)] _ _) _ => sc
 | _ => { kind := .function, names := [], isGenerator := false, isCoroutine := false }
abbrev cAka : Scope := qAka ((defBody sAk).getD 1 (.Pass ⟨0, 0, 0, 0⟩))
theorem bsAka : BScope (defScope sAk) cAka ["rule"] [] ["change_of"] := { okind := by decide +kernel, kind := by decide +kernel, nocell := by decide +kernel, names := by decide +kernel, fr := by decide +kernel, ff := by decide +kernel, nd := by decide +kernel, vis := by decide +kernel, loc := by decide +kernel, gl := by decide +kernel }
def qAkb (s : Stmt) : Scope := match s with
 | .Return (some (.ListComp _ _ sc _)) _ => sc
 | _ => { kind := .function, names := [], isGenerator := false, isCoroutine := false }
abbrev cAkb : Scope := qAkb ((defBody sAk).getD 2 (.Pass ⟨0, 0, 0, 0⟩))
theorem bsAkb : BScope (defScope sAk) cAkb ["sort"] ["many", "solved"] ["nought_maker"] := { okind := by decide +kernel, kind := by decide +kernel, nocell := by decide +kernel, names := by decide +kernel, fr := by decide +kernel, ff := by decide +kernel, nd := by decide +kernel, vis := by decide +kernel, loc := by decide +kernel, gl := by decide +kernel }
def TL (H : Hp) (as : List Addr) (rows : List (List Int)) : Prop := as.length = rows.length ∧ ∀ (i : Nat) (a : Addr) (r : List Int), as[i]? = some a → rows[i]? = some r → H a = some (.tup (r.map V.int))
theorem TL.same {H H' : Hp} {as : List Addr} {rows : List (List Int)} (k : Same H H') (h : TL H as rows) : TL H' as rows := ⟨h.1, fun i a r e1 e2 => k _ _ (h.2 i a r e1 e2)⟩
theorem TL.off {H : Hp} {as : List Addr} {rows : List (List Int)} {D : Addr} {ys : List V} {o : HO} (hD : H D = some (.lst ys)) (h : TL H as rows) : TL (upd H D o) as rows := ⟨h.1, fun i a r e1 e2 => by
 have := h.2 i a r e1 e2
 rw [upd_ne (fun e => by rw [e, hD] at this; cases this)]
 exact this⟩
theorem TL.snoc {H : Hp} {as : List Addr} {rows : List (List Int)} {a : Addr} {r : List Int} (h : TL H as rows) (ha : H a = some (.tup (r.map V.int))) : TL H (as ++ [a]) (rows ++ [r]) := by
 refine ⟨by rw [List.length_append, List.length_append, h.1]; rfl, fun i b q e1 e2 => ?_⟩
 by_cases hi : i < as.length
 ·rw [List.getElem?_append_left hi] at e1
  rw [List.getElem?_append_left (by rw [← h.1]; exact hi)] at e2
  exact h.2 i b q e1 e2
 ·have hi' : i = as.length := by
   have := (List.getElem?_eq_some_iff.mp e1).1
   rw [List.length_append] at this
   have : i < as.length + 1 := this
   omega
  rw [hi', List.getElem?_append_right (Nat.le_refl _), Nat.sub_self] at e1
  rw [hi', h.1, List.getElem?_append_right (Nat.le_refl _), Nat.sub_self] at e2
  cases e1
  cases e2
  exact ha
def chs (tg : Rows) : List (List Int) := tg.map chg
def kepts (m : Nat) (tg : Rows) : List (List Int) := (frees m (red (chs tg) m).2).map (vecF m (red (chs tg) m).1 (red (chs tg) m).2)
theorem chs_ok {H : Hp} {rs : List Addr} {tg : Rows} {m : Nat} (h : Rls H rs tg m) : (∀ r ∈ chs tg, r.length = m) ∧ ∀ r ∈ chs tg, ∀ x ∈ r, x.natAbs < 2 ^ 5 := by
 have key : ∀ y ∈ tg, y.1.length = m ∧ y.2.length = m ∧ (∀ x ∈ y.1, 0 ≤ x ∧ x ≤ 30) ∧ ∀ x ∈ y.2, 0 ≤ x ∧ x ≤ 30 := fun y hy => by
  obtain ⟨i, hi, e⟩ := List.getElem_of_mem hy
  obtain ⟨r, a, b, _, _, _, _, h1, h2, h3, h4⟩ := h.get hi
  rw [e] at h1 h2 h3 h4
  exact ⟨h1, h2, h3, h4⟩
 refine ⟨fun r hr => ?_, fun r hr x hx => ?_⟩
 ·obtain ⟨y, hy, rfl⟩ := List.mem_map.mp hr
  rw [chg_len]
  exact (key y hy).1
 ·obtain ⟨y, hy, rfl⟩ := List.mem_map.mp hr
  obtain ⟨h1, h2, h3, h4⟩ := key y hy
  unfold chg at hx
  obtain ⟨j, hj, rfl⟩ := List.mem_map.mp hx
  have hj' := List.mem_range.mp hj
  have q1 := h3 _ (getD_mem (d := 0) hj')
  have q2 := h4 _ (getD_mem (j := j) (d := 0) (by omega))
  show _ < 32
  omega
def spAk : Sp := fun vs H Q _ => ∃ (p : Addr) (m : Nat) (tg : Rows), vs = [.ref p] ∧ PotK H p m tg ∧ ∀ D bs H', Same H H' → H D = none → H' D = some (.lst (bs.map V.ref)) → TL H' bs (kepts m tg) → Q (.ref D) H'
theorem inN {x : Nat} {ls : List Nat} : inV (.int (x : Int)) (nL ls) = decide (x ∈ ls) := by
 unfold inV nL
 rw [Bool.eq_iff_iff, List.any_map, List.any_eq_true, decide_eq_true_iff]
 constructor
 ·rintro ⟨y, hy, e⟩
  have : (y : Int) = (x : Int) := by simpa [eqV] using e
  rw [show x = y by omega]
  exact hy
 ·exact fun h => ⟨x, h, by simp [eqV]⟩
theorem flN (ls : List Nat) : (nL ls).all flatV = true := by
 unfold nL
 rw [List.all_map, List.all_eq_true]
 exact fun _ _ => rfl
section
variable {P : Program} {w : World} {K : PySem.W.Frag} {mg : Str → Option Value} {base : Heap}
set_option maxHeartbeats 4000000 in
theorem ok_Ak {f : Addr} {fd : FuncData} (B : Bl mg) (Z : KZ mg) (fR : Has P w K mg base 4 "reduced" ["many", "rows"] spRd) (fC : Has P w K mg base 1 "change_of" ["rule"] spCo) (fN : Has P w K mg base 3 "nought_maker" ["many", "rows", "leads", "free"] spNm) (F : Fun K "all_kept" "all_kept" sAk f fd) : FnOk P w K mg base CX0 5 f fd ["pot"] spAk := by
 refine F.ok scAk (fun vs H Q E h => ?_) (fun cdv A outer s H vs Q E hr h => ?_)
 ·obtain ⟨p, m, tg, rfl, _⟩ := h
  rfl
 ·obtain ⟨p, m, tg, rfl, hP, k⟩ := h
  refine' ⟨_, ?hb, ?rd⟩
  case' hb => skip
  case' hb => refine' pss_cons ?g1 ?g2
  case' g2 => refine' pss_cons ?g3 ?g4
  case' g4 => refine' pss_one ?g5
  case g1 => exact ps_setD nmAk 1 (pe_cB call_len_seq B.len PySem.boot_len (pa_1 (pe_ix ix_d (pvd nmAk 0) (pe_k Z.sorts) (fun _ _ => rfl))))
  case' g3 => refine' ps_setD nmAk 2 ?g6
  case' g6 => refine' pe_f fR hr (by decide) ?g7
  case' g7 => refine' pa_2 (pvd nmAk 1) ?g8
  case' g8 => refine' pe_comp (ix := []) bsAka.toCScope rfl rfl ?g9 ?g10 ?g11 ?g12
  case g9 => exact pi_tup (pe_ix ix_d (pvd nmAk 0) (pe_k Z.rules) (fun _ _ => rfl))
  case g10 => exact fun _ _ _ _ _ _ => pgb bsAka 0
  case g11 => exact fun _ _ _ _ _ _ => pts_nil
  case g12 => exact fun _ _ _ _ _ _ => pe_f fC hr (by decide) (pa_1 (pvb bsAka 0)) (bsAka.g 0)
  case' g5 => refine' ps_ret ?g13
  case' g13 => refine' pe_comp (ix := [1, 2]) bsAkb.toCScope rfl rfl ?g14 ?g15 ?g16 ?g17
  case g14 => exact pi_r1 B.range (pa_1 (pvd nmAk 1))
  case g15 => exact fun _ _ _ _ _ _ => pgb bsAkb 0
  case g16 => exact fun _ _ _ _ _ _ => pts_one (pt_cmpR op_notInL (pvb bsAkb 0) (pe_ix ix_d (pvb bsAkb 2) pe_int (fun _ _ => rfl)) (by with_unfolding_all rfl))
  case g17 => exact fun _ _ _ _ _ _ => pe_f fN hr (by decide) (pa_c (pvb bsAkb 1) (pa_c (pe_ix ix_d (pvb bsAkb 2) pe_int (fun _ _ => rfl)) (pa_2 (pe_ix ix_d (pvb bsAkb 2) pe_int (fun _ _ => rfl)) (pvb bsAkb 0)))) (bsAkb.g 0)
  case rd =>
   obtain ⟨ps, pr, pin, pb, ans, rs, nm, h1, h2, h3, h4, hR⟩ := hP.ex
   have n8 := hP.n8
   have m8 := hP.m8
   have rl := hR.1
   obtain ⟨c1, c2⟩ := chs_ok hR
   have clen : (chs tg).length = tg.length := List.length_map _
   walk_at "v"
   refine w_ixT h1 rfl ?_
   walk_at "v"
   refine ⟨ps, _, rfl, .inr (SqT.of h2), ?_⟩
   rw [List.length_map, h3]
   walk_at "v"
   refine w_ixT h1 rfl ?_
   walk_at "v"
   refine ⟨pr, rfl, ⟨_, SqT.of h4⟩, fun D hD => ?_⟩
   refine cgo_tup (xs := rs.map V.ref) (fun i ys H' => ∃ bs : List Addr, ys = bs.map V.ref ∧ RL H' bs ((chs tg).take i) ∧ Same H H' ∧ D ∉ bs) ⟨[], rfl, by simpa using RL.nil, Same.new (Same.refl H) hD, by simp⟩ (fun i ys H' _ ⟨_, _, _, k', _⟩ => SqT.of (k' _ _ h4)) ?_ ?_
   ·rintro i x ys H1 hx ⟨bs, rfl, hb, K1, hDb⟩ hDy R S kR _
    obtain ⟨q, eq, rfl⟩ := itR hx
    have hi : i < tg.length := by
     have := (List.getElem?_eq_some_iff.mp eq).1
     omega
    obtain ⟨r, a, b, g1, g2, g3, g4, g5, g6, g7, g8⟩ := hR.get hi
    rw [eq] at g1
    cases g1
    refine w_all (iteT ?_)
    walk_at "v"
    refine ⟨q, a, b, tg[i], rfl, K1 _ _ g2, K1 _ _ g3, K1 _ _ g4, by rw [g5, g6], by omega, fun y H2 K2 hy ey => ?_⟩
    have hyD : y ≠ D := fun e => by rw [e, hDy] at hy; cases hy
    have hyb : D ∉ bs ++ [y] := fun hm => by
     rcases List.mem_append.mp hm with z | z
     ·exact hDb z
     ·exact hyD (List.mem_singleton.mp z).symm
    refine kR _ _ (K2 _ _ hDy) (by rw [List.length_map, hb.1, List.length_take]; exact small1000 (by omega)) ⟨bs ++ [y], by rw [List.map_append]; rfl, ?_, (K1.trans K2).put hD, hyb⟩
    rw [List.take_add_one, show (chs tg)[i]? = some (chg tg[i]) by unfold chs; rw [List.getElem?_map, List.getElem?_eq_getElem hi]; rfl]
    exact RL.off hyb (RL.snoc (hb.same K2) ey)
   rintro ys H1 ⟨bs, rfl, hb, K1, _⟩ e1
   rw [List.length_map, List.take_of_length_le (by omega)] at hb
   have b8 : bdE 5 (min m (chs tg).length) ≤ 9000 := Nat.le_trans (bdE_mono (j := 8) (by omega)) (by decide)
   walk_at "v"
   refine ⟨D, m, 5, bs, chs tg, rfl, e1, hb, c1, by omega, by omega, c2, b8, fun t l1 l2 as' H2 K2 et el1 hr1 el2 => ?_⟩
   have I := Rd.all c1 c2 m
   have hle := I.le
   have KA := K1.trans K2
   walk_at "v"
   refine ⟨_, rfl, by omega, by omega, fun D2 hD2 => ?_⟩
   rw [Int.toNat_natCast]
   have hfl : ∀ c, c < m → (frees (c + 1) (red (chs tg) m).2) = frees c (red (chs tg) m).2 ++ (if c ∈ (red (chs tg) m).2 then [] else [c]) := fun c _ => by
    unfold frees
    rw [List.range_succ, List.filter_append]
    congr 1
    by_cases h : c ∈ (red (chs tg) m).2 <;> simp [h]
   refine cgo_range (n := m) (fun i ys H' => ∃ bs : List Addr, ys = bs.map V.ref ∧ TL H' bs ((frees i (red (chs tg) m).2).map (vecF m (red (chs tg) m).1 (red (chs tg) m).2)) ∧ Same H2 H') ⟨[], rfl, ⟨rfl, fun i a r e => nomatch e⟩, Same.new (Same.refl H2) hD2⟩ ?_ ?_
   ·rintro i ys H3 hi ⟨bs3, rfl, hb3, K3⟩ hDy R S kR kS
    rw [Int.zero_add]
    walk_at "v"
    refine w_ixT (K3 _ _ et) rfl ?_
    refine ⟨l2, _, rfl, K3 _ _ el2, rfl, flN _, ?_⟩
    rw [inN]
    walk_at "v"
    refine iteDN (fun h => ?_) (fun h => ?_)
    ·have kl := frees_len I.nd I.lt
     have hin : i ∈ frees m (red (chs tg) m).2 := List.mem_filter.mpr ⟨List.mem_range.mpr hi, decide_eq_true h⟩
     have hk7 : (red (chs tg) m).2.length ≤ 7 := by
      have := List.length_pos_of_mem hin
      omega
     have hB : bdE 5 (red (chs tg) m).2.length ≤ 767 := Nat.le_trans (bdE_mono (j := 7) hk7) (by decide)
     have hBk : (red (chs tg) m).2.length * bdE 5 (red (chs tg) m).2.length ≤ 7 * 767 := Nat.mul_le_mul hk7 hB
     walk_at "v"
     refine w_ixT (K3 _ _ et) rfl ?_
     walk_at "v"
     refine w_ixT (K3 _ _ et) rfl ?_
     walk_at "v"
     refine ⟨l1, l2, m, i, bdE 5 (red (chs tg) m).2.length, as', _, (red (chs tg) m).2, rfl, K3 _ _ el1, hr1.same K3, K3 _ _ el2, by rw [List.length_take]; omega, fun r hr' => I.len r (List.mem_of_mem_take hr'), by omega, by omega, hi, I.lt, fun j hj => by rw [ro_take hj]; exact I.own j hj, fun r hr' => I.bit r (List.mem_of_mem_take hr'), by omega, ?_, fun q H4 K4 e4 => ?_⟩
     ·rw [bot_take _ (Nat.le_refl _), num_take _ (Nat.le_refl _)]
      exact log_of (I.glog hi h) (by omega)
     rw [vec_take] at e4
     have lb3 : bs3.length ≤ m := by
      rw [hb3.1, List.length_map]
      unfold frees
      have := List.length_filter_le (fun j => decide (j ∉ (red (chs tg) m).2)) (List.range i)
      rw [List.length_range] at this
      omega
     refine kR _ _ (K4 _ _ hDy) (by rw [List.length_map]; exact small1000 (by omega)) ⟨bs3 ++ [q], by rw [List.map_append]; rfl, ?_, (K3.trans K4).put hD2⟩
     rw [hfl i hi, if_neg h, List.map_append]
     exact TL.off (K4 _ _ hDy) (TL.snoc (hb3.same K4) e4)
    ·refine kS _ hDy ⟨bs3, rfl, ?_, K3⟩
     rw [hfl i hi, if_pos h, List.append_nil]
     exact hb3
   rintro ys H3 ⟨bs3, rfl, hb3, K3⟩ e3
   exact k D2 bs3 H3 (KA.trans K3) (Same.none KA hD2) e3 hb3
end
end K29
namespace L2
open PySem PySem.Spec PyProof.Rows
section
variable {X : Cx} {pos : Pos}
def gLs2 (t : TGs) : TG := fun v σ H Q => ∃ a x y, v = .ref a ∧ H a = some (.lst [x, y]) ∧ t [x, y] σ H Q
theorem pg_lst2 {es : List Expr} {k : Nat} {t : TGs} (hc : X.calm = true) (h : PGs X es t)
  (hn : (assignEach es X.env).length = 2 := by rfl) (hst : (assignEach es X.env).findIdx? (·.1) = none := by rfl) : PG X (.Tuple es k pos) (gLs2 t) := by
 intro pins s σ H v u Q I r hw
 obtain ⟨a, x, y, e1, hq, hw⟩ := hw
 subst e1
 cases r
 obtain ⟨its, rv, p, hz⟩ := I.list (SqL.of hq)
 obtain ⟨f0, f1, f2, f3, f4, f5⟩ := I.fpOk (Nat.le_refl _) (I.hok.fresh (Nat.le_refl _))
 rw [PyProof.Rows.assign_Tuple]
 refine wpAny_bind (wpAny_standAt ?_)
 unfold unpack
 rw [hst, hn]
 refine wpAny_bind (wpAny_holding ?_)
 unfold unpackItems notIterableAtAll
 refine wpAny_bind ?_
 refine wpAny_bind (wpAny_specialOf p.isList.typeIs PySem.F.slot_list_iter.lookup ?_)
 rw [if_pos (show (some (Value.builtin "list.__iter__")).isSome = true from rfl)]
 refine wpAny_pure ?_
 dsimp only
 rw [if_neg (show ¬ (false = true) by decide)]
 refine wpAny_bind (wpAny_holding (wpAny_pyIter_list p.isList ?_))
 have I1 : Inv X pins σ H { s with heap := s.heap.push { cls := Value.type "list_iterator", data := Data.fields #[Value.ref a, Value.int 0 0] } } := I.kept (t' := s.toks) fun b o e => Heap.get?_push_of_some _ e
 have st : (s.heap.push { cls := Value.type "list_iterator", data := Data.fields #[Value.ref a, Value.int 0 0] }).IsListIter s.heap.objs.size a 0 := ⟨_, Heap.get?_push_size _ rfl, rfl, rfl⟩
 obtain ⟨its1, rv1, p1, _⟩ := I1.list (SqL.of hq)
 obtain ⟨u1, u1', rfl, r1, _⟩ := rv1.two
 refine wpAny_bind (wpAny_holding ?_)
 rw [show (2 : Nat) = Nat.succ 1 from rfl, draw.eq_2]
 refine wpAny_bind (wpAny_pyNext_list_item st p1.isList (x := u1) rfl fun h1 st1 sb1 => ?_)
 have I2 : Inv X pins σ H { s with heap := h1 } := I1.turned (t' := s.toks) (fun b o hb e => (sb1.2 b hb).trans e) f0 f1 f3 f4 f5
 obtain ⟨its2, rv2, p2, _⟩ := I2.list (SqL.of hq)
 obtain ⟨u2', u2, rfl, _, r2⟩ := rv2.two
 dsimp only
 refine wpAny_bind (wpAny_holding ?_)
 rw [show (1 : Nat) = Nat.succ 0 from rfl, draw.eq_2]
 refine wpAny_bind (wpAny_pyNext_list_item st1 p2.isList (x := u2) rfl fun h2 st2 sb2 => ?_)
 have I3 : Inv X pins σ H { s with heap := h2 } := I2.turned (t' := s.toks) (fun b o hb e => (sb2.2 b hb).trans e) f0 f1 f3 f4 f5
 obtain ⟨its3, rv3, p3, _⟩ := I3.list (SqL.of hq)
 have l3 := rv3.length
 dsimp only
 refine wpAny_bind (wpAny_holding ?_)
 rw [draw.eq_1]
 refine wpAny_pure ?_
 refine wpAny_pure ?_
 refine wpAny_pure ?_
 rw [if_neg (by simp)]
 refine wpAny_bind (wpAny_holding (wpAny_pyNext_list_end (I.ok.hd hc) st2 p3.isList (by simp at l3 ⊢; omega) fun h' eb => ?_))
 have I4 : Inv X pins σ H { s with heap := h' } := I3.turned (t' := s.toks) (fun b o hb e => eb b o hb e) f0 f1 f3 f4 f5
 dsimp only
 rw [if_neg (by simp)]
 refine wpAny_pure ?_
 exact h pins _ σ H [x, y] _ Q I4 (.cons r1 (.cons r2 .nil)) hw
end
end L2
namespace K29
open PySem L2 G2 EL
local macro_rules | `(tactic| walk_at "v") => `(tactic| repeat (with_reducible first
  | refine w_seq ?_ | refine w_asg ?_ | refine w_gname ?_ | refine w_op ?_ | refine w_var rfl ?_ | refine w_c ?_ | refine w_rI0 ?_ | refine w_ifs ?_ | refine w_ife ?_ | refine w_test ?_ | refine w_tb ?_ | refine w_bl ?_ | refine w_not ?_ | refine w_ret ?_ | refine w_retN ?_
  | refine w_nil ?_ | refine w_cons ?_ | refine w_lst ?_ | refine w_tup ?_ | refine w_cb ?_ | refine w_call ?_ | refine w_gsub ?_ | refine w_and ?_ | refine w_or ?_ | refine w_next ?_ | refine w_all ?_ | refine w_vals ?_ | refine w_compR ?_ | refine w_compT ?_ | refine w_forR ?_ | refine w_forT ?_ | refine w_forL ?_ | refine w_drop ?_ | refine w_bm ?_ | refine w_compZ ?_ | refine w_compL ?_ | refine w_chain ?_ | refine w_sl ?_ | refine w_nopart ?_ | refine w_part ?_ | refine w_unI ?_ | refine iteT ?_ | refine iteF ?_))
abbrev sShp : Stmt := top 37
abbrev nShp : List Str := ["_law_tape_here", "_law_way", "_law_one", "_law_other", "_law_more", "_law_plus", "_law_rules", "_law_size", "_law_lines"]
theorem nmShp : Nm nShp (defScope sShp) := ⟨by decide +kernel, by decide +kernel⟩
theorem scShp : FnScope nShp ["_law_tape_here", "_law_way"] (defScope sShp) := ⟨rfl, rfl, rfl, by decide +kernel, rfl, by decide +kernel, by decide +kernel⟩
def asgL (s : Stmt) : Scope := match s with
 | .Assign _ (.ListComp _ _ sc _) _ => sc
 | _ => { kind := .function, names := [], isGenerator := false, isCoroutine := false }
abbrev cShA : Scope := asgL ((defBody sShp).getD 0 (.Pass ⟨0, 0, 0, 0⟩))
abbrev cShB : Scope := asgL ((defBody sShp).getD 1 (.Pass ⟨0, 0, 0, 0⟩))
theorem bsShA : BScope (defScope sShp) cShA ["_law_k"] ["_law_tape_here"] ["_law_draw"] := { okind := by decide +kernel, kind := by decide +kernel, nocell := by decide +kernel, names := by decide +kernel, fr := by decide +kernel, ff := by decide +kernel, nd := by decide +kernel, vis := by decide +kernel, loc := by decide +kernel, gl := by decide +kernel }
theorem bsShB : BScope (defScope sShp) cShB ["_law_k"] ["_law_tape_here"] ["_law_draw"] := { okind := by decide +kernel, kind := by decide +kernel, nocell := by decide +kernel, names := by decide +kernel, fr := by decide +kernel, ff := by decide +kernel, nd := by decide +kernel, vis := by decide +kernel, loc := by decide +kernel, gl := by decide +kernel }
theorem iteFk {p X Y : Prop} [Decidable p] (h : ¬ p) (k : Y) : if decide p = true then X else Y := iteD (fun z => absurd z h) fun _ => k
theorem w_disp {trs : List (TE × TE)} {σ : St} {H : Hp} {Q : VK} (h : ∀ p, H p = none → tPairs trs σ (upd H p (.dK [])) fun ps H2 => H2 p = some (.dK []) ∧ ∃ kvs : List (Key × V), ps = kvs.map (fun kv => (kV kv.1, kv.2)) ∧ kvs.length ≤ 15 ∧ Q (.ref p) (upd H2 p (.dK (mergeK [] kvs)))) : tDisp trs σ H Q := h
theorem w_dnew {σ : St} {H : Hp} {Q : VK} (h : ∀ p, H p = none → Q (.ref p) (upd H p (.dK []))) : tDNewK σ H Q := h
theorem w_pairs {tk tv : TE} {r : List (TE × TE)} {σ : St} {H : Hp} {Q : List (V × V) → Hp → Prop} (h : tk σ H fun x H1 => tv σ H1 fun y H2 => tPairs r σ H2 fun ps H3 => Q ((x, y) :: ps) H3) : tPairs ((tk, tv) :: r) σ H Q := h
theorem w_pairs0 {σ : St} {H : Hp} {Q : List (V × V) → Hp → Prop} (h : Q [] H) : tPairs [] σ H Q := h
abbrev Dc := List (Int × Int)
abbrev dcK (d : Dc) : List (Key × V) := d.map fun x => ((Sum.inl x.1 : Key), V.int x.2)
def SdAt (H : Hp) (r : Addr) (s : Dc × Dc) : Prop := ∃ d1 d2 : Addr, H r = some (.tup [.ref d1, .ref d2]) ∧ H d1 = some (.dK (dcK s.1)) ∧ H d2 = some (.dK (dcK s.2))
def Sds (H : Hp) : List Addr → List (Dc × Dc) → Prop
 | [], [] => True
 | r :: rs, s :: ss => SdAt H r s ∧ Sds H rs ss
 | _, _ => False
def SdsAt (H : Hp) (l : Addr) (ss : List (Dc × Dc)) : Prop := ∃ rs : List Addr, H l = some (.lst (rs.map V.ref)) ∧ Sds H rs ss
def DcOk (d : Dc) : Prop := ∀ x ∈ d, 0 ≤ x.2 ∧ x.2 ≤ 9
structure Good (ss : List (Dc × Dc)) (bd : Dc) (m i ans : Nat) : Prop where
 s4 : ss.length ≤ 4
 so : ∀ s ∈ ss, DcOk s.1 ∧ DcOk s.2
 bo : DcOk bd
 m0 : 0 < m
 m6 : m ≤ 6
 i2 : i ≤ 2
 am : ans < m
 im : i ≤ m
theorem dc_nil : DcOk [] := fun x hx => by cases hx
theorem dc_cons {k v : Int} {d : Dc} (h : 0 ≤ v ∧ v ≤ 9) (hd : DcOk d) : DcOk ((k, v) :: d) := fun x hx => by
 rcases List.mem_cons.mp hx with rfl | hx
 ·exact h
 ·exact hd x hx
theorem so_nil : ∀ s ∈ ([] : List (Dc × Dc)), DcOk s.1 ∧ DcOk s.2 := fun s hs => by cases hs
theorem so_cons {d e : Dc} {ss : List (Dc × Dc)} (h1 : DcOk d) (h2 : DcOk e) (h : ∀ s ∈ ss, DcOk s.1 ∧ DcOk s.2) : ∀ s ∈ (d, e) :: ss, DcOk s.1 ∧ DcOk s.2 := fun s hs => by
 rcases List.mem_cons.mp hs with rfl | hs
 ·exact ⟨h1, h2⟩
 ·exact h s hs
theorem rng_dr {n : Nat} {D p l : Addr} {ns : List Int} {te : TE} {Q : VK} {ρ : St} {H : Hp} (b : Int → Prop) (hn : n ≤ 1000) (T : Tp H p l ns) (hD : H D = none)
  (step : ∀ (i : Nat) (H' : Hp), i < n → Tp H' p l ns → Bp p H H' → ∀ R : VK, (∀ x H'', b x → Tp H'' p l ns → Bp p H' H'' → R (.int x) H'') → te (some (.int (i : Int)) :: ρ) H' R)
  (q : ∀ (xs : List Int) (H' : Hp), xs.length = n → (∀ x ∈ xs, b x) → Tp H' p l ns → Bp p H H' → H' D = some (.lst (xs.map V.int)) → Q (.ref D) H') : CGo (Itr 0 n) D (gName 0) tAll te Q (none :: ρ) H := by
 have npD := T.np hD
 have nlD := T.nl hD
 refine cgo_range (fun i ys H' => ∃ xs : List Int, ys = xs.map V.int ∧ xs.length = i ∧ (∀ x ∈ xs, b x) ∧ Tp H' p l ns ∧ Bp p H H') ⟨[], rfl, rfl, (fun x hx => by cases hx), T.put npD nlD, Bp.refl.new hD⟩ ?_ ?_
 ·rintro i ys H' hi ⟨xs, rfl, hl, hb, T', P'⟩ hDy R S kR _
  rw [Int.zero_add]
  refine w_all ?_
  refine iteT ?_
  refine step i H' hi T' P' R fun x H'' hx T'' P'' => ?_
  refine kR _ _ (P'' _ _ (Ne.symm npD) hDy) (by rw [List.length_map]; exact small1000 (by omega)) ⟨xs ++ [x], by rw [List.map_append]; rfl, by rw [List.length_append, hl]; rfl, fun y hy => ?_, T''.put npD nlD, (P'.trans P'').put hD⟩
  rcases List.mem_append.mp hy with z | z
  ·exact hb y z
  ·rw [List.mem_singleton.mp z]; exact hx
 rintro ys H' ⟨xs, rfl, hl, hb, T', P'⟩ e
 exact q xs H' hl hb T' P' e
def spShp : Sp := fun vs H Q _ => ∃ (p l : Addr) (ns : List Int) (wy : Int), vs = [.ref p, .int wy] ∧ Tp H p l ns ∧ 0 ≤ wy ∧ wy < 5 ∧ ∀ (r rl db ak : Addr) (ss : List (Dc × Dc)) (bd : Dc) (m i ans : Nat) (H' : Hp), H' r = some (.tup [.ref rl, .int (m : Int), .int (i : Int), .ref db, .ref ak, .int (ans : Int)]) → SdsAt H' rl ss → H' db = some (.dK (dcK bd)) → Good ss bd m i ans → Tp H' p l ns → Bp p H H' → Q (.ref r) H'
theorem two_of {xs : List Int} (h : xs.length = 2) : ∃ x y, xs = [x, y] := by
 match xs, h with
 | [x, y], _ => exact ⟨x, y, rfl⟩
section
variable {P : Program} {w : World} {K : PySem.W.Frag} {mg : Str → Option Value} {base : Heap}
set_option maxHeartbeats 4000000 in
theorem ok_Shp {f : Addr} {fd : FuncData} (B : Blt3 mg) (D : Has P w K mg base 1 "_law_draw" ["_law_tape_here", "_law_many"] spDraw) (F : Fun K "_law_shape" "_law_shape" sShp f fd) : FnOk P w K mg base CX0 2 f fd ["_law_tape_here", "_law_way"] spShp := by
 refine F.ok scShp (fun vs H Q E h => ?_) (fun cdv A outer s H vs Q E hr h => ?_)
 ·obtain ⟨p, l, ns, wy, rfl, _⟩ := h
  rfl
 ·obtain ⟨p, l, ns, wy, rfl, T0, w1, w2, k⟩ := h
  refine' ⟨_, ?hb, ?rd⟩
  case hb =>
   have hu := hu_of hr
   refine' pss_cons ?s1 ?r1
   case' r1 => refine' pss_cons ?s2 ?r2
   case' r2 => refine' pss_cons ?s3 ?r3
   case' r3 => refine' pss_cons ?s4 ?r4
   case' r4 => refine' pss_cons ?s5 ?r5
   case' r5 => refine' pss_cons ?s6 ?r6
   case' r6 => refine' pss_cons ?s7 ?r7
   case' r7 => refine' pss_cons ?s8 ?r8
   case' r8 => refine' pss_one ?s9
   case s1 =>
    refine' ps_asg ?s11 ?s12
    case s12 => exact pg_lst2 rfl (pgs_cons (pgd nmShp 2) (pgs_cons (pgd nmShp 3) pgs_nil))
    case s11 =>
     refine' pe_comp (ix := [0]) bsShA.toCScope rfl rfl ?s13 ?s14 ?s15 ?s16
     case s13 => exact pi_r1 B.range (pa_1 pe_int)
     case s14 => exact fun _ _ _ _ _ _ => pgb bsShA 0
     case s15 => exact fun _ _ _ _ _ _ => pts_nil
     case s16 => exact fun _ _ _ _ _ _ => pe_op op_add pe_int (pe_f D hr (by decide) (pa_2 (pvb bsShA 1) pe_int) (bsShA.g 0))
   case s2 =>
    refine' ps_asg ?s21 ?s22
    case s22 => exact pg_lst2 rfl (pgs_cons (pgd nmShp 4) (pgs_cons (pgd nmShp 5) pgs_nil))
    case s21 =>
     refine' pe_comp (ix := [0]) bsShB.toCScope rfl rfl ?s23 ?s24 ?s25 ?s26
     case s23 => exact pi_r1 B.range (pa_1 pe_int)
     case s24 => exact fun _ _ _ _ _ _ => pgb bsShB 0
     case s25 => exact fun _ _ _ _ _ _ => pts_nil
     case s26 => exact fun _ _ _ _ _ _ => pe_f D hr (by decide) (pa_2 (pvb bsShB 1) pe_int) (bsShB.g 0)
   case s3 =>
    refine' ps_if (pt_cmpR op_eq (pvd nmShp 1) pe_int (nomark _)) ?a1 pss_nil
    case' a1 => refine' pss_cons ?a2 ?a3
    case' a3 => refine' pss_one ?a4
    case' a2 => refine' ps_setD nmShp 6 ?a2a
    case' a2a => refine' pe_lst ?n1
    case' n1 => refine' pa_2 ?n2 ?n3
    case' n2 => refine' pe_tup ?n4
    case' n4 => refine' pa_2 ?n5 ?n6
    case' n5 => refine' pe_disp ?n7 rfl rfl (by simp) (by decide)
    case n7 => exact pps_cons pe_int pe_int pps_nil
    case' n6 => refine' pe_disp ?n8 rfl rfl (by simp) (by decide)
    case n8 => exact pps_cons pe_int (pvd nmShp 2) pps_nil
    case' n3 => refine' pe_tup ?n9
    case' n9 => refine' pa_2 ?n10 ?n11
    case' n10 => refine' pe_disp ?n12 rfl rfl (by simp) (by decide)
    case n12 => exact pps_cons pe_int pe_int pps_nil
    case' n11 => refine' pe_disp ?n13 rfl rfl (by simp) (by decide)
    case n13 => exact pps_cons pe_int (pvd nmShp 3) pps_nil
    case' a4 => refine' ps_ret ?a4r
    case' a4r => refine' pe_tup ?n14
    case' n14 => refine' pa_c (pvd nmShp 6) ?n15
    case' n15 => refine' pa_c pe_int ?n16
    case' n16 => refine' pa_c pe_int ?n17
    case' n17 => refine' pa_c ?n18 ?n19
    case' n18 => refine' pe_disp ?n20 rfl rfl (by simp) (by decide)
    case' n20 => refine' pps_cons pe_int (pvd nmShp 4) ?n21
    case n21 => exact pps_cons pe_int (pvd nmShp 5) pps_nil
    case' n19 => refine' pa_2 ?n22 pe_int
    case' n22 => refine' pe_tup ?n23
    case' n23 => refine' pa_2 pe_str ?n24
    case' n24 => refine' pe_tup ?n25
    case' n25 => refine' pa_2 ?n26 ?n27
    case' n26 => refine' pe_tup ?n28
    case n28 => exact pa_2 (pvd nmShp 2) (pvd nmShp 3)
    case' n27 => refine' pe_op op_add (pvd nmShp 5) ?n29
    case n29 => exact pe_op op_mul (pvd nmShp 2) (pvd nmShp 4)
   case s4 =>
    refine' ps_if (pt_cmpR op_eq (pvd nmShp 1) pe_int (nomark _)) ?b1 pss_nil
    case' b1 => refine' pss_cons ?b2 ?b3
    case' b3 => refine' pss_cons ?b4 ?b5
    case' b5 => refine' pss_one ?b6
    case b2 => exact ps_setD nmShp 7 (pe_op op_add pe_int (pe_f D hr (by decide) (pa_2 (pvd nmShp 0) pe_int)))
    case' b4 => refine' ps_setD nmShp 6 ?b4a
    case' b4a => refine' pe_lst ?n30
    case' n30 => refine' pa_2 ?n31 ?n32
    case' n31 => refine' pe_tup ?n33
    case' n33 => refine' pa_2 ?n34 ?n35
    case' n34 => refine' pe_disp ?n36 rfl rfl (by simp) (by decide)
    case n36 => exact pps_cons pe_int pe_int pps_nil
    case' n35 => refine' pe_disp ?n37 rfl rfl (by simp) (by decide)
    case n37 => exact pps_cons pe_int (pvd nmShp 2) pps_nil
    case' n32 => refine' pe_tup ?n38
    case' n38 => refine' pa_2 ?n39 ?n40
    case' n39 => refine' pe_disp ?n41 rfl rfl (by simp) (by decide)
    case n41 => exact pps_cons pe_int (pvd nmShp 7) pps_nil
    case' n40 => refine' pe_disp ?n42 rfl rfl (by simp) (by decide)
    case n42 => exact pps_cons pe_int pe_int pps_nil
    case' b6 => refine' ps_ret ?b6r
    case' b6r => refine' pe_tup ?n43
    case' n43 => refine' pa_c (pvd nmShp 6) ?n44
    case' n44 => refine' pa_c pe_int ?n45
    case' n45 => refine' pa_c pe_int ?n46
    case' n46 => refine' pa_c ?n47 ?n48
    case' n47 => refine' pe_disp ?n49 rfl rfl (by simp) (by decide)
    case n49 => exact pps_cons pe_int (pvd nmShp 5) pps_nil
    case' n48 => refine' pa_2 ?n50 pe_int
    case' n50 => refine' pe_tup ?n51
    case' n51 => refine' pa_c pe_str ?n52
    case' n52 => refine' pa_2 ?n53 (pvd nmShp 7)
    case' n53 => refine' pe_tup ?n54
    case' n54 => refine' pa_2 ?n55 (pvd nmShp 5)
    case' n55 => refine' pe_tup ?n56
    case n56 => exact pa_1 (pvd nmShp 2)
   case s5 =>
    refine' ps_setD nmShp 8 ?c1
    case' c1 => refine' pe_tup ?n57
    case' n57 => refine' pa_2 ?n58 ?n59
    case' n58 => refine' pe_tup ?n60
    case' n60 => refine' pa_2 ?n61 (pvd nmShp 4)
    case' n61 => refine' pe_tup ?n62
    case n62 => exact pa_2 pe_int pe_int
    case' n59 => refine' pe_tup ?n63
    case' n63 => refine' pa_2 ?n64 (pvd nmShp 5)
    case' n64 => refine' pe_tup ?n65
    case n65 => exact pa_2 pe_int pe_int
   case s6 =>
    refine' ps_if (pt_cmpR op_eq (pvd nmShp 1) pe_int (nomark _)) ?d1 pss_nil
    case' d1 => refine' pss_one ?d2
    case' d2 => refine' ps_ret ?d2r
    case' d2r => refine' pe_tup ?n66
    case' n66 => refine' pa_c ?n67 ?n68
    case' n67 => refine' pe_lst ?n69
    case' n69 => refine' pa_1 ?n70
    case' n70 => refine' pe_tup ?n71
    case' n71 => refine' pa_2 ?n72 ?n73
    case' n72 => refine' pe_disp ?n74 rfl rfl (by simp) (by decide)
    case' n74 => refine' pps_cons pe_int pe_int ?n75
    case n75 => exact pps_cons pe_int pe_int pps_nil
    case' n73 => refine' pe_disp ?n76 rfl rfl (by simp) (by decide)
    case n76 => exact pps_cons pe_int pe_int pps_nil
    case' n68 => refine' pa_c pe_int ?n77
    case' n77 => refine' pa_c pe_int ?n78
    case' n78 => refine' pa_c ?n79 ?n80
    case' n79 => refine' pe_disp ?n81 rfl rfl (by simp) (by decide)
    case' n81 => refine' pps_cons pe_int (pvd nmShp 4) ?n82
    case n82 => exact pps_cons pe_int (pvd nmShp 5) pps_nil
    case' n80 => refine' pa_2 ?n83 pe_int
    case' n83 => refine' pe_op op_catG ?n84 (pvd nmShp 8)
    case' n84 => refine' pe_tup ?n85
    case n85 => exact pa_1 pe_str
   case s7 =>
    refine' ps_if (pt_cmpR op_eq (pvd nmShp 1) pe_int (nomark _)) ?e1 pss_nil
    case' e1 => refine' pss_cons ?e2 ?e3
    case' e3 => refine' pss_one ?e4
    case' e2 => refine' ps_setD nmShp 6 ?e2a
    case' e2a => refine' pe_lst ?n86
    case' n86 => refine' pa_2 ?n87 ?n88
    case' n87 => refine' pe_tup ?n89
    case' n89 => refine' pa_2 ?n90 ?n91
    case' n90 => refine' pe_disp ?n92 rfl rfl (by simp) (by decide)
    case' n92 => refine' pps_cons pe_int pe_int ?n93
    case n93 => exact pps_cons pe_int pe_int pps_nil
    case' n91 => refine' pe_disp ?n94 rfl rfl (by simp) (by decide)
    case n94 => exact pps_cons pe_int pe_int pps_nil
    case' n88 => refine' pe_tup ?n95
    case' n95 => refine' pa_2 ?n96 ?n97
    case' n96 => refine' pe_disp ?n98 rfl rfl (by simp) (by decide)
    case' n98 => refine' pps_cons pe_int pe_int ?n99
    case n99 => exact pps_cons pe_int pe_int pps_nil
    case' n97 => refine' pe_disp ?n100 rfl rfl (by simp) (by decide)
    case n100 => exact pps_cons pe_int pe_int pps_nil
    case' e4 => refine' ps_ret ?e4r
    case' e4r => refine' pe_tup ?n101
    case' n101 => refine' pa_c (pvd nmShp 6) ?n102
    case' n102 => refine' pa_c pe_int ?n103
    case' n103 => refine' pa_c pe_int ?n104
    case' n104 => refine' pa_c ?n105 ?n106
    case' n105 => refine' pe_disp ?n107 rfl rfl (by simp) (by decide)
    case' n107 => refine' pps_cons pe_int (pvd nmShp 4) ?n108
    case' n108 => refine' pps_cons pe_int (pvd nmShp 5) ?n109
    case n109 => exact pps_cons pe_int pe_int pps_nil
    case' n106 => refine' pa_2 ?n110 pe_int
    case' n110 => refine' pe_op op_catG ?n111 (pvd nmShp 8)
    case' n111 => refine' pe_tup ?n112
    case n112 => exact pa_1 pe_str
   case s8 =>
    refine' ps_setD nmShp 6 ?f1
    case' f1 => refine' pe_lst ?n113
    case' n113 => refine' pa_c ?n114 ?n115
    case' n114 => refine' pe_tup ?n116
    case' n116 => refine' pa_2 ?n117 ?n118
    case' n117 => refine' pe_disp ?n119 rfl rfl (by simp) (by decide)
    case n119 => exact pps_cons pe_int pe_int pps_nil
    case' n118 => refine' pe_disp ?n120 rfl rfl (by simp) (by decide)
    case' n120 => refine' pps_cons pe_int pe_int ?n121
    case n121 => exact pps_cons pe_int pe_int pps_nil
    case' n115 => refine' pa_c ?n122 ?n123
    case' n122 => refine' pe_tup ?n124
    case' n124 => refine' pa_2 ?n125 ?n126
    case' n125 => refine' pe_disp ?n127 rfl rfl (by simp) (by decide)
    case n127 => exact pps_cons pe_int pe_int pps_nil
    case' n126 => refine' pe_disp ?n128 rfl rfl (by simp) (by decide)
    case' n128 => refine' pps_cons pe_int pe_int ?n129
    case n129 => exact pps_cons pe_int pe_int pps_nil
    case' n123 => refine' pa_2 ?n130 ?n131
    case' n130 => refine' pe_tup ?n132
    case' n132 => refine' pa_2 ?n133 ?n134
    case' n133 => refine' pe_disp ?n135 rfl rfl (by simp) (by decide)
    case' n135 => refine' pps_cons pe_int pe_int ?n136
    case n136 => exact pps_cons pe_int pe_int pps_nil
    case' n134 => refine' pe_disp ?n137 rfl rfl (by simp) (by decide)
    case n137 => exact pps_cons pe_int pe_int pps_nil
    case' n131 => refine' pe_tup ?n138
    case' n138 => refine' pa_2 ?n139 pe_dnewK
    case' n139 => refine' pe_disp ?n140 rfl rfl (by simp) (by decide)
    case' n140 => refine' pps_cons pe_int pe_int ?n141
    case n141 => exact pps_cons pe_int pe_int pps_nil
   case s9 =>
    refine' ps_ret ?h1
    case' h1 => refine' pe_tup ?n142
    case' n142 => refine' pa_c (pvd nmShp 6) ?n143
    case' n143 => refine' pa_c pe_int ?n144
    case' n144 => refine' pa_c pe_int ?n145
    case' n145 => refine' pa_c ?n146 ?n147
    case' n146 => refine' pe_disp ?n148 rfl rfl (by simp) (by decide)
    case' n148 => refine' pps_cons pe_int (pvd nmShp 4) ?n149
    case n149 => exact pps_cons pe_int (pvd nmShp 5) pps_nil
    case' n147 => refine' pa_2 ?n150 pe_int
    case' n150 => refine' pe_op op_catG ?n151 (pvd nmShp 8)
    case' n151 => refine' pe_tup ?n152
    case n152 => exact pa_1 pe_str
  case rd =>
   walk_at "v"
   refine ⟨_, rfl, by omega, by omega, fun D1 hD1 => ?_⟩
   refine rng_dr (n := 2) (fun x => 1 ≤ x ∧ x ≤ 3) (by decide) T0 hD1 (fun i H' _ T' _ R kR => ?_) (fun xs H1 hl hb T1 b1 e1 => ?_)
   ·walk_at "v"
    refine ⟨p, l, ns, 3, rfl, T', by decide, by decide, fun r c e r0 r1 => ?_⟩
    walk_at "v"
    exact kR _ _ ⟨by omega, by omega⟩ T'.draw Bp.refl.at
   obtain ⟨x, y, rfl⟩ := two_of hl
   obtain ⟨x1, x2⟩ := hb x (by simp)
   obtain ⟨y1, y2⟩ := hb y (by simp)
   refine ⟨D1, _, _, rfl, e1, ?_⟩
   refine ⟨_, _, rfl, ?_⟩
   walk_at "v"
   refine ⟨_, _, rfl, ?_⟩
   walk_at "v"
   refine ⟨rfl, ?_⟩
   walk_at "v"
   refine ⟨_, rfl, by omega, by omega, fun D2 hD2 => ?_⟩
   refine rng_dr (n := 2) (fun x => 0 ≤ x ∧ x ≤ 2) (by decide) T1 hD2 (fun i H' _ T' _ R kR => ?_) (fun xs H2 hl2 hb2 T2 b2 e2 => ?_)
   ·walk_at "v"
    refine ⟨p, l, ns, 3, rfl, T', by decide, by decide, fun r c e r0 r1 => ?_⟩
    exact kR _ _ ⟨by omega, by omega⟩ T'.draw Bp.refl.at
   obtain ⟨mo, pl, rfl⟩ := two_of hl2
   obtain ⟨m1, m2⟩ := hb2 mo (by simp)
   obtain ⟨p1, p2⟩ := hb2 pl (by simp)
   refine ⟨D2, _, _, rfl, e2, ?_⟩
   refine ⟨_, _, rfl, ?_⟩
   walk_at "v"
   refine ⟨_, _, rfl, ?_⟩
   walk_at "v"
   refine ⟨rfl, ?_⟩
   have TT := T2
   have bt : Bp p H H2 := b1.trans b2
   clear e1 e2 T1 T2
   walk_at "v"
   refine ⟨rfl, ?_⟩
   walk_at "v"
   refine iteD (fun h0 => ?_) (fun h0 => ?_)
   ·obtain rfl : wy = 0 := by injection h0
    walk_at "v"
    refine w_disp fun da1 hda1 => ?_
    obtain ⟨G1, q, M1, m1⟩ := nob (.dK []) hda1; rw [q]; clear q
    refine w_pairs ?_
    walk_at "v"
    refine w_pairs0 ?_
    refine ⟨m1, dcK [(0, 1)], rfl, by show 1 ≤ 15; decide, ?_⟩
    rw [show mergeK [] (dcK [(0, 1)]) = dcK [(0, 1)] from rfl]
    obtain ⟨H1, q, K1, eda1⟩ := nop (.dK (dcK [(0, 1)])) M1 hda1; rw [q]; clear q
    clear M1 m1
    replace TT := TT.same K1
    have KT := K1
    walk_at "v"
    refine w_disp fun db1 hdb1 => ?_
    obtain ⟨G2, q, M2, m2⟩ := nob (.dK []) hdb1; rw [q]; clear q
    refine w_pairs ?_
    walk_at "v"
    refine w_pairs0 ?_
    refine ⟨m2, dcK [(2, x)], rfl, by show 1 ≤ 15; decide, ?_⟩
    rw [show mergeK [] (dcK [(2, x)]) = dcK [(2, x)] from rfl]
    obtain ⟨H2, q, K2, edb1⟩ := nop (.dK (dcK [(2, x)])) M2 hdb1; rw [q]; clear q
    clear M2 m2
    replace TT := TT.same K2
    replace eda1 := K2 _ _ eda1
    replace KT := KT.trans K2
    walk_at "v"
    refine ⟨by show 2 ≤ sizeLine; decide, fun t1 ht1 => ?_⟩
    obtain ⟨H3, q, K3, et1⟩ := nob (.tup [.ref da1, .ref db1]) ht1; rw [q]; clear q
    replace TT := TT.same K3
    obtain ⟨eda1, edb1⟩ := lf2 K3 eda1 edb1
    replace KT := KT.trans K3
    walk_at "v"
    refine w_disp fun da2 hda2 => ?_
    obtain ⟨G4, q, M4, m4⟩ := nob (.dK []) hda2; rw [q]; clear q
    refine w_pairs ?_
    walk_at "v"
    refine w_pairs0 ?_
    refine ⟨m4, dcK [(1, 1)], rfl, by show 1 ≤ 15; decide, ?_⟩
    rw [show mergeK [] (dcK [(1, 1)]) = dcK [(1, 1)] from rfl]
    obtain ⟨H4, q, K4, eda2⟩ := nop (.dK (dcK [(1, 1)])) M4 hda2; rw [q]; clear q
    clear M4 m4
    replace TT := TT.same K4
    obtain ⟨eda1, edb1, et1⟩ := lf3 K4 eda1 edb1 et1
    replace KT := KT.trans K4
    walk_at "v"
    refine w_disp fun db2 hdb2 => ?_
    obtain ⟨G5, q, M5, m5⟩ := nob (.dK []) hdb2; rw [q]; clear q
    refine w_pairs ?_
    walk_at "v"
    refine w_pairs0 ?_
    refine ⟨m5, dcK [(2, y)], rfl, by show 1 ≤ 15; decide, ?_⟩
    rw [show mergeK [] (dcK [(2, y)]) = dcK [(2, y)] from rfl]
    obtain ⟨H5, q, K5, edb2⟩ := nop (.dK (dcK [(2, y)])) M5 hdb2; rw [q]; clear q
    clear M5 m5
    replace TT := TT.same K5
    obtain ⟨eda1, edb1, et1, eda2⟩ := lf4 K5 eda1 edb1 et1 eda2
    replace KT := KT.trans K5
    walk_at "v"
    refine ⟨by show 2 ≤ sizeLine; decide, fun t2 ht2 => ?_⟩
    obtain ⟨H6, q, K6, et2⟩ := nob (.tup [.ref da2, .ref db2]) ht2; rw [q]; clear q
    replace TT := TT.same K6
    obtain ⟨eda1, edb1, et1, eda2, edb2⟩ := lf5 K6 eda1 edb1 et1 eda2 edb2
    replace KT := KT.trans K6
    walk_at "v"
    refine ⟨by show 2 ≤ sizeLine; decide, fun rl hrl => ?_⟩
    obtain ⟨H7, q, K7, erl⟩ := nob (.lst [.ref t1, .ref t2]) hrl; rw [q]; clear q
    replace TT := TT.same K7
    obtain ⟨eda1, edb1, et1, eda2, edb2, et2⟩ := lf6 K7 eda1 edb1 et1 eda2 edb2 et2
    replace KT := KT.trans K7
    walk_at "v"
    refine w_disp fun db hdb => ?_
    obtain ⟨G8, q, M8, m8⟩ := nob (.dK []) hdb; rw [q]; clear q
    refine w_pairs ?_
    walk_at "v"
    refine w_pairs ?_
    walk_at "v"
    refine w_pairs0 ?_
    refine ⟨m8, dcK [(0, mo), (2, pl)], rfl, by show 2 ≤ 15; decide, ?_⟩
    rw [show mergeK [] (dcK [(0, mo), (2, pl)]) = dcK [(0, mo), (2, pl)] from rfl]
    obtain ⟨H8, q, K8, edb⟩ := nop (.dK (dcK [(0, mo), (2, pl)])) M8 hdb; rw [q]; clear q
    clear M8 m8
    replace TT := TT.same K8
    obtain ⟨eda1, edb1, et1, eda2, edb2, et2, erl⟩ := lf7 K8 eda1 edb1 et1 eda2 edb2 et2 erl
    replace KT := KT.trans K8
    walk_at "v"
    refine ⟨by show 2 ≤ sizeLine; decide, fun q1 hq1 => ?_⟩
    obtain ⟨H9, q, K9, eq1⟩ := nob (.tup [.int x, .int y]) hq1; rw [q]; clear q
    replace TT := TT.same K9
    obtain ⟨eda1, edb1, et1, eda2, edb2, et2, erl, edb⟩ := lf8 K9 eda1 edb1 et1 eda2 edb2 et2 erl edb
    replace KT := KT.trans K9
    walk_at "v"
    refine w_rI (mulR (by omega) (by omega)) ?_
    walk_at "v"
    refine ⟨by show 2 ≤ sizeLine; decide, fun q2 hq2 => ?_⟩
    obtain ⟨H10, q, K10, eq2⟩ := nob (.tup [.ref q1, .int (pl + x * mo)]) hq2; rw [q]; clear q
    replace TT := TT.same K10
    obtain ⟨eda1, edb1, et1, eda2, edb2, et2, erl⟩ := lf7 K10 eda1 edb1 et1 eda2 edb2 et2 erl
    obtain ⟨edb, eq1⟩ := lf2 K10 edb eq1
    replace KT := KT.trans K10
    walk_at "v"
    refine ⟨by show 2 ≤ sizeLine; decide, fun q3 hq3 => ?_⟩
    obtain ⟨H11, q, K11, eq3⟩ := nob (.tup [.str "sum", .ref q2]) hq3; rw [q]; clear q
    replace TT := TT.same K11
    obtain ⟨eda1, edb1, et1, eda2, edb2, et2, erl, edb⟩ := lf8 K11 eda1 edb1 et1 eda2 edb2 et2 erl edb
    obtain ⟨eq1, eq2⟩ := lf2 K11 eq1 eq2
    replace KT := KT.trans K11
    walk_at "v"
    refine ⟨by show 6 ≤ sizeLine; decide, fun rr hrr => ?_⟩
    obtain ⟨H12, q, K12, err⟩ := nob (.tup [.ref rl, .int 3, .int 2, .ref db, .ref q3, .int 2]) hrr; rw [q]; clear q
    replace TT := TT.same K12
    obtain ⟨eda1, edb1, et1, eda2, edb2, et2, erl, edb⟩ := lf8 K12 eda1 edb1 et1 eda2 edb2 et2 erl edb
    obtain ⟨eq1, eq2, eq3⟩ := lf3 K12 eq1 eq2 eq3
    replace KT := KT.trans K12
    exact k rr rl db q3 [([(0, 1)], [(2, x)]), ([(1, 1)], [(2, y)])] [(0, mo), (2, pl)] 3 2 2 _ err ⟨[t1, t2], erl, ⟨⟨da1, db1, et1, eda1, edb1⟩, ⟨⟨da2, db2, et2, eda2, edb2⟩, trivial⟩⟩⟩ edb (by refine ⟨by simp, by (repeat (first | exact so_nil | exact dc_nil | refine so_cons ?_ ?_ ?_ | refine dc_cons ⟨by omega, by omega⟩ ?_)), by (repeat (first | exact dc_nil | refine dc_cons ⟨by omega, by omega⟩ ?_)), by decide, by decide, by decide, by decide, by decide⟩) TT (bt.trans (Bp.same KT))
   walk_at "v"
   refine ⟨rfl, ?_⟩
   walk_at "v"
   refine iteD (fun h1 => ?_) (fun h1 => ?_)
   ·walk_at "v"
    refine ⟨p, l, ns, 3, rfl, TT, by decide, by decide, fun sz c e s0 s1 => ?_⟩
    replace TT := TT.draw (c := c) (e := e)
    replace bt := Bp.at (o := .lst [.ref l, .int c, .int e]) bt
    generalize upd H2 p (.lst [.ref l, .int c, .int e]) = HB at TT bt ⊢
    walk_at "v"
    refine w_disp fun da1 hda1 => ?_
    obtain ⟨G1, q, M1, m1⟩ := nob (.dK []) hda1; rw [q]; clear q
    refine w_pairs ?_
    walk_at "v"
    refine w_pairs0 ?_
    refine ⟨m1, dcK [(0, 1)], rfl, by show 1 ≤ 15; decide, ?_⟩
    rw [show mergeK [] (dcK [(0, 1)]) = dcK [(0, 1)] from rfl]
    obtain ⟨H1, q, K1, eda1⟩ := nop (.dK (dcK [(0, 1)])) M1 hda1; rw [q]; clear q
    clear M1 m1
    replace TT := TT.same K1
    have KT := K1
    walk_at "v"
    refine w_disp fun db1 hdb1 => ?_
    obtain ⟨G2, q, M2, m2⟩ := nob (.dK []) hdb1; rw [q]; clear q
    refine w_pairs ?_
    walk_at "v"
    refine w_pairs0 ?_
    refine ⟨m2, dcK [(1, x)], rfl, by show 1 ≤ 15; decide, ?_⟩
    rw [show mergeK [] (dcK [(1, x)]) = dcK [(1, x)] from rfl]
    obtain ⟨H2, q, K2, edb1⟩ := nop (.dK (dcK [(1, x)])) M2 hdb1; rw [q]; clear q
    clear M2 m2
    replace TT := TT.same K2
    replace eda1 := K2 _ _ eda1
    replace KT := KT.trans K2
    walk_at "v"
    refine ⟨by show 2 ≤ sizeLine; decide, fun t1 ht1 => ?_⟩
    obtain ⟨H3, q, K3, et1⟩ := nob (.tup [.ref da1, .ref db1]) ht1; rw [q]; clear q
    replace TT := TT.same K3
    obtain ⟨eda1, edb1⟩ := lf2 K3 eda1 edb1
    replace KT := KT.trans K3
    walk_at "v"
    refine w_disp fun da2 hda2 => ?_
    obtain ⟨G4, q, M4, m4⟩ := nob (.dK []) hda2; rw [q]; clear q
    refine w_pairs ?_
    walk_at "v"
    refine w_pairs0 ?_
    refine ⟨m4, dcK [(1, (2 + sz))], rfl, by show 1 ≤ 15; decide, ?_⟩
    rw [show mergeK [] (dcK [(1, (2 + sz))]) = dcK [(1, (2 + sz))] from rfl]
    obtain ⟨H4, q, K4, eda2⟩ := nop (.dK (dcK [(1, (2 + sz))])) M4 hda2; rw [q]; clear q
    clear M4 m4
    replace TT := TT.same K4
    obtain ⟨eda1, edb1, et1⟩ := lf3 K4 eda1 edb1 et1
    replace KT := KT.trans K4
    walk_at "v"
    refine w_disp fun db2 hdb2 => ?_
    obtain ⟨G5, q, M5, m5⟩ := nob (.dK []) hdb2; rw [q]; clear q
    refine w_pairs ?_
    walk_at "v"
    refine w_pairs0 ?_
    refine ⟨m5, dcK [(2, 1)], rfl, by show 1 ≤ 15; decide, ?_⟩
    rw [show mergeK [] (dcK [(2, 1)]) = dcK [(2, 1)] from rfl]
    obtain ⟨H5, q, K5, edb2⟩ := nop (.dK (dcK [(2, 1)])) M5 hdb2; rw [q]; clear q
    clear M5 m5
    replace TT := TT.same K5
    obtain ⟨eda1, edb1, et1, eda2⟩ := lf4 K5 eda1 edb1 et1 eda2
    replace KT := KT.trans K5
    walk_at "v"
    refine ⟨by show 2 ≤ sizeLine; decide, fun t2 ht2 => ?_⟩
    obtain ⟨H6, q, K6, et2⟩ := nob (.tup [.ref da2, .ref db2]) ht2; rw [q]; clear q
    replace TT := TT.same K6
    obtain ⟨eda1, edb1, et1, eda2, edb2⟩ := lf5 K6 eda1 edb1 et1 eda2 edb2
    replace KT := KT.trans K6
    walk_at "v"
    refine ⟨by show 2 ≤ sizeLine; decide, fun rl hrl => ?_⟩
    obtain ⟨H7, q, K7, erl⟩ := nob (.lst [.ref t1, .ref t2]) hrl; rw [q]; clear q
    replace TT := TT.same K7
    obtain ⟨eda1, edb1, et1, eda2, edb2, et2⟩ := lf6 K7 eda1 edb1 et1 eda2 edb2 et2
    replace KT := KT.trans K7
    walk_at "v"
    refine w_disp fun db hdb => ?_
    obtain ⟨G8, q, M8, m8⟩ := nob (.dK []) hdb; rw [q]; clear q
    refine w_pairs ?_
    walk_at "v"
    refine w_pairs0 ?_
    refine ⟨m8, dcK [(1, pl)], rfl, by show 1 ≤ 15; decide, ?_⟩
    rw [show mergeK [] (dcK [(1, pl)]) = dcK [(1, pl)] from rfl]
    obtain ⟨H8, q, K8, edb⟩ := nop (.dK (dcK [(1, pl)])) M8 hdb; rw [q]; clear q
    clear M8 m8
    replace TT := TT.same K8
    obtain ⟨eda1, edb1, et1, eda2, edb2, et2, erl⟩ := lf7 K8 eda1 edb1 et1 eda2 edb2 et2 erl
    replace KT := KT.trans K8
    walk_at "v"
    refine ⟨by show 1 ≤ sizeLine; decide, fun q1 hq1 => ?_⟩
    obtain ⟨H9, q, K9, eq1⟩ := nob (.tup [.int x]) hq1; rw [q]; clear q
    replace TT := TT.same K9
    obtain ⟨eda1, edb1, et1, eda2, edb2, et2, erl, edb⟩ := lf8 K9 eda1 edb1 et1 eda2 edb2 et2 erl edb
    replace KT := KT.trans K9
    walk_at "v"
    refine ⟨by show 2 ≤ sizeLine; decide, fun q2 hq2 => ?_⟩
    obtain ⟨H10, q, K10, eq2⟩ := nob (.tup [.ref q1, .int pl]) hq2; rw [q]; clear q
    replace TT := TT.same K10
    obtain ⟨eda1, edb1, et1, eda2, edb2, et2, erl⟩ := lf7 K10 eda1 edb1 et1 eda2 edb2 et2 erl
    obtain ⟨edb, eq1⟩ := lf2 K10 edb eq1
    replace KT := KT.trans K10
    walk_at "v"
    refine ⟨by show 3 ≤ sizeLine; decide, fun q3 hq3 => ?_⟩
    obtain ⟨H11, q, K11, eq3⟩ := nob (.tup [.str "part", .ref q2, .int (2 + sz)]) hq3; rw [q]; clear q
    replace TT := TT.same K11
    obtain ⟨eda1, edb1, et1, eda2, edb2, et2, erl, edb⟩ := lf8 K11 eda1 edb1 et1 eda2 edb2 et2 erl edb
    obtain ⟨eq1, eq2⟩ := lf2 K11 eq1 eq2
    replace KT := KT.trans K11
    walk_at "v"
    refine ⟨by show 6 ≤ sizeLine; decide, fun rr hrr => ?_⟩
    obtain ⟨H12, q, K12, err⟩ := nob (.tup [.ref rl, .int 3, .int 1, .ref db, .ref q3, .int 2]) hrr; rw [q]; clear q
    replace TT := TT.same K12
    obtain ⟨eda1, edb1, et1, eda2, edb2, et2, erl, edb⟩ := lf8 K12 eda1 edb1 et1 eda2 edb2 et2 erl edb
    obtain ⟨eq1, eq2, eq3⟩ := lf3 K12 eq1 eq2 eq3
    replace KT := KT.trans K12
    exact k rr rl db q3 [([(0, 1)], [(1, x)]), ([(1, (2 + sz))], [(2, 1)])] [(1, pl)] 3 1 2 _ err ⟨[t1, t2], erl, ⟨⟨da1, db1, et1, eda1, edb1⟩, ⟨⟨da2, db2, et2, eda2, edb2⟩, trivial⟩⟩⟩ edb (by refine ⟨by simp, by (repeat (first | exact so_nil | exact dc_nil | refine so_cons ?_ ?_ ?_ | refine dc_cons ⟨by omega, by omega⟩ ?_)), by (repeat (first | exact dc_nil | refine dc_cons ⟨by omega, by omega⟩ ?_)), by decide, by decide, by decide, by decide, by decide⟩) TT (bt.trans (Bp.same KT))
   walk_at "v"
   refine ⟨by show 2 ≤ sizeLine; decide, fun l1 hl1 => ?_⟩
   obtain ⟨H1, q, K1, el1⟩ := nob (.tup [.int 1, .int 0]) hl1; rw [q]; clear q
   replace TT := TT.same K1
   have KT := K1
   walk_at "v"
   refine ⟨by show 2 ≤ sizeLine; decide, fun l2 hl2 => ?_⟩
   obtain ⟨H2, q, K2, el2⟩ := nob (.tup [.ref l1, .int mo]) hl2; rw [q]; clear q
   replace TT := TT.same K2
   replace el1 := K2 _ _ el1
   replace KT := KT.trans K2
   walk_at "v"
   refine ⟨by show 2 ≤ sizeLine; decide, fun l3 hl3 => ?_⟩
   obtain ⟨H3, q, K3, el3⟩ := nob (.tup [.int 0, .int 1]) hl3; rw [q]; clear q
   replace TT := TT.same K3
   obtain ⟨el1, el2⟩ := lf2 K3 el1 el2
   replace KT := KT.trans K3
   walk_at "v"
   refine ⟨by show 2 ≤ sizeLine; decide, fun l4 hl4 => ?_⟩
   obtain ⟨H4, q, K4, el4⟩ := nob (.tup [.ref l3, .int pl]) hl4; rw [q]; clear q
   replace TT := TT.same K4
   obtain ⟨el1, el2, el3⟩ := lf3 K4 el1 el2 el3
   replace KT := KT.trans K4
   walk_at "v"
   refine ⟨by show 2 ≤ sizeLine; decide, fun ln hln => ?_⟩
   obtain ⟨H5, q, K5, eln⟩ := nob (.tup [.ref l2, .ref l4]) hln; rw [q]; clear q
   replace TT := TT.same K5
   obtain ⟨el1, el2, el3, el4⟩ := lf4 K5 el1 el2 el3 el4
   replace KT := KT.trans K5
   walk_at "v"
   refine ⟨rfl, ?_⟩
   walk_at "v"
   refine iteD (fun h2 => ?_) (fun h2 => ?_)
   ·walk_at "v"
    refine w_disp fun da1 hda1 => ?_
    obtain ⟨G6, q, M6, m6⟩ := nob (.dK []) hda1; rw [q]; clear q
    refine w_pairs ?_
    walk_at "v"
    refine w_pairs ?_
    walk_at "v"
    refine w_pairs0 ?_
    refine ⟨m6, dcK [(0, 1), (1, 1)], rfl, by show 2 ≤ 15; decide, ?_⟩
    rw [show mergeK [] (dcK [(0, 1), (1, 1)]) = dcK [(0, 1), (1, 1)] from rfl]
    obtain ⟨H6, q, K6, eda1⟩ := nop (.dK (dcK [(0, 1), (1, 1)])) M6 hda1; rw [q]; clear q
    clear M6 m6
    replace TT := TT.same K6
    obtain ⟨el1, el2, el3, el4, eln⟩ := lf5 K6 el1 el2 el3 el4 eln
    replace KT := KT.trans K6
    walk_at "v"
    refine w_disp fun db1 hdb1 => ?_
    obtain ⟨G7, q, M7, m7⟩ := nob (.dK []) hdb1; rw [q]; clear q
    refine w_pairs ?_
    walk_at "v"
    refine w_pairs0 ?_
    refine ⟨m7, dcK [(2, 1)], rfl, by show 1 ≤ 15; decide, ?_⟩
    rw [show mergeK [] (dcK [(2, 1)]) = dcK [(2, 1)] from rfl]
    obtain ⟨H7, q, K7, edb1⟩ := nop (.dK (dcK [(2, 1)])) M7 hdb1; rw [q]; clear q
    clear M7 m7
    replace TT := TT.same K7
    obtain ⟨el1, el2, el3, el4, eln, eda1⟩ := lf6 K7 el1 el2 el3 el4 eln eda1
    replace KT := KT.trans K7
    walk_at "v"
    refine ⟨by show 2 ≤ sizeLine; decide, fun t1 ht1 => ?_⟩
    obtain ⟨H8, q, K8, et1⟩ := nob (.tup [.ref da1, .ref db1]) ht1; rw [q]; clear q
    replace TT := TT.same K8
    obtain ⟨el1, el2, el3, el4, eln, eda1, edb1⟩ := lf7 K8 el1 el2 el3 el4 eln eda1 edb1
    replace KT := KT.trans K8
    walk_at "v"
    refine ⟨by show 1 ≤ sizeLine; decide, fun rl hrl => ?_⟩
    obtain ⟨H9, q, K9, erl⟩ := nob (.lst [.ref t1]) hrl; rw [q]; clear q
    replace TT := TT.same K9
    obtain ⟨el1, el2, el3, el4, eln, eda1, edb1, et1⟩ := lf8 K9 el1 el2 el3 el4 eln eda1 edb1 et1
    replace KT := KT.trans K9
    walk_at "v"
    refine w_disp fun db hdb => ?_
    obtain ⟨G10, q, M10, m10⟩ := nob (.dK []) hdb; rw [q]; clear q
    refine w_pairs ?_
    walk_at "v"
    refine w_pairs ?_
    walk_at "v"
    refine w_pairs0 ?_
    refine ⟨m10, dcK [(0, mo), (1, pl)], rfl, by show 2 ≤ 15; decide, ?_⟩
    rw [show mergeK [] (dcK [(0, mo), (1, pl)]) = dcK [(0, mo), (1, pl)] from rfl]
    obtain ⟨H10, q, K10, edb⟩ := nop (.dK (dcK [(0, mo), (1, pl)])) M10 hdb; rw [q]; clear q
    clear M10 m10
    replace TT := TT.same K10
    obtain ⟨el1, el2, el3, el4, eln, eda1, edb1⟩ := lf7 K10 el1 el2 el3 el4 eln eda1 edb1
    obtain ⟨et1, erl⟩ := lf2 K10 et1 erl
    replace KT := KT.trans K10
    walk_at "v"
    refine ⟨by show 1 ≤ sizeLine; decide, fun c1 hc1 => ?_⟩
    obtain ⟨H11, q, K11, ec1⟩ := nob (.tup [.str "least"]) hc1; rw [q]; clear q
    replace TT := TT.same K11
    obtain ⟨el1, el2, el3, el4, eln, eda1, edb1, et1⟩ := lf8 K11 el1 el2 el3 el4 eln eda1 edb1 et1
    obtain ⟨erl, edb⟩ := lf2 K11 erl edb
    replace KT := KT.trans K11
    walk_at "v"
    refine ⟨c1, ln, _, _, rfl, rfl, ec1, eln, by show 3 ≤ 1000; decide, fun q3 H12 K12 eq3 => ?_⟩
    replace TT := TT.same K12
    obtain ⟨el1, el2, el3, el4, eln, eda1, edb1, et1⟩ := lf8 K12 el1 el2 el3 el4 eln eda1 edb1 et1
    obtain ⟨erl, edb, ec1⟩ := lf3 K12 erl edb ec1
    replace KT := KT.trans K12
    walk_at "v"
    refine ⟨by show 6 ≤ sizeLine; decide, fun rr hrr => ?_⟩
    obtain ⟨H13, q, K13, err⟩ := nob (.tup [.ref rl, .int 3, .int 2, .ref db, .ref q3, .int 2]) hrr; rw [q]; clear q
    replace TT := TT.same K13
    obtain ⟨el1, el2, el3, el4, eln, eda1, edb1, et1⟩ := lf8 K13 el1 el2 el3 el4 eln eda1 edb1 et1
    obtain ⟨erl, edb, ec1, eq3⟩ := lf4 K13 erl edb ec1 eq3
    replace KT := KT.trans K13
    exact k rr rl db q3 [([(0, 1), (1, 1)], [(2, 1)])] [(0, mo), (1, pl)] 3 2 2 _ err ⟨[t1], erl, ⟨⟨da1, db1, et1, eda1, edb1⟩, trivial⟩⟩ edb (by refine ⟨by simp, by (repeat (first | exact so_nil | exact dc_nil | refine so_cons ?_ ?_ ?_ | refine dc_cons ⟨by omega, by omega⟩ ?_)), by (repeat (first | exact dc_nil | refine dc_cons ⟨by omega, by omega⟩ ?_)), by decide, by decide, by decide, by decide, by decide⟩) TT (bt.trans (Bp.same KT))
   walk_at "v"
   refine ⟨rfl, ?_⟩
   walk_at "v"
   refine iteD (fun h3 => ?_) (fun h3 => ?_)
   ·walk_at "v"
    refine w_disp fun da1 hda1 => ?_
    obtain ⟨G6, q, M6, m6⟩ := nob (.dK []) hda1; rw [q]; clear q
    refine w_pairs ?_
    walk_at "v"
    refine w_pairs ?_
    walk_at "v"
    refine w_pairs0 ?_
    refine ⟨m6, dcK [(0, 1), (2, 1)], rfl, by show 2 ≤ 15; decide, ?_⟩
    rw [show mergeK [] (dcK [(0, 1), (2, 1)]) = dcK [(0, 1), (2, 1)] from rfl]
    obtain ⟨H6, q, K6, eda1⟩ := nop (.dK (dcK [(0, 1), (2, 1)])) M6 hda1; rw [q]; clear q
    clear M6 m6
    replace TT := TT.same K6
    obtain ⟨el1, el2, el3, el4, eln⟩ := lf5 K6 el1 el2 el3 el4 eln
    replace KT := KT.trans K6
    walk_at "v"
    refine w_disp fun db1 hdb1 => ?_
    obtain ⟨G7, q, M7, m7⟩ := nob (.dK []) hdb1; rw [q]; clear q
    refine w_pairs ?_
    walk_at "v"
    refine w_pairs0 ?_
    refine ⟨m7, dcK [(3, 1)], rfl, by show 1 ≤ 15; decide, ?_⟩
    rw [show mergeK [] (dcK [(3, 1)]) = dcK [(3, 1)] from rfl]
    obtain ⟨H7, q, K7, edb1⟩ := nop (.dK (dcK [(3, 1)])) M7 hdb1; rw [q]; clear q
    clear M7 m7
    replace TT := TT.same K7
    obtain ⟨el1, el2, el3, el4, eln, eda1⟩ := lf6 K7 el1 el2 el3 el4 eln eda1
    replace KT := KT.trans K7
    walk_at "v"
    refine ⟨by show 2 ≤ sizeLine; decide, fun t1 ht1 => ?_⟩
    obtain ⟨H8, q, K8, et1⟩ := nob (.tup [.ref da1, .ref db1]) ht1; rw [q]; clear q
    replace TT := TT.same K8
    obtain ⟨el1, el2, el3, el4, eln, eda1, edb1⟩ := lf7 K8 el1 el2 el3 el4 eln eda1 edb1
    replace KT := KT.trans K8
    walk_at "v"
    refine w_disp fun da2 hda2 => ?_
    obtain ⟨G9, q, M9, m9⟩ := nob (.dK []) hda2; rw [q]; clear q
    refine w_pairs ?_
    walk_at "v"
    refine w_pairs ?_
    walk_at "v"
    refine w_pairs0 ?_
    refine ⟨m9, dcK [(1, 1), (3, 1)], rfl, by show 2 ≤ 15; decide, ?_⟩
    rw [show mergeK [] (dcK [(1, 1), (3, 1)]) = dcK [(1, 1), (3, 1)] from rfl]
    obtain ⟨H9, q, K9, eda2⟩ := nop (.dK (dcK [(1, 1), (3, 1)])) M9 hda2; rw [q]; clear q
    clear M9 m9
    replace TT := TT.same K9
    obtain ⟨el1, el2, el3, el4, eln, eda1, edb1, et1⟩ := lf8 K9 el1 el2 el3 el4 eln eda1 edb1 et1
    replace KT := KT.trans K9
    walk_at "v"
    refine w_disp fun db2 hdb2 => ?_
    obtain ⟨G10, q, M10, m10⟩ := nob (.dK []) hdb2; rw [q]; clear q
    refine w_pairs ?_
    walk_at "v"
    refine w_pairs0 ?_
    refine ⟨m10, dcK [(2, 1)], rfl, by show 1 ≤ 15; decide, ?_⟩
    rw [show mergeK [] (dcK [(2, 1)]) = dcK [(2, 1)] from rfl]
    obtain ⟨H10, q, K10, edb2⟩ := nop (.dK (dcK [(2, 1)])) M10 hdb2; rw [q]; clear q
    clear M10 m10
    replace TT := TT.same K10
    obtain ⟨el1, el2, el3, el4, eln, eda1, edb1⟩ := lf7 K10 el1 el2 el3 el4 eln eda1 edb1
    obtain ⟨et1, eda2⟩ := lf2 K10 et1 eda2
    replace KT := KT.trans K10
    walk_at "v"
    refine ⟨by show 2 ≤ sizeLine; decide, fun t2 ht2 => ?_⟩
    obtain ⟨H11, q, K11, et2⟩ := nob (.tup [.ref da2, .ref db2]) ht2; rw [q]; clear q
    replace TT := TT.same K11
    obtain ⟨el1, el2, el3, el4, eln, eda1, edb1, et1⟩ := lf8 K11 el1 el2 el3 el4 eln eda1 edb1 et1
    obtain ⟨eda2, edb2⟩ := lf2 K11 eda2 edb2
    replace KT := KT.trans K11
    walk_at "v"
    refine ⟨by show 2 ≤ sizeLine; decide, fun rl hrl => ?_⟩
    obtain ⟨H12, q, K12, erl⟩ := nob (.lst [.ref t1, .ref t2]) hrl; rw [q]; clear q
    replace TT := TT.same K12
    obtain ⟨el1, el2, el3, el4, eln, eda1, edb1, et1⟩ := lf8 K12 el1 el2 el3 el4 eln eda1 edb1 et1
    obtain ⟨eda2, edb2, et2⟩ := lf3 K12 eda2 edb2 et2
    replace KT := KT.trans K12
    walk_at "v"
    refine w_disp fun db hdb => ?_
    obtain ⟨G13, q, M13, m13⟩ := nob (.dK []) hdb; rw [q]; clear q
    refine w_pairs ?_
    walk_at "v"
    refine w_pairs ?_
    walk_at "v"
    refine w_pairs ?_
    walk_at "v"
    refine w_pairs0 ?_
    refine ⟨m13, dcK [(0, mo), (1, pl), (2, 1)], rfl, by show 3 ≤ 15; decide, ?_⟩
    rw [show mergeK [] (dcK [(0, mo), (1, pl), (2, 1)]) = dcK [(0, mo), (1, pl), (2, 1)] from rfl]
    obtain ⟨H13, q, K13, edb⟩ := nop (.dK (dcK [(0, mo), (1, pl), (2, 1)])) M13 hdb; rw [q]; clear q
    clear M13 m13
    replace TT := TT.same K13
    obtain ⟨el1, el2, el3, el4, eln, eda1, edb1, et1⟩ := lf8 K13 el1 el2 el3 el4 eln eda1 edb1 et1
    obtain ⟨eda2, edb2, et2, erl⟩ := lf4 K13 eda2 edb2 et2 erl
    replace KT := KT.trans K13
    walk_at "v"
    refine ⟨by show 1 ≤ sizeLine; decide, fun c1 hc1 => ?_⟩
    obtain ⟨H14, q, K14, ec1⟩ := nob (.tup [.str "more"]) hc1; rw [q]; clear q
    replace TT := TT.same K14
    obtain ⟨el1, el2, el3, el4, eln, eda1, edb1, et1⟩ := lf8 K14 el1 el2 el3 el4 eln eda1 edb1 et1
    obtain ⟨eda2, edb2, et2, erl, edb⟩ := lf5 K14 eda2 edb2 et2 erl edb
    replace KT := KT.trans K14
    walk_at "v"
    refine ⟨c1, ln, _, _, rfl, rfl, ec1, eln, by show 3 ≤ 1000; decide, fun q3 H15 K15 eq3 => ?_⟩
    replace TT := TT.same K15
    obtain ⟨el1, el2, el3, el4, eln, eda1, edb1, et1⟩ := lf8 K15 el1 el2 el3 el4 eln eda1 edb1 et1
    obtain ⟨eda2, edb2, et2, erl, edb, ec1⟩ := lf6 K15 eda2 edb2 et2 erl edb ec1
    replace KT := KT.trans K15
    walk_at "v"
    refine ⟨by show 6 ≤ sizeLine; decide, fun rr hrr => ?_⟩
    obtain ⟨H16, q, K16, err⟩ := nob (.tup [.ref rl, .int 4, .int 2, .ref db, .ref q3, .int 3]) hrr; rw [q]; clear q
    replace TT := TT.same K16
    obtain ⟨el1, el2, el3, el4, eln, eda1, edb1, et1⟩ := lf8 K16 el1 el2 el3 el4 eln eda1 edb1 et1
    obtain ⟨eda2, edb2, et2, erl, edb, ec1, eq3⟩ := lf7 K16 eda2 edb2 et2 erl edb ec1 eq3
    replace KT := KT.trans K16
    exact k rr rl db q3 [([(0, 1), (2, 1)], [(3, 1)]), ([(1, 1), (3, 1)], [(2, 1)])] [(0, mo), (1, pl), (2, 1)] 4 2 3 _ err ⟨[t1, t2], erl, ⟨⟨da1, db1, et1, eda1, edb1⟩, ⟨⟨da2, db2, et2, eda2, edb2⟩, trivial⟩⟩⟩ edb (by refine ⟨by simp, by (repeat (first | exact so_nil | exact dc_nil | refine so_cons ?_ ?_ ?_ | refine dc_cons ⟨by omega, by omega⟩ ?_)), by (repeat (first | exact dc_nil | refine dc_cons ⟨by omega, by omega⟩ ?_)), by decide, by decide, by decide, by decide, by decide⟩) TT (bt.trans (Bp.same KT))
   walk_at "v"
   refine w_disp fun da1 hda1 => ?_
   obtain ⟨G6, q, M6, m6⟩ := nob (.dK []) hda1; rw [q]; clear q
   refine w_pairs ?_
   walk_at "v"
   refine w_pairs0 ?_
   refine ⟨m6, dcK [(0, 1)], rfl, by show 1 ≤ 15; decide, ?_⟩
   rw [show mergeK [] (dcK [(0, 1)]) = dcK [(0, 1)] from rfl]
   obtain ⟨H6, q, K6, eda1⟩ := nop (.dK (dcK [(0, 1)])) M6 hda1; rw [q]; clear q
   clear M6 m6
   replace TT := TT.same K6
   obtain ⟨el1, el2, el3, el4, eln⟩ := lf5 K6 el1 el2 el3 el4 eln
   replace KT := KT.trans K6
   walk_at "v"
   refine w_disp fun db1 hdb1 => ?_
   obtain ⟨G7, q, M7, m7⟩ := nob (.dK []) hdb1; rw [q]; clear q
   refine w_pairs ?_
   walk_at "v"
   refine w_pairs ?_
   walk_at "v"
   refine w_pairs0 ?_
   refine ⟨m7, dcK [(2, 1), (5, 1)], rfl, by show 2 ≤ 15; decide, ?_⟩
   rw [show mergeK [] (dcK [(2, 1), (5, 1)]) = dcK [(2, 1), (5, 1)] from rfl]
   obtain ⟨H7, q, K7, edb1⟩ := nop (.dK (dcK [(2, 1), (5, 1)])) M7 hdb1; rw [q]; clear q
   clear M7 m7
   replace TT := TT.same K7
   obtain ⟨el1, el2, el3, el4, eln, eda1⟩ := lf6 K7 el1 el2 el3 el4 eln eda1
   replace KT := KT.trans K7
   walk_at "v"
   refine ⟨by show 2 ≤ sizeLine; decide, fun t1 ht1 => ?_⟩
   obtain ⟨H8, q, K8, et1⟩ := nob (.tup [.ref da1, .ref db1]) ht1; rw [q]; clear q
   replace TT := TT.same K8
   obtain ⟨el1, el2, el3, el4, eln, eda1, edb1⟩ := lf7 K8 el1 el2 el3 el4 eln eda1 edb1
   replace KT := KT.trans K8
   walk_at "v"
   refine w_disp fun da2 hda2 => ?_
   obtain ⟨G9, q, M9, m9⟩ := nob (.dK []) hda2; rw [q]; clear q
   refine w_pairs ?_
   walk_at "v"
   refine w_pairs0 ?_
   refine ⟨m9, dcK [(1, 1)], rfl, by show 1 ≤ 15; decide, ?_⟩
   rw [show mergeK [] (dcK [(1, 1)]) = dcK [(1, 1)] from rfl]
   obtain ⟨H9, q, K9, eda2⟩ := nop (.dK (dcK [(1, 1)])) M9 hda2; rw [q]; clear q
   clear M9 m9
   replace TT := TT.same K9
   obtain ⟨el1, el2, el3, el4, eln, eda1, edb1, et1⟩ := lf8 K9 el1 el2 el3 el4 eln eda1 edb1 et1
   replace KT := KT.trans K9
   walk_at "v"
   refine w_disp fun db2 hdb2 => ?_
   obtain ⟨G10, q, M10, m10⟩ := nob (.dK []) hdb2; rw [q]; clear q
   refine w_pairs ?_
   walk_at "v"
   refine w_pairs ?_
   walk_at "v"
   refine w_pairs0 ?_
   refine ⟨m10, dcK [(3, 1), (5, 1)], rfl, by show 2 ≤ 15; decide, ?_⟩
   rw [show mergeK [] (dcK [(3, 1), (5, 1)]) = dcK [(3, 1), (5, 1)] from rfl]
   obtain ⟨H10, q, K10, edb2⟩ := nop (.dK (dcK [(3, 1), (5, 1)])) M10 hdb2; rw [q]; clear q
   clear M10 m10
   replace TT := TT.same K10
   obtain ⟨el1, el2, el3, el4, eln, eda1, edb1⟩ := lf7 K10 el1 el2 el3 el4 eln eda1 edb1
   obtain ⟨et1, eda2⟩ := lf2 K10 et1 eda2
   replace KT := KT.trans K10
   walk_at "v"
   refine ⟨by show 2 ≤ sizeLine; decide, fun t2 ht2 => ?_⟩
   obtain ⟨H11, q, K11, et2⟩ := nob (.tup [.ref da2, .ref db2]) ht2; rw [q]; clear q
   replace TT := TT.same K11
   obtain ⟨el1, el2, el3, el4, eln, eda1, edb1, et1⟩ := lf8 K11 el1 el2 el3 el4 eln eda1 edb1 et1
   obtain ⟨eda2, edb2⟩ := lf2 K11 eda2 edb2
   replace KT := KT.trans K11
   walk_at "v"
   refine w_disp fun da3 hda3 => ?_
   obtain ⟨G12, q, M12, m12⟩ := nob (.dK []) hda3; rw [q]; clear q
   refine w_pairs ?_
   walk_at "v"
   refine w_pairs ?_
   walk_at "v"
   refine w_pairs0 ?_
   refine ⟨m12, dcK [(2, 1), (3, 1)], rfl, by show 2 ≤ 15; decide, ?_⟩
   rw [show mergeK [] (dcK [(2, 1), (3, 1)]) = dcK [(2, 1), (3, 1)] from rfl]
   obtain ⟨H12, q, K12, eda3⟩ := nop (.dK (dcK [(2, 1), (3, 1)])) M12 hda3; rw [q]; clear q
   clear M12 m12
   replace TT := TT.same K12
   obtain ⟨el1, el2, el3, el4, eln, eda1, edb1, et1⟩ := lf8 K12 el1 el2 el3 el4 eln eda1 edb1 et1
   obtain ⟨eda2, edb2, et2⟩ := lf3 K12 eda2 edb2 et2
   replace KT := KT.trans K12
   walk_at "v"
   refine w_disp fun db3 hdb3 => ?_
   obtain ⟨G13, q, M13, m13⟩ := nob (.dK []) hdb3; rw [q]; clear q
   refine w_pairs ?_
   walk_at "v"
   refine w_pairs0 ?_
   refine ⟨m13, dcK [(4, 1)], rfl, by show 1 ≤ 15; decide, ?_⟩
   rw [show mergeK [] (dcK [(4, 1)]) = dcK [(4, 1)] from rfl]
   obtain ⟨H13, q, K13, edb3⟩ := nop (.dK (dcK [(4, 1)])) M13 hdb3; rw [q]; clear q
   clear M13 m13
   replace TT := TT.same K13
   obtain ⟨el1, el2, el3, el4, eln, eda1, edb1, et1⟩ := lf8 K13 el1 el2 el3 el4 eln eda1 edb1 et1
   obtain ⟨eda2, edb2, et2, eda3⟩ := lf4 K13 eda2 edb2 et2 eda3
   replace KT := KT.trans K13
   walk_at "v"
   refine ⟨by show 2 ≤ sizeLine; decide, fun t3 ht3 => ?_⟩
   obtain ⟨H14, q, K14, et3⟩ := nob (.tup [.ref da3, .ref db3]) ht3; rw [q]; clear q
   replace TT := TT.same K14
   obtain ⟨el1, el2, el3, el4, eln, eda1, edb1, et1⟩ := lf8 K14 el1 el2 el3 el4 eln eda1 edb1 et1
   obtain ⟨eda2, edb2, et2, eda3, edb3⟩ := lf5 K14 eda2 edb2 et2 eda3 edb3
   replace KT := KT.trans K14
   walk_at "v"
   refine w_disp fun da4 hda4 => ?_
   obtain ⟨G15, q, M15, m15⟩ := nob (.dK []) hda4; rw [q]; clear q
   refine w_pairs ?_
   walk_at "v"
   refine w_pairs ?_
   walk_at "v"
   refine w_pairs0 ?_
   refine ⟨m15, dcK [(4, 1), (5, 1)], rfl, by show 2 ≤ 15; decide, ?_⟩
   rw [show mergeK [] (dcK [(4, 1), (5, 1)]) = dcK [(4, 1), (5, 1)] from rfl]
   obtain ⟨H15, q, K15, eda4⟩ := nop (.dK (dcK [(4, 1), (5, 1)])) M15 hda4; rw [q]; clear q
   clear M15 m15
   replace TT := TT.same K15
   obtain ⟨el1, el2, el3, el4, eln, eda1, edb1, et1⟩ := lf8 K15 el1 el2 el3 el4 eln eda1 edb1 et1
   obtain ⟨eda2, edb2, et2, eda3, edb3, et3⟩ := lf6 K15 eda2 edb2 et2 eda3 edb3 et3
   replace KT := KT.trans K15
   walk_at "v"
   refine w_dnew fun db4 hdb4 => ?_
   have K16 : Same H15 (upd H15 db4 (.dK [])) := Same.new (Same.refl _) hdb4
   have edb4 : upd H15 db4 (.dK []) db4 = some (.dK (dcK [])) := upd_same
   generalize upd H15 db4 (.dK []) = H16 at K16 edb4 ⊢
   replace TT := TT.same K16
   obtain ⟨el1, el2, el3, el4, eln, eda1, edb1, et1⟩ := lf8 K16 el1 el2 el3 el4 eln eda1 edb1 et1
   obtain ⟨eda2, edb2, et2, eda3, edb3, et3, eda4⟩ := lf7 K16 eda2 edb2 et2 eda3 edb3 et3 eda4
   replace KT := KT.trans K16
   walk_at "v"
   refine ⟨by show 2 ≤ sizeLine; decide, fun t4 ht4 => ?_⟩
   obtain ⟨H17, q, K17, et4⟩ := nob (.tup [.ref da4, .ref db4]) ht4; rw [q]; clear q
   replace TT := TT.same K17
   obtain ⟨el1, el2, el3, el4, eln, eda1, edb1, et1⟩ := lf8 K17 el1 el2 el3 el4 eln eda1 edb1 et1
   obtain ⟨eda2, edb2, et2, eda3, edb3, et3, eda4, edb4⟩ := lf8 K17 eda2 edb2 et2 eda3 edb3 et3 eda4 edb4
   replace KT := KT.trans K17
   walk_at "v"
   refine ⟨by show 4 ≤ sizeLine; decide, fun rl hrl => ?_⟩
   obtain ⟨H18, q, K18, erl⟩ := nob (.lst [.ref t1, .ref t2, .ref t3, .ref t4]) hrl; rw [q]; clear q
   replace TT := TT.same K18
   obtain ⟨el1, el2, el3, el4, eln, eda1, edb1, et1⟩ := lf8 K18 el1 el2 el3 el4 eln eda1 edb1 et1
   obtain ⟨eda2, edb2, et2, eda3, edb3, et3, eda4⟩ := lf7 K18 eda2 edb2 et2 eda3 edb3 et3 eda4
   obtain ⟨edb4, et4⟩ := lf2 K18 edb4 et4
   replace KT := KT.trans K18
   walk_at "v"
   refine w_disp fun db hdb => ?_
   obtain ⟨G19, q, M19, m19⟩ := nob (.dK []) hdb; rw [q]; clear q
   refine w_pairs ?_
   walk_at "v"
   refine w_pairs ?_
   walk_at "v"
   refine w_pairs0 ?_
   refine ⟨m19, dcK [(0, mo), (1, pl)], rfl, by show 2 ≤ 15; decide, ?_⟩
   rw [show mergeK [] (dcK [(0, mo), (1, pl)]) = dcK [(0, mo), (1, pl)] from rfl]
   obtain ⟨H19, q, K19, edb⟩ := nop (.dK (dcK [(0, mo), (1, pl)])) M19 hdb; rw [q]; clear q
   clear M19 m19
   replace TT := TT.same K19
   obtain ⟨el1, el2, el3, el4, eln, eda1, edb1, et1⟩ := lf8 K19 el1 el2 el3 el4 eln eda1 edb1 et1
   obtain ⟨eda2, edb2, et2, eda3, edb3, et3, eda4, edb4⟩ := lf8 K19 eda2 edb2 et2 eda3 edb3 et3 eda4 edb4
   obtain ⟨et4, erl⟩ := lf2 K19 et4 erl
   replace KT := KT.trans K19
   walk_at "v"
   refine ⟨by show 1 ≤ sizeLine; decide, fun c1 hc1 => ?_⟩
   obtain ⟨H20, q, K20, ec1⟩ := nob (.tup [.str "most"]) hc1; rw [q]; clear q
   replace TT := TT.same K20
   obtain ⟨el1, el2, el3, el4, eln, eda1, edb1, et1⟩ := lf8 K20 el1 el2 el3 el4 eln eda1 edb1 et1
   obtain ⟨eda2, edb2, et2, eda3, edb3, et3, eda4, edb4⟩ := lf8 K20 eda2 edb2 et2 eda3 edb3 et3 eda4 edb4
   obtain ⟨et4, erl, edb⟩ := lf3 K20 et4 erl edb
   replace KT := KT.trans K20
   walk_at "v"
   refine ⟨c1, ln, _, _, rfl, rfl, ec1, eln, by show 3 ≤ 1000; decide, fun q3 H21 K21 eq3 => ?_⟩
   replace TT := TT.same K21
   obtain ⟨el1, el2, el3, el4, eln, eda1, edb1, et1⟩ := lf8 K21 el1 el2 el3 el4 eln eda1 edb1 et1
   obtain ⟨eda2, edb2, et2, eda3, edb3, et3, eda4, edb4⟩ := lf8 K21 eda2 edb2 et2 eda3 edb3 et3 eda4 edb4
   obtain ⟨et4, erl, edb, ec1⟩ := lf4 K21 et4 erl edb ec1
   replace KT := KT.trans K21
   walk_at "v"
   refine ⟨by show 6 ≤ sizeLine; decide, fun rr hrr => ?_⟩
   obtain ⟨H22, q, K22, err⟩ := nob (.tup [.ref rl, .int 6, .int 2, .ref db, .ref q3, .int 5]) hrr; rw [q]; clear q
   replace TT := TT.same K22
   obtain ⟨el1, el2, el3, el4, eln, eda1, edb1, et1⟩ := lf8 K22 el1 el2 el3 el4 eln eda1 edb1 et1
   obtain ⟨eda2, edb2, et2, eda3, edb3, et3, eda4, edb4⟩ := lf8 K22 eda2 edb2 et2 eda3 edb3 et3 eda4 edb4
   obtain ⟨et4, erl, edb, ec1, eq3⟩ := lf5 K22 et4 erl edb ec1 eq3
   replace KT := KT.trans K22
   exact k rr rl db q3 [([(0, 1)], [(2, 1), (5, 1)]), ([(1, 1)], [(3, 1), (5, 1)]), ([(2, 1), (3, 1)], [(4, 1)]), ([(4, 1), (5, 1)], [])] [(0, mo), (1, pl)] 6 2 5 _ err ⟨[t1, t2, t3, t4], erl, ⟨⟨da1, db1, et1, eda1, edb1⟩, ⟨⟨da2, db2, et2, eda2, edb2⟩, ⟨⟨da3, db3, et3, eda3, edb3⟩, ⟨⟨da4, db4, et4, eda4, edb4⟩, trivial⟩⟩⟩⟩⟩ edb (by refine ⟨by simp, by (repeat (first | exact so_nil | exact dc_nil | refine so_cons ?_ ?_ ?_ | refine dc_cons ⟨by omega, by omega⟩ ?_)), by (repeat (first | exact dc_nil | refine dc_cons ⟨by omega, by omega⟩ ?_)), by decide, by decide, by decide, by decide, by decide⟩) TT (bt.trans (Bp.same KT))
end
end K29
namespace L2
open PySem PySem.Spec PyProof.Rows
theorem sqL0 {K : PySem.W.Frag} {H : Hp} {a : Addr} {xs : List V} (h : SqL [] H a xs) : SqL K H a xs := h.elim .inl fun ⟨_, _, _, e, _⟩ => nomatch e
theorem tyV0 {K : PySem.W.Frag} {T : String} {x : V} {H : Hp} (h : tyV [] T x H) : tyV K T x H := by
 cases x with
 | ref p =>
  rcases h with ⟨a, xs, h⟩ | ⟨_, o, e, _⟩ | h | h
  ·exact .inl ⟨a, xs, sqL0 h⟩
  ·cases e
  ·exact .inr (.inr (.inl h))
  ·exact .inr (.inr (.inr h))
 | _ => exact h
section
variable {X : Cx}
theorem pe_bm_0 {o e : Expr} {es : List Expr} {to : TE} {t : TA} {name : Str} {apos cpos : Pos} {T id : String} {r : V → List V → Hp → VK → Prop} (pa : PlainAttrs T) (slot : Slot T name id) (hty : typeOf (.builtin id) = pure (.type "method_descriptor")) (hm : MtR X id r) (ho : PE X o to) (ha : PA X (e :: es) t)
  (hbase : attributeBase o name X.env (eval o X.env) = eval o X.env := by rfl)
  (hfew : ((backTo cpos (starEach (e :: es) X.env)).all (fun x => !x.1) && (backToKw cpos (keywordEach [] X.env)).all (fun x => x.1.isSome)
   && decide ((e :: es).length + ([] : List Keyword).length + (if ([] : List Keyword).isEmpty then 0 else 1) < 30)) = true := by rfl)
  (hline : (apos.endLine == cpos.line) = true := by rfl) (hs : starEach (e :: es) X.env = (false, eval e X.env) :: starEach es X.env := by rfl) (hplain : (backTo cpos (starEach es X.env)).any (·.1) = false := by rfl) :
  PE X (.Call (.Attribute o name apos) (e :: es) [] cpos) (tBM [] T r to t) := by
 intro pins s σ H Q I h
 refine wpAny_Call_method_late hbase hfew hline rfl (thn (ho pins s σ H _ I h) fun v s1 ⟨x, H1, I1, r1, ty, q1⟩ => ?_)
 obtain ⟨h1, h2⟩ := tyV_is I1 r1 (tyV0 ty)
 refine ⟨T, id, pa, slot, hty, h1, h2, ?_⟩
 have hA := ha cpos pins s1 σ H1 _ I1 q1
 rw [hs] at hA ⊢
 refine Calls.callWith_builtin (by show (false || (backTo cpos (starEach es X.env)).any (·.1)) = false; rw [hplain] <;> rfl) (Calls.evalArgs_plain ?_)
 exact thn hA fun us s2 ⟨vs, H2, I2, r2, q2⟩ => hm pins s2 σ H2 x vs v us Q I2 r1 r2 q2
def rIndexI : V → List V → Hp → VK → Prop := fun x vs H Q => ∃ (l : Addr) (ws : List Int) (b : Int) (k : Nat), x = .ref l ∧ vs = [.int b] ∧ H l = some (.lst (ws.map V.int)) ∧ ws[k]? = some b ∧ (∀ i y, i < k → ws[i]? = some y → y ≠ b) ∧ Q (.int (k : Int)) H
def isN (b : Int) : Value → Bool
 | .int a _ => decide (a = b)
 | _ => false
theorem mt_indexI : MtM X "list.index" rIndexI := by
 intro pins s σ H x vs v us Q I rx rv h
 obtain ⟨l, ws, b, k, rfl, rfl, hH, hk, hno, q⟩ := h
 cases rx
 obtain ⟨u, rfl, ru⟩ := rv.one
 obtain ⟨t, rfl⟩ := ru
 obtain ⟨z, its, n, r, hl, e⟩ := I.lstM hH
 have hl' : ws.length = its.length := by simpa using hl
 have hkl : k < ws.length := (List.getElem?_eq_some_iff.mp hk).1
 have zl : ws.length ≤ sizeLine := by simpa using z
 have at' : ∀ m (hm : m < its.length), ∃ tt, its[m] = .int (ws[m]'(by omega)) tt := fun m hm => by
  obtain ⟨w', ew, rw'⟩ := r.get (show (ws.map V.int)[m]? = some (V.int (ws[m]'(by omega))) by simp [show m < ws.length by omega])
  rw [List.getElem?_eq_getElem hm] at ew
  rw [Option.some.inj ew]
  exact rw'
 refine call_meets F.slot_list_index ⟨_, e, rfl⟩ F.entry_list_index (F.args_list_index_2 _ _)
  (SeqAt.list_indexAt l its.toArray n none #[] (.int b t) (isN b) k (by rw [List.size_toArray]; omega) ?_ ?_ (fun m hm hmk => ?_)) ⟨e, fun y hy => ?_, ?_⟩
 ·have := sizeLine_eq
  omega
 ·obtain ⟨tt, ee⟩ := at' k (by omega)
  rw [List.getElem_toArray, ee]
  show decide (ws[k] = b) = true
  rw [List.getElem?_eq_getElem hkl] at hk
  exact decide_eq_true (Option.some.inj hk)
 ·rw [List.size_toArray] at hm
  obtain ⟨tt, ee⟩ := at' m hm
  rw [List.getElem_toArray, ee]
  exact decide_eq_false (hno m _ hmk (List.getElem?_eq_getElem (by omega)))
 ·obtain ⟨m, hm, rfl⟩ := Array.mem_iff_getElem.mp hy
  rw [List.size_toArray] at hm
  obtain ⟨tt, ee⟩ := at' m hm
  rw [List.getElem_toArray, ee]
  have := eqAt_V (A := X.A.in1) (s := s) (y := .int (ws[m]'(by omega))) (x := .int b) ⟨tt, rfl⟩ ⟨t, rfl⟩ rfl rfl
  exact this
 ·exact ⟨.int k, H, I.tok _, ⟨_, rfl⟩, q⟩
end
end L2
namespace K29
open PySem L2 G2 EL
local macro_rules | `(tactic| walk_at "v") => `(tactic| repeat (with_reducible first
  | refine w_seq ?_ | refine w_asg ?_ | refine w_gname ?_ | refine w_op ?_ | refine w_var rfl ?_ | refine w_c ?_ | refine w_rI0 ?_ | refine w_ifs ?_ | refine w_ife ?_ | refine w_test ?_ | refine w_tb ?_ | refine w_bl ?_ | refine w_not ?_ | refine w_ret ?_ | refine w_retN ?_
  | refine w_nil ?_ | refine w_cons ?_ | refine w_lst ?_ | refine w_tup ?_ | refine w_cb ?_ | refine w_call ?_ | refine w_gsub ?_ | refine w_and ?_ | refine w_or ?_ | refine w_next ?_ | refine w_all ?_ | refine w_vals ?_ | refine w_compR ?_ | refine w_compT ?_ | refine w_forR ?_ | refine w_forT ?_ | refine w_forL ?_ | refine w_drop ?_ | refine w_bm ?_ | refine w_compZ ?_ | refine w_compL ?_ | refine w_chain ?_ | refine w_sl ?_ | refine w_nopart ?_ | refine w_part ?_ | refine w_unI ?_ | refine iteT ?_ | refine iteF ?_))
abbrev sOr : Stmt := top 38
abbrev nOr : List Str := ["_law_tape_here", "_law_many", "_law_left"]
theorem nmOr : Nm nOr (defScope sOr) := ⟨by decide +kernel, by decide +kernel⟩
theorem scOr : FnScope nOr ["_law_tape_here", "_law_many"] (defScope sOr) := ⟨rfl, rfl, rfl, by decide +kernel, rfl, by decide +kernel, by decide +kernel⟩
def qOra (s : Stmt) : Scope := match s with
 | .Return (some (.ListComp _ _ sc _)) _ => sc
 | _ => { kind := .function, names := [], isGenerator := false, isCoroutine := false }
abbrev cOra : Scope := qOra ((defBody sOr).getD 1 (.Pass ⟨0, 0, 0, 0⟩))
theorem bsOra : BScope (defScope sOr) cOra ["_law_k"] ["_law_left", "_law_tape_here"] ["_law_draw", "len"] := { okind := by decide +kernel, kind := by decide +kernel, nocell := by decide +kernel, names := by decide +kernel, fr := by decide +kernel, ff := by decide +kernel, nd := by decide +kernel, vis := by decide +kernel, loc := by decide +kernel, gl := by decide +kernel }
def rngI (m : Nat) : List Int := (List.range m).map fun (i : Nat) => (i : Int)
def spOr : Sp := fun vs H Q _ => ∃ (p l : Addr) (ns : List Int) (m : Nat), vs = [.ref p, .int (m : Int)] ∧ Tp H p l ns ∧ m ≤ 8 ∧ ∀ (q : Addr) (xs : List Int) (H' : Hp), H' q = some (.lst (xs.map V.int)) → H q = none → xs.Perm (rngI m) → Tp H' p l ns → Bp p H H' → Q (.ref q) H'
theorem perm_at : ∀ (lf : List Int) (j : Nat) (hj : j < lf.length), (lf[j] :: lf.eraseIdx j).Perm lf
 | x :: lf, 0, _ => List.Perm.refl _
 | x :: lf, j + 1, hj => (List.Perm.swap _ _ _).trans ((perm_at lf j (by simpa using hj)).cons x)
theorem perm_pop {xs lf : List Int} {j : Nat} (hj : j < lf.length) {ys : List Int} (h : (xs ++ lf).Perm ys) : ((xs ++ [lf[j]]) ++ lf.eraseIdx j).Perm ys := by
 refine List.Perm.trans ?_ h
 rw [List.append_assoc]
 refine List.Perm.append_left xs ?_
 exact perm_at lf j hj
section
variable {P : Program} {w : World} {K : PySem.W.Frag} {mg : Str → Option Value} {base : Heap}
set_option maxHeartbeats 4000000 in
theorem ok_Or {f : Addr} {fd : FuncData} (B : Blt3 mg) (D : Has P w K mg base 1 "_law_draw" ["_law_tape_here", "_law_many"] spDraw) (F : Fun K "_law_order" "_law_order" sOr f fd) : FnOk P w K mg base CX0 2 f fd ["_law_tape_here", "_law_many"] spOr := by
 refine F.ok scOr (fun vs H Q E h => ?_) (fun cdv A outer s H vs Q E hr h => ?_)
 ·obtain ⟨p, l, ns, m, rfl, _⟩ := h
  rfl
 ·obtain ⟨p, l, ns, m, rfl, T0, m8, k⟩ := h
  refine' ⟨_, ?hb, ?rd⟩
  case' hb => skip
  case' hb => refine' pss_cons ?g1 ?g2
  case' g2 => refine' pss_one ?g3
  case g1 => exact ps_setD nmOr 2 (pe_cT (call_listRng rfl) B.list PyProof.Rows.boot_list (pa_1 (pe_cT call_rangeV B.range PyProof.Rows.boot_range (pa_1 (pvd nmOr 1)))))
  case' g3 => refine' ps_ret ?g4
  case' g4 => refine' pe_comp (ix := [2, 0]) bsOra.toCScope rfl rfl ?g5 ?g6 ?g7 ?g8
  case g5 => exact pi_r1 B.range (pa_1 (pvd nmOr 1))
  case g6 => exact fun _ _ _ _ _ _ => pgb bsOra 0
  case g7 => exact fun _ _ _ _ _ _ => pts_nil
  case g8 => exact fun _ _ _ _ _ _ => pe_bm_0 PySem.F.plainAttrs_list PySem.F.slot_list_pop PySem.F.type_list_pop mt_popAt (pvb bsOra 1) (pa_1 (pe_f D hr (by decide) (pa_2 (pvb bsOra 2) (pe_cB call_lnL B.len PySem.boot_len (pa_1 (pvb bsOra 1)) (bsOra.g 1))) (bsOra.g 0)))
  case rd =>
   walk_at "v"
   refine ⟨m, rfl, fun rg hrg => ?_⟩
   have S0 : SS p l ns H (upd H rg (.rng 0 m)) := SS.new ⟨T0, Bp.refl⟩ hrg
   have erg : upd H rg (.rng 0 m) rg = some (.rng 0 m) := upd_same
   generalize upd H rg (.rng 0 m) = H0 at S0 erg ⊢
   walk_at "v"
   refine ⟨rg, m, rfl, erg, by omega, fun pl hpl => ?_⟩
   have n0l := S0.none hpl
   have ppl := S0.tp.np hpl
   have lpl := S0.tp.nl hpl
   have S1 := S0.new (o := .lst ((List.range m).map fun (i : Nat) => V.int (i : Int))) hpl
   have el : upd H0 pl (.lst ((List.range m).map fun (i : Nat) => V.int (i : Int))) pl = some (.lst ((rngI m).map V.int)) := by rw [upd_same]; unfold rngI; rw [List.map_map]; rfl
   generalize upd H0 pl (.lst ((List.range m).map fun (i : Nat) => V.int (i : Int))) = H1 at S1 el ⊢
   clear S0 erg
   walk_at "v"
   refine ⟨_, rfl, by omega, by omega, fun D1 hD1 => ?_⟩
   rw [Int.toNat_natCast]
   have pD := S1.tp.np hD1
   have lD := S1.tp.nl hD1
   have nD : pl ≠ D1 := ne_of_none el hD1
   have hD0 := S1.none hD1
   refine cgo_range (n := m) (fun i ys H' => ∃ (xs lf : List Int), ys = xs.map V.int ∧ H' pl = some (.lst (lf.map V.int)) ∧ xs.length = i ∧ lf.length + i = m ∧ (xs ++ lf).Perm (rngI m) ∧ SS p l ns H H') ⟨[], rngI m, rfl, by rw [upd_ne nD]; exact el, rfl, by unfold rngI; simp, List.Perm.refl _, S1.new hD1⟩ ?_ ?_
   ·rintro i ys H' hi ⟨xs, lf, rfl, el, hl1, hl2, hp, S⟩ hDy R SK kR _
    refine w_all (iteT ?_)
    walk_at "v"
    refine ⟨.inl ⟨rfl, _, SqL.of el⟩, ?_⟩
    walk_at "v"
    refine ⟨pl, _, rfl, el, ?_⟩
    rw [List.length_map]
    refine ⟨p, l, ns, lf.length, rfl, S.tp, by omega, by omega, fun r c e r0 r1 => ?_⟩
    have S' := S.draw (c := c) (e := e)
    have el' : upd H' p (.lst [.ref l, .int c, .int e]) pl = some (.lst (lf.map V.int)) := by rw [upd_ne (Ne.symm ppl)]; exact el
    have hDy' : upd H' p (.lst [.ref l, .int c, .int e]) D1 = some (.lst (xs.map V.int)) := by rw [upd_ne (Ne.symm pD)]; exact hDy
    generalize upd H' p (.lst [.ref l, .int c, .int e]) = H2 at S' el' hDy' ⊢
    obtain ⟨j, rfl⟩ := ofI r0
    have hj : j < lf.length := by omega
    have hix : ixN (lf.map V.int).length (j : Int) = some j := by
     rw [List.length_map]
     unfold ixN
     rw [if_pos r0, if_pos r1]
     rfl
    walk_at "v"
    refine ⟨pl, _, _, j, .int lf[j], rfl, rfl, el', by omega, by omega, (ixN_seq hix).1, by simp [hj], ?_⟩
    have S'' := S'.put (o := .lst ((lf.map V.int).eraseIdx j)) n0l ppl lpl
    refine kR _ _ (by rw [upd_ne (Ne.symm nD)]; exact hDy') (by rw [List.length_map]; exact small1000 (by omega)) ⟨xs ++ [lf[j]], lf.eraseIdx j, by rw [List.map_append]; rfl, by rw [upd_ne nD, upd_same, map_eraseB], by simp [hl1], by rw [List.length_eraseIdx_of_lt hj]; omega, perm_pop hj hp, S''.put hD0 pD lD⟩
   rintro ys H' ⟨xs, lf, rfl, el, hl1, hl2, hp, S⟩ e
   have : lf = [] := List.eq_nil_of_length_eq_zero (by omega)
   subst this
   rw [List.append_nil] at hp
   exact k D1 xs H' e hD0 hp S.tp S.bt
end
def gv : Dc → Int → Int
 | [], _ => 0
 | x :: d, j => if x.1 = j then x.2 else gv d j
theorem val_dc : ∀ (d : Dc) (j : Int), (valV (dcK d) (Sum.inl j : Key)).getD (V.int 0) = V.int (gv d j)
 | [], j => rfl
 | (k, v) :: d, j => by
  have ih := val_dc d j
  unfold gv
  by_cases h : k = j
  ·subst h
   simp [valV, dcK]
  ·rw [if_neg h, ← ih]
   simp [valV, dcK, h]
theorem gv_ok {d : Dc} (h : DcOk d) (j : Int) : 0 ≤ gv d j ∧ gv d j ≤ 9 := by
 induction d with
 | nil => exact ⟨by show (0 : Int) ≤ 0; decide, by show (0 : Int) ≤ 9; decide⟩
 | cons x d ih =>
  unfold gv
  split
  ·exact h x List.mem_cons_self
  ·exact ih fun y hy => h y (List.mem_cons_of_mem _ hy)
theorem w_dget2 {td ty tx : TE} {σ : St} {H : Hp} {Q : VK} (h : td σ H fun x H1 => ∃ a, x = .ref a ∧ IsD H1 a ∧ ty σ H1 fun y H2 => tx σ H2 fun z H3 => ∃ o, DGet H3 a y o ∧ Q (o.getD z) H3) : tDGet2 td ty tx σ H Q := h
def pos : List Int → Int → Nat
 | [], _ => 0
 | x :: xs, y => if x = y then 0 else pos xs y + 1
theorem pos_at {y : Int} : ∀ {xs : List Int}, y ∈ xs → xs[pos xs y]? = some y
 | x :: xs, h => by
  unfold pos
  split
  ·next e => rw [e]; rfl
  ·next e =>
   rw [List.getElem?_cons_succ]
   exact pos_at ((List.mem_cons.mp h).resolve_left fun z => e z.symm)
theorem pos_no {y : Int} : ∀ {xs : List Int} (i : Nat) (z : Int), i < pos xs y → xs[i]? = some z → z ≠ y
 | [], i, z, h, _ => by unfold pos at h; omega
 | x :: xs, i, z, h, e => by
  unfold pos at h
  split at h
  ·omega
  ·next hn =>
   cases i with
   | zero => rw [List.getElem?_cons_zero] at e; cases e; exact hn
   | succ i => exact pos_no (xs := xs) i z (by omega) (by rw [List.getElem?_cons_succ] at e; exact e)
theorem Sds.len {H : Hp} : ∀ {rs : List Addr} {ss : List (Dc × Dc)}, Sds H rs ss → rs.length = ss.length
 | [], [], _ => rfl
 | r :: rs, s :: ss, h => by rw [List.length_cons, List.length_cons, Sds.len h.2]
 | [], _ :: _, h => h.elim
 | _ :: _, [], h => h.elim
theorem Sds.at {H : Hp} : ∀ {rs : List Addr} {ss : List (Dc × Dc)}, Sds H rs ss → ∀ (i : Nat) (q : Addr), rs[i]? = some q → ∃ s, ss[i]? = some s ∧ SdAt H q s
 | [], [], _, i, q, e => by simp at e
 | r :: rs, s :: ss, h, 0, q, e => by
  simp at e
  subst e
  exact ⟨s, rfl, h.1⟩
 | r :: rs, s :: ss, h, i + 1, q, e => by
  obtain ⟨c, h1, h2⟩ := Sds.at h.2 i q (by simpa using e)
  exact ⟨c, by simpa using h1, h2⟩
 | [], _ :: _, h, _, _, _ => h.elim
 | _ :: _, [], h, _, _, _ => h.elim
theorem Sds.map {H H' : Hp} (k : ∀ q o, H q = some o → (∀ ys, o ≠ .lst ys) → H' q = some o) : ∀ {rs : List Addr} {ss : List (Dc × Dc)}, Sds H rs ss → Sds H' rs ss
 | [], [], _ => trivial
 | r :: rs, s :: ss, ⟨⟨d1, d2, h1, h2, h3⟩, h⟩ => ⟨⟨d1, d2, k _ _ h1 (fun ys z => by cases z), k _ _ h2 (fun ys z => by cases z), k _ _ h3 (fun ys z => by cases z)⟩, Sds.map k h⟩
 | [], _ :: _, h => h.elim
 | _ :: _, [], h => h.elim
theorem Sds.same {H H' : Hp} (k : Same H H') {rs : List Addr} {ss : List (Dc × Dc)} (h : Sds H rs ss) : Sds H' rs ss := h.map fun _ _ e _ => k _ _ e
theorem lst_no {rs : List Addr} {l : Addr} {c e : Int} (h : ([V.ref l, V.int c, V.int e] : List V) = rs.map V.ref) : False := by
 match rs, h with
 | [a, b, d], h => simp at h
 | [], h => cases h
 | [a], h => simp at h
 | [a, b], h => simp at h
 | a :: b :: d :: f :: rs, h => simp at h
abbrev sFy : Stmt := top 39
abbrev nFy : List Str := ["_law_tape_here", "_law_rules", "_law_many", "_law_inputs", "_law_begin", "_law_ask", "_law_answer", "_law_place", "_law_back", "_law_some", "_law_takes", "_law_gives", "_law_rule_here", "_law_stand"]
theorem nmFy : Nm nFy (defScope sFy) := ⟨by decide +kernel, by decide +kernel⟩
theorem scFy : FnScope nFy ["_law_tape_here"] (defScope sFy) := ⟨rfl, rfl, rfl, by decide +kernel, rfl, by decide +kernel, by decide +kernel⟩
def qFya (s : Stmt) : Scope := match s with
 | .Assign _ (.ListComp _ _ sc _) _ => sc
 | _ => { kind := .function, names := [], isGenerator := false, isCoroutine := false }
abbrev cFya : Scope := qFya ((defBody sFy).getD 2 (.Pass ⟨0, 0, 0, 0⟩))
theorem bsFya : BScope (defScope sFy) cFya ["_law_k"] ["_law_place"] [] := { okind := by decide +kernel, kind := by decide +kernel, nocell := by decide +kernel, names := by decide +kernel, fr := by decide +kernel, ff := by decide +kernel, nd := by decide +kernel, vis := by decide +kernel, loc := by decide +kernel, gl := by decide +kernel }
def qFyb (s : Stmt) : Scope := match s with
 | .For _ _ [(.Assign _ (.ListComp _ _ sc _) _), _] _ _ => sc
 | _ => { kind := .function, names := [], isGenerator := false, isCoroutine := false }
abbrev cFyb : Scope := qFyb ((defBody sFy).getD 4 (.Pass ⟨0, 0, 0, 0⟩))
def qFyd (s : Stmt) : Scope := match s with
 | .Assign _ (.Call _ [(.ListComp _ _ sc _)] _ _) _ => sc
 | _ => { kind := .function, names := [], isGenerator := false, isCoroutine := false }
abbrev cFyd : Scope := qFyd ((defBody sFy).getD 5 (.Pass ⟨0, 0, 0, 0⟩))
theorem bsFyd : BScope (defScope sFy) cFyd ["_law_k"] ["_law_back", "_law_begin"] [] := { okind := by decide +kernel, kind := by decide +kernel, nocell := by decide +kernel, names := by decide +kernel, fr := by decide +kernel, ff := by decide +kernel, nd := by decide +kernel, vis := by decide +kernel, loc := by decide +kernel, gl := by decide +kernel }
theorem loFy_12 : (defScope sFy).names.lookup ("_law_rule_here" : Str) = some .local := by decide +kernel
def qFyc (s : Stmt) : Scope := match s with
 | .For _ _ [(.Assign _ (.ListComp (.Call _ [.ListComp _ _ sc _] _ _) _ _ _) _), _] _ _ => sc
 | _ => { kind := .function, names := [], isGenerator := false, isCoroutine := false }
abbrev cFyc : Scope := qFyc ((defBody sFy).getD 4 (.Pass ⟨0, 0, 0, 0⟩))
theorem nbFy : NBScope (defScope sFy) cFyb ["_law_side"] ["_law_back", "_law_many"] ["tuple", "range"] := { okind := by decide +kernel, kind := by decide +kernel, names := by decide +kernel, clN := by decide +kernel, fr := by decide +kernel, ff := by decide +kernel, nd := by decide +kernel, vis := by decide +kernel, loc := by decide +kernel, gl := by decide +kernel }
theorem bsFyc : BScope (relabelS cFyb (defScope sFy)) cFyc ["_law_k"] ["_law_back", "_law_side"] [] := { okind := by decide +kernel, kind := by decide +kernel, nocell := by decide +kernel, names := by decide +kernel, fr := by decide +kernel, ff := by decide +kernel, nd := by decide +kernel, vis := by decide +kernel, loc := by decide +kernel, gl := by decide +kernel }
def spFy : Sp := fun vs H Q _ => ∃ (p l : Addr) (ns : List Int), vs = [.ref p] ∧ Tp H p l ns ∧ ∀ (r q ak : Addr) (nm : List Str) (rs : List Addr) (ins beg : List Int) (ans : Int) (m : Nat) (H' : Hp), H' r = some (.tup [.ref q, .ref ak]) → PotT H' q nm rs ins beg ans m → Tp H' p l ns → Bp p H H' → Q (.ref r) H'
section
variable {P : Program} {w : World} {K : PySem.W.Frag} {mg : Str → Option Value} {base : Heap}
set_option maxHeartbeats 4000000 in
theorem ok_Fy {f : Addr} {fd : FuncData} (B : Blt3 mg) (D : Has P w K mg base 1 "_law_draw" ["_law_tape_here", "_law_many"] spDraw) (fS : Has P w K mg base 2 "_law_shape" ["_law_tape_here", "_law_way"] spShp) (fO : Has P w K mg base 2 "_law_order" ["_law_tape_here", "_law_many"] spOr) (fN : Has P w K mg base 2 "_law_names" ["_law_tape_here", "_law_many"] spNames) (F : Fun K "_law_family" "_law_family" sFy f fd) : FnOk P w K mg base CX0 4 f fd ["_law_tape_here"] spFy := by
 refine F.ok scFy (fun vs H Q E h => ?_) (fun cdv A outer s H vs Q E hr h => ?_)
 ·obtain ⟨p, l, ns, rfl, _⟩ := h
  rfl
 ·obtain ⟨p, l, ns, rfl, T0, k⟩ := h
  refine' ⟨_, ?hb, ?rd⟩
  case' hb => have hu := hu_of hr
  case' hb => refine' pss_cons ?g1 ?g2
  case' g2 => refine' pss_cons ?g3 ?g4
  case' g4 => refine' pss_cons ?g5 ?g6
  case' g6 => refine' pss_cons ?g7 ?g8
  case' g8 => refine' pss_cons ?g9 ?g10
  case' g10 => refine' pss_cons ?g11 ?g12
  case' g12 => refine' pss_one ?g13
  case g1 => exact ps_asg (pe_f fS hr (by decide) (pa_2 (pvd nmFy 0) (pe_f D hr (by decide) (pa_2 (pvd nmFy 0) pe_int)))) (pg_tup rfl (pgs_cons (pgd nmFy 1) (pgs_cons (pgd nmFy 2) (pgs_cons (pgd nmFy 3) (pgs_cons (pgd nmFy 4) (pgs_cons (pgd nmFy 5) (pgs_cons (pgd nmFy 6) pgs_nil)))))))
  case g3 => exact ps_setD nmFy 7 (pe_f fO hr (by decide) (pa_2 (pvd nmFy 0) (pvd nmFy 2)))
  case' g5 => refine' ps_setD nmFy 8 ?g14
  case' g14 => refine' pe_comp (ix := [7]) bsFya.toCScope rfl rfl ?g15 ?g16 ?g17 ?g18
  case g15 => exact pi_r1 B.range (pa_1 (pvd nmFy 2))
  case g16 => exact fun _ _ _ _ _ _ => pgb bsFya 0
  case g17 => exact fun _ _ _ _ _ _ => pts_nil
  case g18 => exact fun _ _ _ _ _ _ => pe_bm_0 PySem.F.plainAttrs_list PySem.F.slot_list_index PySem.F.type_list_index mt_indexI (pvb bsFya 1) (pa_1 (pvb bsFya 0))
  case g7 => exact ps_setD nmFy 9 (pe_lst pa_nil)
  case' g9 => refine' ps_for PassesOwn.never rfl ?g19 (pg_tup rfl (pgs_cons (pgd nmFy 10) (pgs_cons (pgd nmFy 11) pgs_nil))) ?g20
  case g19 => exact pi_list (pvd nmFy 1)
  case' g20 => refine' pss_cons ?g21 ?g22
  case' g22 => refine' pss_one ?g23
  case' g21 => refine' ps_setCN (i := 12) (ix := [8, 2]) nmFy.nd rfl loFy_12 nbFy.toNScope rfl rfl ?g24 ?g25 ?g26 ?g27
  case g24 => exact pi_tup (pe_tup (pa_2 (pvd nmFy 10) (pvd nmFy 11)))
  case g25 => exact fun _ _ _ _ _ _ => pgbN nbFy 0
  case g26 => exact fun _ _ _ _ _ _ => pts_nil
  case g27 =>
   intro _ _ _ _ _ _
   refine' pe_cT call_tupL B.tuple PyProof.Rows.boot_tuple ?x1 (nbFy.g 0)
   case' x1 => refine' pa_1 ?x2
   case x2 =>
    refine' pe_comp (ix := [1, 0]) bsFyc.toCScope rfl rfl ?i3 ?i4 ?i5 ?i6
    case i3 => exact pi_r1 B.range (pa_1 (pvbN nbFy 2)) (nbFy.g 1)
    case i4 => exact fun _ _ _ _ _ _ => pgb bsFyc 0
    case i5 => exact fun _ _ _ _ _ _ => pts_nil
    case i6 => exact fun _ _ _ _ _ _ => pe_dget2 hu (pvb bsFyc 2) (pe_ix ix_d (pvb bsFyc 1) (pvb bsFyc 0) (fun _ _ => rfl)) pe_int ⟨rfl, rfl, rfl, rfl⟩
  case g23 => exact ps_expr (pe_bm PySem.F.plainAttrs_list PySem.F.slot_list_append PySem.F.type_list_append mt_append (pvd nmFy 9) (pa_1 (pe_cT call_tupL B.tuple PyProof.Rows.boot_tuple (pa_1 (pvd nmFy 12)))))
  case' g11 => refine' ps_setD nmFy 13 ?g28
  case' g28 => refine' pe_cT call_tupL B.tuple PyProof.Rows.boot_tuple ?g29
  case' g29 => refine' pa_1 ?g30
  case' g30 => refine' pe_comp (ix := [8, 4]) bsFyd.toCScope rfl rfl ?g31 ?g32 ?g33 ?g34
  case g31 => exact pi_r1 B.range (pa_1 (pvd nmFy 2))
  case g32 => exact fun _ _ _ _ _ _ => pgb bsFyd 0
  case g33 => exact fun _ _ _ _ _ _ => pts_nil
  case g34 => exact fun _ _ _ _ _ _ => pe_dget2 hu (pvb bsFyd 2) (pe_ix ix_d (pvb bsFyd 1) (pvb bsFyd 0) (fun _ _ => rfl)) pe_int ⟨rfl, rfl, rfl, rfl⟩
  case g13 => exact ps_ret (pe_tup (pa_2 (pe_tup (pa_c (pe_f fN hr (by decide) (pa_2 (pvd nmFy 0) (pvd nmFy 2))) (pa_c (pe_cT call_tupL B.tuple PyProof.Rows.boot_tuple (pa_1 (pvd nmFy 9))) (pa_c (pe_cT call_tupL B.tuple PyProof.Rows.boot_tuple (pa_1 (pe_slice sl_list (pvd nmFy 7) po_none (po_some (pvd nmFy 3))))) (pa_2 (pvd nmFy 13) (pe_ix ix_d (pvd nmFy 7) (pvd nmFy 6) (fun _ _ => rfl))))))) (pvd nmFy 5)))
  case rd =>
   walk_at "v"
   refine ⟨p, l, ns, 5, rfl, T0, by decide, by decide, fun wy c e w0 w1 => ?_⟩
   have S1 : SS p l ns H (upd H p (.lst [.ref l, .int c, .int e])) := SS.draw ⟨T0, Bp.refl⟩
   generalize upd H p (.lst [.ref l, .int c, .int e]) = H1 at S1 ⊢
   walk_at "v"
   refine ⟨p, l, ns, wy, rfl, S1.tp, w0, w1, fun r rl db ak ss bd m i ans H2 er hss hdb G T2 b2 => ?_⟩
   have S2 := S1.call T2 b2
   clear S1 T2 b2
   have m0 := G.m0
   have m6 := G.m6
   have i2 := G.i2
   have am := G.am
   have im := G.im
   refine w_gtup er rfl ?_
   refine ⟨_, _, rfl, ?_⟩
   walk_at "v"
   refine ⟨_, _, rfl, ?_⟩
   walk_at "v"
   refine ⟨_, _, rfl, ?_⟩
   walk_at "v"
   refine ⟨_, _, rfl, ?_⟩
   walk_at "v"
   refine ⟨_, _, rfl, ?_⟩
   walk_at "v"
   refine ⟨_, _, rfl, ?_⟩
   walk_at "v"
   refine ⟨rfl, ?_⟩
   walk_at "v"
   refine ⟨p, l, ns, m, rfl, S2.tp, by omega, fun pl xs H3 epl npl hpm T3 b3 => ?_⟩
   have S3 := S2.call T3 b3
   have ppl : pl ≠ p := Ne.symm (S2.tp.np npl)
   obtain ⟨rs, hrs, hsd⟩ := hss
   have dne : ∀ {q : Addr} {o : HO}, H2 q = some o → (∀ ys, o ≠ .lst ys) → q ≠ p := fun e hn z => by
    obtain ⟨_, _, ep⟩ := S2.tp.ex
    rw [z, ep] at e
    exact hn _ (Option.some.inj e).symm
   have hdb3 : H3 db = some (.dK (dcK bd)) := b3 _ _ (dne hdb fun ys z => by cases z) hdb
   have hrl : rl ≠ p := fun z => by
    have e1 := hrs
    obtain ⟨_, _, ep⟩ := S2.tp.ex
    rw [z, ep] at e1
    injection e1 with e1
    injection e1 with e1
    exact lst_no e1
   have hrs3 : H3 rl = some (.lst (rs.map V.ref)) := b3 _ _ hrl hrs
   have hsd3 : Sds H3 rs ss := hsd.map fun q o e hn => b3 _ _ (dne e hn) e
   have hrn : rs.length = ss.length := hsd.len
   have s4 := G.s4
   have hxl : xs.length = m := by rw [hpm.length_eq]; unfold rngI; simp
   have hxm : ∀ j, j < m → (j : Int) ∈ xs := fun j hj => hpm.mem_iff.mpr (List.mem_map.mpr ⟨j, List.mem_range.mpr hj, rfl⟩)
   have hxb : ∀ x ∈ xs, 0 ≤ x ∧ x < (m : Int) := fun x hx => by
    obtain ⟨j, hj, rfl⟩ := List.mem_map.mp (hpm.mem_iff.mp hx)
    have := List.mem_range.mp hj
    omega
   clear S2 T3 b3 hsd hdb er hrs
   walk_at "v"
   refine ⟨_, rfl, by omega, by omega, fun bk hbk => ?_⟩
   rw [Int.toNat_natCast]
   refine rng_map (ρ := [some (.ref pl)]) (fun j => ((pos xs (j : Int) : Nat) : Int)) (by omega) (fun j H' hj K' R kR => ?_) (fun H4 K4 ebk => ?_) hbk
   ·walk_at "v"
    refine ⟨.inl ⟨rfl, _, SqL.of (K' _ _ epl)⟩, ?_⟩
    walk_at "v"
    exact ⟨pl, xs, _, pos xs (j : Int), rfl, rfl, K' _ _ epl, pos_at (hxm j hj), pos_no, kR _ (Same.refl _)⟩
   have S4 : SS p l ns H H4 := ⟨S3.tp.same K4, S3.bt.trans (Bp.same K4)⟩
   have hbj : ∀ j, j < m → atI (((List.range m).map fun (j : Nat) => ((pos xs (j : Int) : Nat) : Int)).map V.int) (j : Int) = some (.int ((pos xs (j : Int) : Nat) : Int)) := fun j hj => atI_nat (by simp [hj])
   generalize hBK : ((List.range m).map fun (j : Nat) => ((pos xs (j : Int) : Nat) : Int)).map V.int = BK at ebk hbj
   obtain ⟨epl, hdb3, hrs3⟩ := lf3 K4 epl hdb3 hrs3
   replace hsd3 := hsd3.same K4
   clear S3 K4
   walk_at "v"
   refine ⟨Nat.zero_le _, fun sm hsm => ?_⟩
   have S5 := S4.new (o := .lst []) hsm
   have K5 : Same H4 (upd H4 sm (.lst [])) := Same.new (Same.refl _) hsm
   have e5 : upd H4 sm (.lst []) sm = some (.lst (([] : List Addr).map V.ref)) := upd_same
   have nsm0 : H sm = none := S4.none hsm
   have psm := S4.tp.np hsm
   have lsm := S4.tp.nl hsm
   generalize upd H4 sm (.lst []) = H5 at S5 K5 e5 ⊢
   have nrl : rl ≠ sm := ne_of_none hrs3 hsm
   have ndb : db ≠ sm := ne_of_none hdb3 hsm
   have npl' : pl ≠ sm := ne_of_none epl hsm
   have nbk : bk ≠ sm := ne_of_none ebk hsm
   obtain ⟨epl, hdb3, hrs3⟩ := lf3 K5 epl hdb3 hrs3
   replace hsd3 := hsd3.same K5
   replace ebk := K5 _ _ ebk
   clear S4 K5
   walk_at "v"
   refine ⟨rl, rfl, ⟨_, SqL.of hrs3⟩, ?_⟩
   refine for_list (xs := rs.map V.ref) (fun j σ H' => ∃ (u10 u11 u12 : Option V) (ts : List Addr), σ = [some (.ref p), some (.ref rl), some (.int (m : Int)), some (.int (i : Int)), some (.ref db), some (.ref ak), some (.int (ans : Int)), some (.ref pl), some (.ref bk), some (.ref sm), u10, u11, u12, none] ∧ H' sm = some (.lst (ts.map V.ref)) ∧ ts.length = j ∧ (∀ t ∈ ts, RuleT m H' t) ∧ SS p l ns H H' ∧ (∀ q o, q ≠ sm → H5 q = some o → H' q = some o)) ⟨none, none, none, [], rfl, e5, rfl, (fun t ht => by cases ht), S5, fun q o _ h => h⟩ (fun j σ H' _ ⟨_, _, _, _, _, _, _, _, _, k'⟩ => SqL.of (k' _ _ nrl hrs3)) ?_ ?_
   ·rintro j x σ H6 hx ⟨u10, u11, u12, ts, rfl, e6, hts, hR, S6, k6⟩
    obtain ⟨q, eq, rfl⟩ := itR hx
    have hj : j < rs.length := (List.getElem?_eq_some_iff.mp eq).1
    obtain ⟨sd, hs, d1, d2, v1, v2, v3⟩ := hsd3.at j q eq
    have sok := G.so sd (List.mem_of_getElem? hs)
    have v1' := k6 _ _ (ne_of v1 e5 (by intro z; cases z)) v1
    have v2' := k6 _ _ (ne_of v2 e5 (by intro z; cases z)) v2
    have v3' := k6 _ _ (ne_of v3 e5 (by intro z; cases z)) v3
    have ebk6 := k6 _ _ nbk ebk
    refine w_gtup v1' rfl ?_
    refine ⟨_, _, rfl, ?_⟩
    walk_at "v"
    refine ⟨_, _, rfl, ?_⟩
    walk_at "v"
    refine ⟨rfl, ?_⟩
    walk_at "v"
    refine ⟨by show 2 ≤ sizeLine; decide, fun tz htz => ?_⟩
    obtain ⟨H7, q, K7, etz⟩ := nob (.tup [.ref d1, .ref d2]) htz; rw [q]; clear q
    replace v2' := K7 _ _ v2'
    replace v3' := K7 _ _ v3'
    replace ebk6 := K7 _ _ ebk6
    refine ⟨tz, rfl, ⟨_, SqT.of etz⟩, fun D' hD' => ?_⟩
    refine cgo_tup (xs := [V.ref d1, V.ref d2]) (ρ := [some (.ref bk), some (.int (m : Int))]) (fun j' zs H' => ∃ qs : List (Addr × List Int), zs = qs.map (fun x => V.ref x.1) ∧ qs.length = j' ∧ (∀ x ∈ qs, H' x.1 = some (.tup (x.2.map V.int)) ∧ x.2.length = m ∧ ∀ y ∈ x.2, 0 ≤ y ∧ y ≤ 9) ∧ Same H7 H') ⟨[], rfl, rfl, (fun x h => by cases h), Same.new (Same.refl _) hD'⟩ (fun j' zs H' _ ⟨_, _, _, _, k'⟩ => SqT.of (k' _ _ etz)) ?_ ?_
    ·rintro j' y zs H' hy ⟨qs, rfl, hql, hqs, K'⟩ hDz R SK kR _
     obtain ⟨dd, dk, rfl, hdd, hdk⟩ : ∃ (dd : Addr) (dk : Dc), y = .ref dd ∧ H7 dd = some (.dK (dcK dk)) ∧ DcOk dk := by
      have hm2 := List.mem_of_getElem? hy
      simp only [List.mem_cons, List.not_mem_nil, or_false] at hm2
      rcases hm2 with rfl | rfl
      ·exact ⟨d1, sd.1, rfl, v2', sok.1⟩
      ·exact ⟨d2, sd.2, rfl, v3', sok.2⟩
     have hj2 : j' < 2 := (List.getElem?_eq_some_iff.mp hy).1
     refine w_all (iteT ?_)
     walk_at "v"
     refine ⟨_, rfl, by omega, by omega, fun d2' hd2' => ?_⟩
     rw [Int.toNat_natCast]
     refine rng_map (ρ := [some (.ref bk), some (.ref dd)]) (fun j => gv dk ((pos xs (j : Int) : Nat) : Int)) (by omega) (fun j' H'' hj' K'' R' kR' => ?_) (fun H8 K8 e8 => ?_) hd2'
     ·have hd'' := K'' _ _ (K' _ _ hdd)
      walk_at "v"
      refine w_dget2 ?_
      walk_at "v"
      refine ⟨dd, rfl, .inl ⟨_, .inl hd''⟩, ?_⟩
      walk_at "v"
      refine w_ixL (K'' _ _ (K' _ _ ebk6)) (hbj j' hj') ?_
      walk_at "v"
      refine ⟨_, .inl ⟨_, (Sum.inl ((pos xs (j' : Int) : Nat) : Int) : Key), .inl hd'', rfl, rfl⟩, ?_⟩
      rw [val_dc]
      exact kR' _ (Same.refl _)
     walk_at "v"
     refine ⟨d2', _, rfl, e8, fun q9 H9 K9 e9 => ?_⟩
     have K89 := K8.trans K9
     have tk : TK H9 (upd H9 D' (.lst (qs.map (fun x => V.ref x.1) ++ [.ref q9]))) := TK.lst (K89 _ _ hDz)
     refine kR _ _ (K89 _ _ hDz) (by rw [List.length_map]; exact small1000 (by omega)) ⟨qs ++ [(q9, (List.range m).map fun (j : Nat) => gv dk ((pos xs (j : Int) : Nat) : Int))], by rw [List.map_append]; rfl, by simp [hql], fun x hx => ?_, (K'.trans K89).put hD'⟩
     rcases List.mem_append.mp hx with old | new
     ·have := hqs x old
      exact ⟨tk.t _ _ (K89 _ _ this.1), this.2⟩
     ·rw [List.mem_singleton.mp new]
      refine ⟨tk.t _ _ e9, by simp, fun y hy => ?_⟩
      obtain ⟨j, _, rfl⟩ := List.mem_map.mp hy
      exact gv_ok hdk _
    rintro zs H8 ⟨qs, rfl, hql, hqs, K8⟩ hDz
    obtain ⟨⟨q1, x1⟩, ⟨q2, x2⟩, rfl⟩ : ∃ a b, qs = [a, b] := by
     match qs, hql with
     | [a, b], _ => exact ⟨a, b, rfl⟩
    have w1 := hqs (q1, x1) List.mem_cons_self
    have w2 := hqs (q2, x2) (List.mem_cons_of_mem _ List.mem_cons_self)
    have K68 := K7.trans K8
    have S8 : SS p l ns H H8 := ⟨S6.tp.same K68, S6.bt.trans (Bp.same K68)⟩
    have e8 := K68 _ _ e6
    walk_at "v"
    refine ⟨.inl ⟨rfl, _, SqL.of e8⟩, ?_⟩
    walk_at "v"
    refine ⟨D', _, rfl, hDz, fun nt H9 K9 ent => ?_⟩
    have e9 := K9 _ _ e8
    walk_at "v"
    refine ⟨sm, _, _, rfl, rfl, e9, by rw [List.length_map]; exact small1000 (by omega), ?_⟩
    have S9 : SS p l ns H H9 := ⟨S8.tp.same K9, S8.bt.trans (Bp.same K9)⟩
    have tk : TK H9 (upd H9 sm (.lst (ts.map V.ref ++ [.ref nt]))) := TK.lst e9
    refine ⟨_, _, _, ts ++ [nt], rfl, by rw [upd_same, List.map_append]; rfl, by simp [hts], fun t ht => ?_, S9.put nsm0 psm lsm, fun q o hq h => by rw [upd_ne hq]; exact K9 _ _ (K68 _ _ (k6 q o hq h))⟩
    rcases List.mem_append.mp ht with old | new
    ·exact (hR t old).tk ((TK.same (K68.trans K9)).trans tk)
    ·rw [List.mem_singleton.mp new]
     exact ⟨q1, q2, x1, x2, tk.t _ _ ent, tk.t _ _ (K9 _ _ w1.1), tk.t _ _ (K9 _ _ w2.1), w1.2.1, w2.2.1, w1.2.2, w2.2.2⟩
   rintro σ H6 ⟨u10, u11, u12, ts, rfl, e6, hts, hR, S6, k6⟩
   rw [List.length_map] at hts
   replace epl := k6 _ _ npl' epl
   replace hdb3 := k6 _ _ ndb hdb3
   replace ebk := k6 _ _ nbk ebk
   clear k6 e5 S5 hsd3 hrs3
   walk_at "v"
   refine ⟨_, rfl, by omega, by omega, fun d3 hd3 => ?_⟩
   rw [Int.toNat_natCast]
   refine rng_map (ρ := [some (.ref bk), some (.ref db)]) (fun j => gv bd ((pos xs (j : Int) : Nat) : Int)) (by omega) (fun j' H'' hj' K'' R' kR' => ?_) (fun H7 K7 e7 => ?_) hd3
   ·have hd'' := K'' _ _ hdb3
    walk_at "v"
    refine w_dget2 ?_
    walk_at "v"
    refine ⟨db, rfl, .inl ⟨_, .inl hd''⟩, ?_⟩
    walk_at "v"
    refine w_ixL (K'' _ _ ebk) (hbj j' hj') ?_
    walk_at "v"
    refine ⟨_, .inl ⟨_, (Sum.inl ((pos xs (j' : Int) : Nat) : Int) : Key), .inl hd'', rfl, rfl⟩, ?_⟩
    rw [val_dc]
    exact kR' _ (Same.refl _)
   walk_at "v"
   refine ⟨d3, _, rfl, e7, fun pb H8 K8 eb => ?_⟩
   have K68 := K7.trans K8
   have S8 : SS p l ns H H8 := ⟨S6.tp.same K68, S6.bt.trans (Bp.same K68)⟩
   obtain ⟨epl, e6⟩ := lf2 K68 epl e6
   replace hR : ∀ t ∈ ts, RuleT m H8 t := fun t ht => (hR t ht).tk (TK.same K68)
   have hbl : ((List.range m).map fun (j : Nat) => gv bd ((pos xs (j : Int) : Nat) : Int)).length = m := by simp
   have hbb : ∀ b ∈ (List.range m).map (fun (j : Nat) => gv bd ((pos xs (j : Int) : Nat) : Int)), 0 ≤ b ∧ b ≤ 99 := fun b hb => by
    obtain ⟨j, _, rfl⟩ := List.mem_map.mp hb
    have := gv_ok G.bo ((pos xs (j : Int) : Nat) : Int)
    omega
   generalize (List.range m).map (fun (j : Nat) => gv bd ((pos xs (j : Int) : Nat) : Int)) = beg at eb hbl hbb
   clear S6 K68 K7 K8 e7 hdb3 ebk
   walk_at "v"
   refine ⟨p, l, ns, m, rfl, S8.tp, by omega, fun ps nm H9 hnl hnm eps T9 b9 => ?_⟩
   have S9 := S8.call T9 b9
   have tk9 : TK H8 H9 := Tp.tkb S8.tp b9
   replace hR : ∀ t ∈ ts, RuleT m H9 t := fun t ht => (hR t ht).tk tk9
   replace eb := tk9.t _ _ eb
   have epl9 := b9 _ _ ppl epl
   have e69 := b9 _ _ (Ne.symm psm) e6
   walk_at "v"
   refine ⟨sm, _, rfl, e69, fun pr H10 K10 epr => ?_⟩
   walk_at "v"
   refine ⟨_, rfl, ?_⟩
   refine ⟨pl, _, rfl, SqL.of (K10 _ _ epl9), fun cl hcl => ?_⟩
   rw [cut_to (by rw [List.length_map]; omega), ← List.map_take]
   obtain ⟨H11, q, K11, ecl⟩ := nob (.lst ((xs.take i).map V.int)) hcl; rw [q]; clear q
   walk_at "v"
   refine ⟨cl, _, rfl, ecl, fun pin H12 K12 epin => ?_⟩
   have K12' := (K10.trans K11).trans K12
   walk_at "v"
   refine w_ixL (K12' _ _ epl9) (atL (i := ans) (by omega)) ?_
   walk_at "v"
   refine ⟨by show 5 ≤ sizeLine; decide, fun q hq => ?_⟩
   obtain ⟨H13, q, K13, eq13⟩ := nob (.tup [.ref ps, .ref pr, .ref pin, .ref pb, .int (xs.getD ans 0)]) hq; rw [q]; clear q
   walk_at "v"
   refine ⟨by show 2 ≤ sizeLine; decide, fun rr hrr => ?_⟩
   have K14 : Same H13 (upd H13 rr (.tup [.ref q, .ref ak])) := Same.new (Same.refl _) hrr
   have KA := (K12'.trans K13).trans K14
   have KB := ((K11.trans K12).trans K13).trans K14
   have hax := hxb _ (getD_mem (d := 0) (j := ans) (xs := xs) (by omega))
   exact k rr q ak nm ts (xs.take i) beg (xs.getD ans 0) m _ upd_same ⟨⟨ps, pr, pin, pb, K14 _ _ eq13, KA _ _ eps, KB _ _ epr, (K13.trans K14) _ _ epin, KA _ _ eb⟩, fun t ht => (hR t ht).tk (TK.same KA), hnl, hnm, by omega, m0, by omega, fun x hx => hxb x (List.mem_of_mem_take hx), by rw [List.length_take]; omega, hbl, hbb, hax⟩ (S9.tp.same KA) (S9.bt.trans (Bp.same KA))
end
def sd (xs ys : List Int) : Nat → Int
 | 0 => 0
 | i + 1 => sd xs ys i + xs.getD i 0 * ys.getD i 0
theorem sd_cons (x y : Int) (xs ys : List Int) : ∀ n, sd (x :: xs) (y :: ys) (n + 1) = x * y + sd xs ys n
 | 0 => by show 0 + x * y = x * y + 0; omega
 | n + 1 => by
  show sd (x :: xs) (y :: ys) (n + 1) + _ = _
  rw [sd_cons x y xs ys n]
  show x * y + sd xs ys n + xs.getD n 0 * ys.getD n 0 = x * y + (sd xs ys n + xs.getD n 0 * ys.getD n 0)
  omega
theorem dot_sd : ∀ (xs ys : List Int), xs.length = ys.length → dot xs ys = sd xs ys xs.length
 | [], [], _ => rfl
 | x :: xs, y :: ys, h => by
  rw [List.length_cons, sd_cons]
  show x * y + dot xs ys = _
  rw [dot_sd xs ys (by simpa using h)]
 | [], _ :: _, h => by simp at h
 | _ :: _, [], h => by simp at h
theorem sd_set {c ys : List Int} {i : Nat} {a : Int} (hi : i < ys.length) : ∀ n, n ≤ ys.length → sd c (ys.set i (ys.getD i 0 + a)) n = sd c ys n + if i < n then c.getD i 0 * a else 0
 | 0, _ => by rw [if_neg (by omega)]; rfl
 | n + 1, hn => by
  show sd c _ n + c.getD n 0 * _ = sd c ys n + c.getD n 0 * ys.getD n 0 + _
  rw [sd_set hi n (by omega)]
  by_cases h : i = n
  ·subst h
   rw [if_neg (by omega), if_pos (by omega), show (ys.set i (ys.getD i 0 + a)).getD i 0 = ys.getD i 0 + a by simp [List.getD_eq_getElem?_getD, hi], Int.mul_add]
   omega
  ·rw [show (ys.set i (ys.getD i 0 + a)).getD n 0 = ys.getD n 0 by simp [List.getD_eq_getElem?_getD, List.getElem?_set_ne h]]
   by_cases h2 : i < n
   ·rw [if_pos h2, if_pos (by omega)]; omega
   ·rw [if_neg h2, if_neg (by omega)]; omega
theorem sd_neg {c ys d : List Int} (h : ∀ i, d.getD i 0 = -(c.getD i 0)) : ∀ n, sd d ys n = -(sd c ys n)
 | 0 => rfl
 | n + 1 => by
  show sd d ys n + d.getD n 0 * _ = -(sd c ys n + c.getD n 0 * _)
  rw [sd_neg h n, h n, Int.neg_mul]
  omega
theorem sd_zero (k : Nat) (ys : List Int) : ∀ n, sd (List.replicate k 0) ys n = 0
 | 0 => rfl
 | n + 1 => by
  show sd _ ys n + (List.replicate k (0 : Int)).getD n 0 * _ = 0
  rw [sd_zero k ys n, show (List.replicate k (0 : Int)).getD n 0 = 0 by rw [List.getD_eq_getElem?_getD, List.getElem?_replicate]; split <;> rfl, Int.zero_mul]
  rfl
theorem sd_one (k i : Nat) (ys : List Int) : ∀ n, n ≤ k → sd (oneH k (i : Int)) ys n = if i < n then ys.getD i 0 else 0
 | 0, _ => by rw [if_neg (by omega)]; rfl
 | n + 1, hn => by
  show sd _ ys n + (oneH k (i : Int)).getD n 0 * _ = _
  have e : (oneH k (i : Int)).getD n 0 = if n = i then 1 else 0 := by
   unfold oneH
   rw [List.getD_eq_getElem?_getD, List.getElem?_map, List.getElem?_range (by omega)]
   show (if (n : Int) = (i : Int) then (1 : Int) else 0) = _
   by_cases h : n = i
   ·rw [if_pos h, if_pos (by omega)]
   ·rw [if_neg h, if_neg (by omega)]
  rw [sd_one k i ys n (by omega), e]
  by_cases h : n = i
  ·subst h; rw [if_pos rfl, if_neg (by omega), if_pos (by omega)]; omega
  ·rw [if_neg h, Int.zero_mul, Int.add_zero]
   by_cases h2 : i < n
   ·rw [if_pos h2, if_pos (by omega)]
   ·rw [if_neg h2, if_neg (by omega)]
def nxt (m : Nat) (st : List Int) (x : List Int × List Int) : List Int := (List.range m).map fun (j : Nat) => st.getD j 0 - x.1.getD j 0 + x.2.getD j 0
def chv (m : Nat) (c : List Int) (x : List Int × List Int) : Int := ((List.range m).map fun (j : Nat) => c.getD j 0 * (x.2.getD j 0 - x.1.getD j 0)).sum
theorem nxt_at {m j : Nat} {st : List Int} {x : List Int × List Int} (h : j < m) : (nxt m st x).getD j 0 = st.getD j 0 - x.1.getD j 0 + x.2.getD j 0 := by
 unfold nxt
 rw [List.getD_eq_getElem?_getD, List.getElem?_map, List.getElem?_range h]
 rfl
theorem chv_add (c : List Int) (x : List Int × List Int) (n : Nat) : chv (n + 1) c x = chv n c x + c.getD n 0 * (x.2.getD n 0 - x.1.getD n 0) := by
 unfold chv
 rw [List.range_succ, List.map_append, List.sum_append]
 simp
theorem sd_nxt {m : Nat} {c st : List Int} {x : List Int × List Int} : ∀ n, n ≤ m → sd c (nxt m st x) n = sd c st n + chv n c x
 | 0, _ => rfl
 | n + 1, h => by
  show sd c (nxt m st x) n + c.getD n 0 * (nxt m st x).getD n 0 = sd c st n + c.getD n 0 * st.getD n 0 + _
  rw [sd_nxt n (by omega), nxt_at (by omega), chv_add, show st.getD n 0 - x.1.getD n 0 + x.2.getD n 0 = st.getD n 0 + (x.2.getD n 0 - x.1.getD n 0) by omega, Int.mul_add]
  omega
structure PX (H : Hp) (p : Addr) (nm : List Str) (rs : List Addr) (ins beg : List Int) (ans : Int) (m : Nat) (tg : Rows) : Prop where
 pt : PotT H p nm rs ins beg ans m
 rl : Rls H rs tg m
theorem PX.tk {H H' : Hp} {p : Addr} {nm : List Str} {rs : List Addr} {ins beg : List Int} {ans : Int} {m : Nat} {tg : Rows} (k : TK H H') (h : PX H p nm rs ins beg ans m tg) : PX H' p nm rs ins beg ans m tg := ⟨h.pt.tk k, h.rl.tk k⟩
theorem PX.same {H H' : Hp} {p : Addr} {nm : List Str} {rs : List Addr} {ins beg : List Int} {ans : Int} {m : Nat} {tg : Rows} (k : Same H H') (h : PX H p nm rs ins beg ans m tg) : PX H' p nm rs ins beg ans m tg := h.tk (TK.same k)
theorem PX.pk {H : Hp} {p : Addr} {nm : List Str} {rs : List Addr} {ins beg : List Int} {ans : Int} {m : Nat} {tg : Rows} (h : PX H p nm rs ins beg ans m tg) : PotK H p m tg := by
 obtain ⟨ps, pr, pin, pb, h1, h2, h3, h4, h5⟩ := h.pt.ex
 exact ⟨⟨ps, pr, pin, pb, ans, rs, nm, h1, h2, h.pt.nl, h3, h.rl⟩, by rw [← h.rl.1]; exact h.pt.r8, h.pt.m8, h.pt.m0⟩
theorem px_of {H : Hp} {p : Addr} {nm : List Str} {rs : List Addr} {ins beg : List Int} {ans : Int} {m : Nat} (h : PotT H p nm rs ins beg ans m) : ∃ tg, PX H p nm rs ins beg ans m tg := by
 have key : ∀ rs : List Addr, (∀ r ∈ rs, RuleT m H r) → ∃ tg : Rows, Rls H rs tg m := by
  intro rs
  induction rs with
  | nil => exact fun _ => ⟨[], rfl, fun i r t g e => by simp at e⟩
  | cons r rs ih =>
   intro hh
   obtain ⟨tg, h1, h2⟩ := ih fun q hq => hh q (List.mem_cons_of_mem _ hq)
   obtain ⟨a, b, ts, gs, e, et, eg, hl, hl', hn, hn'⟩ := hh r List.mem_cons_self
   refine ⟨(ts, gs) :: tg, by simp [h1], fun i q t g e1 e2 => ?_⟩
   cases i with
   | zero =>
    simp at e1 e2
    obtain ⟨rfl, rfl⟩ := e2
    subst e1
    exact ⟨hl, hl', fun x hx => by have := hn x hx; omega, fun x hx => by have := hn' x hx; omega, a, b, e, et, eg⟩
   | succ i => exact h2 i q t g (by simpa using e1) (by simpa using e2)
 obtain ⟨tg, ht⟩ := key rs h.hr
 exact ⟨tg, h, ht⟩
abbrev sAt : Stmt := top 40
abbrev nAt : List Str := ["_law_form", "_law_amounts", "_law_stand", "_law_found", "_law_k"]
theorem nmAt : Nm nAt (defScope sAt) := ⟨by decide +kernel, by decide +kernel⟩
theorem scAt : FnScope nAt ["_law_form", "_law_amounts", "_law_stand"] (defScope sAt) := ⟨rfl, rfl, rfl, by decide +kernel, rfl, by decide +kernel, by decide +kernel⟩
def spAt : Sp := fun vs H Q _ => ∃ (q a b : Addr) (f : Fm) (am st : List Int) (n m : Nat), vs = [.ref q, .ref a, .ref b] ∧ FmAt H q f ∧ f.ins.length = n ∧ f.sts.length = m ∧ H a = some (.tup (am.map V.int)) ∧ am.length = n ∧ H b = some (.tup (st.map V.int)) ∧ st.length = m ∧ n ≤ 10 ∧ m ≤ 10 ∧ (∀ x ∈ am, 0 ≤ x ∧ x ≤ 1000000000000000) ∧ (∀ x ∈ st, 0 ≤ x ∧ x ≤ 1000000000000000) ∧ Q (.int (f.plus + sd f.ins am n + sd f.sts st m)) H
abbrev sSt : Stmt := top 42
abbrev nSt : List Str := ["_law_pot_here", "_law_stand", "_law_found", "_law_takes", "_law_gives"]
theorem nmSt : Nm nSt (defScope sSt) := ⟨by decide +kernel, by decide +kernel⟩
theorem scSt : FnScope nSt ["_law_pot_here", "_law_stand"] (defScope sSt) := ⟨rfl, rfl, rfl, by decide +kernel, rfl, by decide +kernel, by decide +kernel⟩
def qSta (s : Stmt) : Scope := match s with
 | .For _ _ [(.If (.Compare (.ListComp _ _ sc _) _ _ _) _ _ _)] _ _ => sc
 | _ => { kind := .function, names := [], isGenerator := false, isCoroutine := false }
abbrev cSta : Scope := qSta ((defBody sSt).getD 1 (.Pass ⟨0, 0, 0, 0⟩))
theorem bsSta : BScope (defScope sSt) cSta ["_law_k"] ["_law_stand", "_law_takes"] [] := { okind := by decide +kernel, kind := by decide +kernel, nocell := by decide +kernel, names := by decide +kernel, fr := by decide +kernel, ff := by decide +kernel, nd := by decide +kernel, vis := by decide +kernel, loc := by decide +kernel, gl := by decide +kernel }
def qStb (s : Stmt) : Scope := match s with
 | .For _ _ [(.If _ [(.Expr (.Call _ [(.Call _ [(.ListComp _ _ sc _)] _ _)] _ _) _)] _ _)] _ _ => sc
 | _ => { kind := .function, names := [], isGenerator := false, isCoroutine := false }
abbrev cStb : Scope := qStb ((defBody sSt).getD 1 (.Pass ⟨0, 0, 0, 0⟩))
theorem bsStb : BScope (defScope sSt) cStb ["_law_k"] ["_law_gives", "_law_stand", "_law_takes"] [] := { okind := by decide +kernel, kind := by decide +kernel, nocell := by decide +kernel, names := by decide +kernel, fr := by decide +kernel, ff := by decide +kernel, nd := by decide +kernel, vis := by decide +kernel, loc := by decide +kernel, gl := by decide +kernel }
def spSt : Sp := fun vs H Q _ => ∃ (p b : Addr) (nm : List Str) (rs : List Addr) (ins beg : List Int) (ans : Int) (m : Nat) (tg : Rows) (st : List Int), vs = [.ref p, .ref b] ∧ PX H p nm rs ins beg ans m tg ∧ H b = some (.tup (st.map V.int)) ∧ st.length = m ∧ ∀ (fl : Addr) (ts : List Addr) (H' : Hp), Same H H' → H fl = none → H' fl = some (.lst (ts.map V.ref)) → ts.length ≤ 8 → (∀ t ∈ ts, ∃ x ∈ tg, H' t = some (.tup ((nxt m st x).map V.int)) ∧ ∀ j, j < m → x.1.getD j 0 ≤ st.getD j 0) → Q (.ref fl) H'
section
variable {P : Program} {w : World} {K : PySem.W.Frag} {mg : Str → Option Value} {base : Heap}
set_option maxHeartbeats 4000000 in
theorem ok_At {f : Addr} {fd : FuncData} (B : Blt3 mg) (F : Fun K "_law_at" "_law_at" sAt f fd) : FnOk P w K mg base CX0 1 f fd ["_law_form", "_law_amounts", "_law_stand"] spAt := by
 refine F.ok scAt (fun vs H Q E h => ?_) (fun cdv A outer s H vs Q E hr h => ?_)
 ·obtain ⟨q, a, b, f, am, st, n, m, rfl, _⟩ := h
  rfl
 ·obtain ⟨q, a, b, f, am, st, n, m, rfl, ⟨fi, fs, h1, h2, h3⟩, li, ls, ha, han, hb, hbn, n10, m10, hab, hbb, k⟩ := h
  refine' ⟨_, ?hb, ?rd⟩
  case' hb => skip
  case' hb => refine' pss_cons ?g1 ?g2
  case' g2 => refine' pss_cons ?g3 ?g4
  case' g4 => refine' pss_cons ?g5 ?g6
  case' g6 => refine' pss_one ?g7
  case g1 => exact ps_setD nmAt 3 (pe_ix ix_d (pvd nmAt 0) pe_int (fun _ _ => rfl))
  case' g3 => refine' ps_for PassesOwn.never rfl ?g8 (pgd nmAt 4) ?g9
  case g8 => exact pi_r1 B.range (pa_1 (pe_cB call_len_seq B.len PySem.boot_len (pa_1 (pvd nmAt 1))))
  case' g9 => refine' pss_one ?g10
  case g10 => exact ps_setD nmAt 3 (pe_op op_add (pvd nmAt 3) (pe_op op_mul (pe_ix ix_d (pe_ix ix_d (pvd nmAt 0) pe_int (fun _ _ => rfl)) (pvd nmAt 4) (fun _ _ => rfl)) (pe_ix ix_d (pvd nmAt 1) (pvd nmAt 4) (fun _ _ => rfl))))
  case' g5 => refine' ps_for PassesOwn.never rfl ?g11 (pgd nmAt 4) ?g12
  case g11 => exact pi_r1 B.range (pa_1 (pe_cB call_len_seq B.len PySem.boot_len (pa_1 (pvd nmAt 2))))
  case' g12 => refine' pss_one ?g13
  case g13 => exact ps_setD nmAt 3 (pe_op op_add (pvd nmAt 3) (pe_op op_mul (pe_ix ix_d (pe_ix ix_d (pvd nmAt 0) pe_int (fun _ _ => rfl)) (pvd nmAt 4) (fun _ _ => rfl)) (pe_ix ix_d (pvd nmAt 2) (pvd nmAt 4) (fun _ _ => rfl))))
  case g7 => exact ps_ret (pvd nmAt 3)
  case rd =>
   walk_at "v"
   refine w_ixT h1 rfl ?_
   walk_at "v"
   refine ⟨a, _, rfl, .inr (SqT.of ha), ?_⟩
   rw [List.length_map, han]
   walk_at "v"
   refine ⟨_, rfl, by omega, by omega, ?_⟩
   rw [Int.toNat_natCast]
   refine for_range (n := n) (fun i σ H' => ∃ (u : Option V) (v : Int), σ = [some (.ref q), some (.ref a), some (.ref b), some (.int v), u] ∧ v = f.plus + sd f.ins am i ∧ H = H') ⟨none, _, rfl, by rw [show sd f.ins am 0 = 0 from rfl, Int.add_zero], rfl⟩ ?_ ?_
   ·rintro i σ H' hi ⟨u, v, rfl, ev, rfl⟩
    rw [Int.zero_add]
    walk_at "v"
    refine w_ixT h1 rfl ?_
    walk_at "v"
    refine w_ixT h2 (atL (by omega)) ?_
    walk_at "v"
    refine w_ixT ha (atL (by omega)) ?_
    have hb' := hab _ (getD_mem (d := 0) (j := i) (xs := am) (by omega))
    refine w_rI (.inr ⟨by omega, by omega⟩) ?_
    walk_at "v"
    exact ⟨_, _, rfl, by rw [ev, Int.add_assoc]; rfl, rfl⟩
   ·rintro σ H' ⟨u, v, rfl, ev, rfl⟩
    walk_at "v"
    refine ⟨b, _, rfl, .inr (SqT.of hb), ?_⟩
    rw [List.length_map, hbn]
    walk_at "v"
    refine ⟨_, rfl, by omega, by omega, ?_⟩
    rw [Int.toNat_natCast]
    refine for_range (n := m) (fun i σ H' => ∃ (u : Option V) (v' : Int), σ = [some (.ref q), some (.ref a), some (.ref b), some (.int v'), u] ∧ v' = v + sd f.sts st i ∧ H = H') ⟨u, _, rfl, by rw [show sd f.sts st 0 = 0 from rfl, Int.add_zero], rfl⟩ ?_ ?_
    ·rintro i σ H' hi ⟨u, v', rfl, ev', rfl⟩
     rw [Int.zero_add]
     walk_at "v"
     refine w_ixT h1 rfl ?_
     walk_at "v"
     refine w_ixT h3 (atL (by omega)) ?_
     walk_at "v"
     refine w_ixT hb (atL (by omega)) ?_
     have hb' := hbb _ (getD_mem (d := 0) (j := i) (xs := st) (by omega))
     refine w_rI (.inr ⟨by omega, by omega⟩) ?_
     walk_at "v"
     exact ⟨_, _, rfl, by rw [ev', Int.add_assoc]; rfl, rfl⟩
    ·rintro σ H' ⟨u, v', rfl, ev', rfl⟩
     rw [ev] at ev'
     rw [← ev'] at k
     walk_at "v"
     exact k
end
section
variable {P : Program} {w : World} {K : PySem.W.Frag} {mg : Str → Option Value} {base : Heap}
set_option maxHeartbeats 4000000 in
theorem ok_St {f : Addr} {fd : FuncData} (B : Blt3 mg) (F : Fun K "_law_steps" "_law_steps" sSt f fd) : FnOk P w K mg base CX0 1 f fd ["_law_pot_here", "_law_stand"] spSt := by
 refine F.ok scSt (fun vs H Q E h => ?_) (fun cdv A outer s H vs Q E hr h => ?_)
 ·obtain ⟨p, b, nm, rs, ins, beg, ans, m, tg, st, rfl, _⟩ := h
  rfl
 ·obtain ⟨p, b, nm, rs, ins, beg, ans, m, tg, st, rfl, hP, hb, hbn, k⟩ := h
  refine' ⟨_, ?hb, ?rd⟩
  case' hb => skip
  case' hb => refine' pss_cons ?g1 ?g2
  case' g2 => refine' pss_cons ?g3 ?g4
  case' g4 => refine' pss_one ?g5
  case g1 => exact ps_setD nmSt 2 (pe_lst pa_nil)
  case' g3 => refine' ps_for PassesOwn.never rfl ?g6 (pg_tup rfl (pgs_cons (pgd nmSt 3) (pgs_cons (pgd nmSt 4) pgs_nil))) ?g7
  case g6 => exact pi_tup (pe_ix ix_d (pvd nmSt 0) pe_int (fun _ _ => rfl))
  case' g7 => refine' pss_one ?g8
  case' g8 => refine' ps_if ?g9 ?g10 pss_nil
  case' g9 => refine' pt_cmpR (op_eqD hr) ?g12 (pe_lst pa_nil) (nomark _)
  case' g12 => refine' pe_comp (ix := [1, 3]) bsSta.toCScope rfl rfl ?g13 ?g14 ?g15 ?g16
  case g13 => exact pi_r1 B.range (pa_1 (pe_cB call_len_seq B.len PySem.boot_len (pa_1 (pvd nmSt 1))))
  case g14 => exact fun _ _ _ _ _ _ => pgb bsSta 0
  case g15 => exact fun _ _ _ _ _ _ => pts_one (pt_cmpR op_lt (pe_ix ix_d (pvb bsSta 1) (pvb bsSta 0) (fun _ _ => rfl)) (pe_ix ix_d (pvb bsSta 2) (pvb bsSta 0) (fun _ _ => rfl)) (nomark _))
  case g16 => exact fun _ _ _ _ _ _ => pvb bsSta 0
  case' g10 => refine' pss_one ?g17
  case' g17 => refine' ps_expr ?g18
  case' g18 => refine' pe_bm PySem.F.plainAttrs_list PySem.F.slot_list_append PySem.F.type_list_append mt_append (pvd nmSt 2) ?g19
  case' g19 => refine' pa_1 ?g20
  case' g20 => refine' pe_cT call_tupL B.tuple PyProof.Rows.boot_tuple ?g21
  case' g21 => refine' pa_1 ?g22
  case' g22 => refine' pe_comp (ix := [4, 1, 3]) bsStb.toCScope rfl rfl ?g23 ?g24 ?g25 ?g26
  case g23 => exact pi_r1 B.range (pa_1 (pe_cB call_len_seq B.len PySem.boot_len (pa_1 (pvd nmSt 1))))
  case g24 => exact fun _ _ _ _ _ _ => pgb bsStb 0
  case g25 => exact fun _ _ _ _ _ _ => pts_nil
  case g26 => exact fun _ _ _ _ _ _ => pe_op op_add (pe_op op_sub (pe_ix ix_d (pvb bsStb 2) (pvb bsStb 0) (fun _ _ => rfl)) (pe_ix ix_d (pvb bsStb 3) (pvb bsStb 0) (fun _ _ => rfl))) (pe_ix ix_d (pvb bsStb 1) (pvb bsStb 0) (fun _ _ => rfl))
  case g5 => exact ps_ret (pvd nmSt 2)
  case rd =>
   obtain ⟨ps, pr, pin, pb, h1, h2, h3, h4, h5⟩ := hP.pt.ex
   have m8 := hP.pt.m8
   have r8 := hP.pt.r8
   have rl := hP.rl.1
   walk_at "v"
   refine ⟨Nat.zero_le _, fun fl hfl => ?_⟩
   have K1 : Same H (upd H fl (.lst [])) := Same.new (Same.refl _) hfl
   have e1 : upd H fl (.lst []) fl = some (.lst (([] : List Addr).map V.ref)) := upd_same
   generalize upd H fl (.lst []) = H1 at K1 e1 ⊢
   walk_at "v"
   refine w_ixT (K1 _ _ h1) rfl ?_
   refine ⟨pr, rfl, ⟨_, SqT.of (K1 _ _ h3)⟩, ?_⟩
   refine for_tup (xs := rs.map V.ref) (fun i σ H' => ∃ (u3 u4 : Option V) (ts : List Addr), σ = [some (.ref p), some (.ref b), some (.ref fl), u3, u4] ∧ Same H H' ∧ H' fl = some (.lst (ts.map V.ref)) ∧ ts.length ≤ i ∧ ∀ t ∈ ts, ∃ x ∈ tg, H' t = some (.tup ((nxt m st x).map V.int)) ∧ ∀ j, j < m → x.1.getD j 0 ≤ st.getD j 0) ⟨none, none, [], rfl, K1, e1, Nat.le_refl _, fun t ht => by cases ht⟩ (fun i σ H' _ ⟨_, _, _, _, k', _⟩ => SqT.of (k' _ _ h3)) ?_ ?_
   ·rintro i x σ H2 hx ⟨u3, u4, ts, rfl, K2, e2, hts, hT⟩
    obtain ⟨q, eq, rfl⟩ := itR hx
    have hi : i < tg.length := by
     have := (List.getElem?_eq_some_iff.mp eq).1
     omega
    obtain ⟨r, a, c, g1, g2, g3, g4, g5, g6, g7, g8⟩ := hP.rl.get hi
    rw [eq] at g1
    cases g1
    generalize hxx : tg[i] = xx at g3 g4 g5 g6 g7 g8
    refine w_gtup (K2 _ _ g2) rfl ?_
    refine ⟨_, _, rfl, ?_⟩
    walk_at "v"
    refine ⟨_, _, rfl, ?_⟩
    walk_at "v"
    refine ⟨rfl, ?_⟩
    walk_at "v"
    refine ⟨b, _, rfl, .inr (SqT.of (K2 _ _ hb)), ?_⟩
    rw [List.length_map, hbn]
    walk_at "v"
    refine ⟨_, rfl, by omega, by omega, fun D hD => ?_⟩
    rw [Int.toNat_natCast]
    refine cgo_range (n := m) (fun i ys H' => ∃ zs : List Int, ys = zs.map V.int ∧ zs.length ≤ i ∧ (zs = [] → ∀ j, j < i → xx.1.getD j 0 ≤ st.getD j 0) ∧ Same H2 H') ⟨[], rfl, Nat.le_refl _, fun _ j hj => by omega, Same.new (Same.refl H2) hD⟩ ?_ ?_
    ·rintro j ys H3 hj ⟨zs, rfl, hz, hz2, K3⟩ hDy R S kR kS
     rw [Int.zero_add]
     walk_at "v"
     refine w_ixT (K3 _ _ (K2 _ _ hb)) (atL (by omega)) ?_
     walk_at "v"
     refine w_ixT (K3 _ _ (K2 _ _ g3)) (atL (by omega)) ?_
     walk_at "v"
     refine iteD (fun h => ?_) (fun h => ?_)
     ·walk_at "v"
      refine kR _ _ hDy (by rw [List.length_map]; exact small1000 (by omega)) ⟨zs ++ [(j : Int)], by rw [List.map_append]; rfl, by rw [List.length_append]; show zs.length + 1 ≤ _; omega, fun z => ?_, K3.put hD⟩
      have := congrArg List.length z
      rw [List.length_append] at this
      have : zs.length + 1 = 0 := this
      omega
     ·refine kS _ hDy ⟨zs, rfl, by omega, fun z j' hj' => ?_, K3⟩
      rcases Nat.lt_or_ge j' j with w | w
      ·exact hz2 z j' w
      ·rw [show j' = j by omega]; omega
    rintro ys H3 ⟨zs, rfl, hz, hz2, K3⟩ e3
    walk_at "v"
    refine ⟨Nat.zero_le _, fun z hz => ?_⟩
    have K4 : Same H3 (upd H3 z (.lst [])) := Same.new (Same.refl _) hz
    have e4 : upd H3 z (.lst []) z = some (.lst (([] : List Int).map V.int)) := upd_same
    generalize upd H3 z (.lst []) = H4 at K4 e4 ⊢
    refine w_eqL (K4 _ _ e3) e4 ?_
    have K24 := K3.trans K4
    have e2' := K24 _ _ e2
    walk_at "v"
    refine iteD (fun h => ?_) (fun h => ?_)
    ·walk_at "v"
     refine ⟨.inl ⟨rfl, _, SqL.of e2'⟩, ?_⟩
     walk_at "v"
     refine ⟨b, _, rfl, .inr (SqT.of (K24 _ _ (K2 _ _ hb))), ?_⟩
     rw [List.length_map, hbn]
     walk_at "v"
     refine ⟨_, rfl, by omega, by omega, fun D2 hD2 => ?_⟩
     rw [Int.toNat_natCast]
     have K04 := K2.trans K24
     refine rng_map (ρ := [some (.ref c), some (.ref b), some (.ref a)]) (fun j => st.getD j 0 - xx.1.getD j 0 + xx.2.getD j 0) (by omega) (fun j H' hj K' R kR => ?_) (fun H5 K5 e5 => ?_) hD2
     ·walk_at "v"
      refine w_ixT (K' _ _ (K04 _ _ hb)) (atL (by omega)) ?_
      walk_at "v"
      refine w_ixT (K' _ _ (K04 _ _ g3)) (atL (by omega)) ?_
      walk_at "v"
      refine w_ixT (K' _ _ (K04 _ _ g4)) (atL (by omega)) ?_
      walk_at "v"
      exact kR _ (Same.refl _)
     walk_at "v"
     refine ⟨D2, _, rfl, e5, fun nt H6 K6 e6 => ?_⟩
     have K46 := K5.trans K6
     have e2'' := K46 _ _ e2'
     walk_at "v"
     refine ⟨fl, _, _, rfl, rfl, e2'', by rw [List.length_map]; exact small1000 (by omega), ?_⟩
     have tk : TK H6 (upd H6 fl (.lst (ts.map V.ref ++ [.ref nt]))) := TK.lst e2''
     refine ⟨_, _, ts ++ [nt], rfl, ((K04.trans K46).put hfl), by rw [upd_same, List.map_append]; rfl, by rw [List.length_append]; show ts.length + 1 ≤ _; omega, fun t ht => ?_⟩
     rcases List.mem_append.mp ht with old | new
     ·obtain ⟨y, hy, ey, hy2⟩ := hT t old
      exact ⟨y, hy, tk.t _ _ (K46 _ _ (K24 _ _ ey)), hy2⟩
     ·rw [List.mem_singleton.mp new]
      exact ⟨xx, hxx ▸ List.getElem_mem hi, tk.t _ _ e6, hz2 h⟩
    ·exact ⟨_, _, ts, rfl, K2.trans K24, e2', by omega, fun t ht => let ⟨y, hy, ey, hy2⟩ := hT t ht; ⟨y, hy, K24 _ _ ey, hy2⟩⟩
   rintro σ H2 ⟨u3, u4, ts, rfl, K2, e2, hts, hT⟩
   rw [List.length_map] at hts
   walk_at "v"
   exact k fl ts H2 K2 hfl e2 (by omega) hT
end
theorem cgo_tup2 {D : Addr} {tc : TT} {te : TE} {Q : VK} {ρ : St} {H : Hp} {K : PySem.W.Frag} {a : Addr} {rs : List Addr} (Pv : Nat → List V → Hp → Prop) (h0 : Pv 0 [] (upd H D (.lst []))) (hl : ∀ i ys H', i ≤ rs.length → Pv i ys H' → SqT K H' a (rs.map V.ref))
  (hs : ∀ i r ys H', rs[i]? = some r → Pv i ys H' → H' D = some (.lst ys) → ∃ u v, H' r = some (.tup [u, v]) ∧ ∀ (R : V → Hp → Prop) (S : Hp → Prop), (∀ y H4, H4 D = some (.lst ys) → ys.length < sizeLine → Pv (i + 1) (ys ++ [y]) (upd H4 D (.lst (ys ++ [y]))) → R y H4) → (∀ H3, H3 D = some (.lst ys) → Pv (i + 1) ys H3 → S H3) →
   tc (some u :: some v :: ρ) H' fun b H3 => if b = true then te (some u :: some v :: ρ) H3 R else S H3)
  (hd : ∀ ys H', Pv rs.length ys H' → H' D = some (.lst ys) → Q (.ref D) H') : CGo (Itt K a) D (gTup K 2 (gCons (gName 0) (gCons (gName 1) gNil))) tc te Q (none :: none :: ρ) H := by
 refine ⟨fun i m τ ys H' => m = rs.length - i ∧ i ≤ rs.length ∧ (∃ tv tw, τ = tv :: tw :: ρ) ∧ Pv i ys H' ∧ H' D = some (.lst ys), ⟨rs.length, by omega, Nat.zero_le _, ⟨_, _, rfl⟩, h0, upd_same⟩, ?_⟩
 rintro i m τ ys H' ⟨rfl, hi, ⟨tv, tw, rfl⟩, hp, hD⟩
 refine ⟨hD, ?_⟩
 have sq := hl i ys H' hi hp
 by_cases hlt : i < rs.length
 ·refine .inr ⟨⟨_, .ref rs[i], sq, by simp [hlt]⟩, ?_⟩
  rintro v H'' ⟨rfl, hv⟩
  have hv' := hv _ sq
  rw [List.getElem?_map, List.getElem?_eq_getElem hlt] at hv'
  cases hv'
  obtain ⟨u, v, e, h⟩ := hs i rs[i] ys _ (List.getElem?_eq_getElem hlt) hp hD
  exact ⟨rs[i], [u, v], rfl, SqT.of e, rfl, u, [v], rfl, v, [], rfl, rfl, h _ _ (fun y H4 a b c => ⟨a, b, rs.length - (i + 1), by omega, rfl, hlt, ⟨_, _, rfl⟩, c, upd_same⟩) fun H3 a c => ⟨rs.length - (i + 1), by omega, rfl, hlt, ⟨_, _, rfl⟩, c, a⟩⟩
 ·have e : i = rs.length := by omega
  subst e
  exact .inl ⟨⟨_, sq, by simp⟩, hd ys _ hp hD⟩
theorem TL.tk {H H' : Hp} {as : List Addr} {rows : List (List Int)} (k : TK H H') (h : TL H as rows) : TL H' as rows := ⟨h.1, fun i a r e1 e2 => k.t _ _ (h.2 i a r e1 e2)⟩
theorem flat_rep : ∀ n : Nat, (List.replicate n [V.int 0]).flatten = List.replicate n (V.int 0)
 | 0 => rfl
 | n + 1 => by rw [List.replicate_succ, List.flatten_cons, flat_rep n]; rfl
abbrev sKp : Stmt := top 41
abbrev nKp : List Str := ["_law_tape_here", "_law_pot_here", "_law_told", "_law_found", "_law_k", "_law_kept", "_law_one", "_law_times", "_law_changes"]
theorem nmKp : Nm nKp (defScope sKp) := ⟨by decide +kernel, by decide +kernel⟩
theorem scKp : FnScope nKp ["_law_tape_here", "_law_pot_here"] (defScope sKp) := ⟨rfl, rfl, rfl, by decide +kernel, rfl, by decide +kernel, by decide +kernel⟩
def qKpa (s : Stmt) : Scope := match s with
 | .For _ _ [_, (.For _ _ [_, (.Assign _ (.ListComp _ _ sc _) _)] _ _), _, _] _ _ => sc
 | _ => { kind := .function, names := [], isGenerator := false, isCoroutine := false }
abbrev cKpa : Scope := qKpa ((defBody sKp).getD 2 (.Pass ⟨0, 0, 0, 0⟩))
theorem bsKpa : BScope (defScope sKp) cKpa ["_law_j"] ["_law_kept", "_law_one", "_law_times"] [] := { okind := by decide +kernel, kind := by decide +kernel, nocell := by decide +kernel, names := by decide +kernel, fr := by decide +kernel, ff := by decide +kernel, nd := by decide +kernel, vis := by decide +kernel, loc := by decide +kernel, gl := by decide +kernel }
def qKpb (s : Stmt) : Scope := match s with
 | .For _ _ [_, _, (.Assign _ (.ListComp _ _ sc _) _), _] _ _ => sc
 | _ => { kind := .function, names := [], isGenerator := false, isCoroutine := false }
abbrev cKpb : Scope := qKpb ((defBody sKp).getD 2 (.Pass ⟨0, 0, 0, 0⟩))
def qKpd (s : Stmt) : Scope := match s with
 | .For _ _ [_, _, _, (.If (.Compare (.ListComp _ _ sc _) _ _ _) _ _ _)] _ _ => sc
 | _ => { kind := .function, names := [], isGenerator := false, isCoroutine := false }
abbrev cKpd : Scope := qKpd ((defBody sKp).getD 2 (.Pass ⟨0, 0, 0, 0⟩))
theorem bsKpd : BScope (defScope sKp) cKpd ["_law_change"] [] [] := { okind := by decide +kernel, kind := by decide +kernel, nocell := by decide +kernel, names := by decide +kernel, fr := by decide +kernel, ff := by decide +kernel, nd := by decide +kernel, vis := by decide +kernel, loc := by decide +kernel, gl := by decide +kernel }
theorem loKp_8 : (defScope sKp).names.lookup ("_law_changes" : Str) = some .local := by decide +kernel
def qKpc (s : Stmt) : Scope := match s with
 | .For _ _ [_, _, (.Assign _ (.ListComp (.Call _ [.ListComp _ _ sc _] _ _) _ _ _) _), _] _ _ => sc
 | _ => { kind := .function, names := [], isGenerator := false, isCoroutine := false }
abbrev cKpc : Scope := qKpc ((defBody sKp).getD 2 (.Pass ⟨0, 0, 0, 0⟩))
theorem nbKp : NBScope (defScope sKp) cKpb ["_law_takes", "_law_gives"] ["_law_kept"] ["sum", "range", "len"] := { okind := by decide +kernel, kind := by decide +kernel, names := by decide +kernel, clN := by decide +kernel, fr := by decide +kernel, ff := by decide +kernel, nd := by decide +kernel, vis := by decide +kernel, loc := by decide +kernel, gl := by decide +kernel }
theorem bsKpc : BScope (relabelS cKpb (defScope sKp)) cKpc ["_law_j"] ["_law_gives", "_law_kept", "_law_takes"] [] := { okind := by decide +kernel, kind := by decide +kernel, nocell := by decide +kernel, names := by decide +kernel, fr := by decide +kernel, ff := by decide +kernel, nd := by decide +kernel, vis := by decide +kernel, loc := by decide +kernel, gl := by decide +kernel }
def spKp : Sp := fun vs H Q _ => ∃ (p l : Addr) (ns : List Int) (q : Addr) (nm : List Str) (rs : List Addr) (ins beg : List Int) (ans : Int) (m : Nat) (tg : Rows), vs = [.ref p, .ref q] ∧ Tp H p l ns ∧ PX H q nm rs ins beg ans m tg ∧ ∀ (kp : Addr) (ks : List Addr) (cs : List (List Int)) (H' : Hp), H' kp = some (.tup (ks.map V.ref)) → Kps H' m ks cs → cs.length ≤ 3 → (∀ c ∈ cs, ∀ x ∈ tg, chv m c x = 0) → Tp H' p l ns → Bp p H H' → Q (.ref kp) H'
section
variable {P : Program} {w : World} {K : PySem.W.Frag} {mg : Str → Option Value} {base : Heap}
set_option maxHeartbeats 4000000 in
theorem ok_Kp {f : Addr} {fd : FuncData} (B : Blt3 mg) (D : Has P w K mg base 1 "_law_draw" ["_law_tape_here", "_law_many"] spDraw) (fA : Has P w K mg base 5 "all_kept" ["pot"] spAk) (F : Fun K "_law_kepts" "_law_kepts" sKp f fd) : FnOk P w K mg base CX0 6 f fd ["_law_tape_here", "_law_pot_here"] spKp := by
 refine F.ok scKp (fun vs H Q E h => ?_) (fun cdv A outer s H vs Q E hr h => ?_)
 ·obtain ⟨p, l, ns, q, nm, rs, ins, beg, ans, m, tg, rfl, _⟩ := h
  rfl
 ·obtain ⟨p, l, ns, q, nm, rs, ins, beg, ans, m, tg, rfl, T0, hP, k⟩ := h
  refine' ⟨_, ?hb, ?rd⟩
  case' hb => skip
  case' hb => refine' pss_cons ?g1 ?g2
  case' g2 => refine' pss_cons ?g3 ?g4
  case' g4 => refine' pss_cons ?g5 ?g6
  case' g6 => refine' pss_one ?g7
  case g1 => exact ps_setD nmKp 2 (pe_f fA hr (by decide) (pa_1 (pvd nmKp 1)))
  case g3 => exact ps_setD nmKp 3 (pe_lst pa_nil)
  case' g5 => refine' ps_for PassesOwn.never rfl ?g8 (pgd nmKp 4) ?g9
  case g8 => exact pi_r1 B.range (pa_1 (pe_op op_add pe_int (pe_f D hr (by decide) (pa_2 (pvd nmKp 0) pe_int))))
  case' g9 => refine' pss_cons ?g10 ?g11
  case' g11 => refine' pss_cons ?g12 ?g13
  case' g13 => refine' pss_cons ?g14 ?g15
  case' g15 => refine' pss_one ?g16
  case g10 => exact ps_setD nmKp 5 (pe_op op_rep (pe_lst (pa_1 pe_int)) (pe_cB call_len_seq B.len PySem.boot_len (pa_1 (pe_ix ix_d (pvd nmKp 1) pe_int (fun _ _ => rfl)))))
  case' g12 => refine' ps_for PassesOwn.never rfl ?g17 (pgd nmKp 6) ?g18
  case g17 => exact pi_list (pvd nmKp 2)
  case' g18 => refine' pss_cons ?g19 ?g20
  case' g20 => refine' pss_one ?g21
  case g19 => exact ps_setD nmKp 7 (pe_op op_sub (pe_f D hr (by decide) (pa_2 (pvd nmKp 0) pe_int)) pe_int)
  case' g21 => refine' ps_setD nmKp 5 ?g22
  case' g22 => refine' pe_comp (ix := [5, 6, 7]) bsKpa.toCScope rfl rfl ?g23 ?g24 ?g25 ?g26
  case g23 => exact pi_r1 B.range (pa_1 (pe_cB call_len_seq B.len PySem.boot_len (pa_1 (pvd nmKp 5))))
  case g24 => exact fun _ _ _ _ _ _ => pgb bsKpa 0
  case g25 => exact fun _ _ _ _ _ _ => pts_nil
  case g26 => exact fun _ _ _ _ _ _ => pe_op op_add (pe_ix ix_d (pvb bsKpa 1) (pvb bsKpa 0) (fun _ _ => rfl)) (pe_op op_mul (pvb bsKpa 3) (pe_ix ix_d (pvb bsKpa 2) (pvb bsKpa 0) (fun _ _ => rfl)))
  case' g14 => refine' ps_setCN (i := 8) (ix := [5]) nmKp.nd rfl loKp_8 nbKp.toNScope rfl rfl ?g27 ?g28 ?g29 ?g30
  case g27 => exact pi_tup (pe_ix ix_d (pvd nmKp 1) pe_int (fun _ _ => rfl))
  case g28 =>
   intro _ _ _ _ _ _
   refine' pgb_tupN (n := 2) rfl ?y1
   case' y1 => refine' pgs_cons ?y2 ?y3
   case y2 => exact pgbN nbKp 0
   case' y3 => refine' pgs_cons ?y4 pgs_nil
   case y4 => exact pgbN nbKp 1
  case g29 => exact fun _ _ _ _ _ _ => pts_nil
  case g30 =>
   intro _ _ _ _ _ _
   refine' pe_cB (call_sum rfl) B.sum PyProof.Rows.boot_sum ?x1 (nbKp.g 0)
   case' x1 => refine' pa_1 ?x2
   case x2 =>
    refine' pe_comp (ix := [1, 2, 0]) bsKpc.toCScope rfl rfl ?i3 ?i4 ?i5 ?i6
    case i3 => exact pi_r1 B.range (pa_1 (pe_cB call_lnL B.len PySem.boot_len (pa_1 (pvbN nbKp 2)) (nbKp.g 2))) (nbKp.g 1)
    case i4 => exact fun _ _ _ _ _ _ => pgb bsKpc 0
    case i5 => exact fun _ _ _ _ _ _ => pts_nil
    case i6 => exact fun _ _ _ _ _ _ => pe_op op_mul (pe_ix ix_d (pvb bsKpc 2) (pvb bsKpc 0) (fun _ _ => rfl)) (pe_op op_sub (pe_ix ix_d (pvb bsKpc 1) (pvb bsKpc 0) (fun _ _ => rfl)) (pe_ix ix_d (pvb bsKpc 3) (pvb bsKpc 0) (fun _ _ => rfl)))
  case' g16 => refine' ps_if ?g38 ?g39 pss_nil
  case' g38 => refine' pt_cmpR (op_eqD hr) ?g41 (pe_lst pa_nil) (nomark _)
  case' g41 => refine' pe_comp (ix := []) bsKpd.toCScope rfl rfl ?g42 ?g43 ?g44 ?g45
  case g42 => exact pi_list (pvd nmKp 8)
  case g43 => exact fun _ _ _ _ _ _ => pgb bsKpd 0
  case g44 => exact fun _ _ _ _ _ _ => pts_one (pt_cmpR op_ne (pvb bsKpd 0) pe_int (nomark _))
  case g45 => exact fun _ _ _ _ _ _ => pvb bsKpd 0
  case' g39 => refine' pss_one ?g46
  case g46 => exact ps_expr (pe_bm PySem.F.plainAttrs_list PySem.F.slot_list_append PySem.F.type_list_append mt_append (pvd nmKp 3) (pa_1 (pe_cT call_tupL B.tuple PyProof.Rows.boot_tuple (pa_1 (pvd nmKp 5)))))
  case g7 => exact ps_ret (pe_cT call_tupL B.tuple PyProof.Rows.boot_tuple (pa_1 (pvd nmKp 3)))
  case rd =>
   obtain ⟨ps, pr, pin, pb, h1, h2, h3, h4, h5⟩ := hP.pt.ex
   have m8 := hP.pt.m8
   have r8 := hP.pt.r8
   have rl := hP.rl.1
   have nl := hP.pt.nl
   walk_at "v"
   refine ⟨q, m, tg, rfl, hP.pk, fun tl bs H1 K1 ntl etl htl => ?_⟩
   have S1 : SS p l ns H H1 := ⟨T0.same K1, Bp.same K1⟩
   have hbl : bs.length ≤ 8 := by
    rw [htl.1]
    unfold kepts frees
    rw [List.length_map]
    have := List.length_filter_le (fun j => decide (j ∉ (red (chs tg) m).2)) (List.range m)
    rw [List.length_range] at this
    omega
   have hvl : ∀ c ∈ kepts m tg, c.length = m := fun c hc => by
    unfold kepts at hc
    obtain ⟨j, _, rfl⟩ := List.mem_map.mp hc
    unfold vecF wd
    rw [List.length_map, numK_len]
   have hptl : p ≠ tl := T0.np ntl
   walk_at "v"
   refine ⟨Nat.zero_le _, fun fl hfl => ?_⟩
   have S2 := S1.new (o := .lst []) hfl
   have K2 : Same H1 (upd H1 fl (.lst [])) := Same.new (Same.refl _) hfl
   have e2 : upd H1 fl (.lst []) fl = some (.lst (([] : List Addr).map V.ref)) := upd_same
   have nfl := S1.none hfl
   have pfl := S1.tp.np hfl
   have lfl := S1.tp.nl hfl
   have nft : tl ≠ fl := ne_of_none etl hfl
   generalize upd H1 fl (.lst []) = H2 at S2 K2 e2 ⊢
   replace etl := K2 _ _ etl
   replace htl := htl.same K2
   have tk2 : TK H H2 := TK.same (K1.trans K2)
   clear S1 K2
   walk_at "v"
   refine ⟨p, l, ns, 3, rfl, S2.tp, by decide, by decide, fun nr c e r0 r1 => ?_⟩
   obtain ⟨nr, rfl⟩ := ofI r0
   have S3 := S2.draw (c := c) (e := e)
   have tk3 := tk2.trans (S2.tk (c := c) (e := e))
   replace e2 : upd H2 p (.lst [.ref l, .int c, .int e]) fl = some (.lst (([] : List Addr).map V.ref)) := by rw [upd_ne (Ne.symm pfl)]; exact e2
   replace etl : upd H2 p (.lst [.ref l, .int c, .int e]) tl = some (.lst (bs.map V.ref)) := by rw [upd_ne (Ne.symm hptl)]; exact etl
   replace htl : TL (upd H2 p (.lst [.ref l, .int c, .int e])) bs (kepts m tg) := htl.tk (S2.tk (c := c) (e := e))
   generalize upd H2 p (.lst [.ref l, .int c, .int e]) = H3 at S3 tk3 e2 etl htl ⊢
   clear S2 tk2
   walk_at "v"
   refine ⟨_, rfl, by omega, by omega, ?_⟩
   rw [show ((1 : Int) + (nr : Int)).toNat = 1 + nr by omega]
   refine for_range (n := 1 + nr) (fun i σ H' => ∃ (u4 u5 u6 u7 u8 : Option V) (ks : List Addr) (cs : List (List Int)), σ = [some (.ref p), some (.ref q), some (.ref tl), some (.ref fl), u4, u5, u6, u7, u8] ∧ H' fl = some (.lst (ks.map V.ref)) ∧ Kps H' m ks cs ∧ cs.length ≤ i ∧ (∀ c ∈ cs, ∀ x ∈ tg, chv m c x = 0) ∧ SS p l ns H H' ∧ TK H H' ∧ H' tl = some (.lst (bs.map V.ref)) ∧ TL H' bs (kepts m tg)) ⟨none, none, none, none, none, [], [], rfl, e2, trivial, Nat.le_refl _, (fun c hc => by cases hc), S3, tk3, etl, htl⟩ ?_ ?_
   ·rintro i σ H4 hi ⟨u4, u5, u6, u7, u8, ks, cs, rfl, e4, hks, hcl, hck, S4, tk4, etl4, htl4⟩
    have hkl := hks.len
    rw [Int.zero_add]
    walk_at "v"
    refine ⟨by show 1 ≤ sizeLine; decide, fun z hz => ?_⟩
    obtain ⟨H5, q, K5, e5⟩ := nob (.lst [.int 0]) hz; rw [q]; clear q
    walk_at "v"
    refine w_ixT (K5 _ _ (tk4.t _ _ h1)) rfl ?_
    refine ⟨ps, _, rfl, .inr (SqT.of (K5 _ _ (tk4.t _ _ h2))), ?_⟩
    rw [List.length_map, nl]
    refine ⟨z, _, _, rfl, rfl, e5, by omega, by omega, by rw [Int.toNat_natCast]; show 1 * m ≤ sizeLine; exact Nat.le_trans (by omega : 1 * m ≤ 8) (by decide), fun k0 hk0 => ?_⟩
    rw [Int.toNat_natCast, show (List.replicate m [V.int 0]).flatten = (List.replicate m (0 : Int)).map V.int by rw [List.map_replicate]; exact flat_rep m]
    have S6 : SS p l ns H (upd H5 k0 (.lst ((List.replicate m (0 : Int)).map V.int))) := SS.new ⟨S4.tp.same K5, S4.bt.trans (Bp.same K5)⟩ hk0
    have K6 : Same H4 (upd H5 k0 (.lst ((List.replicate m (0 : Int)).map V.int))) := K5.new hk0
    have e6 : upd H5 k0 (.lst ((List.replicate m (0 : Int)).map V.int)) k0 = some (.lst ((List.replicate m (0 : Int)).map V.int)) := upd_same
    have nkp : k0 ≠ p := Ne.symm ((S4.tp.same K5).np hk0)
    generalize upd H5 k0 (.lst ((List.replicate m (0 : Int)).map V.int)) = H6 at S6 K6 e6 ⊢
    walk_at "v"
    refine ⟨tl, rfl, ⟨_, SqL.of (K6 _ _ etl4)⟩, ?_⟩
    refine for_list (xs := bs.map V.ref) (fun j σ H' => ∃ (u6 u7 : Option V) (kp : Addr) (c : List Int), σ = [some (.ref p), some (.ref q), some (.ref tl), some (.ref fl), some (.int (i : Int)), some (.ref kp), u6, u7, u8] ∧ H' kp = some (.lst (c.map V.int)) ∧ kp ≠ p ∧ c.length = m ∧ SS p l ns H H' ∧ Bp p H4 H') ⟨u6, u7, k0, _, rfl, e6, nkp, by simp, S6, Bp.same K6⟩ (fun j σ H' _ ⟨_, _, _, _, _, _, _, _, _, k'⟩ => SqL.of (k' _ _ (Ne.symm hptl) etl4)) ?_ ?_
    ·rintro j x σ H7 hx ⟨u6, u7, kp, c, rfl, e7, nkp7, hc, S7, k7⟩
     obtain ⟨o, eo, rfl⟩ := itR hx
     have hj : j < (kepts m tg).length := by
      rw [← htl4.1]
      exact (List.getElem?_eq_some_iff.mp eo).1
     have ho4 := htl4.2 j o _ eo (List.getElem?_eq_getElem hj)
     have hol : (kepts m tg)[j].length = m := hvl _ (List.getElem_mem hj)
     generalize (kepts m tg)[j] = one at ho4 hol
     have ho7 : H7 o = some (.tup (one.map V.int)) := (Tp.tkb S4.tp k7).t _ _ ho4
     walk_at "v"
     refine ⟨p, l, ns, 5, rfl, S7.tp, by decide, by decide, fun r c' e' r0 r1 => ?_⟩
     have S8 := S7.draw (c := c') (e := e')
     have k8 : Bp p H7 (upd H7 p (.lst [.ref l, .int c', .int e'])) := Bp.refl.at
     generalize upd H7 p (.lst [.ref l, .int c', .int e']) = H8 at S8 k8 ⊢
     have e8 := k8 _ _ nkp7 e7
     have ho8 := (Tp.tkb S7.tp k8).t _ _ ho7
     walk_at "v"
     refine ⟨kp, _, rfl, .inl (SqL.of e8), ?_⟩
     rw [List.length_map, hc]
     walk_at "v"
     refine ⟨_, rfl, by omega, by omega, fun D1 hD1 => ?_⟩
     rw [Int.toNat_natCast]
     refine rng_map (ρ := [some (.ref kp), some (.ref o), some (.int (r - 2))]) (fun j => c.getD j 0 + (r - 2) * one.getD j 0) (by omega) (fun j' H' hj' K' R kR => ?_) (fun H9 K9 e9 => ?_) hD1
     ·walk_at "v"
      refine w_ixL (K' _ _ e8) (atL (by omega)) ?_
      walk_at "v"
      refine w_ixT (K' _ _ ho8) (atL (by omega)) ?_
      refine w_rI (mulL (by omega) (by omega)) ?_
      walk_at "v"
      exact kR _ (Same.refl _)
     walk_at "v"
     refine ⟨_, _, D1, _, rfl, e9, Ne.symm (S8.tp.np hD1), by simp, ⟨S8.tp.same K9, S8.bt.trans (Bp.same K9)⟩, (k7.trans k8).trans (Bp.same K9)⟩
    rintro σ H7 ⟨u6, u7, kp, c, rfl, e7, nkp7, hc, S7, k7⟩
    have tk7 := Tp.tkb S4.tp k7
    have tkA := tk4.trans tk7
    walk_at "v"
    refine w_ixT (tkA.t _ _ h1) rfl ?_
    refine ⟨pr, rfl, ⟨_, SqT.of (tkA.t _ _ h3)⟩, fun D2 hD2 => ?_⟩
    refine cgo_tup2 (rs := rs) (ρ := [some (.ref kp)]) (fun j ys H' => ys = ((tg.take j).map (chv m c)).map V.int ∧ Same H7 H') ⟨rfl, Same.new (Same.refl _) hD2⟩ (fun j ys H' _ ⟨_, k'⟩ => SqT.of (k' _ _ (tkA.t _ _ h3))) ?_ ?_
    ·rintro j o ys H8 eo ⟨rfl, K8⟩ hDy
     have hj : j < tg.length := by
      have := (List.getElem?_eq_some_iff.mp eo).1
      omega
     obtain ⟨r, a, b, g1, g2, g3, g4, g5, g6, g7, g8⟩ := hP.rl.get hj
     rw [eo] at g1
     cases g1
     generalize hxx : tg[j] = xx at g3 g4 g5 g6 g7 g8
     have G2' := K8 _ _ (tkA.t _ _ g2)
     have G3' := K8 _ _ (tkA.t _ _ g3)
     have G4' := K8 _ _ (tkA.t _ _ g4)
     refine ⟨.ref a, .ref b, G2', fun R SK kR _ => ?_⟩
     refine w_all (iteT ?_)
     walk_at "v"
     refine ⟨kp, _, rfl, K8 _ _ e7, ?_⟩
     rw [List.length_map, hc]
     walk_at "v"
     refine ⟨_, rfl, by omega, by omega, fun D3 hD3 => ?_⟩
     rw [Int.toNat_natCast]
     refine rng_map (ρ := [some (.ref b), some (.ref kp), some (.ref a)]) (fun j => c.getD j 0 * (xx.2.getD j 0 - xx.1.getD j 0)) (by omega) (fun j' H' hj' K' R' kR' => ?_) (fun H9 K9 e9 => ?_) hD3
     ·walk_at "v"
      refine w_ixL (K' _ _ (K8 _ _ e7)) (atL (by omega)) ?_
      walk_at "v"
      refine w_ixT (K' _ _ G4') (atL (by omega)) ?_
      walk_at "v"
      refine w_ixT (K' _ _ G3') (atL (by omega)) ?_
      walk_at "v"
      have b1 := g7 _ (getD_mem (d := 0) (j := j') (xs := xx.1) (by omega))
      have b2 := g8 _ (getD_mem (d := 0) (j := j') (xs := xx.2) (by omega))
      refine w_rI (mulR (by omega) (by omega)) ?_
      exact kR' _ (Same.refl _)
     walk_at "v"
     refine ⟨D3, _, rfl, e9, ?_⟩
     refine kR _ _ (K9 _ _ hDy) (by rw [List.length_map, List.length_map, List.length_take]; exact small1000 (by omega)) ⟨?_, (K8.trans K9).put hD2⟩
     rw [List.take_add_one, List.getElem?_eq_getElem hj, hxx, List.map_append, List.map_append]
     rfl
    rintro ys H8 ⟨rfl, K8⟩ e8
    rw [show rs.length = tg.length from rl, List.take_length] at e8
    walk_at "v"
    refine ⟨D2, rfl, ⟨_, SqL.of e8⟩, fun D3 hD3 => ?_⟩
    refine cgo_list (xs := (tg.map (chv m c)).map V.int) (fun j ys H' => ∃ zs : List Int, ys = zs.map V.int ∧ zs.length ≤ j ∧ (zs = [] → ∀ x ∈ tg.take j, chv m c x = 0) ∧ Same H8 H') ⟨[], rfl, Nat.le_refl _, (fun _ x hx => by cases hx), Same.new (Same.refl H8) hD3⟩ (fun j ys H' _ ⟨_, _, _, _, k'⟩ => SqL.of (k' _ _ e8)) ?_ ?_
    ·rintro j v ys H9 hv ⟨zs, rfl, hz, hz2, K9⟩ hDy R SK kR kS
     obtain ⟨hj, rfl⟩ := itI hv
     rw [List.length_map] at hj
     have ev : (tg.map (chv m c)).getD j 0 = chv m c tg[j] := by rw [List.getD_eq_getElem?_getD, List.getElem?_map, List.getElem?_eq_getElem hj]; rfl
     walk_at "v"
     refine ⟨rfl, ?_⟩
     walk_at "v"
     refine iteNB (fun h => ?_) (fun h => ?_)
     ·walk_at "v"
      refine kR _ _ hDy (by rw [List.length_map]; exact small1000 (by omega)) ⟨zs ++ [_], by rw [List.map_append]; rfl, by rw [List.length_append]; show zs.length + 1 ≤ _; omega, fun z => ?_, K9.put hD3⟩
      have := congrArg List.length z
      rw [List.length_append] at this
      have : zs.length + 1 = 0 := this
      omega
     ·refine kS _ hDy ⟨zs, rfl, by omega, fun z x hx => ?_, K9⟩
      rw [List.take_add_one, List.getElem?_eq_getElem hj] at hx
      rcases List.mem_append.mp hx with y | y
      ·exact hz2 z x y
      ·rw [List.mem_singleton.mp y, ← ev]
       injection h
    rintro ys H9 ⟨zs, rfl, hz, hz2, K9⟩ e9
    rw [List.length_map, List.length_map, List.take_length] at hz2
    walk_at "v"
    refine ⟨Nat.zero_le _, fun z hz => ?_⟩
    have K10 : Same H9 (upd H9 z (.lst [])) := Same.new (Same.refl _) hz
    have e10 : upd H9 z (.lst []) z = some (.lst (([] : List Int).map V.int)) := upd_same
    generalize upd H9 z (.lst []) = H10 at K10 e10 ⊢
    refine w_eqL (K10 _ _ e9) e10 ?_
    have K7A := (K8.trans K9).trans K10
    have b4A : Bp p H4 H10 := k7.trans (Bp.same K7A)
    have tk4A := Tp.tkb S4.tp b4A
    have SA : SS p l ns H H10 := ⟨S7.tp.same K7A, S7.bt.trans (Bp.same K7A)⟩
    have eA := b4A _ _ (Ne.symm pfl) e4
    have etlA := b4A _ _ (Ne.symm hptl) etl4
    walk_at "v"
    refine iteD (fun h => ?_) (fun h => ?_)
    ·walk_at "v"
     refine ⟨.inl ⟨rfl, _, SqL.of eA⟩, ?_⟩
     walk_at "v"
     refine ⟨kp, _, rfl, K7A _ _ e7, fun nt H11 K11 e11 => ?_⟩
     have eB := K11 _ _ eA
     walk_at "v"
     refine ⟨fl, _, _, rfl, rfl, eB, by rw [List.length_map]; exact small1000 (by omega), ?_⟩
     have tk : TK H11 (upd H11 fl (.lst (ks.map V.ref ++ [.ref nt]))) := TK.lst eB
     have tkZ := tk4A.trans ((TK.same K11).trans tk)
     have SB : SS p l ns H H11 := ⟨SA.tp.same K11, SA.bt.trans (Bp.same K11)⟩
     refine ⟨_, _, _, _, _, ks ++ [nt], cs ++ [c], rfl, by rw [upd_same, List.map_append]; rfl, Kps.app (show Kps _ m [nt] [c] from ⟨⟨tk.t _ _ e11, hc, trivial⟩, trivial⟩) (hks.tk tkZ), by rw [List.length_append]; show cs.length + 1 ≤ _; omega, fun c' hc' => ?_, SB.put nfl pfl lfl, tk4.trans tkZ, by rw [upd_ne nft]; exact K11 _ _ etlA, htl4.tk tkZ⟩
     rcases List.mem_append.mp hc' with old | new
     ·exact hck c' old
     ·rw [List.mem_singleton.mp new]
      exact hz2 h
    ·exact ⟨_, _, _, _, _, ks, cs, rfl, eA, hks.tk tk4A, by omega, hck, SA, tk4.trans tk4A, etlA, htl4.tk tk4A⟩
   rintro σ H4 ⟨u4, u5, u6, u7, u8, ks, cs, rfl, e4, hks, hcl, hck, S4, tk4, etl4, htl4⟩
   walk_at "v"
   refine ⟨fl, _, rfl, e4, fun kp H5 K5 e5 => ?_⟩
   exact k kp ks cs H5 e5 (hks.tk (TK.same K5)) (by omega) hck (S4.tp.same K5) (S4.bt.trans (Bp.same K5))
end
theorem tup_dr {D p l a : Addr} {K : PySem.W.Frag} {vs : List Int} {ns : List Int} {te : TE} {Q : VK} {ρ : St} {H : Hp} (b : Int → Prop) (ha : H a = some (.tup (vs.map V.int))) (hn : vs.length ≤ 1000) (T : Tp H p l ns) (hD : H D = none)
  (step : ∀ (v : V) (H' : Hp), Tp H' p l ns → Bp p H H' → ∀ R : VK, (∀ x H'', b x → Tp H'' p l ns → Bp p H' H'' → R (.int x) H'') → te (some v :: ρ) H' R)
  (q : ∀ (xs : List Int) (H' : Hp), xs.length = vs.length → (∀ x ∈ xs, b x) → Tp H' p l ns → Bp p H H' → H' D = some (.lst (xs.map V.int)) → Q (.ref D) H') : CGo (Itt K a) D (gName 0) tAll te Q (none :: ρ) H := by
 have npD := T.np hD
 have nlD := T.nl hD
 have hap : a ≠ p := fun z => by
  obtain ⟨_, _, e⟩ := T.ex
  rw [z, e] at ha
  cases ha
 refine cgo_tup (xs := vs.map V.int) (fun i ys H' => ∃ xs : List Int, ys = xs.map V.int ∧ xs.length = i ∧ (∀ x ∈ xs, b x) ∧ Tp H' p l ns ∧ Bp p H H') ⟨[], rfl, rfl, (fun x hx => by cases hx), T.put npD nlD, Bp.refl.new hD⟩ (fun i ys H' _ ⟨_, _, _, _, _, P'⟩ => SqT.of (P' _ _ hap ha)) ?_ ?_
 ·rintro i v ys H' hv ⟨xs, rfl, hl, hb, T', P'⟩ hDy R S kR _
  have hi := (List.getElem?_eq_some_iff.mp hv).1
  rw [List.length_map] at hi
  refine w_all ?_
  refine iteT ?_
  refine step v H' T' P' R fun x H'' hx T'' P'' => ?_
  refine kR _ _ (P'' _ _ (Ne.symm npD) hDy) (by rw [List.length_map]; exact small1000 (by omega)) ⟨xs ++ [x], by rw [List.map_append]; rfl, by rw [List.length_append, hl]; rfl, fun y hy => ?_, T''.put npD nlD, (P'.trans P'').put hD⟩
  rcases List.mem_append.mp hy with z | z
  ·exact hb y z
  ·rw [List.mem_singleton.mp z]; exact hx
 rintro ys H' ⟨xs, rfl, hl, hb, T', P'⟩ e
 rw [List.length_map] at hl
 exact q xs H' hl hb T' P' e
theorem w_neR {H : Hp} {Q : VK} {p z : Addr} {ts : List Addr} {ds : List PyData} (hp : H p = some (.lst (ts.map V.ref))) (hd : RdVs H (ts.map V.ref) ds) (hl : PyData.canLayAll0 ds = true) (hd60 : PyData.depthAll ds ≤ 50) (hz : H z = some (.lst [])) (q : Q (.bl (!decide (ts = []))) H) : rNeD (.ref p) (.ref z) H Q := by
 refine ⟨_, _, .lst hp hd, .lst hz .nil, hl, rfl, ?_, ?_⟩
 ·show PyData.depthAll _ + 1 ≤ 60
  omega
 ·show Q (.bl (!PyData.eqvAll ds [])) H
  rw [show PyData.eqvAll ds [] = decide (ts = []) by
   cases hd' : ts with
   | nil => subst hd'; cases hd; rfl
   | cons t ts => subst hd'; cases hd with | cons _ _ => simp [PyData.eqvAll]]
  exact q
theorem stands_rd {H : Hp} : ∀ {ts : List Addr}, (∀ t ∈ ts, ∃ xs : List Int, H t = some (.tup (xs.map V.int))) → ∃ ds, RdVs H (ts.map V.ref) ds ∧ PyData.canLayAll0 ds = true ∧ PyData.depthAll ds ≤ 50
 | [], _ => ⟨[], .nil, rfl, by decide⟩
 | t :: ts, h => by
  obtain ⟨xs, e⟩ := h t List.mem_cons_self
  obtain ⟨ds, h1, h2, h3⟩ := stands_rd (ts := ts) fun q hq => h q (List.mem_cons_of_mem _ hq)
  refine ⟨.tuple (xs.map .int) :: ds, .cons (.tup e (rdInts xs)) h1, ?_, ?_⟩
  ·simp [PyData.canLayAll0, PyData.canLay0, lay_ints xs, h2]
  ·have := depth_ints xs
   simp only [PyData.depthAll, PyData.depth, this]
   omega
theorem iteNX {c A B : Prop} [Decidable c] (hc : c) (h : B) : if (!decide c) = true then A else B := by rw [decide_eq_true hc]; exact iteF h
theorem ref_int {qs : List Addr} {bs : List Int} (h : qs.map V.ref = bs.map V.int) (hq : 0 < qs.length) : False := by
 match qs, bs, hq, h with
 | q :: qs, [], _, h => cases h
 | q :: qs, b :: bs, _, h => injection h with h _; cases h
theorem fms_at {H : Hp} : ∀ {qs : List Addr} {fs : List Fm}, Fms H qs fs → ∀ (i : Nat) (q : Addr), qs[i]? = some q → ∃ f, fs[i]? = some f ∧ FmAt H q f
 | [], [], _, i, q, e => by simp at e
 | q :: qs, f :: fs, h, 0, q', e => by
  simp at e
  subst e
  exact ⟨f, rfl, h.1⟩
 | q :: qs, f :: fs, h, i + 1, q', e => by
  obtain ⟨c, h1, h2⟩ := fms_at h.2 i q' (by simpa using e)
  exact ⟨c, by simpa using h1, h2⟩
 | [], _ :: _, h, _, _, _ => h.elim
 | _ :: _, [], h, _, _, _ => h.elim
theorem fact_len {m : Nat} {ins beg : List Int} {cs : List (List Int)} (h : ∀ c ∈ cs, KOk m c) : ∀ f ∈ facts ins beg m cs, f.ins.length = ins.length ∧ f.sts.length = m := fun f hf => by
 unfold facts base0 at hf
 rcases List.mem_append.mp hf with hf | hf
 ·rcases List.mem_append.mp hf with hf | hf
  ·obtain ⟨i, _, rfl⟩ := List.mem_map.mp hf
   exact ⟨oneH_len _ _, List.length_replicate⟩
  ·obtain ⟨i, _, rfl⟩ := List.mem_map.mp hf
   exact ⟨List.length_replicate, oneH_len _ _⟩
 ·obtain ⟨c, hc, hf⟩ := List.mem_flatMap.mp hf
  simp only [List.mem_cons, List.not_mem_nil, or_false] at hf
  rcases hf with rfl | rfl
  ·exact ⟨List.length_map _, (h c hc).1⟩
  ·exact ⟨List.length_map _, by show (c.map _).length = m; rw [List.length_map]; exact (h c hc).1⟩
theorem gd_neg (c : List Int) (i : Nat) : (c.map fun x => -x).getD i 0 = -(c.getD i 0) := by
 rw [List.getD_eq_getElem?_getD, List.getD_eq_getElem?_getD, List.getElem?_map]
 cases c[i]? <;> rfl
theorem fact_ok {m : Nat} {ins beg am st : List Int} {cs : List (List Int)} (h : ∀ c ∈ cs, KOk m c) (hal : am.length = ins.length) (hsl : st.length = m) (bl : beg.length = m) (ha : ∀ x ∈ am, 0 ≤ x) (hs : ∀ x ∈ st, 0 ≤ x)
  (hc : ∀ c ∈ cs, sd c st m = sd c beg m + sd (ins.map (kn c)) am ins.length) : ∀ f ∈ facts ins beg m cs, 0 ≤ f.plus + sd f.ins am ins.length + sd f.sts st m := fun f hf => by
 unfold facts base0 at hf
 rcases List.mem_append.mp hf with hf | hf
 ·rcases List.mem_append.mp hf with hf | hf
  ·obtain ⟨i, hi, rfl⟩ := List.mem_map.mp hf
   have hi := List.mem_range.mp hi
   show 0 ≤ 0 + sd (oneH ins.length (i : Int)) am ins.length + sd (List.replicate m 0) st m
   rw [sd_one _ _ _ _ (Nat.le_refl _), if_pos hi, sd_zero]
   have := ha _ (getD_mem (d := 0) (j := i) (xs := am) (by omega))
   omega
  ·obtain ⟨i, hi, rfl⟩ := List.mem_map.mp hf
   have hi := List.mem_range.mp hi
   show 0 ≤ 0 + sd (List.replicate ins.length 0) am ins.length + sd (oneH m (i : Int)) st m
   rw [sd_one _ _ _ _ (Nat.le_refl _), if_pos hi, sd_zero]
   have := hs _ (getD_mem (d := 0) (j := i) (xs := st) (by omega))
   omega
 ·obtain ⟨c, hcc, hf⟩ := List.mem_flatMap.mp hf
  have hcl := (h c hcc).1
  have e1 := hc c hcc
  have e2 : dot c beg = sd c beg m := by rw [dot_sd c beg (by omega), hcl]
  have e3 : sd (ins.map fun i => -(kn c i)) am ins.length = -(sd (ins.map (kn c)) am ins.length) := sd_neg (fun i => by
   rw [List.getD_eq_getElem?_getD, List.getD_eq_getElem?_getD, List.getElem?_map, List.getElem?_map]
   cases ins[i]? <;> rfl) _
  simp only [List.mem_cons, List.not_mem_nil, or_false] at hf
  rcases hf with rfl | rfl
  ·show 0 ≤ -(dot c beg) + sd (ins.map fun i => -(kn c i)) am ins.length + sd c st m
   omega
  ·show 0 ≤ dot c beg + sd (ins.map fun i => kn c i) am ins.length + sd (c.map fun x => -x) st m
   rw [sd_neg (c := c) (gd_neg c)]
   have : sd (ins.map fun i => kn c i) am ins.length = sd (ins.map (kn c)) am ins.length := rfl
   omega
abbrev sLaw : Stmt := top 43
abbrev nLaw : List Str := ["_law_script", "_law_tape_here", "_law_k", "_law_pot_here", "_law_facts", "_law_amounts", "_law_drops", "_law_j", "_law_stand", "_law_led"]
theorem nmLaw : Nm nLaw (defScope sLaw) := ⟨by decide +kernel, by decide +kernel⟩
theorem scLaw : FnScope nLaw ["_law_script"] (defScope sLaw) := ⟨rfl, rfl, rfl, by decide +kernel, rfl, by decide +kernel, by decide +kernel⟩
def qLawa (s : Stmt) : Scope := match s with
 | .For _ _ [_, _, _, (.Assign _ (.Call _ [(.ListComp _ _ sc _)] _ _) _), _, _, _, _] _ _ => sc
 | _ => { kind := .function, names := [], isGenerator := false, isCoroutine := false }
abbrev cLawa : Scope := qLawa ((defBody sLaw).getD 1 (.Pass ⟨0, 0, 0, 0⟩))
theorem bsLawa : BScope (defScope sLaw) cLawa ["_law_one"] ["_law_tape_here"] ["_law_draw"] := { okind := by decide +kernel, kind := by decide +kernel, nocell := by decide +kernel, names := by decide +kernel, fr := by decide +kernel, ff := by decide +kernel, nd := by decide +kernel, vis := by decide +kernel, loc := by decide +kernel, gl := by decide +kernel }
def qLawb (s : Stmt) : Scope := match s with
 | .For _ _ [_, _, _, _, _, _, _, (.For _ _ [(.If (.Compare (.ListComp _ _ sc _) _ _ _) _ _ _), _, _] _ _)] _ _ => sc
 | _ => { kind := .function, names := [], isGenerator := false, isCoroutine := false }
abbrev cLawb : Scope := qLawb ((defBody sLaw).getD 1 (.Pass ⟨0, 0, 0, 0⟩))
theorem bsLawb : BScope (defScope sLaw) cLawb ["_law_fact"] ["_law_amounts", "_law_stand"] ["_law_at"] := { okind := by decide +kernel, kind := by decide +kernel, nocell := by decide +kernel, names := by decide +kernel, fr := by decide +kernel, ff := by decide +kernel, nd := by decide +kernel, vis := by decide +kernel, loc := by decide +kernel, gl := by decide +kernel }
def spLaw (K : PySem.W.Frag) : Sp := fun vs H Q _ => ∃ (a : Addr) (ns : List Int), vs = [.ref a] ∧ SqF K H a (ns.map V.int) ∧ ns.length ≤ 63 ∧ ∀ H', Q (.bl true) H'
section
variable {P : Program} {w : World} {K : PySem.W.Frag} {mg : Str → Option Value} {base : Heap}
set_option maxHeartbeats 4000000 in
theorem ok_Law {f : Addr} {fd : FuncData} (B : Blt3 mg) (fT : Has P w K mg base 1 "_law_tape" ["_law_script"] (spTape K)) (D : Has P w K mg base 1 "_law_draw" ["_law_tape_here", "_law_many"] spDraw) (fP : Has P w K mg base 3 "_law_pot" ["_law_tape_here", "_law_most", "_law_rules"] spPot) (fF : Has P w K mg base 4 "_law_family" ["_law_tape_here"] spFy) (fX : Has P w K mg base 3 "facts_of" ["pot", "kepts"] spFof) (fK : Has P w K mg base 6 "_law_kepts" ["_law_tape_here", "_law_pot_here"] spKp) (fA : Has P w K mg base 1 "_law_at" ["_law_form", "_law_amounts", "_law_stand"] spAt) (fS : Has P w K mg base 1 "_law_steps" ["_law_pot_here", "_law_stand"] spSt) (F : Fun K "law" "law" sLaw f fd) : FnOk P w K mg base CX0 7 f fd ["_law_script"] (spLaw K) := by
 refine F.ok scLaw (fun vs H Q E h => ?_) (fun cdv A outer s H vs Q E hr h => ?_)
 ·obtain ⟨a, ns, rfl, _⟩ := h
  rfl
 ·obtain ⟨a, ns, rfl, hS, hn, k⟩ := h
  refine' ⟨_, ?hb, ?rd⟩
  case' hb => skip
  case' hb => refine' pss_cons ?g1 ?g2
  case' g2 => refine' pss_cons ?g3 ?g4
  case' g4 => refine' pss_one ?g5
  case g1 => exact ps_setD nmLaw 1 (pe_f fT hr (by decide) (pa_1 (pvd nmLaw 0)))
  case' g3 => refine' ps_for PassesOwn.never rfl ?g6 (pgd nmLaw 2) ?g7
  case g6 => exact pi_r1 B.range (pa_1 pe_int)
  case' g7 => refine' pss_cons ?g8 ?g9
  case' g9 => refine' pss_cons ?g10 ?g11
  case' g11 => refine' pss_cons ?g12 ?g13
  case' g13 => refine' pss_cons ?g14 ?g15
  case' g15 => refine' pss_cons ?g16 ?g17
  case' g17 => refine' pss_cons ?g18 ?g19
  case' g19 => refine' pss_cons ?g20 ?g21
  case' g21 => refine' pss_one ?g22
  case g8 => exact ps_setD nmLaw 3 (pe_f fP hr (by decide) (pa_c (pvd nmLaw 1) (pa_2 pe_int pe_int)))
  case' g10 => refine' ps_if ?g23 ?g24 pss_nil
  case g23 => exact pt_cmpR op_eq (pe_f D hr (by decide) (pa_2 (pvd nmLaw 1) pe_int)) pe_int (nomark _)
  case' g24 => refine' pss_one ?g26
  case g26 => exact ps_setD nmLaw 3 (pe_ix ix_d (pe_f fF hr (by decide) (pa_1 (pvd nmLaw 1))) pe_int (fun _ _ => rfl))
  case g12 => exact ps_setD nmLaw 4 (pe_f fX hr (by decide) (pa_2 (pvd nmLaw 3) (pe_f fK hr (by decide) (pa_2 (pvd nmLaw 1) (pvd nmLaw 3)))))
  case' g14 => refine' ps_setD nmLaw 5 ?g27
  case' g27 => refine' pe_cT call_tupL B.tuple PyProof.Rows.boot_tuple ?g28
  case' g28 => refine' pa_1 ?g29
  case' g29 => refine' pe_comp (ix := [1]) bsLawa.toCScope rfl rfl ?g30 ?g31 ?g32 ?g33
  case g30 => exact pi_tup (pe_ix ix_d (pvd nmLaw 3) pe_int (fun _ _ => rfl))
  case g31 => exact fun _ _ _ _ _ _ => pgb bsLawa 0
  case g32 => exact fun _ _ _ _ _ _ => pts_nil
  case g33 =>
   intro _ _ _ _ _ _
   refine' pe_ix ix_d ?p1 (pe_f D hr (by decide) (pa_2 (pvb bsLawa 1) pe_int) (bsLawa.g 0)) (fun _ _ => rfl)
   case' p1 => refine' pe_lst ?p2
   case' p2 => refine' pa_c pe_int ?p3
   case' p3 => refine' pa_c pe_int ?p4
   case' p4 => refine' pa_c pe_int ?p5
   case p5 => exact pa_2 pe_int (pe_op op_pow pe_int pe_int)
  case g16 => exact ps_setD nmLaw 6 (pe_cT call_list_of B.list PyProof.Rows.boot_list (pa_1 (pe_ix ix_d (pvd nmLaw 3) pe_int (fun _ _ => rfl))))
  case' g18 => refine' ps_for PassesOwn.never rfl ?g34 (pgd nmLaw 7) ?g35
  case g34 => exact pi_r1 B.range (pa_1 (pe_cB call_len_seq B.len PySem.boot_len (pa_1 (pvd nmLaw 5))))
  case' g35 => refine' pss_one ?g36
  case g36 => exact ps_asg (pe_op op_add (pe_ix ix_d (pvd nmLaw 6) (pe_ix ix_d (pe_ix ix_d (pvd nmLaw 3) pe_int (fun _ _ => rfl)) (pvd nmLaw 7) (fun _ _ => rfl)) (fun _ _ => rfl)) (pe_ix ix_d (pvd nmLaw 5) (pvd nmLaw 7) (fun _ _ => rfl))) (pg_sub (pvd nmLaw 6) (pe_ix ix_d (pe_ix ix_d (pvd nmLaw 3) pe_int (fun _ _ => rfl)) (pvd nmLaw 7) (fun _ _ => rfl)) set_d)
  case g20 => exact ps_setD nmLaw 8 (pe_cT call_tupL B.tuple PyProof.Rows.boot_tuple (pa_1 (pvd nmLaw 6)))
  case' g22 => refine' ps_for PassesOwn.never rfl ?g37 (pgd nmLaw 7) ?g38
  case g37 => exact pi_r1 B.range (pa_1 pe_int)
  case' g38 => refine' pss_cons ?g39 ?g40
  case' g40 => refine' pss_cons ?g41 ?g42
  case' g42 => refine' pss_one ?g43
  case' g39 => refine' ps_if ?g44 ?g45 pss_nil
  case' g44 => refine' pt_cmpR (op_neD hr) ?g47 (pe_lst pa_nil) (nomark _)
  case' g47 => refine' pe_comp (ix := [5, 8]) bsLawb.toCScope rfl rfl ?g48 ?g49 ?g50 ?g51
  case g48 => exact pi_list (pvd nmLaw 4)
  case g49 => exact fun _ _ _ _ _ _ => pgb bsLawb 0
  case g50 => exact fun _ _ _ _ _ _ => pts_one (pt_cmpR op_lt (pe_f fA hr (by decide) (pa_c (pvb bsLawb 0) (pa_2 (pvb bsLawb 1) (pvb bsLawb 2))) (bsLawb.g 0)) pe_int (nomark _))
  case g51 => exact fun _ _ _ _ _ _ => pvb bsLawb 0
  case' g45 => refine' pss_one ?g52
  case g52 => exact ps_ret pe_bl
  case g41 => exact ps_setD nmLaw 9 (pe_f fS hr (by decide) (pa_2 (pvd nmLaw 3) (pvd nmLaw 8)))
  case' g43 => refine' ps_if ?g53 ?g54 pss_nil
  case g53 => exact pt_cmpR (op_neD hr) (pvd nmLaw 9) (pe_lst pa_nil) (nomark _)
  case' g54 => refine' pss_one ?g56
  case g56 => exact ps_setD nmLaw 8 (pe_ix ix_d (pvd nmLaw 9) (pe_f D hr (by decide) (pa_2 (pvd nmLaw 1) (pe_cB call_len_seq B.len PySem.boot_len (pa_1 (pvd nmLaw 9))))) (fun _ _ => rfl))
  case g5 => exact ps_ret pe_bl
  case rd =>
   walk_at "v"
   refine ⟨a, ns, rfl, hS.sq, fun p l ms H1 _ T1 _ => ?_⟩
   walk_at "v"
   refine ⟨4, rfl, by decide, by decide, ?_⟩
   refine for_range (n := 4) (fun i σ H' => ∃ (u2 u3 u4 u5 u6 u7 u8 u9 : Option V), σ = [some (.ref a), some (.ref p), u2, u3, u4, u5, u6, u7, u8, u9] ∧ Tp H' p l ms) ⟨none, none, none, none, none, none, none, none, rfl, T1⟩ ?_ ?_
   ·rintro i σ H2 hi ⟨u2, u3, u4, u5, u6, u7, u8, u9, rfl, T2⟩
    rw [Int.zero_add]
    walk_at "v"
    refine ⟨p, l, ms, 5, 4, rfl, T2, by decide, by decide, by decide, fun q0 nm0 rs0 ins0 beg0 ans0 m0 H3 P3 T3 _ => ?_⟩
    refine w_gname ?_
    with_reducible refine seq_post (fun σ' H' => ∃ (q : Addr) (nm : List Str) (rs : List Addr) (ins beg : List Int) (ans : Int) (m : Nat), σ' = [some (.ref a), some (.ref p), some (.int (i : Int)), some (.ref q), u4, u5, u6, u7, u8, u9] ∧ PotT H' q nm rs ins beg ans m ∧ Tp H' p l ms) ?_ fun rest => ?_
    ·rintro σ' H4 ⟨q, nm, rs, ins, beg, ans, m, rfl, P4, T4⟩
     obtain ⟨tg, X4⟩ := px_of P4
     have m8 := P4.m8
     have i3 := P4.i3
     have bl := P4.bl
     walk_at "v"
     refine ⟨p, l, ms, q, nm, rs, ins, beg, ans, m, tg, rfl, T4, X4, fun kp ks cs H5 ekp hks c3 hck T5 b5 => ?_⟩
     have tk5 := Tp.tkb T4 b5
     have X5 := X4.tk tk5
     walk_at "v"
     refine ⟨q, kp, ins, beg, m, ks, cs, rfl, X5.pt.pt, ekp, hks, by omega, fun fl qs H6 K6 nfl efl hqs => ?_⟩
     have X6 := X5.same K6
     have T6 := T5.same K6
     have hok := hks.ok
     have npf : p ≠ fl := T5.np nfl
     have hlq : qs.length = ins.length + m + 2 * cs.length := by rw [hqs.len, facts_len]
     obtain ⟨ps, pr, pin, pb, h1, h2, h3, h4, h5⟩ := X6.pt.ex
     clear P4 T4 X4 X5 T5 b5 tk5 ekp hks
     walk_at "v"
     refine w_ixT h1 rfl ?_
     refine ⟨pin, rfl, ⟨_, SqT.of h4⟩, fun D1 hD1 => ?_⟩
     refine tup_dr (fun x => 0 ≤ x ∧ x ≤ 1000000000000) h4 (by omega) T6 hD1 (fun v H' T' B' R kR => ?_) (fun ams H7 hal hab T7 b7 e7 => ?_)
     ·walk_at "v"
      refine w_rI ⟨by decide, by decide, by decide⟩ ?_
      walk_at "v"
      have ep : ((10 : Int) ^ (12 : Int).toNat) = 1000000000000 := by decide +kernel
      rw [ep]
      refine ⟨by show 5 ≤ sizeLine; decide, fun z hz => ?_⟩
      have B1 : Bp p H' (upd H' z (.lst [.int 0, .int 1, .int 2, .int 5, .int 1000000000000])) := Bp.refl.new hz
      have T1' := T'.new (o := .lst [.int 0, .int 1, .int 2, .int 5, .int 1000000000000]) hz
      have ez : upd H' z (.lst [.int 0, .int 1, .int 2, .int 5, .int 1000000000000]) z = some (.lst (([0, 1, 2, 5, 1000000000000] : List Int).map V.int)) := upd_same
      have nz := T'.np hz
      generalize upd H' z (.lst [.int 0, .int 1, .int 2, .int 5, .int 1000000000000]) = H'' at B1 T1' ez ⊢
      walk_at "v"
      refine ⟨p, l, ms, 5, rfl, T1', by decide, by decide, fun r c e r0 r1 => ?_⟩
      obtain ⟨x, hx, ex⟩ := pickZ (xs := [0, 1, 2, 5, 1000000000000]) r0 r1
      refine w_ixL (by rw [upd_ne (Ne.symm nz)]; exact ez) ex ?_
      refine kR _ _ ?_ T1'.draw (B1.at)
      simp only [List.mem_cons, List.not_mem_nil, or_false] at hx
      omega
     have tk7 := Tp.tkb T6 b7
     replace X6 := X6.tk tk7
     replace efl := b7 _ _ (Ne.symm npf) efl
     replace hqs := hqs.tk tk7
     replace h1 := tk7.t _ _ h1
     replace h4 := tk7.t _ _ h4
     replace h5 := tk7.t _ _ h5
     clear T6 b7 tk7 nfl
     walk_at "v"
     refine ⟨D1, _, rfl, e7, fun am H8 K8 eam => ?_⟩
     walk_at "v"
     refine w_ixT (K8 _ _ h1) rfl ?_
     refine ⟨pb, _, rfl, .inr (SqT.of (K8 _ _ h5)), fun dr hdr => ?_⟩
     have K9 : Same H8 (upd H8 dr (.lst (beg.map V.int))) := Same.new (Same.refl _) hdr
     have e9 : upd H8 dr (.lst (beg.map V.int)) dr = some (.lst (beg.map V.int)) := upd_same
     have T9 := (T7.same K8).same K9
     have ndr : H7 dr = none := Same.none K8 hdr
     generalize upd H8 dr (.lst (beg.map V.int)) = H9 at K9 e9 T9 ⊢
     have KA := K8.trans K9
     replace eam := K9 _ _ eam
     replace X6 := X6.same KA
     replace efl := KA _ _ efl
     replace hqs := hqs.tk (TK.same KA)
     obtain ⟨h1, h4⟩ := lf2 KA h1 h4
     have pdr : p ≠ dr := T7.np ndr
     have ldr : l ≠ dr := T7.nl ndr
     have nfd : fl ≠ dr := fun z => by
      rw [z] at efl
      rw [e9] at efl
      injection efl with efl
      injection efl with efl
      exact ref_int efl.symm (by rw [hlq]; have := X6.pt.m0; omega)
     clear KA K8 K9 T7 e7 h5
     walk_at "v"
     refine ⟨am, _, rfl, .inr (SqT.of eam), ?_⟩
     rw [List.length_map, hal]
     walk_at "v"
     refine ⟨_, rfl, by omega, by omega, ?_⟩
     rw [Int.toNat_natCast]
     refine for_range (n := ins.length) (fun j σ H' => ∃ (u7 : Option V) (ds : List Int), σ = [some (.ref a), some (.ref p), some (.int (i : Int)), some (.ref q), some (.ref fl), some (.ref am), some (.ref dr), u7, u8, u9] ∧ H' dr = some (.lst (ds.map V.int)) ∧ ds.length = m ∧ (∀ x ∈ ds, 0 ≤ x ∧ x ≤ 99 + (j : Int) * 1000000000000) ∧ (∀ c : List Int, sd c ds m = sd c beg m + sd (ins.map (kn c)) ams j) ∧ ∀ q o, q ≠ dr → H9 q = some o → H' q = some o) ⟨_, beg, rfl, e9, bl, (fun x hx => by have := X6.pt.hb x hx; omega), (fun c => by rw [show sd (ins.map (kn c)) ams 0 = 0 from rfl, Int.add_zero]), fun q o _ e => e⟩ ?_ ?_
     ·rintro j σ H10 hj ⟨u7', ds, rfl, e10, hdl, hdb, hds, k10⟩
      rw [Int.zero_add]
      have h1' := k10 _ _ (ne_of h1 e9 (by intro z; cases z)) h1
      have h4' := k10 _ _ (ne_of h4 e9 (by intro z; cases z)) h4
      have eam' := k10 _ _ (ne_of eam e9 (by intro z; cases z)) eam
      have hij := X6.pt.hi _ (getD_mem (d := 0) (j := j) (xs := ins) hj)
      obtain ⟨ij, hij'⟩ := ofI hij.1
      rw [hij'] at hij
      have hijm : ij < m := by omega
      have hxa := hab _ (getD_mem (d := 0) (j := j) (xs := ams) (by omega))
      have hxd := hdb _ (getD_mem (d := 0) (j := ij) (xs := ds) (by omega))
      walk_at "v"
      refine w_ixT h1' rfl ?_
      walk_at "v"
      refine w_ixT h4' (atL hj) ?_
      rw [hij']
      walk_at "v"
      refine w_ixL e10 (atL (by omega)) ?_
      walk_at "v"
      refine w_ixT eam' (atL (by omega)) ?_
      walk_at "v"
      refine w_ixT h1' rfl ?_
      walk_at "v"
      refine w_ixT h4' (atL hj) ?_
      rw [hij']
      refine w_set (j := ij) e10 (ixK' (by rw [List.length_map]; omega)) ?_
      rw [← List.map_set]
      refine ⟨_, ds.set ij (ds.getD ij 0 + ams.getD j 0), rfl, upd_same, by rw [List.length_set]; exact hdl, fun x hx => ?_, fun c => ?_, fun q o hq e => by rw [upd_ne hq]; exact k10 q o hq e⟩
      ·rcases List.mem_or_eq_of_mem_set hx with y | y
       ·have := hdb x y
        omega
       ·omega
      ·rw [sd_set (by omega) m (by omega), if_pos hijm, hds c]
       show _ = sd c beg m + (sd (ins.map (kn c)) ams j + (ins.map (kn c)).getD j 0 * ams.getD j 0)
       rw [show (ins.map (kn c)).getD j 0 = c.getD ij 0 by
        rw [List.getD_eq_getElem?_getD, List.getElem?_map, List.getElem?_eq_getElem hj]
        show kn c ins[j] = _
        have e : ins[j] = (ij : Int) := by
         rw [← hij', List.getD_eq_getElem?_getD, List.getElem?_eq_getElem hj]
         rfl
        rw [e]
        rfl]
       omega
     rintro σ H10 ⟨u7', ds, rfl, e10, hdl, hdb, hds, k10⟩
     have T10 : Tp H10 p l ms := by
      obtain ⟨x, y, ep⟩ := T9.ex
      exact ⟨⟨x, y, k10 _ _ pdr ep⟩, k10 _ _ ldr T9.hl, T9.ne⟩
     have tk10 : TK H9 H10 := ⟨fun q xs e => k10 _ _ (ne_of e e9 (by intro z; cases z)) e, fun q o u e => k10 _ _ (ne_of e e9 (by intro z; cases z)) e⟩
     walk_at "v"
     refine ⟨dr, _, rfl, e10, fun s0 H11 K11 e11 => ?_⟩
     have tk11 := tk10.trans (TK.same K11)
     replace X6 := X6.tk tk11
     replace efl := K11 _ _ (k10 _ _ nfd efl)
     replace hqs := hqs.tk tk11
     replace eam := tk11.t _ _ eam
     have T11 := T10.same K11
     walk_at "v"
     refine ⟨10, rfl, by decide, by decide, ?_⟩
     refine for_range (n := 10) (fun j σ H' => ∃ (u7 u9 : Option V) (sp : Addr) (st : List Int), σ = [some (.ref a), some (.ref p), some (.int (i : Int)), some (.ref q), some (.ref fl), some (.ref am), some (.ref dr), u7, some (.ref sp), u9] ∧ H' sp = some (.tup (st.map V.int)) ∧ st.length = m ∧ (∀ x ∈ st, 0 ≤ x ∧ x ≤ 10000000000000 + (j : Int) * 30) ∧ (∀ c ∈ cs, sd c st m = sd c beg m + sd (ins.map (kn c)) ams ins.length) ∧ Tp H' p l ms ∧ Bp p H11 H') ⟨_, _, s0, ds, rfl, e11, hdl, (fun x hx => by have := hdb x hx; omega), (fun c _ => hds c), T11, Bp.refl⟩ ?_ ?_
     ·rintro j σ H12 hj ⟨u7'', u9', sp, st, rfl, esp, hsl, hsb, hsc, T12, b12⟩
      rw [Int.zero_add]
      have tk12 := Tp.tkb T11 b12
      have efl12 := b12 _ _ (Ne.symm npf) efl
      have hq12 := hqs.tk tk12
      have eam12 := tk12.t _ _ eam
      walk_at "v"
      refine ⟨fl, rfl, ⟨_, SqL.of efl12⟩, fun D2 hD2 => ?_⟩
      refine cgo_list (xs := qs.map V.ref) (fun j ys H' => ys = [] ∧ Same H12 H') ⟨rfl, Same.new (Same.refl H12) hD2⟩ (fun j ys H' _ ⟨_, k'⟩ => SqL.of (k' _ _ efl12)) ?_ ?_
      ·rintro j' v ys H13 hv ⟨rfl, K13⟩ hDy R SK kR kS
       obtain ⟨fq, eq, rfl⟩ := itR hv
       have hj' : j' < (facts ins beg m cs).length := by
        rw [← hqs.len]
        exact (List.getElem?_eq_some_iff.mp eq).1
       obtain ⟨fm, efm, hfm⟩ := fms_at hq12 j' fq eq
       have hmem := List.mem_of_getElem? efm
       have hval := fact_ok (am := ams) (st := st) hok hal hsl bl (fun x hx => (hab x hx).1) (fun x hx => (hsb x hx).1) hsc fm hmem
       obtain ⟨fli, fls⟩ := fact_len hok fm hmem
       walk_at "v"
       refine ⟨fq, am, sp, fm, ams, st, ins.length, m, rfl, hfm.same K13, fli, fls, K13 _ _ eam12, hal, K13 _ _ esp, hsl, by omega, by omega, (fun x hx => by have := hab x hx; omega), (fun x hx => by have := hsb x hx; omega), ?_⟩
       walk_at "v"
       refine iteFk (by omega) ?_
       exact kS _ hDy ⟨rfl, K13⟩
      rintro ys H13 ⟨rfl, K13⟩ e13
      walk_at "v"
      refine ⟨Nat.zero_le _, fun z hz => ?_⟩
      obtain ⟨H14, q, K14, e14⟩ := nob (.lst []) hz; rw [q]; clear q
      refine w_neR (ts := []) (ds := []) (K14 _ _ e13) .nil rfl (by decide) e14 ?_
      have KB := K13.trans K14
      walk_at "v"
      refine iteNX rfl ?_
      walk_at "v"
      have X14 := (X6.tk tk12).same KB
      have T14 := T12.same KB
      refine ⟨q, sp, nm, rs, ins, beg, ans, m, tg, st, rfl, X14, KB _ _ esp, hsl, fun ll ts H15 K15 nll ell htl hts => ?_⟩
      have T15 := T14.same K15
      have b15 : Bp p H11 H15 := (b12.trans (Bp.same KB)).trans (Bp.same K15)
      have esp15 := K15 _ _ (KB _ _ esp)
      walk_at "v"
      refine ⟨Nat.zero_le _, fun z hz => ?_⟩
      obtain ⟨H16, q, K16, e16⟩ := nob (.lst []) hz; rw [q]; clear q
      obtain ⟨dts, hd1, hd2, hd3⟩ := stands_rd (H := H16) (ts := ts) fun t ht => let ⟨x, _, ex, _⟩ := hts t ht; ⟨_, K16 _ _ ex⟩
      refine w_neR (K16 _ _ ell) hd1 hd2 hd3 e16 ?_
      have T16 := T15.same K16
      have b16 := b15.trans (Bp.same K16)
      walk_at "v"
      refine iteNB (fun hne => ?_) (fun hne => ?_)
      ·have tl0 : 0 < ts.length := List.length_pos_iff.mpr hne
       walk_at "v"
       refine ⟨ll, _, rfl, .inl (SqL.of (K16 _ _ ell)), ?_⟩
       rw [List.length_map]
       walk_at "v"
       refine ⟨p, l, ms, ts.length, rfl, T16, by omega, by omega, fun r c e r0 r1 => ?_⟩
       obtain ⟨r, rfl⟩ := ofI r0
       have hr' : r < ts.length := by omega
       have nlp : ll ≠ p := fun z => by
        have := T14.np nll
        exact this z.symm
       refine w_ixL (v := .ref ts[r]) (by rw [upd_ne nlp]; exact K16 _ _ ell) (atI_nat (by simp [hr'])) ?_
       obtain ⟨x, hx, ex, hle⟩ := hts ts[r] (List.getElem_mem hr')
       have tkZ : TK H16 (upd H16 p (.lst [.ref l, .int c, .int e])) := T16.tk
       obtain ⟨xi, hxi, exx⟩ := List.getElem_of_mem hx
       obtain ⟨_, _, _, _, _, _, _, g5, g6, g7, g8⟩ := X6.rl.get hxi
       rw [exx] at g5 g6 g7 g8
       walk_at "v"
       refine ⟨_, _, ts[r], nxt m st x, rfl, tkZ.t _ _ (K16 _ _ ex), by unfold nxt; simp, fun y hy => ?_, fun c' hc' => ?_, T16.draw, b16.at⟩
       ·unfold nxt at hy
        obtain ⟨y', hy', rfl⟩ := List.mem_map.mp hy
        have hym := List.mem_range.mp hy'
        have q1 := hle y' hym
        have q2 := hsb _ (getD_mem (d := 0) (j := y') (xs := st) (by omega))
        have q3 := g7 _ (getD_mem (d := 0) (j := y') (xs := x.1) (by omega))
        have q4 := g8 _ (getD_mem (d := 0) (j := y') (xs := x.2) (by omega))
        omega
       ·rw [sd_nxt m (Nat.le_refl _), hck c' hc' x hx, Int.add_zero]
        exact hsc c' hc'
      ·exact ⟨_, _, sp, st, rfl, K16 _ _ esp15, hsl, (fun x hx => by have := hsb x hx; omega), hsc, T16, b16⟩
     rintro σ H12 ⟨u7'', u9', sp, st, rfl, esp, hsl, hsb, hsc, T12, b12⟩
     exact ⟨_, _, _, _, _, _, _, _, rfl, T12⟩
    ·walk_at "v"
     refine ⟨p, l, ms, 2, rfl, T3, by decide, by decide, fun r c e r0 r1 => ?_⟩
     have T4 := T3.draw (c := c) (e := e)
     have P4 := P3.tk (T3.tk (o := .lst [.ref l, .int c, .int e]))
     generalize upd H3 p (.lst [.ref l, .int c, .int e]) = H4 at T4 P4 ⊢
     refine ⟨rfl, ?_⟩
     walk_at "v"
     refine iteD (fun _ => ?_) (fun _ => ?_)
     ·walk_at "v"
      refine ⟨p, l, ms, rfl, T4, fun r q ak nm rs ins beg ans m H5 er P5 T5 b5 => ?_⟩
      walk_at "v"
      refine w_ixT er rfl ?_
      refine w_gname ?_
      exact rest _ _ ⟨q, nm, rs, ins, beg, ans, m, rfl, P5, T5⟩
     ·exact rest _ _ ⟨q0, nm0, rs0, ins0, beg0, ans0, m0, rfl, P4, T4⟩
   ·rintro σ H2 ⟨u2, u3, u4, u5, u6, u7, u8, u9, rfl, T2⟩
    walk_at "v"
    exact k _
end
theorem all_mk {l : PySem.W.OpenLaw} {w : World} {K : PySem.W.Frag} {h : Heap} {mg : Str → Option Value} {fa f1 f2 f3 f4 f5 f6 f7 f8 f9 f10 f11 f12 f13 f14 f15 f16 f17 f18 f19 f20 f21 f22 f23 f24 f25 f26 f27 f28 f29 : Addr} (X : K.In h) (G : h.Ns mainGlobals mg) (hfa : mg "law" = some (.ref fa))
  {od1 an1 od2 an2 od3 an3 od4 an4 od5 an5 od6 an6 od7 an7 od8 an8 od9 an9 od10 an10 od11 an11 od12 an12 od13 an13 od14 an14 od15 an15 od16 an16 od17 an17 od18 an18 od19 an19 od20 an20 od21 an21 od22 an22 od23 an23 od24 an24 od25 an25 od26 an26 od27 an27 od28 an28 od29 an29 : Option Addr} {sl1 sl2 sl3 sl4 sl5 sl6 sl7 sl8 sl9 sl10 sl11 sl12 sl13 sl14 sl15 sl16 sl17 sl18 sl19 sl20 sl21 sl22 sl23 sl24 sl25 sl26 sl27 sl28 sl29 : Array (Option Value)} {oc1 kV1 dc1 pm1 cd1 ct1 oc2 kV2 dc2 pm2 cd2 ct2 oc3 kV3 dc3 pm3 cd3 ct3 oc4 kV4 dc4 pm4 cd4 ct4 oc5 kV5 dc5 pm5 cd5 ct5 oc6 kV6 dc6 pm6 cd6 ct6 oc7 kV7 dc7 pm7 cd7 ct7 oc8 kV8 dc8 pm8 cd8 ct8 oc9 kV9 dc9 pm9 cd9 ct9 oc10 kV10 dc10 pm10 cd10 ct10 oc11 kV11 dc11 pm11 cd11 ct11 oc12 kV12 dc12 pm12 cd12 ct12 oc13 kV13 dc13 pm13 cd13 ct13 oc14 kV14 dc14 pm14 cd14 ct14 oc15 kV15 dc15 pm15 cd15 ct15 oc16 kV16 dc16 pm16 cd16 ct16 oc17 kV17 dc17 pm17 cd17 ct17 oc18 kV18 dc18 pm18 cd18 ct18 oc19 kV19 dc19 pm19 cd19 ct19 oc20 kV20 dc20 pm20 cd20 ct20 oc21 kV21 dc21 pm21 cd21 ct21 oc22 kV22 dc22 pm22 cd22 ct22 oc23 kV23 dc23 pm23 cd23 ct23 oc24 kV24 dc24 pm24 cd24 ct24 oc25 kV25 dc25 pm25 cd25 ct25 oc26 kV26 dc26 pm26 cd26 ct26 oc27 kV27 dc27 pm27 cd27 ct27 oc28 kV28 dc28 pm28 cd28 ct28 oc29 kV29 dc29 pm29 cd29 ct29 : Value} {t1 t2 t3 t4 t5 t6 t7 t8 t9 : Tok}
  (a1 : PySem.W.nsIn K mainGlobals "common_divisor" = some (some (.ref f1))) (l1 : K.lookup f1 = some ⟨oc1, od1, .func (PySem.W.fnOf "common_divisor" "common_divisor" (defArgs sCd) (defBody sCd) (defScope sCd) .none kV1 dc1 pm1 an1 cd1 ct1), sl1⟩) (c1 : PySem.W.codeIn K cd1 "common_divisor" = true) (k1 : PySem.W.keepIn K (.ref f1) = true)
  (a2 : PySem.W.nsIn K mainGlobals "without_divisor" = some (some (.ref f2))) (l2 : K.lookup f2 = some ⟨oc2, od2, .func (PySem.W.fnOf "without_divisor" "without_divisor" (defArgs sWd) (defBody sWd) (defScope sWd) .none kV2 dc2 pm2 an2 cd2 ct2), sl2⟩) (c2 : PySem.W.codeIn K cd2 "without_divisor" = true) (k2 : PySem.W.keepIn K (.ref f2) = true)
  (a3 : PySem.W.nsIn K mainGlobals "reduced" = some (some (.ref f3))) (l3 : K.lookup f3 = some ⟨oc3, od3, .func (PySem.W.fnOf "reduced" "reduced" (defArgs sRd) (defBody sRd) (defScope sRd) .none kV3 dc3 pm3 an3 cd3 ct3), sl3⟩) (c3 : PySem.W.codeIn K cd3 "reduced" = true) (k3 : PySem.W.keepIn K (.ref f3) = true)
  (a4 : PySem.W.nsIn K mainGlobals "first_with" = some (some (.ref f4))) (l4 : K.lookup f4 = some ⟨oc4, od4, .func (PySem.W.fnOf "first_with" "first_with" (defArgs sFw) (defBody sFw) (defScope sFw) .none kV4 dc4 pm4 an4 cd4 ct4), sl4⟩) (c4 : PySem.W.codeIn K cd4 "first_with" = true) (k4 : PySem.W.keepIn K (.ref f4) = true)
  (a5 : PySem.W.nsIn K mainGlobals "without_column" = some (some (.ref f5))) (l5 : K.lookup f5 = some ⟨oc5, od5, .func (PySem.W.fnOf "without_column" "without_column" (defArgs sWc) (defBody sWc) (defScope sWc) .none kV5 dc5 pm5 an5 cd5 ct5), sl5⟩) (c5 : PySem.W.codeIn K cd5 "without_column" = true) (k5 : PySem.W.keepIn K (.ref f5) = true)
  (a6 : PySem.W.nsIn K mainGlobals "nought_maker" = some (some (.ref f6))) (l6 : K.lookup f6 = some ⟨oc6, od6, .func (PySem.W.fnOf "nought_maker" "nought_maker" (defArgs sNm) (defBody sNm) (defScope sNm) .none kV6 dc6 pm6 an6 cd6 ct6), sl6⟩) (c6 : PySem.W.codeIn K cd6 "nought_maker" = true) (k6 : PySem.W.keepIn K (.ref f6) = true)
  (a7 : PySem.W.nsIn K mainGlobals "common_multiple" = some (some (.ref f7))) (l7 : K.lookup f7 = some ⟨oc7, od7, .func (PySem.W.fnOf "common_multiple" "common_multiple" (defArgs sCm) (defBody sCm) (defScope sCm) .none kV7 dc7 pm7 an7 cd7 ct7), sl7⟩) (c7 : PySem.W.codeIn K cd7 "common_multiple" = true) (k7 : PySem.W.keepIn K (.ref f7) = true)
  (a8 : PySem.W.nsIn K mainGlobals "all_kept" = some (some (.ref f8))) (l8 : K.lookup f8 = some ⟨oc8, od8, .func (PySem.W.fnOf "all_kept" "all_kept" (defArgs sAk) (defBody sAk) (defScope sAk) .none kV8 dc8 pm8 an8 cd8 ct8), sl8⟩) (c8 : PySem.W.codeIn K cd8 "all_kept" = true) (k8 : PySem.W.keepIn K (.ref f8) = true)
  (a9 : PySem.W.nsIn K mainGlobals "change_of" = some (some (.ref f9))) (l9 : K.lookup f9 = some ⟨oc9, od9, .func (PySem.W.fnOf "change_of" "change_of" (defArgs sCo) (defBody sCo) (defScope sCo) .none kV9 dc9 pm9 an9 cd9 ct9), sl9⟩) (c9 : PySem.W.codeIn K cd9 "change_of" = true) (k9 : PySem.W.keepIn K (.ref f9) = true)
  (a10 : PySem.W.nsIn K mainGlobals "times_added" = some (some (.ref f10))) (l10 : K.lookup f10 = some ⟨oc10, od10, .func (PySem.W.fnOf "times_added" "times_added" (defArgs sTimes) (defBody sTimes) (defScope sTimes) .none kV10 dc10 pm10 an10 cd10 ct10), sl10⟩) (c10 : PySem.W.codeIn K cd10 "times_added" = true) (k10 : PySem.W.keepIn K (.ref f10) = true)
  (a11 : PySem.W.nsIn K mainGlobals "so_often" = some (some (.ref f11))) (l11 : K.lookup f11 = some ⟨oc11, od11, .func (PySem.W.fnOf "so_often" "so_often" (defArgs sOften) (defBody sOften) (defScope sOften) .none kV11 dc11 pm11 an11 cd11 ct11), sl11⟩) (c11 : PySem.W.codeIn K cd11 "so_often" = true) (k11 : PySem.W.keepIn K (.ref f11) = true)
  (a12 : PySem.W.nsIn K mainGlobals "noughts" = some (some (.ref f12))) (l12 : K.lookup f12 = some ⟨oc12, od12, .func (PySem.W.fnOf "noughts" "noughts" (defArgs sNgt) (defBody sNgt) (defScope sNgt) .none kV12 dc12 pm12 an12 cd12 ct12), sl12⟩) (c12 : PySem.W.codeIn K cd12 "noughts" = true) (k12 : PySem.W.keepIn K (.ref f12) = true)
  (a13 : PySem.W.nsIn K mainGlobals "one_at" = some (some (.ref f13))) (l13 : K.lookup f13 = some ⟨oc13, od13, .func (PySem.W.fnOf "one_at" "one_at" (defArgs sOne) (defBody sOne) (defScope sOne) .none kV13 dc13 pm13 an13 cd13 ct13), sl13⟩) (c13 : PySem.W.codeIn K cd13 "one_at" = true) (k13 : PySem.W.keepIn K (.ref f13) = true)
  (a14 : PySem.W.nsIn K mainGlobals "form_of_amount" = some (some (.ref f14))) (l14 : K.lookup f14 = some ⟨oc14, od14, .func (PySem.W.fnOf "form_of_amount" "form_of_amount" (defArgs sAmt) (defBody sAmt) (defScope sAmt) .none kV14 dc14 pm14 an14 cd14 ct14), sl14⟩) (c14 : PySem.W.codeIn K cd14 "form_of_amount" = true) (k14 : PySem.W.keepIn K (.ref f14) = true)
  (a15 : PySem.W.nsIn K mainGlobals "form_of_drops" = some (some (.ref f15))) (l15 : K.lookup f15 = some ⟨oc15, od15, .func (PySem.W.fnOf "form_of_drops" "form_of_drops" (defArgs sDrp) (defBody sDrp) (defScope sDrp) .none kV15 dc15 pm15 an15 cd15 ct15), sl15⟩) (c15 : PySem.W.codeIn K cd15 "form_of_drops" = true) (k15 : PySem.W.keepIn K (.ref f15) = true)
  (a16 : PySem.W.nsIn K mainGlobals "form_of_kept" = some (some (.ref f16))) (l16 : K.lookup f16 = some ⟨oc16, od16, .func (PySem.W.fnOf "form_of_kept" "form_of_kept" (defArgs sKep) (defBody sKep) (defScope sKep) .none kV16 dc16 pm16 an16 cd16 ct16), sl16⟩) (c16 : PySem.W.codeIn K cd16 "form_of_kept" = true) (k16 : PySem.W.keepIn K (.ref f16) = true)
  (a17 : PySem.W.nsIn K mainGlobals "facts_of" = some (some (.ref f17))) (l17 : K.lookup f17 = some ⟨oc17, od17, .func (PySem.W.fnOf "facts_of" "facts_of" (defArgs sFof) (defBody sFof) (defScope sFof) .none kV17 dc17 pm17 an17 cd17 ct17), sl17⟩) (c17 : PySem.W.codeIn K cd17 "facts_of" = true) (k17 : PySem.W.keepIn K (.ref f17) = true)
  (a18 : PySem.W.nsIn K mainGlobals "_law_tape" = some (some (.ref f18))) (l18 : K.lookup f18 = some ⟨oc18, od18, .func (PySem.W.fnOf "_law_tape" "_law_tape" (defArgs sTape) (defBody sTape) (defScope sTape) .none kV18 dc18 pm18 an18 cd18 ct18), sl18⟩) (c18 : PySem.W.codeIn K cd18 "_law_tape" = true) (k18 : PySem.W.keepIn K (.ref f18) = true)
  (a19 : PySem.W.nsIn K mainGlobals "_law_draw" = some (some (.ref f19))) (l19 : K.lookup f19 = some ⟨oc19, od19, .func (PySem.W.fnOf "_law_draw" "_law_draw" (defArgs sDraw) (defBody sDraw) (defScope sDraw) .none kV19 dc19 pm19 an19 cd19 ct19), sl19⟩) (c19 : PySem.W.codeIn K cd19 "_law_draw" = true) (k19 : PySem.W.keepIn K (.ref f19) = true)
  (a20 : PySem.W.nsIn K mainGlobals "_law_names" = some (some (.ref f20))) (l20 : K.lookup f20 = some ⟨oc20, od20, .func (PySem.W.fnOf "_law_names" "_law_names" (defArgs sNames) (defBody sNames) (defScope sNames) .none kV20 dc20 pm20 an20 cd20 ct20), sl20⟩) (c20 : PySem.W.codeIn K cd20 "_law_names" = true) (k20 : PySem.W.keepIn K (.ref f20) = true)
  (a21 : PySem.W.nsIn K mainGlobals "_law_rule" = some (some (.ref f21))) (l21 : K.lookup f21 = some ⟨oc21, od21, .func (PySem.W.fnOf "_law_rule" "_law_rule" (defArgs sRule) (defBody sRule) (defScope sRule) .none kV21 dc21 pm21 an21 cd21 ct21), sl21⟩) (c21 : PySem.W.codeIn K cd21 "_law_rule" = true) (k21 : PySem.W.keepIn K (.ref f21) = true)
  (a22 : PySem.W.nsIn K mainGlobals "_law_pot" = some (some (.ref f22))) (l22 : K.lookup f22 = some ⟨oc22, od22, .func (PySem.W.fnOf "_law_pot" "_law_pot" (defArgs sPot) (defBody sPot) (defScope sPot) .none kV22 dc22 pm22 an22 cd22 ct22), sl22⟩) (c22 : PySem.W.codeIn K cd22 "_law_pot" = true) (k22 : PySem.W.keepIn K (.ref f22) = true)
  (a23 : PySem.W.nsIn K mainGlobals "_law_shape" = some (some (.ref f23))) (l23 : K.lookup f23 = some ⟨oc23, od23, .func (PySem.W.fnOf "_law_shape" "_law_shape" (defArgs sShp) (defBody sShp) (defScope sShp) .none kV23 dc23 pm23 an23 cd23 ct23), sl23⟩) (c23 : PySem.W.codeIn K cd23 "_law_shape" = true) (k23 : PySem.W.keepIn K (.ref f23) = true)
  (a24 : PySem.W.nsIn K mainGlobals "_law_order" = some (some (.ref f24))) (l24 : K.lookup f24 = some ⟨oc24, od24, .func (PySem.W.fnOf "_law_order" "_law_order" (defArgs sOr) (defBody sOr) (defScope sOr) .none kV24 dc24 pm24 an24 cd24 ct24), sl24⟩) (c24 : PySem.W.codeIn K cd24 "_law_order" = true) (k24 : PySem.W.keepIn K (.ref f24) = true)
  (a25 : PySem.W.nsIn K mainGlobals "_law_family" = some (some (.ref f25))) (l25 : K.lookup f25 = some ⟨oc25, od25, .func (PySem.W.fnOf "_law_family" "_law_family" (defArgs sFy) (defBody sFy) (defScope sFy) .none kV25 dc25 pm25 an25 cd25 ct25), sl25⟩) (c25 : PySem.W.codeIn K cd25 "_law_family" = true) (k25 : PySem.W.keepIn K (.ref f25) = true)
  (a26 : PySem.W.nsIn K mainGlobals "_law_at" = some (some (.ref f26))) (l26 : K.lookup f26 = some ⟨oc26, od26, .func (PySem.W.fnOf "_law_at" "_law_at" (defArgs sAt) (defBody sAt) (defScope sAt) .none kV26 dc26 pm26 an26 cd26 ct26), sl26⟩) (c26 : PySem.W.codeIn K cd26 "_law_at" = true) (k26 : PySem.W.keepIn K (.ref f26) = true)
  (a27 : PySem.W.nsIn K mainGlobals "_law_kepts" = some (some (.ref f27))) (l27 : K.lookup f27 = some ⟨oc27, od27, .func (PySem.W.fnOf "_law_kepts" "_law_kepts" (defArgs sKp) (defBody sKp) (defScope sKp) .none kV27 dc27 pm27 an27 cd27 ct27), sl27⟩) (c27 : PySem.W.codeIn K cd27 "_law_kepts" = true) (k27 : PySem.W.keepIn K (.ref f27) = true)
  (a28 : PySem.W.nsIn K mainGlobals "_law_steps" = some (some (.ref f28))) (l28 : K.lookup f28 = some ⟨oc28, od28, .func (PySem.W.fnOf "_law_steps" "_law_steps" (defArgs sSt) (defBody sSt) (defScope sSt) .none kV28 dc28 pm28 an28 cd28 ct28), sl28⟩) (c28 : PySem.W.codeIn K cd28 "_law_steps" = true) (k28 : PySem.W.keepIn K (.ref f28) = true)
  (a29 : PySem.W.nsIn K mainGlobals "law" = some (some (.ref f29))) (l29 : K.lookup f29 = some ⟨oc29, od29, .func (PySem.W.fnOf "law" "law" (defArgs sLaw) (defBody sLaw) (defScope sLaw) .none kV29 dc29 pm29 an29 cd29 ct29), sl29⟩) (c29 : PySem.W.codeIn K cd29 "law" = true) (k29 : PySem.W.keepIn K (.ref f29) = true)
  (z1 : PySem.W.nsIn K mainGlobals "len" = some none) (z2 : PySem.W.nsIn K mainGlobals "range" = some none) (z3 : PySem.W.nsIn K mainGlobals "tuple" = some none) (z4 : PySem.W.nsIn K mainGlobals "int" = some none) (z5 : PySem.W.nsIn K mainGlobals "bool" = some none) (z6 : PySem.W.nsIn K mainGlobals "list" = some none) (z7 : PySem.W.nsIn K mainGlobals "str" = some none) (z8 : PySem.W.nsIn K mainGlobals "all" = some none) (z9 : PySem.W.nsIn K mainGlobals "any" = some none) (z10 : PySem.W.nsIn K mainGlobals "isinstance" = some none) (z11 : PySem.W.nsIn K mainGlobals "repr" = some none) (z12 : PySem.W.nsIn K mainGlobals "zip" = some none) (z13 : PySem.W.nsIn K mainGlobals "min" = some none) (z14 : PySem.W.nsIn K mainGlobals "max" = some none) (z15 : PySem.W.nsIn K mainGlobals "sum" = some none) (z16 : PySem.W.nsIn K mainGlobals "enumerate" = some none) (z17 : PySem.W.nsIn K mainGlobals "sorted" = some none) (z18 : PySem.W.nsIn K mainGlobals "set" = some none) (z19 : PySem.W.nsIn K mainGlobals "dict" = some none) (z20 : PySem.W.nsIn K mainGlobals "abs" = some none)
  (g1 : PySem.W.nsIn K mainGlobals "SORTS" = some (some (.int (0) t1))) (g2 : PySem.W.nsIn K mainGlobals "RULES" = some (some (.int (1) t2))) (g3 : PySem.W.nsIn K mainGlobals "TAKES" = some (some (.int (0) t3))) (g4 : PySem.W.nsIn K mainGlobals "GIVES" = some (some (.int (1) t4))) (g5 : PySem.W.nsIn K mainGlobals "INPUTS" = some (some (.int (2) t5))) (g6 : PySem.W.nsIn K mainGlobals "BEGIN" = some (some (.int (3) t6))) (g7 : PySem.W.nsIn K mainGlobals "BY_INPUTS" = some (some (.int (0) t7))) (g8 : PySem.W.nsIn K mainGlobals "BY_SORTS" = some (some (.int (1) t8))) (g9 : PySem.W.nsIn K mainGlobals "PLUS" = some (some (.int (2) t9))) :
  ∃ fd : FuncData, (∀ (s : Shared) (v : Value), BindsTo s fd ⟨[v], []⟩ [("_law_script", v)]) ∧ ∀ base : Heap, K.In base → base.Ns mainGlobals mg → FnOk l.prog w K mg base CX0 7 fa fd ["_law_script"] (spLaw K) := by
 have e := hfa.symm.trans (PySem.W.mg_of X G a29)
 cases e
 have F1 := fun_mk (st := sCd) l1 c1 k1
 have b1 := F1.binds (ps := ["numbers"]) fun _ _ _ _ _ _ us hl => match us, hl with | [_], _ => rfl
 have m1 := PySem.W.mg_of X G a1
 have F2 := fun_mk (st := sWd) l2 c2 k2
 have b2 := F2.binds (ps := ["numbers"]) fun _ _ _ _ _ _ us hl => match us, hl with | [_], _ => rfl
 have m2 := PySem.W.mg_of X G a2
 have F3 := fun_mk (st := sRd) l3 c3 k3
 have b3 := F3.binds (ps := ["many", "rows"]) fun _ _ _ _ _ _ us hl => match us, hl with | [_, _], _ => rfl
 have m3 := PySem.W.mg_of X G a3
 have F4 := fun_mk (st := sFw) l4 c4 k4
 have b4 := F4.binds (ps := ["rows", "start", "column"]) fun _ _ _ _ _ _ us hl => match us, hl with | [_, _, _], _ => rfl
 have m4 := PySem.W.mg_of X G a4
 have F5 := fun_mk (st := sWc) l5 c5 k5
 have b5 := F5.binds (ps := ["row", "lead", "column"]) fun _ _ _ _ _ _ us hl => match us, hl with | [_, _, _], _ => rfl
 have m5 := PySem.W.mg_of X G a5
 have F6 := fun_mk (st := sNm) l6 c6 k6
 have b6 := F6.binds (ps := ["many", "rows", "leads", "free"]) fun _ _ _ _ _ _ us hl => match us, hl with | [_, _, _, _], _ => rfl
 have m6 := PySem.W.mg_of X G a6
 have F7 := fun_mk (st := sCm) l7 c7 k7
 have b7 := F7.binds (ps := ["one", "other"]) fun _ _ _ _ _ _ us hl => match us, hl with | [_, _], _ => rfl
 have m7 := PySem.W.mg_of X G a7
 have F8 := fun_mk (st := sAk) l8 c8 k8
 have b8 := F8.binds (ps := ["pot"]) fun _ _ _ _ _ _ us hl => match us, hl with | [_], _ => rfl
 have m8 := PySem.W.mg_of X G a8
 have F9 := fun_mk (st := sCo) l9 c9 k9
 have b9 := F9.binds (ps := ["rule"]) fun _ _ _ _ _ _ us hl => match us, hl with | [_], _ => rfl
 have m9 := PySem.W.mg_of X G a9
 have F10 := fun_mk (st := sTimes) l10 c10 k10
 have b10 := F10.binds (ps := ["ones", "others"]) fun _ _ _ _ _ _ us hl => match us, hl with | [_, _], _ => rfl
 have m10 := PySem.W.mg_of X G a10
 have F11 := fun_mk (st := sOften) l11 c11 k11
 have b11 := F11.binds (ps := ["form", "times"]) fun _ _ _ _ _ _ us hl => match us, hl with | [_, _], _ => rfl
 have m11 := PySem.W.mg_of X G a11
 have F12 := fun_mk (st := sNgt) l12 c12 k12
 have b12 := F12.binds (ps := ["things"]) fun _ _ _ _ _ _ us hl => match us, hl with | [_], _ => rfl
 have m12 := PySem.W.mg_of X G a12
 have F13 := fun_mk (st := sOne) l13 c13 k13
 have b13 := F13.binds (ps := ["things", "place"]) fun _ _ _ _ _ _ us hl => match us, hl with | [_, _], _ => rfl
 have m13 := PySem.W.mg_of X G a13
 have F14 := fun_mk (st := sAmt) l14 c14 k14
 have b14 := F14.binds (ps := ["pot", "place"]) fun _ _ _ _ _ _ us hl => match us, hl with | [_, _], _ => rfl
 have m14 := PySem.W.mg_of X G a14
 have F15 := fun_mk (st := sDrp) l15 c15 k15
 have b15 := F15.binds (ps := ["pot", "sort"]) fun _ _ _ _ _ _ us hl => match us, hl with | [_, _], _ => rfl
 have m15 := PySem.W.mg_of X G a15
 have F16 := fun_mk (st := sKep) l16 c16 k16
 have b16 := F16.binds (ps := ["pot", "kept"]) fun _ _ _ _ _ _ us hl => match us, hl with | [_, _], _ => rfl
 have m16 := PySem.W.mg_of X G a16
 have F17 := fun_mk (st := sFof) l17 c17 k17
 have b17 := F17.binds (ps := ["pot", "kepts"]) fun _ _ _ _ _ _ us hl => match us, hl with | [_, _], _ => rfl
 have m17 := PySem.W.mg_of X G a17
 have F18 := fun_mk (st := sTape) l18 c18 k18
 have b18 := F18.binds (ps := ["_law_script"]) fun _ _ _ _ _ _ us hl => match us, hl with | [_], _ => rfl
 have m18 := PySem.W.mg_of X G a18
 have F19 := fun_mk (st := sDraw) l19 c19 k19
 have b19 := F19.binds (ps := ["_law_tape_here", "_law_many"]) fun _ _ _ _ _ _ us hl => match us, hl with | [_, _], _ => rfl
 have m19 := PySem.W.mg_of X G a19
 have F20 := fun_mk (st := sNames) l20 c20 k20
 have b20 := F20.binds (ps := ["_law_tape_here", "_law_many"]) fun _ _ _ _ _ _ us hl => match us, hl with | [_, _], _ => rfl
 have m20 := PySem.W.mg_of X G a20
 have F21 := fun_mk (st := sRule) l21 c21 k21
 have b21 := F21.binds (ps := ["_law_tape_here", "_law_many"]) fun _ _ _ _ _ _ us hl => match us, hl with | [_, _], _ => rfl
 have m21 := PySem.W.mg_of X G a21
 have F22 := fun_mk (st := sPot) l22 c22 k22
 have b22 := F22.binds (ps := ["_law_tape_here", "_law_most", "_law_rules"]) fun _ _ _ _ _ _ us hl => match us, hl with | [_, _, _], _ => rfl
 have m22 := PySem.W.mg_of X G a22
 have F23 := fun_mk (st := sShp) l23 c23 k23
 have b23 := F23.binds (ps := ["_law_tape_here", "_law_way"]) fun _ _ _ _ _ _ us hl => match us, hl with | [_, _], _ => rfl
 have m23 := PySem.W.mg_of X G a23
 have F24 := fun_mk (st := sOr) l24 c24 k24
 have b24 := F24.binds (ps := ["_law_tape_here", "_law_many"]) fun _ _ _ _ _ _ us hl => match us, hl with | [_, _], _ => rfl
 have m24 := PySem.W.mg_of X G a24
 have F25 := fun_mk (st := sFy) l25 c25 k25
 have b25 := F25.binds (ps := ["_law_tape_here"]) fun _ _ _ _ _ _ us hl => match us, hl with | [_], _ => rfl
 have m25 := PySem.W.mg_of X G a25
 have F26 := fun_mk (st := sAt) l26 c26 k26
 have b26 := F26.binds (ps := ["_law_form", "_law_amounts", "_law_stand"]) fun _ _ _ _ _ _ us hl => match us, hl with | [_, _, _], _ => rfl
 have m26 := PySem.W.mg_of X G a26
 have F27 := fun_mk (st := sKp) l27 c27 k27
 have b27 := F27.binds (ps := ["_law_tape_here", "_law_pot_here"]) fun _ _ _ _ _ _ us hl => match us, hl with | [_, _], _ => rfl
 have m27 := PySem.W.mg_of X G a27
 have F28 := fun_mk (st := sSt) l28 c28 k28
 have b28 := F28.binds (ps := ["_law_pot_here", "_law_stand"]) fun _ _ _ _ _ _ us hl => match us, hl with | [_, _], _ => rfl
 have m28 := PySem.W.mg_of X G a28
 have F29 := fun_mk (st := sLaw) l29 c29 k29
 have y1 := PySem.W.mg_none_of X G z1
 have y2 := PySem.W.mg_none_of X G z2
 have y3 := PySem.W.mg_none_of X G z3
 have y4 := PySem.W.mg_none_of X G z4
 have y5 := PySem.W.mg_none_of X G z5
 have y6 := PySem.W.mg_none_of X G z6
 have y7 := PySem.W.mg_none_of X G z7
 have y8 := PySem.W.mg_none_of X G z8
 have y9 := PySem.W.mg_none_of X G z9
 have y10 := PySem.W.mg_none_of X G z10
 have y11 := PySem.W.mg_none_of X G z11
 have y12 := PySem.W.mg_none_of X G z12
 have y13 := PySem.W.mg_none_of X G z13
 have y14 := PySem.W.mg_none_of X G z14
 have y15 := PySem.W.mg_none_of X G z15
 have y16 := PySem.W.mg_none_of X G z16
 have y17 := PySem.W.mg_none_of X G z17
 have y18 := PySem.W.mg_none_of X G z18
 have y19 := PySem.W.mg_none_of X G z19
 have y20 := PySem.W.mg_none_of X G z20
 have B : Blt3 mg := ⟨⟨⟨y1, y2, y3⟩, y6, y13⟩, y4, y15, y12, y11, ⟨_, PySem.W.mg_of X G g1⟩, ⟨_, PySem.W.mg_of X G g5⟩, ⟨_, PySem.W.mg_of X G g6⟩, ⟨_, PySem.W.mg_of X G g7⟩, ⟨_, PySem.W.mg_of X G g8⟩, ⟨_, PySem.W.mg_of X G g9⟩⟩
 have BL : L2.Bl mg := ⟨y1, y2, y3, y4, y5, y6, y7, y8, y9, y10, y11, y12, y13, y14, y15, y16, y17, y18, y19, y20⟩
 have Z : KZ mg := ⟨⟨_, PySem.W.mg_of X G g1⟩, ⟨_, PySem.W.mg_of X G g2⟩, ⟨_, PySem.W.mg_of X G g3⟩, ⟨_, PySem.W.mg_of X G g4⟩⟩
 refine ⟨PySem.W.fnOf "law" "law" (defArgs sLaw) (defBody sLaw) (defScope sLaw) .none kV29 dc29 pm29 an29 cd29 ct29, fun s v => .of_eq rfl, fun base _ _ => ?_⟩
 have H1 : Has l.prog w K mg base 1 "common_divisor" ["numbers"] spCd := ⟨_, _, ok_Cd BL F1, m1, k1, b1⟩
 have H2 : Has l.prog w K mg base 2 "without_divisor" ["numbers"] spWd := ⟨_, _, ok_Wd BL H1 F2, m2, k2, b2⟩
 have H4 : Has l.prog w K mg base 1 "first_with" ["rows", "start", "column"] spFw := ⟨_, _, ok_Fw BL F4, m4, k4, b4⟩
 have H5 : Has l.prog w K mg base 3 "without_column" ["row", "lead", "column"] spWc := ⟨_, _, ok_Wc BL H2 F5, m5, k5, b5⟩
 have H3 : Has l.prog w K mg base 4 "reduced" ["many", "rows"] spRd := ⟨_, _, ok_Rd BL H4 H5 F3, m3, k3, b3⟩
 have H7 : Has l.prog w K mg base 2 "common_multiple" ["one", "other"] spCm := ⟨_, _, ok_Cm BL H1 F7, m7, k7, b7⟩
 have H6 : Has l.prog w K mg base 3 "nought_maker" ["many", "rows", "leads", "free"] spNm := ⟨_, _, ok_Nm BL H7 H2 F6, m6, k6, b6⟩
 have H9 : Has l.prog w K mg base 1 "change_of" ["rule"] spCo := ⟨_, _, ok_Co BL Z F9, m9, k9, b9⟩
 have H8 : Has l.prog w K mg base 5 "all_kept" ["pot"] spAk := ⟨_, _, ok_Ak BL Z H3 H9 H6 F8, m8, k8, b8⟩
 have H10 : Has l.prog w K mg base 1 "times_added" ["ones", "others"] spTimes := ⟨_, _, ok_times B F10, m10, k10, b10⟩
 have H11 : Has l.prog w K mg base 1 "so_often" ["form", "times"] spOften := ⟨_, _, ok_Often B F11, m11, k11, b11⟩
 have H12 : Has l.prog w K mg base 1 "noughts" ["things"] spNgt := ⟨_, _, ok_Ngt B F12, m12, k12, b12⟩
 have H13 : Has l.prog w K mg base 1 "one_at" ["things", "place"] spOne := ⟨_, _, ok_One B F13, m13, k13, b13⟩
 have H14 : Has l.prog w K mg base 2 "form_of_amount" ["pot", "place"] (spFm amtF) := ⟨_, _, ok_Amt B H13 H12 F14, m14, k14, b14⟩
 have H15 : Has l.prog w K mg base 2 "form_of_drops" ["pot", "sort"] (spFm drpF) := ⟨_, _, ok_Drp B H13 H12 F15, m15, k15, b15⟩
 have H16 : Has l.prog w K mg base 2 "form_of_kept" ["pot", "kept"] spKep := ⟨_, _, ok_Kep B H10 F16, m16, k16, b16⟩
 have H17 : Has l.prog w K mg base 3 "facts_of" ["pot", "kepts"] spFof := ⟨_, _, ok_Fof B H14 H15 H16 H11 F17, m17, k17, b17⟩
 have H18 : Has l.prog w K mg base 1 "_law_tape" ["_law_script"] (spTape K) := ⟨_, _, ok_tape F18, m18, k18, b18⟩
 have H19 : Has l.prog w K mg base 1 "_law_draw" ["_law_tape_here", "_law_many"] spDraw := ⟨_, _, ok_draw B.toBlt F19, m19, k19, b19⟩
 have H20 : Has l.prog w K mg base 2 "_law_names" ["_law_tape_here", "_law_many"] spNames := ⟨_, _, ok_Names B.toBlt H19 F20, m20, k20, b20⟩
 have H21 : Has l.prog w K mg base 2 "_law_rule" ["_law_tape_here", "_law_many"] spRule := ⟨_, _, ok_Rule B.toBlt H19 F21, m21, k21, b21⟩
 have H22 : Has l.prog w K mg base 3 "_law_pot" ["_law_tape_here", "_law_most", "_law_rules"] spPot := ⟨_, _, ok_Pot B.toBlt2 H19 H20 H21 F22, m22, k22, b22⟩
 have H23 : Has l.prog w K mg base 2 "_law_shape" ["_law_tape_here", "_law_way"] spShp := ⟨_, _, ok_Shp B H19 F23, m23, k23, b23⟩
 have H24 : Has l.prog w K mg base 2 "_law_order" ["_law_tape_here", "_law_many"] spOr := ⟨_, _, ok_Or B H19 F24, m24, k24, b24⟩
 have H25 : Has l.prog w K mg base 4 "_law_family" ["_law_tape_here"] spFy := ⟨_, _, ok_Fy B H19 H23 H24 H20 F25, m25, k25, b25⟩
 have H26 : Has l.prog w K mg base 1 "_law_at" ["_law_form", "_law_amounts", "_law_stand"] spAt := ⟨_, _, ok_At B F26, m26, k26, b26⟩
 have H27 : Has l.prog w K mg base 6 "_law_kepts" ["_law_tape_here", "_law_pot_here"] spKp := ⟨_, _, ok_Kp B H19 H8 F27, m27, k27, b27⟩
 have H28 : Has l.prog w K mg base 1 "_law_steps" ["_law_pot_here", "_law_stand"] spSt := ⟨_, _, ok_St B F28, m28, k28, b28⟩
 exact ok_Law B H18 H19 H22 H25 H17 H27 H26 H28 F29
theorem walk {l : PySem.W.OpenLaw} {q : Program} {loose : List Str} {XP : (Str → Option Value) → Heap → Prop} {YP : World → Heap → Prop} {d : DefRec} {K : Params → PySem.W.Frag} (hn : l.most = some 63) (hdf : d.params.defaults = [])
  (hY : ∀ (w : World) (h : Heap), YP w h → (K w.params).In h)
  (F : ∀ (w : World) (mg : Str → Option Value) (fa : Addr) (h : Heap), (K w.params).In h → h.Ns mainGlobals mg → mg d.name = some (.ref fa) →
   ∃ fd : FuncData, (∀ (s : Shared) (u : Value), BindsTo s fd ⟨[u], []⟩ [("_law_script", u)]) ∧ ∀ base : Heap, (K w.params).In base → base.Ns mainGlobals mg → FnOk l.prog w (K w.params) mg base CX0 7 fa fd ["_law_script"] (spLaw (K w.params))) :
  PySem.W.WalkO q loose XP YP l.row.toRowW d [] (fun f vs => PySem.call f vs) :=
 L2.walk_of (n := 63) (k := 7) (x := "_law_script") (CX := fun _ => CX0) (sp := fun w => spLaw (K w.params)) hn (by decide) hdf ⟨rfl, by decide, by decide, rfl⟩ hY F (fun _ H a ns hl hO hS => ⟨a, ns, rfl, SqF.of hO hS, hl, fun _ => rfl⟩) fun _ _ _ _ _ z => z
end K29
open PySem PySem.W PyProof.Rows
set_option maxRecDepth 100000 in
set_option maxHeartbeats 0 in
theorem PySem.Challenge.cw_dropsums_k29_whole_facts_hold_holds : PySem.Challenge.rw_dropsums_k29_whole_facts_hold.Holds := by
 w_on
 refine PySem.W.holds_law K29.said0 fun said => ?_
 refine PySem.W.holds_open (q := K29.VW) (loose := []) (Xt := fun s => PySem.W.xlAt K29.VW [] s && PySem.W.recOk (PySem.W.RowW.records K29.RR.toRowW) s) (XP := PySem.W.XL K29.VW []) (Yf := PySem.W.Hook.obs (PySem.W.kHook K29.KK K29.KA K29.ke)) (Ya := PySem.W.Hook.val (PySem.W.kHook K29.KK K29.KA K29.ke)) (YP := PySem.W.Hook.says (PySem.W.kHook K29.KK K29.KA K29.ke)) (N := 2002) K29.left0 (PySem.W.Hook.of _) (PySem.W.Hook.keeps _) (fun s e => PySem.W.xl_of s (Bool.and_eq_true_iff.mp e).1) PySem.W.XL.keeps (by rfl) (by rfl) (by rfl) (fun s e => PySem.W.recFacts_of (Bool.and_eq_true_iff.mp e).2) (by rfl) said (by decide +kernel) ⟨rfl, rfl, rfl, rfl, rfl, by decide +kernel⟩ ?hw ?hc
 case hw => w_witness2
 k_fill
 refine K29.walk (l := PySem.Challenge.rw_dropsums_k29_whole_facts_hold) rfl rfl (fun w h Y => PySem.W.kIn_of Y) ?F
 case F =>
  intro w mg fa h KX G hmg
  refine' K29.all_mk KX G hmg ?a1 ?l1 ?c1 ?k1 ?a2 ?l2 ?c2 ?k2 ?a3 ?l3 ?c3 ?k3 ?a4 ?l4 ?c4 ?k4 ?a5 ?l5 ?c5 ?k5 ?a6 ?l6 ?c6 ?k6 ?a7 ?l7 ?c7 ?k7 ?a8 ?l8 ?c8 ?k8 ?a9 ?l9 ?c9 ?k9 ?a10 ?l10 ?c10 ?k10 ?a11 ?l11 ?c11 ?k11 ?a12 ?l12 ?c12 ?k12 ?a13 ?l13 ?c13 ?k13 ?a14 ?l14 ?c14 ?k14 ?a15 ?l15 ?c15 ?k15 ?a16 ?l16 ?c16 ?k16 ?a17 ?l17 ?c17 ?k17 ?a18 ?l18 ?c18 ?k18 ?a19 ?l19 ?c19 ?k19 ?a20 ?l20 ?c20 ?k20 ?a21 ?l21 ?c21 ?k21 ?a22 ?l22 ?c22 ?k22 ?a23 ?l23 ?c23 ?k23 ?a24 ?l24 ?c24 ?k24 ?a25 ?l25 ?c25 ?k25 ?a26 ?l26 ?c26 ?k26 ?a27 ?l27 ?c27 ?k27 ?a28 ?l28 ?c28 ?k28 ?a29 ?l29 ?c29 ?k29 ?z1 ?z2 ?z3 ?z4 ?z5 ?z6 ?z7 ?z8 ?z9 ?z10 ?z11 ?z12 ?z13 ?z14 ?z15 ?z16 ?z17 ?z18 ?z19 ?z20 ?g1 ?g2 ?g3 ?g4 ?g5 ?g6 ?g7 ?g8 ?g9
  (case a1 => k_is)
  (case l1 => k_is)
  (case c1 => k_is)
  (case k1 => k_is)
  (case a2 => k_is)
  (case l2 => k_is)
  (case c2 => k_is)
  (case k2 => k_is)
  (case a3 => k_is)
  (case l3 => k_is)
  (case c3 => k_is)
  (case k3 => k_is)
  (case a4 => k_is)
  (case l4 => k_is)
  (case c4 => k_is)
  (case k4 => k_is)
  (case a5 => k_is)
  (case l5 => k_is)
  (case c5 => k_is)
  (case k5 => k_is)
  (case a6 => k_is)
  (case l6 => k_is)
  (case c6 => k_is)
  (case k6 => k_is)
  (case a7 => k_is)
  (case l7 => k_is)
  (case c7 => k_is)
  (case k7 => k_is)
  (case a8 => k_is)
  (case l8 => k_is)
  (case c8 => k_is)
  (case k8 => k_is)
  (case a9 => k_is)
  (case l9 => k_is)
  (case c9 => k_is)
  (case k9 => k_is)
  (case a10 => k_is)
  (case l10 => k_is)
  (case c10 => k_is)
  (case k10 => k_is)
  (case a11 => k_is)
  (case l11 => k_is)
  (case c11 => k_is)
  (case k11 => k_is)
  (case a12 => k_is)
  (case l12 => k_is)
  (case c12 => k_is)
  (case k12 => k_is)
  (case a13 => k_is)
  (case l13 => k_is)
  (case c13 => k_is)
  (case k13 => k_is)
  (case a14 => k_is)
  (case l14 => k_is)
  (case c14 => k_is)
  (case k14 => k_is)
  (case a15 => k_is)
  (case l15 => k_is)
  (case c15 => k_is)
  (case k15 => k_is)
  (case a16 => k_is)
  (case l16 => k_is)
  (case c16 => k_is)
  (case k16 => k_is)
  (case a17 => k_is)
  (case l17 => k_is)
  (case c17 => k_is)
  (case k17 => k_is)
  (case a18 => k_is)
  (case l18 => k_is)
  (case c18 => k_is)
  (case k18 => k_is)
  (case a19 => k_is)
  (case l19 => k_is)
  (case c19 => k_is)
  (case k19 => k_is)
  (case a20 => k_is)
  (case l20 => k_is)
  (case c20 => k_is)
  (case k20 => k_is)
  (case a21 => k_is)
  (case l21 => k_is)
  (case c21 => k_is)
  (case k21 => k_is)
  (case a22 => k_is)
  (case l22 => k_is)
  (case c22 => k_is)
  (case k22 => k_is)
  (case a23 => k_is)
  (case l23 => k_is)
  (case c23 => k_is)
  (case k23 => k_is)
  (case a24 => k_is)
  (case l24 => k_is)
  (case c24 => k_is)
  (case k24 => k_is)
  (case a25 => k_is)
  (case l25 => k_is)
  (case c25 => k_is)
  (case k25 => k_is)
  (case a26 => k_is)
  (case l26 => k_is)
  (case c26 => k_is)
  (case k26 => k_is)
  (case a27 => k_is)
  (case l27 => k_is)
  (case c27 => k_is)
  (case k27 => k_is)
  (case a28 => k_is)
  (case l28 => k_is)
  (case c28 => k_is)
  (case k28 => k_is)
  (case a29 => k_is)
  (case l29 => k_is)
  (case c29 => k_is)
  (case k29 => k_is)
  (case z1 => k_is)
  (case z2 => k_is)
  (case z3 => k_is)
  (case z4 => k_is)
  (case z5 => k_is)
  (case z6 => k_is)
  (case z7 => k_is)
  (case z8 => k_is)
  (case z9 => k_is)
  (case z10 => k_is)
  (case z11 => k_is)
  (case z12 => k_is)
  (case z13 => k_is)
  (case z14 => k_is)
  (case z15 => k_is)
  (case z16 => k_is)
  (case z17 => k_is)
  (case z18 => k_is)
  (case z19 => k_is)
  (case z20 => k_is)
  (case g1 => k_is)
  (case g2 => k_is)
  (case g3 => k_is)
  (case g4 => k_is)
  (case g5 => k_is)
  (case g6 => k_is)
  (case g7 => k_is)
  (case g8 => k_is)
  (case g9 => k_is)
