import PyProof.Rows.All
import Wide.All
import OpenK.AllK
import Wide.FinOn
import Lean
import PyProof.EqAt
import PyProof.EqKinds
import PyProof.TupleCall
import PyProof.Rows.SumAny
import PyProof.Draws
import PyProof.ZipIter
import PyProof.EnumMake
import PyProof.Rows.ZipGen
import PyProof.FitsInt
import PyProof.ReprLen
import KE.IntBitsLaws
import PyProof.NeData
import PyProof.ConsumeWalk
import PyProof.WalkInts
import PyProof.Rows.SeqMore
import PyProof.ListMulRoad
import PyProof.DictUpdate
import KE.KRevSl
import PyProof.MeetsStr
import PyProof.StrBlockG
import PyProof.CallStr
import KE.KIntText
import PyProof.StrLawsTight
import PyProof.StrLawsChain
import PyProof.StrLawsJoin
import PyProof.StrWalks
import KE.KSortTup
import PyProof.TupleOfStr
import PyProof.ListRange
import PyProof.SliceStr
import PyProof.StrBlockI
import PyProof.SeqRoads
import PyProof.NsDelKeeps
import PyProof.RulesAs
import KE.KIsAll
import PyProof.Rows.SetFrom
import PyProof.WalksMore
import PyProof.FactsAll.subtypes_4
import PyProof.MeetsStr2
import PyProof.Rows.Range3
import PyProof.StrLawsRepr
import PyProof.StrOps2
import PyProof.ListStr
import PyProof.StrLawsIn
import PyProof.StrLawsIdx
import PyProof.StrCalls6
import PyProof.MeetsStr3
import PyProof.StrOps
import PySem.Challenge.RW_dropsums_k04_pot_lines_spoilt
set_option genSizeOf false
set_option bootstrap.genMatcherCode false
theorem sz0 : 0 ≤ PySem.sizeLine := by decide
theorem sz1 : 1 ≤ PySem.sizeLine := by decide
theorem sz2 : 2 ≤ PySem.sizeLine := by decide
theorem sz3 : 3 ≤ PySem.sizeLine := by decide
theorem sz4 : 4 ≤ PySem.sizeLine := by decide
theorem sz5 : 5 ≤ PySem.sizeLine := by decide
theorem sz6 : 6 ≤ PySem.sizeLine := by decide
theorem sz8 : 8 ≤ PySem.sizeLine := by decide
-- CHANGE: your row's module here, as the last of these rows
set_option Elab.async false
set_option linter.all false
set_option maxRecDepth 100000
namespace L2
open PySem PySem.Spec PyProof.Rows
noncomputable abbrev Key := Sum Int Str
noncomputable def v5 : Key → Value → Bool
 | .inl k, v => Value.isInt k v
 | .inr x, v => Value.isStrOf x v
noncomputable def keyH (w : World) : Key → Int
 | .inl k => hashInt k
 | .inr x => hashStr w x
theorem zT : ∀ {k : Key} {v : Value}, v5 k v = true → (∃ i t, k = Sum.inl i ∧ v = Value.int i t) ∨ (∃ x t, k = Sum.inr x ∧ v = Value.str x t)
 | .inl i, v, h => by
  obtain ⟨t, e⟩ := Value.isInt_shape (k := i) (v := v) h
  exact .inl ⟨i, t, rfl, e⟩
 | .inr x, v, h => by
  obtain ⟨t, e⟩ := Value.isStrOf_shape (x := x) (v := v) h
  exact .inr ⟨x, t, rfl, e⟩
theorem keyIs_int (i : Int) (t : Tok) : v5 (.inl i) (.int i t) = true := by simp [v5, Value.isInt]
theorem keyIs_str (x : Str) (t : Tok) : v5 (.inr x) (.str x t) = true := by simp [v5, Value.isStrOf]
theorem key_ll (a b : Int) : decide ((Sum.inl a : Key) = Sum.inl b) = (a == b) := by
 by_cases e : a = b
 ·subst e; simp
 ·have h : ¬ (Sum.inl a : Key) = Sum.inl b := fun q => e (Sum.inl.inj q)
  rw [decide_eq_false h]
  exact (beq_eq_false_iff_ne.mpr e).symm
theorem key_rr (a b : Str) : decide ((Sum.inr a : Key) = Sum.inr b) = decide (a = b) := by
 by_cases e : a = b
 ·subst e; simp
 ·have h : ¬ (Sum.inr a : Key) = Sum.inr b := fun q => e (Sum.inr.inj q)
  rw [decide_eq_false h, decide_eq_false e]
theorem key_lr (a : Int) (b : Str) : decide ((Sum.inl a : Key) = Sum.inr b) = false := decide_eq_false (fun q => nomatch q)
theorem key_rl (a : Str) (b : Int) : decide ((Sum.inr a : Key) = Sum.inl b) = false := decide_eq_false (fun q => nomatch q)
noncomputable def ya (prog : Program) (w : World) : PySem.KeyKind prog w Key where
 is := v5
 hash := keyH w
 inj := fun v a b ha hb => by
  rcases zT ha with ⟨i, t, rfl, rfl⟩ | ⟨x, t, rfl, rfl⟩
  ·rcases zT hb with ⟨j, u, rfl, e⟩ | ⟨y, u, rfl, e⟩
   ·injection e with e1 _; rw [e1]
   ·exact nomatch e
  ·rcases zT hb with ⟨j, u, rfl, e⟩ | ⟨y, u, rfl, e⟩
   ·exact nomatch e
   ·injection e with e1 _; rw [e1]
 byValue := fun k v h => by
  rcases zT h with ⟨i, t, rfl, rfl⟩ | ⟨x, t, rfl, rfl⟩ <;> rfl
 pyHash := fun hv h => by
  rcases zT hv with ⟨i, t, rfl, rfl⟩ | ⟨x, t, rfl, rfl⟩
  ·exact wpAny_pyHash_int h
  ·exact wpAny_pyHash_str h
 eqBool := fun hu hv h => by
  rcases zT hu with ⟨i, t, rfl, rfl⟩ | ⟨x, t, rfl, rfl⟩
  ·rcases zT hv with ⟨j, u, rfl, rfl⟩ | ⟨y, u, rfl, rfl⟩
   ·rw [key_ll] at h; exact wpAny_eqBool_int h
   ·rw [key_lr] at h; exact SeqAt.EqAt.int_str i t y u _ _ _ _ h
  ·rcases zT hv with ⟨j, u, rfl, rfl⟩ | ⟨y, u, rfl, rfl⟩
   ·rw [key_rl] at h; exact SeqAt.EqAt.str_int x t j u _ _ _ _ h
   ·rw [key_rr] at h; exact wpAny_eqBool_str h
 «strs» := fun k x t v h => by
  rcases zT h with ⟨i, u, rfl, e⟩ | ⟨y, u, rfl, e⟩
  ·exact nomatch e
  ·injection e with e1 _
   subst e1
   cases v <;> rfl
theorem mixKind_int (prog : Program) (w : World) (i : Int) (t : Tok) : (ya prog w).is (.inl i) (.int i t) = true := keyIs_int i t
theorem mixKind_str (prog : Program) (w : World) (x : Str) (t : Tok) : (ya prog w).is (.inr x) (.str x t) = true := keyIs_str x t
inductive V where
 | non | bl (b : Bool) | int (i : Int) | str (x : Str) | byt (b : Array UInt8) | flt (b : UInt64) | ref (a : Addr) | ty (n : String)
 deriving DecidableEq
noncomputable def RelV : V → Value → Prop
 | .non, u => u = Value.none
 | .bl b, u => u = Value.bool b
 | .int i, u => ∃ t, u = Value.int i t
 | .str x, u => ∃ t, u = Value.str x t
 | .byt b, u => ∃ t, u = Value.bytes b t
 | .flt b, u => ∃ t, u = Value.float b t
 | .ref a, u => u = Value.ref a
 | .ty n, u => u = Value.type n
noncomputable abbrev Vals : List V → List Value → Prop := Paired RelV
theorem Vals.length {xs : List V} {us : List Value} (r : Vals xs us) : xs.length = us.length := Paired.length r
theorem Vals.get : ∀ {xs : List V} {us : List Value} {i : Nat} {x : V}, Vals xs us → xs[i]? = some x → ∃ u, us[i]? = some u ∧ RelV x u
 | _, _, _, _, .nil, e => by simp at e
 | _, _, 0, _, .cons r _, e => by simp at e; subst e; exact ⟨_, rfl, r⟩
 | _, _, i + 1, x, .cons _ t, e => by
  obtain ⟨u, h1, h2⟩ := Vals.get (i := i) (x := x) t (by simpa using e)
  exact ⟨u, by simpa using h1, h2⟩
theorem Vals.set {x : V} {u : Value} (r : RelV x u) : ∀ {xs : List V} {us : List Value} (i : Nat), Vals xs us → Vals (xs.set i x) (us.set i u)
 | _, _, _, .nil => .nil
 | _, _, 0, .cons _ t => .cons r t
 | _, _, i + 1, .cons q t => .cons q (Vals.set r i t)
theorem Vals.append : ∀ {xs ys : List V} {us ws : List Value}, Vals xs us → Vals ys ws → Vals (xs ++ ys) (us ++ ws)
 | _, _, _, _, .nil, s => s
 | _, _, _, _, .cons r t, s => .cons r (Vals.append t s)
theorem Vals.take : ∀ {xs : List V} {us : List Value} (n : Nat), Vals xs us → Vals (xs.take n) (us.take n)
 | _, _, 0, _ => .nil
 | _, _, _ + 1, .nil => .nil
 | _, _, n + 1, .cons r t => .cons r (Vals.take n t)
theorem Vals.drop : ∀ {xs : List V} {us : List Value} (n : Nat), Vals xs us → Vals (xs.drop n) (us.drop n)
 | _, _, 0, r => r
 | _, _, _ + 1, .nil => .nil
 | _, _, n + 1, .cons _ t => Vals.drop n t
noncomputable def RelO : Option V → Option Value → Prop
 | some v, some u => RelV v u
 | none, none => True
 | _, _ => False
noncomputable def KV {κ : Type} : List (κ × V) → List (κ × Value) → Prop := Paired fun (p : κ × V) (q : κ × Value) => p.1 = q.1 ∧ RelV p.2 q.2
noncomputable def kV : Key → V
 | .inl i => .int i
 | .inr x => .str x
inductive HO where
 | lst (xs : List V)
 | tup (xs : List V)
 | dK (kvs : List (Key × V)) | dT (kvs : List (List Key × V))
 | set (S : Int → Bool) (n : Nat)
 | ins (C dx : Addr) (fs : List (Str × V))
 | own (x : Addr)
 | xd (fs : List (Str × V))
 | met (f x : Addr)
 | rng (lo hi : Int)
 | frz (o : Obj) (u : HO)
 | tbl (ps : Array Value)
 | ext (φ : Heap → Prop)
noncomputable abbrev Hp := Addr → Option HO
noncomputable def upd (H : Hp) (a : Addr) (o : HO) : Hp := fun b => if b = a then some o else H b
theorem zb {H : Hp} {a : Addr} {o : HO} : upd H a o a = some o := by unfold upd; rw [if_pos rfl]
theorem zg {H : Hp} {a b : Addr} {o : HO} (h : b ≠ a) : upd H a o b = H b := by unfold upd; rw [if_neg h]
theorem Zq {H : Hp} {a : Addr} {o u : HO} : upd (upd H a o) a u = upd H a u := by
 funext b; unfold upd; split <;> rfl
theorem vU {H : Hp} {a b : Addr} {o u : HO} (h : H a = some o) (h' : H b = some u) (d : o ≠ u) : a ≠ b := by
 intro e; subst e; rw [h] at h'; exact d (Option.some.inj h')
theorem zi {H : Hp} {a b : Addr} {o : HO} (h : H a = some o) (h' : H b = none) : a ≠ b := by
 intro e; subst e; rw [h] at h'; cases h'
section
variable (P : Program) (w : World)
noncomputable def ObjOk (H : Hp) (h : Heap) (a : Addr) : HO → Prop
 | .lst xs => xs.length ≤ sizeLine ∧ ∃ (its : List Value) (n : Nat), Vals xs its ∧ h.get? a = some { cls := .type "list", data := .seq its.toArray n }
 | .tup xs => xs.length ≤ sizeLine ∧ ∃ its : List Value, Vals xs its ∧ IsTup h a its.toArray
 | .dK kvs => kvs.length ≤ sizeLine ∧ (a == sysModules) = false ∧ ∃ vs, KV kvs vs ∧ h.DictOf (ya P w) a vs
 | .dT kvs => kvs.length ≤ sizeLine ∧ (a == sysModules) = false ∧ ∃ xs : List (List Key × Addr × Value),
   Paired (fun (p : List Key × V) (q : List Key × Addr × Value) => p.1 = q.1 ∧ H q.2.1 = some (.tup (p.1.map kV)) ∧ RelV p.2 q.2.2) kvs xs ∧
   ∃ o es ep, h.get? a = some o ∧ o.ExactDict ∧ o.data = .dict es ep ∧ es.toList = xs.map (entryOfKey (tupleKind (ya P w))) ∧ (xs.map (·.1)).Nodup
 | .set S n => h.SetOf (intKind P w) a S n
 | .ins C dx fs => H dx = some (.own a) ∧ fs.length ≤ 1000 ∧ dx ≠ a ∧ h.get? a = some (PySem.W.instObj C dx) ∧
   ∃ mA, h.Ns1 dx mA ∧ (∀ f, RelO (fs.lookup f) (mA f)) ∧ PySem.Within mA (fs.map (·.1))
 | .own _ => ∃ o, h.get? a = some o
 | .xd fs => ∃ mA, h.Ns1 a mA ∧ ∀ f, RelO (fs.lookup f) (mA f)
 | .rng lo hi => ∃ t u v, h.get? a = some { cls := .type "range", data := .fields #[.int lo t, .int hi u, .int 1 v] }
 | .frz o u => h.get? a = some o ∧ ObjOk H h a u
 | .tbl ps => h.get? a = some { cls := .none, data := .fields ps }
 | .met f x => h.get? a = some (PySem.W.methodObj (.ref f) (.ref x))
 | .ext φ => φ h ∧ (∃ o, h.get? a = some o) ∧ ∀ h1 h2 : Heap, φ h1 → (∀ o, h1.get? a = some o → h2.get? a = some o) → φ h2
noncomputable def HOk (H : Hp) (h : Heap) : Prop := ∀ a o, H a = some o → ObjOk P w H h a o
end
section
variable {P : Program} {w : World} {H H' : Hp} {h h' : Heap} {a : Addr} {o : HO}
theorem ObjOk.lt (x : ObjOk P w H h a o) : a < h.objs.size := by
 cases o with
 | lst xs => obtain ⟨_, _, _, _, e⟩ := x; exact Heap.lt_size e
 | tup xs => obtain ⟨_, _, _, p⟩ := x; exact p.lt
 | dK kvs => obtain ⟨_, _, _, _, o, _, _, e, _⟩ := x; exact Heap.lt_size e
 | dT kvs => obtain ⟨_, _, _, _, o, _, _, e, _⟩ := x; exact Heap.lt_size e
 | set S n => obtain ⟨o, _, _, _, e, _⟩ := x; exact Heap.lt_size e
 | ins C dx fs => obtain ⟨_, _, _, e, _⟩ := x; exact Heap.lt_size e
 | own y => obtain ⟨_, e⟩ := x; exact Heap.lt_size e
 | xd fs => obtain ⟨_, ⟨_, _, _, e, _⟩, _⟩ := x; exact Heap.lt_size e
 | rng lo hi => obtain ⟨_, _, _, e⟩ := x; exact Heap.lt_size e
 | frz ob u => obtain ⟨e, _⟩ := x; exact Heap.lt_size e
 | tbl ps => exact Heap.lt_size (show h.get? a = some _ from x)
 | met f y => exact Heap.lt_size (show h.get? a = some _ from x)
 | ext φ => obtain ⟨_, ⟨_, e⟩, _⟩ := x; exact Heap.lt_size e
theorem Paired.mapP {α β : Type} {F G : α → β → Prop} : ∀ {l₁ : List α} {l₂ : List β}, Paired F l₁ l₂ → (∀ a b, F a b → G a b) → Paired G l₁ l₂
 | _, _, .nil, _ => .nil
 | _, _, .cons r t, f => .cons (f _ _ r) (Paired.mapP t f)
theorem ObjOk.stay (x : ObjOk P w H h a o) (k : ∀ b u, (b = a ∨ H b = some (.own a)) → h.get? b = some u → h'.get? b = some u)
  (ho : ∀ b, H b = some (.own a) → H' b = some (.own a)) (ht : ∀ b xs, H b = some (.tup xs) → H' b = some (.tup xs)) : ObjOk P w H' h' a o := by
 induction o with
 | lst xs => obtain ⟨z, its, n, r, e⟩ := x; exact ⟨z, its, n, r, k _ _ (.inl rfl) e⟩
 | tup xs => obtain ⟨z, its, r, ob, e, c⟩ := x; exact ⟨z, its, r, ob, k _ _ (.inl rfl) e, c⟩
 | dK kvs => obtain ⟨z, y, vs, r, ob, es, ep, e, c⟩ := x; exact ⟨z, y, vs, r, ob, es, ep, k _ _ (.inl rfl) e, c⟩
 | dT kvs =>
  obtain ⟨z, y, xs, r, ob, es, ep, e, c⟩ := x
  exact ⟨z, y, xs, Paired.mapP r fun p q z => ⟨z.1, ht _ _ z.2.1, z.2.2⟩, ob, es, ep, k _ _ (.inl rfl) e, c⟩
 | set S n => obtain ⟨ob, es, ep, t, e, c⟩ := x; exact ⟨ob, es, ep, t, k _ _ (.inl rfl) e, c⟩
 | ins C dx fs =>
  obtain ⟨d, z, ne, e, mA, ⟨od, es, ep, e2, c⟩, r⟩ := x
  exact ⟨ho _ d, z, ne, k _ _ (.inl rfl) e, mA, ⟨od, es, ep, k _ _ (.inr d) e2, c⟩, r⟩
 | own y => obtain ⟨ob, e⟩ := x; exact ⟨ob, k _ _ (.inl rfl) e⟩
 | xd fs => obtain ⟨mA, ⟨od, es, ep, e, c⟩, r⟩ := x; exact ⟨mA, ⟨od, es, ep, k _ _ (.inl rfl) e, c⟩, r⟩
 | rng lo hi => obtain ⟨t, u, v, e⟩ := x; exact ⟨t, u, v, k _ _ (.inl rfl) e⟩
 | frz ob u ih => obtain ⟨e, q⟩ := x; exact ⟨k _ _ (.inl rfl) e, ih q⟩
 | tbl ps =>
  have e : h.get? a = some { cls := .none, data := .fields ps } := x
  show h'.get? a = some { cls := .none, data := .fields ps }
  exact k a _ (.inl rfl) e
 | met f y =>
  have e : h.get? a = some (PySem.W.methodObj (.ref f) (.ref y)) := x
  show h'.get? a = some (PySem.W.methodObj (.ref f) (.ref y))
  exact k a _ (.inl rfl) e
 | ext φ => obtain ⟨p, ⟨o, e⟩, st⟩ := x; exact ⟨st _ _ p fun o q => k _ _ (.inl rfl) q, ⟨o, k _ _ (.inl rfl) e⟩, st⟩
theorem HOk.lt (x : HOk P w H h) (e : H a = some o) : a < h.objs.size := (x a o e).lt
theorem HOk.fresh (x : HOk P w H h) (e : h.objs.size ≤ a) : H a = none := by
 cases q : H a with
 | none => rfl
 | some u => exact absurd (Nat.lt_of_lt_of_le (x.lt q) e) (Nat.lt_irrefl _)
theorem HOk.kept (x : HOk P w H h) (k : ∀ b u, h.get? b = some u → h'.get? b = some u) : HOk P w H h' := fun a o e =>
 (x a o e).stay (fun b u _ q => k b u q) (fun _ q => q) fun _ _ q => q
theorem HOk.laid (x : HOk P w H h) (k : ∀ b u, h.get? b = some u → h'.get? b = some u) (hp : h.objs.size ≤ a) (new : ObjOk P w (upd H a o) h' a o) : HOk P w (upd H a o) h' := fun b u e => by
 have hn := x.fresh hp
 by_cases hb : b = a
 ·subst hb; rw [zb] at e; cases e; exact new
 ·rw [zg hb] at e
  exact (x b u e).stay (fun c v _ q => k c v q) (fun c q => by rw [zg (zi q hn)]; exact q) fun c xs q => by rw [zg (zi q hn)]; exact q
end
noncomputable def Rd (H : Hp) (a : Addr) (u : HO) : Prop := H a = some u ∨ ∃ o, H a = some (.frz o u)
theorem Rd.ok {P : Program} {w : World} {H : Hp} {h : Heap} {a : Addr} {u : HO} (r : Rd H a u) (x : HOk P w H h) : ObjOk P w H h a u := by
 rcases r with r | ⟨o, r⟩
 ·exact x a u r
 ·obtain ⟨_, q⟩ := x a _ r
  exact q
noncomputable def Mut : Option HO → Prop
 | some (.lst _) => True
 | some (.dK _) => True
 | some (.dT _) => True
 | some (.set _ _) => True
 | some (.ins _ _ _) => True
 | some (.ext _) => True
 | _ => False
section
variable {P : Program} {w : World} {H : Hp} {h h' : Heap} {x e : Addr} {o' : HO}
theorem HOk.write (ok : HOk P w H h) (mu : Mut (H x)) (he : e = x ∨ H e = some (.own x)) (k : ∀ b u, b ≠ e → h.get? b = some u → h'.get? b = some u) (heo : ∃ u, h'.get? e = some u)
  (new : ObjOk P w (upd H x o') h' x o') : HOk P w (upd H x o') h' := fun b u q => by
 have nown : ∀ c y, H c = some (.own y) → c ≠ x := fun c y r z => by subst z; rw [r] at mu; exact mu
 have ntup : ∀ c xs, H c = some (.tup xs) → c ≠ x := fun c xs r z => by subst z; rw [r] at mu; exact mu
 by_cases hb : b = x
 ·subst hb; rw [zb] at q; cases q; exact new
 ·rw [zg hb] at q
  by_cases hbe : b = e
  ·have q' : H b = some (.own x) := by
    rcases he with z | z
    ·exact absurd (hbe.trans z) hb
    ·rw [hbe]; exact z
   rw [q] at q'; cases q'
   obtain ⟨v, hv⟩ := heo
   exact ⟨v, by rw [hbe]; exact hv⟩
  ·refine (ok b u q).stay (fun c v hc r => k c v ?_ r) (fun c r => by rw [zg (nown c b r)]; exact r) fun c xs r => by rw [zg (ntup c xs r)]; exact r
   rcases hc with rfl | hc
   ·exact hbe
   ·rintro rfl
    rcases he with z | z
    ·exact nown c b hc z
    ·rw [hc] at z; cases z; exact hb rfl
end
structure Un (fs ex : List Addr) (H H' : Hp) (h h' : Heap) : Prop where
 keep : ∀ b o, h.get? b = some o → H b = none → b ∉ fs → b ∉ ex → h'.get? b = some o
 slot : ∀ b o, h.get? b = some o → H b = none → b ∈ fs → b ∉ ex → ∃ sl, h'.get? b = some { o with slots := sl }
 free : ∀ b o, h.get? b = some o → H b = none → b ∉ ex → H' b = none
 there : ∀ b o, h.get? b = some o → b ∉ ex → ∃ o', h'.get? b = some o'
 tups : ∀ b xs, H b = some (.tup xs) → H' b = some (.tup xs)
 frzs : ∀ b o u, H b = some (.frz o u) → H' b = some (.frz o u)
 tbls : ∀ b ps, H b = some (.tbl ps) → ∃ more, H' b = some (.tbl (ps ++ more))
section
variable {fs fs' ex ex' : List Addr} {H H1 H2 : Hp} {h h1 h2 h' : Heap} {a x e : Addr} {o : HO}
theorem Un.any (u : Un fs ex H H1 h h1) {b : Addr} {ob : Obj} (q : h.get? b = some ob) (n : H b = none) (hx : b ∉ ex) : ∃ sl, h1.get? b = some { ob with slots := sl } := by
 by_cases hb : b ∈ fs
 ·exact u.slot b ob q n hb hx
 ·exact ⟨ob.slots, u.keep b ob q n hb hx⟩
theorem Un.kept (k : ∀ b u, h.get? b = some u → h'.get? b = some u) : Un fs ex H H h h' :=
 ⟨fun b ob q _ _ _ => k b ob q, fun b ob q _ _ _ => ⟨ob.slots, k b ob q⟩, fun _ _ _ n _ => n, fun b ob q _ => ⟨ob, k b ob q⟩, fun _ _ q => q, fun _ _ _ q => q, fun _ ps q => ⟨#[], by rw [q]; simp⟩⟩
theorem Un.refl : Un fs ex H H h h := Un.kept fun _ _ q => q
theorem Un.laid (k : ∀ b u, h.get? b = some u → h'.get? b = some u) (hp : h.objs.size ≤ a) (hn : H a = none) : Un fs ex H (upd H a o) h h' where
 keep := fun b u q _ _ _ => k b u q
 slot := fun b u q _ _ _ => ⟨u.slots, k b u q⟩
 free := fun b u q n _ => by rw [zg (Nat.ne_of_lt (Nat.lt_of_lt_of_le (Heap.lt_size q) hp))]; exact n
 there := fun b u q _ => ⟨u, k b u q⟩
 tups := fun b xs q => by rw [zg (zi q hn)]; exact q
 frzs := fun b u xs q => by rw [zg (zi q hn)]; exact q
 tbls := fun b ps q => ⟨#[], by rw [zg (zi q hn), q]; simp⟩
theorem Un.write (mu : Mut (H x)) (he : e = x ∨ H e = some (.own x)) (k : ∀ b u, b ≠ e → h.get? b = some u → h'.get? b = some u) (heo : ∃ u, h'.get? e = some u) : Un fs ex H (upd H x o) h h' := by
 have hx : ∀ b, H b = none → b ≠ x := fun b n z => by subst z; rw [n] at mu; exact mu
 have hb : ∀ b, H b = none → b ≠ e := fun b n z => by
  subst z
  rcases he with r | r
  ·exact hx b n r
  ·rw [n] at r; cases r
 have hm : ∀ b u, H b = some u → ¬ Mut (some u) → b ≠ x := fun b u q nm z => by subst z; rw [q] at mu; exact nm mu
 refine ⟨fun b u q n _ _ => k b u (hb b n) q, fun b u q n _ _ => ⟨u.slots, k b u (hb b n) q⟩, fun b u q n _ => by rw [zg (hx b n)]; exact n, fun b u q _ => ?_,
  fun b xs q => by rw [zg (hm b _ q fun z => z)]; exact q, fun b u xs q => by rw [zg (hm b _ q fun z => z)]; exact q, fun b ps q => ⟨#[], by rw [zg (hm b _ q fun z => z), q]; simp⟩⟩
 by_cases hbe : b = e
 ·subst hbe; exact heo
 ·exact ⟨u, k b u hbe q⟩
end
noncomputable def trk (h : Heap) (H : Hp) : List Addr := (List.range h.objs.size).filter fun a => (H a).isSome
noncomputable def hidT (h : Heap) (H : Hp) : Heap := PySem.W.hideAll h (trk h H)
theorem hidT_size (h : Heap) (H : Hp) : (hidT h H).objs.size = h.objs.size := PySem.W.hideAll_size _ _
theorem hidT_get {h : Heap} {H : Hp} {b : Addr} {o : Obj} (e : h.get? b = some o) (n : H b = none) : (hidT h H).get? b = some o :=
 PySem.W.hideAll_get _ e fun hm => by
  have q : (H b).isSome = true := (List.mem_filter.mp hm).2
  rw [n] at q; simp at q
theorem of_hidT {h : Heap} {H : Hp} {b : Addr} {o : Obj} (e : (hidT h H).get? b = some o) : h.get? b = some o ∧ H b = none := by
 have e' : h.get? b = some o := PySem.W.of_hideAll (trk h H) e
 refine ⟨e', ?_⟩
 cases q : H b with
 | none => rfl
 | some x =>
  have hm : b ∈ trk h H := List.mem_filter.mpr ⟨List.mem_range.mpr (Heap.lt_size e'), by simp [q]⟩
  have z : (hidT h H).get? b = none := PySem.W.hideAll_none (trk h H) hm
  rw [z] at e; cases e
noncomputable def allNews (g h : Heap) (L : Addr) : List (Addr × Obj) := (List.range h.objs.size).filterMap fun a => if a = L ∨ (g.get? a).isSome = true then none else (h.get? a).map fun o => (a, o)
noncomputable def rest (g h : Heap) (L d : Addr) : List (Addr × Obj) := (allNews g h L).filter fun p => decide (p.1 ≠ d)
structure Mod (K : PySem.W.Frag) (mg : Str → Option Value) (base : Heap) : Prop where
 kin : K.In base
 glob : base.Ns mainGlobals mg
 blt : ∃ mb, base.Ns builtinsNs mb ∧ ∀ x : Str, x ≠ "__name__" → mb x = bootBuiltins x
 nolimit : base.NoLimit
structure Cx where
 prog : Program
 w : World
 K : PySem.W.Frag
 mg : Str → Option Value
 base : Heap
 A : Around
 N : List Str
 s₀ : Shared
 H₀ : Hp
 env : Env
 outer : List Env
 stack : List Env
 ex : List Addr
 fn : Str → Bool
 calm : Bool
 pn : List (Addr × Obj)
 xe : Value → Shared → Prop
noncomputable def frs (l : List Env) : List Addr := l.filterMap (·.frame)
noncomputable abbrev Cx.fs (X : Cx) : List Addr := frs X.outer
noncomputable def Vis (sc : Scope) (x : Str) : Prop := sc.names.lookup x = some .local ∨ sc.names.lookup x = some .cell ∨ sc.names.lookup x = some .free
noncomputable def Loc (sc : Scope) (x : Str) : Prop := sc.names.lookup x = some .local ∨ sc.names.lookup x = some .cell
noncomputable def Look (env : Env) (h : Heap) (m : Str → Option Value) (x : Str) (u : Value) : Prop :=
 (env.kindOf x = some .local ∧ m x = some u) ∨ ((env.kindOf x = some .cell ∨ env.kindOf x = some .free) ∧ ∃ c, env.cells.lookup x = some c ∧ h.IsCell c (some u))
structure Cx.Ok (X : Cx) : Prop where
 mod : Mod X.K X.mg X.base
 kind : X.env.scope.kind = .function
 glob : X.env.globals = mainGlobals
 blt : X.env.builtins = builtinsNs
 above : X.s₀.heap.objs.size ≤ X.env.locals
 inj : ∀ x y c, X.env.cells.lookup x = some c → X.env.cells.lookup y = some c → x = y
 has : ∀ x, (X.env.kindOf x = some .cell ∨ X.env.kindOf x = some .free) → ∃ c, X.env.cells.lookup x = some c
 cab : ∀ x c, X.fn x = true → X.env.cells.lookup x = some c → X.s₀.heap.objs.size ≤ c
 hd : X.calm = true → X.A.handled = none
 frames : X.A.frames = some X.stack
 stk : X.stack = X.outer ∨ (X.stack = X.env :: X.outer ∧ X.env.frame = some X.env.locals)
 exf : ∀ b ∈ X.ex, b ≠ X.env.locals ∧ ∀ x c, X.env.cells.lookup x = some c → c ≠ b
 bs : ∀ b o, X.base.get? b = some o → X.s₀.heap.get? b = some o ∧ X.H₀ b = none
 bsz : X.base.objs.size ≤ X.s₀.heap.objs.size
 noex : ∀ b o, X.base.get? b = some o → b ∉ X.ex
 exfs : ∀ b ∈ X.ex, b ∉ X.fs
 funs : X.s₀.heap.FunFrames X.base X.outer
 frf : ∀ b ∈ X.fs, X.H₀ b = none
structure Inv (X : Cx) (pins : List (Addr × Obj)) (σ : List (Option V)) (H : Hp) (s : Shared) : Prop where
 ok : X.Ok
 os : s.os = X.s₀.os
 bare : AllBare s.gens
 base : Un X.fs X.ex X.H₀ H X.s₀.heap s.heap
 loc : ∃ m, s.heap.Ns X.env.locals m ∧ ∀ (i : Nat) (x : Str) (v : V), X.N[i]? = some x → σ[i]? = some (some v) → Vis X.env.scope x → ∃ u, RelV v u ∧ Look X.env s.heap m x u
 cell : ∀ x c, X.env.cells.lookup x = some c → ∃ v, s.heap.IsCell c v
 free : H X.env.locals = none
 freeC : ∀ x c, X.env.cells.lookup x = some c → H c = none
 pin : ∀ p ∈ X.pn ++ pins, s.heap.get? p.1 = some p.2 ∧ H p.1 = none ∧ p.1 ≠ X.env.locals ∧ p.1 ∉ X.fs ∧ ∀ v, p.2.data ≠ .cell v
 hok : HOk X.prog X.w H s.heap
 len : σ.length = X.N.length
section
variable {X : Cx} {pins : List (Addr × Obj)} {σ : List (Option V)} {H H' : Hp} {s : Shared} {h' : Heap}
theorem Cx.Ok.nofr (ok : X.Ok) {b : Addr} {o : Obj} (e : X.base.get? b = some o) : b ∉ X.fs := fun hb => by
 have := (ok.funs.mem hb).1
 rw [e] at this; cases this
theorem Inv.bs (I : Inv X pins σ H s) : ∀ b o, X.base.get? b = some o → s.heap.get? b = some o ∧ H b = none := fun b o e =>
 ⟨I.base.keep b o (I.ok.bs b o e).1 (I.ok.bs b o e).2 (I.ok.nofr e) (I.ok.noex b o e), I.base.free b o (I.ok.bs b o e).1 (I.ok.bs b o e).2 (I.ok.noex b o e)⟩
theorem Inv.bk (I : Inv X pins σ H s) : ∀ b o, X.base.get? b = some o → s.heap.get? b = some o := fun b o e => (I.bs b o e).1
theorem Inv.mod (I : Inv X pins σ H s) : Mod X.K X.mg X.base := I.ok.mod
theorem Inv.kIn (I : Inv X pins σ H s) : X.K.In s.heap := I.ok.mod.kin.keeps I.bk
theorem Inv.lt (I : Inv X pins σ H s) : X.env.locals < s.heap.objs.size := let ⟨_, hn, _⟩ := I.loc; hn.lt
theorem Inv.sz (I : Inv X pins σ H s) : X.s₀.heap.objs.size ≤ s.heap.objs.size := Nat.le_trans I.ok.above (Nat.le_of_lt I.lt)
theorem Inv.nofs (I : Inv X pins σ H s) {a : Addr} (h : s.heap.objs.size ≤ a) : a ∉ X.fs := fun hb => by
 obtain ⟨_, o, ho, _⟩ := I.ok.funs.mem hb
 exact absurd (Nat.lt_of_lt_of_le (Heap.lt_size ho) (Nat.le_trans I.sz h)) (Nat.lt_irrefl _)
theorem Inv.cne (I : Inv X pins σ H s) : ∀ x c, X.env.cells.lookup x = some c → c ≠ X.env.locals := fun x c e z => by
 obtain ⟨v, o, ho, hd⟩ := I.cell x c e
 obtain ⟨m, ⟨o', es, ep, ho', hd', _⟩, _⟩ := I.loc
 rw [z, ho'] at ho; cases ho; rw [hd'] at hd; cases hd
theorem Inv.funs (I : Inv X pins σ H s) : s.heap.FunFrames X.base X.outer := by
 have all : ∀ (l : List Env), (∀ b ∈ frs l, b ∈ X.fs) → X.s₀.heap.FunFrames X.base l → s.heap.FunFrames X.base l := by
  intro l
  induction l with
  | nil => intro _ _; trivial
  | cons env r ih =>
   intro hs hl
   obtain ⟨hk, ⟨L, o, hf, hn, ho, hd⟩, hr⟩ := hl
   have hL : L ∈ X.fs := hs L (by unfold frs; rw [List.filterMap_cons, hf]; exact List.mem_cons_self)
   obtain ⟨sl, e⟩ := I.base.slot L o ho (I.ok.frf L hL) hL fun z => I.ok.exfs L z hL
   exact ⟨hk, ⟨L, _, hf, hn, e, hd⟩, ih (fun b hb => hs b (by unfold frs; rw [List.filterMap_cons, hf]; exact List.mem_cons_of_mem _ hb)) hr⟩
 exact all X.outer (fun _ hb => hb) I.ok.funs
theorem Inv.stack (I : Inv X pins σ H s) : s.heap.FunFrames X.base X.stack := by
 rcases I.ok.stk with e | ⟨e, hf⟩
 ·rw [e]; exact I.funs
 ·rw [e]
  obtain ⟨m, hn, _⟩ := I.loc
  refine .cons (by rw [I.ok.kind]; decide) hf hn ?_ I.funs
  exact Heap.get?_none_of_le (Nat.le_trans I.ok.bsz I.ok.above)
theorem Inv.stkSub (I : Inv X pins σ H s) : ∀ b ∈ frs X.stack, b ∈ X.env.locals :: X.fs := fun b hb => by
 rcases I.ok.stk with e | ⟨e, hf⟩
 ·rw [e] at hb; exact List.mem_cons_of_mem _ hb
 ·rw [e] at hb
  unfold frs at hb
  rw [List.filterMap_cons, hf] at hb
  exact hb
theorem Inv.stkFree (I : Inv X pins σ H s) : ∀ b ∈ frs X.stack, H b = none := fun b hb => by
 rcases List.mem_cons.mp (I.stkSub b hb) with e | hb
 ·rw [e]; exact I.free
 ·obtain ⟨_, o, ho, _⟩ := I.ok.funs.mem hb
  exact I.base.free b o ho (I.ok.frf b hb) fun z => I.ok.exfs b z hb
theorem Inv.step {g' : Array GenState} {t' : Nat} {d' : Drawn} {ch : List Addr} (I : Inv X pins σ H s)
  (hch : ∀ b ∈ ch, (b ∈ X.ex ∨ X.s₀.heap.objs.size ≤ b) ∧ b ≠ X.env.locals ∧ (∀ x c, X.env.cells.lookup x = some c → c ≠ b) ∧ ∀ p ∈ X.pn ++ pins, p.1 ≠ b)
  (keep : ∀ b o, b ≠ X.env.locals → b ∉ X.fs → b ∉ ch → s.heap.get? b = some o → H b = none → h'.get? b = some o)
  (slot : ∀ b o, b ≠ X.env.locals → b ∈ X.fs → b ∉ ch → s.heap.get? b = some o → H b = none → ∃ sl, h'.get? b = some { o with slots := sl }) (free : ∀ b o, b ∉ ch → s.heap.get? b = some o → H b = none → H' b = none)
  (there : ∀ b o, b ∉ ch → s.heap.get? b = some o → ∃ o', h'.get? b = some o')
  (tups : ∀ b xs, H b = some (.tup xs) → H' b = some (.tup xs)) (frzs : ∀ b o u, H b = some (.frz o u) → H' b = some (.frz o u)) (tbls : ∀ b ps, H b = some (.tbl ps) → ∃ more, H' b = some (.tbl (ps ++ more)))
  (ns : ∀ m, s.heap.Ns X.env.locals m → h'.Ns X.env.locals m) (hok : HOk X.prog X.w H' h') (hg : AllBare g') :
  Inv X pins σ H' { s with heap := h', gens := g', drawn := d', toks := t' } := by
 have neL : ∀ b o, X.s₀.heap.get? b = some o → b ≠ X.env.locals := fun b o e => Nat.ne_of_lt (Nat.lt_of_lt_of_le (Heap.lt_size e) I.ok.above)
 have neC : ∀ b o, X.s₀.heap.get? b = some o → b ∉ X.ex → b ∉ ch := fun b o e hx hb => by
  rcases (hch b hb).1 with z | z
  ·exact hx z
  ·exact absurd (Nat.lt_of_lt_of_le (Heap.lt_size e) z) (Nat.lt_irrefl _)
 have cellK : ∀ x c, X.env.cells.lookup x = some c → ∀ v, s.heap.IsCell c v → h'.IsCell c v := fun x c e v ⟨o, ho, hd⟩ => by
  have nch : c ∉ ch := fun z => (hch c z).2.2.1 x c e rfl
  by_cases hc : c ∈ X.fs
  ·obtain ⟨sl, q⟩ := slot c o (I.cne x c e) hc nch ho (I.freeC x c e)
   exact ⟨_, q, hd⟩
  ·exact ⟨o, keep c o (I.cne x c e) hc nch ho (I.freeC x c e), hd⟩
 refine ⟨I.ok, I.os, hg, ⟨fun b o e n hb hx => ?_, fun b o e n hb hx => ?_, fun b o e n hx => ?_, fun b o e hx => ?_, fun b xs e => tups b xs (I.base.tups b xs e), fun b o xs e => frzs b o xs (I.base.frzs b o xs e), fun b ps e => ?_⟩, ?_, fun x c e => ?_, ?_, fun x c e => ?_, fun p hp => ?_, hok, I.len⟩
 ·exact keep b o (neL b o e) hb (neC b o e hx) (I.base.keep b o e n hb hx) (I.base.free b o e n hx)
 ·obtain ⟨sl, e1⟩ := I.base.slot b o e n hb hx
  obtain ⟨sl', e2⟩ := slot b _ (neL b o e) hb (neC b o e hx) e1 (I.base.free b o e n hx)
  exact ⟨sl', e2⟩
 ·obtain ⟨o', e1⟩ := I.base.there b o e hx
  exact free b o' (neC b o e hx) e1 (I.base.free b o e n hx)
 ·obtain ⟨o', e1⟩ := I.base.there b o e hx
  exact there b o' (neC b o e hx) e1
 ·obtain ⟨m1, e1⟩ := I.base.tbls b ps e
  obtain ⟨m2, e2⟩ := tbls b _ e1
  exact ⟨m1 ++ m2, by rw [e2, Array.append_assoc]⟩
 ·obtain ⟨m, hn, hl⟩ := I.loc
  refine ⟨m, ns m hn, fun i x v e1 e2 e3 => ?_⟩
  obtain ⟨u, r, l⟩ := hl i x v e1 e2 e3
  refine ⟨u, r, ?_⟩
  rcases l with l | ⟨k, c, e, z⟩
  ·exact .inl l
  ·exact .inr ⟨k, c, e, cellK x c e _ z⟩
 ·obtain ⟨v, z⟩ := I.cell x c e
  exact ⟨v, cellK x c e v z⟩
 ·obtain ⟨m, ⟨o, _, _, ho, _⟩, _⟩ := I.loc
  exact free _ o (fun z => (hch _ z).2.1 rfl) ho I.free
 ·obtain ⟨v, o, ho, hd⟩ := I.cell x c e
  exact free c o (fun z => (hch c z).2.2.1 x c e rfl) ho (I.freeC x c e)
 ·obtain ⟨e, n, ne, nf, d⟩ := I.pin p hp
  have nch : p.1 ∉ ch := fun z => (hch p.1 z).2.2.2 p hp rfl
  exact ⟨keep p.1 p.2 ne nf nch e n, free p.1 p.2 nch e n, ne, nf, d⟩
theorem Inv.un {t' : Nat} (I : Inv X pins σ H s) (u : Un X.fs [] H H' s.heap h') (hok : HOk X.prog X.w H' h') : Inv X pins σ H' { s with heap := h', toks := t' } := by
 obtain ⟨m, ⟨o, es, ep, ho, r⟩, _⟩ := id I.loc
 obtain ⟨sl, hL⟩ := u.any ho I.free (by simp)
 exact I.step (g' := s.gens) (d' := s.drawn) (ch := []) (fun _ z => nomatch z) (fun b o _ hb _ e n => u.keep b o e n hb (by simp)) (fun b o _ hb _ e n => u.slot b o e n hb (by simp)) (fun b o _ e n => u.free b o e n (by simp)) (fun b o _ e => u.there b o e (by simp)) u.tups u.frzs u.tbls (fun m' hm => by
  obtain ⟨o', es', ep', ho', r'⟩ := hm
  rw [ho] at ho'; cases ho'
  exact ⟨_, es', ep', hL, r'⟩) hok I.bare
theorem Inv.call {g' : Array GenState} {t' : Nat} {d' : Drawn} {ch : List Addr} (I : Inv X pins σ H s) (u : Un (frs X.stack) ch H H' s.heap h') (hok : HOk X.prog X.w H' h') (hg : AllBare g')
  (hch : ∀ b ∈ ch, (b ∈ X.ex ∨ X.s₀.heap.objs.size ≤ b) ∧ b ≠ X.env.locals ∧ (∀ x c, X.env.cells.lookup x = some c → c ≠ b) ∧ ∀ p ∈ X.pn ++ pins, p.1 ≠ b) :
  Inv X pins σ H' { s with heap := h', gens := g', drawn := d', toks := t' } := by
 obtain ⟨m, ⟨o, es, ep, ho, r⟩, _⟩ := id I.loc
 obtain ⟨sl, hL⟩ := u.any ho I.free fun z => (hch _ z).2.1 rfl
 exact I.step (ch := ch) hch (fun b o hL hb hc e n => u.keep b o e n (fun z => (List.mem_cons.mp (I.stkSub b z)).elim hL hb) hc) (fun b o _ _ hc e n => u.any e n hc) (fun b o hc e n => u.free b o e n hc) (fun b o hc e => u.there b o e hc) u.tups u.frzs u.tbls (fun m' hm => by
  obtain ⟨o', es', ep', ho', r'⟩ := hm
  rw [ho] at ho'; cases ho'
  exact ⟨_, es', ep', hL, r'⟩) hok hg
theorem Inv.turned {t' : Nat} {it : Addr} (I : Inv X pins σ H s) (k : ∀ b o, b ≠ it → s.heap.get? b = some o → h'.get? b = some o) (hn : H it = none) (hL : it ≠ X.env.locals)
  (h1 : it ∈ X.ex ∨ X.s₀.heap.objs.size ≤ it) (h2 : ∀ x c, X.env.cells.lookup x = some c → c ≠ it) (h3 : ∀ p ∈ X.pn ++ pins, p.1 ≠ it) : Inv X pins σ H { s with heap := h', toks := t' } := by
 have nit : ∀ b u, H b = some u → b ≠ it := fun b u e z => by rw [z, hn] at e; cases e
 refine I.step (g' := s.gens) (d' := s.drawn) (ch := [it]) (fun b hb => ?_) (fun b o _ _ hc e _ => k b o (fun z => hc (by simp [z])) e) (fun b o _ _ hc e _ => ⟨o.slots, k b o (fun z => hc (by simp [z])) e⟩) (fun _ _ _ _ n => n)
  (fun b o hc e => ⟨o, k b o (fun z => hc (by simp [z])) e⟩) (fun _ _ e => e) (fun _ _ _ e => e) (fun b ps e => ⟨#[], by rw [e]; simp⟩) (fun m hm => ?_) (fun b u e => ?_) I.bare
 ·have e : b = it := by simpa using hb
  subst e
  exact ⟨h1, hL, h2, h3⟩
 ·obtain ⟨o, es, ep, ho, r⟩ := hm
  exact ⟨o, es, ep, k _ o (Ne.symm hL) ho, r⟩
 ·refine (I.hok b u e).stay (fun c v hc q => k c v ?_ q) (fun _ q => q) fun _ _ q => q
  rcases hc with z | z
  ·rw [z]; exact nit b u e
  ·exact nit c _ z
theorem Inv.tok (I : Inv X pins σ H s) (t : Nat) : Inv X pins σ H { s with toks := t } := I.un (h' := s.heap) (t' := t) Un.refl I.hok
theorem Inv.kept {t' : Nat} (I : Inv X pins σ H s) (k : ∀ b u, s.heap.get? b = some u → h'.get? b = some u) : Inv X pins σ H { s with heap := h', toks := t' } := I.un (Un.kept k) (I.hok.kept k)
theorem Inv.laid {a : Addr} {o : HO} {t' : Nat} (I : Inv X pins σ H s) (k : ∀ b u, s.heap.get? b = some u → h'.get? b = some u) (hp : s.heap.objs.size ≤ a) (new : ObjOk X.prog X.w (upd H a o) h' a o) :
  Inv X pins σ (upd H a o) { s with heap := h', toks := t' } := I.un (Un.laid k hp (I.hok.fresh hp)) (I.hok.laid k hp new)
theorem Inv.write {x e : Addr} {o : HO} {t' : Nat} (I : Inv X pins σ H s) (mu : Mut (H x)) (he : e = x ∨ H e = some (.own x)) (k : ∀ b u, b ≠ e → s.heap.get? b = some u → h'.get? b = some u) (heo : ∃ u, h'.get? e = some u)
  (new : ObjOk X.prog X.w (upd H x o) h' x o) : Inv X pins σ (upd H x o) { s with heap := h', toks := t' } := I.un (Un.write mu he k heo) (I.hok.write mu he k heo new)
theorem Inv.pins_of {pins' : List (Addr × Obj)} (I : Inv X pins σ H s) (h : ∀ p ∈ pins', s.heap.get? p.1 = some p.2 ∧ H p.1 = none ∧ p.1 ≠ X.env.locals ∧ p.1 ∉ X.fs ∧ ∀ v, p.2.data ≠ .cell v) : Inv X pins' σ H s :=
 ⟨I.ok, I.os, I.bare, I.base, I.loc, I.cell, I.free, I.freeC, fun p hp => (List.mem_append.mp hp).elim (fun z => I.pin p (List.mem_append_left _ z)) (h p), I.hok, I.len⟩
theorem vA {N : List Str} (hN : N.Nodup) {i j : Nat} {x : Str} (a : N[i]? = some x) (b : N[j]? = some x) : i = j := by
 obtain ⟨h1, e1⟩ := List.getElem?_eq_some_iff.mp a
 obtain ⟨h2, e2⟩ := List.getElem?_eq_some_iff.mp b
 exact (List.getElem_inj hN).mp (e1.trans e2.symm)
theorem vL {M : Model} {A : Around} {E : Value → Shared → Prop} {i : Nat} {x : Str} {v : V} {u : Value} {Q : Unit → Shared → Prop} (I : Inv X pins σ H s) (hN : X.N.Nodup) (hi : X.N[i]? = some x) (hx : Loc X.env.scope x) (r : RelV v u)
  (h : ∀ s', Inv X pins (σ.set i (some v)) H s' → (∃ a, Heap.SameBut a s.heap s'.heap ∧ (a = X.env.locals ∨ X.env.cells.lookup x = some a)) → Q () s') (hf : X.fn x = true ∨ X.env.scope.names.lookup x = some .local := by first | exact .inl rfl | exact .inr rfl | assumption) : wpAny M A (storeName X.env x u) Q E s := by
 obtain ⟨m, hn, hl⟩ := id I.loc
 have hcls : (X.env.scope.kind == .class || (X.env.scope.kind == .module && X.env.locals != X.env.globals)) = false := by rw [I.ok.kind]; rfl
 have hiσ : i < σ.length := by rw [I.len]; exact (List.getElem?_eq_some_iff.mp hi).1
 have cne := I.cne
 have tracked : ∀ {a : Addr} {h' : Heap}, (∃ o, s.heap.get? a = some o ∧ H a = none) → Heap.SameBut a s.heap h' → HOk X.prog X.w H h' := fun {a h'} ha hs b ob e => by
  obtain ⟨_, _, hfree⟩ := ha
  refine (I.hok b ob e).stay (fun c w' hc q => (hs.2 c ?_).trans q) (fun _ q => q) fun _ _ q => q
  rintro rfl
  rcases hc with rfl | hc
  ·rw [hfree] at e; cases e
  ·rw [hfree] at hc; cases hc
 rcases hx with hk | hk
 ·refine wpAny_storeName_local hk hn (fun h' hn' hs => ?_) hcls
  obtain ⟨oL, _, _, hoL, _⟩ := id hn
  refine h _ ⟨I.ok, I.os, I.bare, ⟨fun b o e n hb hx => ?_, fun b o e n hb hx => ?_, I.base.free, fun b o e hx => ?_, I.base.tups, I.base.frzs, I.base.tbls⟩, ⟨_, hn', fun j y v' e1 e2 e3 => ?_⟩, fun y c e => ?_, I.free, I.freeC, fun p hp => ?_, tracked ⟨oL, hoL, I.free⟩ hs, by simpa using I.len⟩ ⟨_, hs, .inl rfl⟩
  ·exact (hs.2 b (Nat.ne_of_lt (Nat.lt_of_lt_of_le (Heap.lt_size e) I.ok.above))).trans (I.base.keep b o e n hb hx)
  ·obtain ⟨sl, e1⟩ := I.base.slot b o e n hb hx
   exact ⟨sl, (hs.2 b (Nat.ne_of_lt (Nat.lt_of_lt_of_le (Heap.lt_size e) I.ok.above))).trans e1⟩
  ·obtain ⟨o', e1⟩ := I.base.there b o e hx
   exact ⟨o', (hs.2 b (Nat.ne_of_lt (Nat.lt_of_lt_of_le (Heap.lt_size e) I.ok.above))).trans e1⟩
  ·by_cases hj : j = i
   ·subst hj
    rw [hi] at e1; cases e1
    rw [List.getElem?_set_self hiσ] at e2
    cases e2
    exact ⟨u, r, .inl ⟨hk, by simp⟩⟩
   ·rw [List.getElem?_set_ne (Ne.symm hj)] at e2
    obtain ⟨u', r', q⟩ := hl j y v' e1 e2 e3
    refine ⟨u', r', ?_⟩
    rcases q with ⟨k, e⟩ | ⟨k, c, e, z⟩
    ·refine .inl ⟨k, ?_⟩
     have : y ≠ x := fun e => hj (vA hN e1 (e ▸ hi))
     simp [this, e]
    ·exact .inr ⟨k, c, e, z.sameBut hs (cne y c e)⟩
  ·obtain ⟨w', z⟩ := I.cell y c e
   exact ⟨w', z.sameBut hs (cne y c e)⟩
  ·obtain ⟨e, n, ne, nf, d⟩ := I.pin p hp
   exact ⟨(hs.2 p.1 ne).trans e, n, ne, nf, d⟩
 ·have hfn : X.fn x = true := by
   rcases hf with z | z
   ·exact z
   ·rw [z] at hk; cases hk
  obtain ⟨c, hc⟩ := I.ok.has x (.inl hk)
  obtain ⟨w', z⟩ := I.cell x c hc
  refine wpAny_storeName_cell I.ok.kind hk hc z (fun h' hc' hs => ?_)
  obtain ⟨oc, hoc, hocd⟩ := id z
  refine h { s with heap := h' } ⟨I.ok, I.os, I.bare, ⟨fun b o e n hb hx => ?_, fun b o e n hb hx => ?_, I.base.free, fun b o e hx => ?_, I.base.tups, I.base.frzs, I.base.tbls⟩, ⟨m, hn.sameBut hs (Ne.symm (cne x c hc)), fun j y v' e1 e2 e3 => ?_⟩, fun y c' e => ?_, I.free, I.freeC, fun p hp => ?_, tracked ⟨oc, hoc, I.freeC x c hc⟩ hs, by simpa using I.len⟩ ⟨c, hs, .inr hc⟩
  ·exact (hs.2 b (Nat.ne_of_lt (Nat.lt_of_lt_of_le (Heap.lt_size e) (I.ok.cab x c hfn hc)))).trans (I.base.keep b o e n hb hx)
  ·obtain ⟨sl, e1⟩ := I.base.slot b o e n hb hx
   exact ⟨sl, (hs.2 b (Nat.ne_of_lt (Nat.lt_of_lt_of_le (Heap.lt_size e) (I.ok.cab x c hfn hc)))).trans e1⟩
  ·obtain ⟨o', e1⟩ := I.base.there b o e hx
   exact ⟨o', (hs.2 b (Nat.ne_of_lt (Nat.lt_of_lt_of_le (Heap.lt_size e) (I.ok.cab x c hfn hc)))).trans e1⟩
  ·by_cases hj : j = i
   ·subst hj
    rw [hi] at e1; cases e1
    rw [List.getElem?_set_self hiσ] at e2
    cases e2
    exact ⟨u, r, .inr ⟨.inl hk, c, hc, hc'⟩⟩
   ·rw [List.getElem?_set_ne (Ne.symm hj)] at e2
    obtain ⟨u', r', q⟩ := hl j y v' e1 e2 e3
    refine ⟨u', r', ?_⟩
    rcases q with q | ⟨k, c', e, z'⟩
    ·exact .inl q
    ·refine .inr ⟨k, c', e, z'.sameBut hs ?_⟩
     rintro rfl
     exact hj (vA hN e1 (I.ok.inj _ _ _ e hc ▸ hi))
  ·by_cases hcc : c' = c
   ·subst hcc; exact ⟨_, hc'⟩
   ·obtain ⟨w2, z2⟩ := I.cell y c' e
    exact ⟨w2, z2.sameBut hs hcc⟩
  ·obtain ⟨e, n, ne, nf, d⟩ := I.pin p hp
   refine ⟨(hs.2 p.1 ?_).trans e, n, ne, nf, d⟩
   intro q
   rw [q, hoc] at e
   have q' : oc = p.2 := Option.some.inj e
   exact d w' (by rw [← q']; exact hocd)
theorem wn {M : Model} {A : Around} {E : Value → Shared → Prop} {i : Nat} {x : Str} {v : V} {u : Value} {Q : Unit → Shared → Prop} (I : Inv X pins σ H s) (hN : X.N.Nodup) (hi : X.N[i]? = some x) (hx : Loc X.env.scope x) (r : RelV v u)
  (h : ∀ s', Inv X pins (σ.set i (some v)) H s' → Q () s') (hf : X.fn x = true ∨ X.env.scope.names.lookup x = some .local := by first | exact .inl rfl | exact .inr rfl | assumption) : wpAny M A (storeName X.env x u) Q E s :=
 vL I hN hi hx r (fun s' I' _ => h s' I') hf
theorem Inv.call' {s' : Shared} {ch : List Addr} (I : Inv X pins σ H s) (ho : s'.os = s.os) (u : Un (frs X.stack) ch H H' s.heap s'.heap) (hok : HOk X.prog X.w H' s'.heap) (hg : AllBare s'.gens)
  (hch : ∀ b ∈ ch, (b ∈ X.ex ∨ X.s₀.heap.objs.size ≤ b) ∧ b ≠ X.env.locals ∧ (∀ x c, X.env.cells.lookup x = some c → c ≠ b) ∧ ∀ p ∈ X.pn ++ pins, p.1 ≠ b) : Inv X pins σ H' s' := by
 obtain ⟨h', g', d', t', o'⟩ := s'
 have e : o' = s.os := ho
 subst e
 exact I.call (g' := g') (t' := t') (d' := d') u hok hg hch
end
noncomputable abbrev XK := Value → Option Addr → Hp → Prop
noncomputable abbrev St := List (Option V)
noncomputable abbrev VK := V → Hp → Prop
noncomputable abbrev TE := St → Hp → VK → Prop
noncomputable abbrev TT := St → Hp → (Bool → Hp → Prop) → Prop
noncomputable abbrev TA := St → Hp → (List V → Hp → Prop) → Prop
structure Ends where
 nx : St → Hp → Prop
 rt : VK
 bk : St → Hp → Prop := fun _ _ => False
 ct : St → Hp → Prop := fun _ _ => False
noncomputable abbrev TS := Ends → St → Hp → Prop
noncomputable def EP (X : Cx) (pins : List (Addr × Obj)) (σ : St) (Q : VK) (u : Value) (s' : Shared) : Prop := ∃ v H', Inv X pins σ H' s' ∧ RelV v u ∧ Q v H'
noncomputable def TP (X : Cx) (pins : List (Addr × Obj)) (σ : St) (Q : Bool → Hp → Prop) (b : Bool) (s' : Shared) : Prop := ∃ H', Inv X pins σ H' s' ∧ Q b H'
noncomputable def AP (X : Cx) (pins : List (Addr × Obj)) (σ : St) (Q : List V → Hp → Prop) (us : List Value) (s' : Shared) : Prop := ∃ vs H', Inv X pins σ H' s' ∧ Vals vs us ∧ Q vs H'
noncomputable def SP (X : Cx) (pins : List (Addr × Obj)) (D : Ends) (f : Flow) (s' : Shared) : Prop :=
 match f with
 | .next => ∃ σ' H', Inv X pins σ' H' s' ∧ D.nx σ' H'
 | .brk => ∃ σ' H', Inv X pins σ' H' s' ∧ D.bk σ' H'
 | .cont => ∃ σ' H', Inv X pins σ' H' s' ∧ D.ct σ' H'
 | .ret u => ∃ v σ' H', Inv X pins σ' H' s' ∧ RelV v u ∧ D.rt v H'
noncomputable def PE (X : Cx) (e : Expr) (t : TE) : Prop :=
 ∀ (pins : List (Addr × Obj)) (s : Shared) (σ : St) (H : Hp) (Q : VK), Inv X pins σ H s → t σ H Q → wpAny (model X.prog X.w) X.A (eval e X.env) (EP X pins σ Q) X.xe s
noncomputable def PT (X : Cx) (e : Expr) (t : TT) : Prop :=
 ∀ (pins : List (Addr × Obj)) (s : Shared) (σ : St) (H : Hp) (Q : Bool → Hp → Prop), Inv X pins σ H s → t σ H Q → wpAny (model X.prog X.w) X.A (isTrue e X.env (eval e X.env)) (TP X pins σ Q) X.xe s
noncomputable def PW (X : Cx) (e : Expr) (t : TT) : Prop :=
 ∀ (whole : Sem Value) (pins : List (Addr × Obj)) (s : Shared) (σ : St) (H : Hp) (Q : Bool → Hp → Prop), Inv X pins σ H s → t σ H Q → wpAny (model X.prog X.w) X.A (isTrue e X.env whole) (TP X pins σ Q) X.xe s
theorem PW.pt {X : Cx} {e : Expr} {t : TT} (h : PW X e t) : PT X e t := h _
noncomputable def PA (X : Cx) (es : List Expr) (t : TA) : Prop :=
 ∀ (pos : Pos) (pins : List (Addr × Obj)) (s : Shared) (σ : St) (H : Hp) (Q : List V → Hp → Prop), Inv X pins σ H s → t σ H Q → wpAny (model X.prog X.w) X.A (spliced (backTo pos (starEach es X.env))) (AP X pins σ Q) X.xe s
noncomputable def PS (X : Cx) (st : Stmt) (t : TS) : Prop :=
 ∀ (pins : List (Addr × Obj)) (s : Shared) (σ : St) (H : Hp) (D : Ends), Inv X pins σ H s → t D σ H → wpAny (model X.prog X.w) X.A (exec st X.env) (SP X pins D) X.xe s
noncomputable def PSs (X : Cx) (st : List Stmt) (t : TS) : Prop :=
 ∀ (pins : List (Addr × Obj)) (s : Shared) (σ : St) (H : Hp) (D : Ends), Inv X pins σ H s → t D σ H → wpAny (model X.prog X.w) X.A (execs st X.env) (SP X pins D) X.xe s
theorem thn {α : Type} {t : Sem α} {Q Q' : α → Shared → Prop} {M : Model} {A : Around} {E : Value → Shared → Prop} {s : Shared} (h : wpAny M A t Q E s) (hQ : ∀ a s, Q a s → Q' a s) : wpAny M A t Q' E s := wpAny_mono h hQ fun _ _ x => x
section
variable {X : Cx}
noncomputable def tVar (i : Nat) : TE := fun σ H Q => ∃ v, σ[i]? = some (some v) ∧ Q v H
noncomputable def tC (v : V) : TE := fun _ H Q => Q v H
theorem YD {i : Nat} {x : Str} {pos : Pos} (hN : X.N[i]? = some x) (hv : Vis X.env.scope x) (hd : (x == ("__debug__" : Str)) = false := by decide) (hcd : (x == ("__classdict__" : Str)) = false := by decide) : PE X (.Name x pos) (tVar i) := by
 intro pins s σ H Q I h
 obtain ⟨v, e, h⟩ := h
 obtain ⟨m, hn, hl⟩ := I.loc
 obtain ⟨u, r, l⟩ := hl i x v hN e hv
 have fin : EP X pins σ Q u s := ⟨v, H, I, r, h⟩
 rcases l with ⟨hk, hm⟩ | ⟨hk, c, hc, hcell⟩
 ·exact wpAny_Name (wpAny_loadName_local I.ok.kind hk hn hm fin) hd
 ·rcases hk with hk | hk
  ·exact wpAny_Name (wpAny_loadName_cell I.ok.kind hk hc hcell fin) hd
  ·exact wpAny_Name (wpAny_loadName_free I.ok.kind hk hc hcell fin hcd) hd
theorem zd {i j pos} : PE X (.Constant (.int i) j pos) (tC (.int i)) := fun _ _ _ H _ I h => wpAny_Constant_int ⟨.int i, H, I.tok _, ⟨_, rfl⟩, h⟩
theorem wU {b j pos} : PE X (.Constant (.bool b) j pos) (tC (.bl b)) := fun _ _ _ H _ I h => Constant_bool ⟨.bl b, H, I, rfl, h⟩
theorem wJ {j pos} : PE X (.Constant .none j pos) (tC .non) := fun _ _ _ H _ I h => Constant_none ⟨.non, H, I, rfl, h⟩
theorem zn {x j pos} : PE X (.Constant (.str x) j pos) (tC (.str x)) := fun _ _ _ H _ I h => Calls.Constant_str ⟨.str x, H, I.tok _, ⟨_, rfl⟩, h⟩
noncomputable def Gl (X : Cx) (x : Str) : Prop := X.env.kindOf x = some .globalImplicit
theorem xP {E : Value → Shared → Prop} {pins : List (Addr × Obj)} {s : Shared} {σ : St} {H : Hp} {x : Str} {u : Value} {pos : Pos} {Q : Value → Shared → Prop} (I : Inv X pins σ H s) (hg : Gl X x) (hm : X.mg x = some u) (h : Q u s)
  (hd : (x == ("__debug__" : Str)) = false := by decide) : wpAny (model X.prog X.w) X.A (eval (.Name x pos) X.env) Q E s :=
 Calls.Name_function_global I.ok.kind hg (Calls.loadGlobal_global (by rw [I.ok.glob]; exact I.mod.glob.keeps I.bk) hm h) hd
theorem wN {E : Value → Shared → Prop} {pins : List (Addr × Obj)} {s : Shared} {σ : St} {H : Hp} {x : Str} {u : Value} {pos : Pos} {Q : Value → Shared → Prop} (I : Inv X pins σ H s) (hg : Gl X x) (hm : X.mg x = none) (hv : bootBuiltins x = some u) (h : Q u s)
  (hn : x ≠ "__name__" := by decide) (hd : (x == ("__debug__" : Str)) = false := by decide) : wpAny (model X.prog X.w) X.A (eval (.Name x pos) X.env) Q E s := by
 obtain ⟨mb, h1, h2⟩ := I.mod.blt
 exact Calls.Name_function_global I.ok.kind hg (Calls.loadGlobal_builtin (by rw [I.ok.glob]; exact I.mod.glob.keeps I.bk) hm (by rw [I.ok.blt]; exact h1.keeps I.bk) ((h2 x hn).trans hv) h) hd
theorem ZC {x : Str} {v : V} {u : Value} {pos : Pos} (hg : Gl X x) (hm : X.mg x = some u) (r : RelV v u) (hd : (x == ("__debug__" : Str)) = false := by decide) : PE X (.Name x pos) (tC v) :=
 fun _ _ _ H _ I h => xP I hg hm ⟨v, H, I, r, h⟩ hd
theorem Xd {x : Str} {v : V} {u : Value} {pos : Pos} (hg : Gl X x) (hm : X.mg x = none) (hv : bootBuiltins x = some u) (r : RelV v u) (hn : x ≠ "__name__" := by decide) (hd : (x == ("__debug__" : Str)) = false := by decide) : PE X (.Name x pos) (tC v) :=
 fun _ _ _ H _ I h => wN I hg hm hv ⟨v, H, I, r, h⟩ hn hd
variable {a b : Expr} {ta tb : TE} {pos : Pos}
noncomputable def PC (X : Cx) (op : CmpOp) (a b : Expr) (t : TE) : Prop :=
 ∀ (pins : List (Addr × Obj)) (s : Shared) (σ : St) (H : Hp) (Q : VK), Inv X pins σ H s → t σ H Q →
  wpAny (model X.prog X.w) X.A (eval a X.env) (fun v s₁ => wpAny (model X.prog X.w) X.A (eval b X.env) (fun u s₂ => wpAny (model X.prog X.w) X.A (compareOp op v u) (EP X pins σ Q) X.xe s₂) X.xe s₁) X.xe s
theorem nobehind (b : Expr) {op : CmpOp} (h : op ≠ .In) (h2 : op ≠ .NotIn) : behindInMarks op b = false := by
 have e1 : (op == CmpOp.In) = false := by cases op <;> first | rfl | exact absurd rfl h
 have e2 : (op == CmpOp.NotIn) = false := by cases op <;> first | rfl | exact absurd rfl h2
 cases b <;> simp [behindInMarks, e1, e2]
noncomputable def tIsN (ta : TE) : TE := fun σ H Q => ta σ H fun x H1 => Q (.bl (decide (x = .non))) H1
noncomputable def Wv (ta : TE) : TE := fun σ H Q => ta σ H fun x H1 => Q (.bl (!decide (x = .non))) H1
theorem RelV.none_iff {x : V} {v : Value} (r : RelV x v) : (v == Value.none) = decide (x = .non) := by
 cases x with
 | non => cases r; rfl
 | bl _ => cases r; rfl
 | int _ => obtain ⟨t, rfl⟩ := r; rfl
 | str _ => obtain ⟨t, rfl⟩ := r; rfl
 | byt _ => obtain ⟨t, rfl⟩ := r; rfl
 | flt _ => obtain ⟨t, rfl⟩ := r; rfl
 | ref _ => cases r; rfl
 | ty _ => cases r; rfl
theorem pc_isN {j pos'} (ha : PE X a ta) : PC X .Is a (.Constant .none j pos') (tIsN ta) := by
 intro pins s σ H Q I h
 refine thn (ha pins s σ H _ I h) fun v s1 ⟨x, H1, I1, r1, q1⟩ => ?_
 exact Constant_none (is_none_gen ⟨.bl _, H1, I1, by rw [r1.none_iff]; rfl, q1⟩)
theorem ZD {j pos'} (ha : PE X a ta) : PC X .IsNot a (.Constant .none j pos') (Wv ta) := by
 intro pins s σ H Q I h
 refine thn (ha pins s σ H _ I h) fun v s1 ⟨x, H1, I1, r1, q1⟩ => ?_
 exact Constant_none (isnot_none_gen ⟨.bl _, H1, I1, by rw [r1.none_iff]; rfl, q1⟩)
noncomputable def tB (t : TE) : TT := fun σ H Q => t σ H fun x H1 => ∃ c, x = .bl c ∧ Q c H1
theorem Zx {op : CmpOp} {t : TE} (h : PC X op a b t) (h1 : behindInMarks op b = false := by first | exact nobehind _ (by decide) (by decide) | rfl) : PT X (.Compare a [op] [b] pos) (tB t) := by
 intro pins s σ H Q I hw
 refine wpAny_isTrue_Compare1 (thn (h pins s σ H _ I hw) fun v s1 h1 => thn h1 fun u s2 h2 => thn h2 fun c s3 ⟨x, H1, I1, r1, q1⟩ => ?_) h1
 obtain ⟨d, rfl, q⟩ := q1
 cases r1
 exact wpAny_truthy_bool ⟨H1, I1, q⟩
theorem xg {e : Expr} {t : TE} (h : PE X e t) (he : ∀ whole, isTrue e X.env whole = (do let v ← whole; standAt e.pos; holding [v] (truthy v)) := by intro _; rfl) : PT X e (tB t) := by
 intro pins s σ H Q I hw
 refine isTrue_plain (thn (h pins s σ H _ I hw) fun v s1 ⟨x, H1, I1, r1, q1⟩ => ?_) (he _)
 obtain ⟨d, rfl, q⟩ := q1
 cases r1
 exact wpAny_truthy_bool ⟨H1, I1, q⟩
variable {tA tB' : TT} {rest : List Expr}
noncomputable def tAnd (t u : TT) : TT := fun σ H Q => t σ H fun c H1 => if c = true then u σ H1 Q else Q false H1
noncomputable def tOr (t u : TT) : TT := fun σ H Q => t σ H fun c H1 => if c = true then Q true H1 else u σ H1 Q
noncomputable def tNot (t : TT) : TT := fun σ H Q => t σ H fun c H1 => Q (!c) H1
theorem xn (ha : PT X a tA) : PW X (.BoolOp .And [a] pos) tA := by
 intro wh pins s σ H Q I h
 refine isTrue_and (thn (ha pins s σ H Q I h) fun c s1 e => ?_)
 cases c with
 | true => exact isTrue_and_nil e
 | false => exact e
theorem yQ (ha : PT X a tA) : PW X (.BoolOp .Or [a] pos) tA := by
 intro wh pins s σ H Q I h
 refine isTrue_or (thn (ha pins s σ H Q I h) fun c s1 e => ?_)
 cases c with
 | false => exact isTrue_or_nil e
 | true => exact e
theorem wc (ha : PT X a tA) (hb : PW X (.BoolOp .And (b :: rest) pos) tB') : PW X (.BoolOp .And (a :: b :: rest) pos) (tAnd tA tB') := by
 intro wh pins s σ H Q I h
 refine isTrue_and (thn (ha pins s σ H _ I h) fun c s1 ⟨H1, I1, q1⟩ => ?_)
 cases c with
 | true => exact hb wh pins s1 σ H1 Q I1 q1
 | false => exact ⟨H1, I1, q1⟩
theorem xh (ha : PT X a tA) (hb : PW X (.BoolOp .Or (b :: rest) pos) tB') : PW X (.BoolOp .Or (a :: b :: rest) pos) (tOr tA tB') := by
 intro wh pins s σ H Q I h
 refine isTrue_or (thn (ha pins s σ H _ I h) fun c s1 ⟨H1, I1, q1⟩ => ?_)
 cases c with
 | true => exact ⟨H1, I1, q1⟩
 | false => exact hb wh pins s1 σ H1 Q I1 q1
theorem yR (ha : PT X a tA) : PT X (.UnaryOp .Not a pos) (tNot tA) := by
 intro pins s σ H Q I h
 exact isTrue_not (ha pins s σ H (fun c H1 => Q (!c) H1) I h)
noncomputable def WA (ta tb : TE) : TE := fun σ H Q => ta σ H fun x H1 => ∃ c, x = .bl c ∧ if c = true then tb σ H1 Q else Q (.bl false) H1
noncomputable def tOrV (ta tb : TE) : TE := fun σ H Q => ta σ H fun x H1 => ∃ c, x = .bl c ∧ if c = true then Q (.bl true) H1 else tb σ H1 Q
theorem YE {op} {t : TE} (h : PE X a t) : PE X (.BoolOp op [a] pos) t := fun pins s σ H Q I hw => BoolOp_one (h pins s σ H Q I hw)
theorem X5 (ha : PE X a ta) (hb : PE X (.BoolOp .And (b :: rest) pos) tb) : PE X (.BoolOp .And (a :: b :: rest) pos) (WA ta tb) := by
 intro pins s σ H Q I h
 refine BoolOp_and (thn (ha pins s σ H _ I h) fun v s1 ⟨x, H1, I1, r1, q1⟩ => ?_)
 obtain ⟨c, rfl, q1⟩ := q1
 cases r1
 refine wpAny_truthy_bool ?_
 cases c with
 | true => exact hb pins s1 σ H1 Q I1 q1
 | false => exact ⟨.bl false, H1, I1, rfl, q1⟩
theorem pe_or (ha : PE X a ta) (hb : PE X (.BoolOp .Or (b :: rest) pos) tb) : PE X (.BoolOp .Or (a :: b :: rest) pos) (tOrV ta tb) := by
 intro pins s σ H Q I h
 refine BoolOp_or (thn (ha pins s σ H _ I h) fun v s1 ⟨x, H1, I1, r1, q1⟩ => ?_)
 obtain ⟨c, rfl, q1⟩ := q1
 cases r1
 refine wpAny_truthy_bool ?_
 cases c with
 | false => exact hb pins s1 σ H1 Q I1 q1
 | true => exact ⟨.bl true, H1, I1, rfl, q1⟩
noncomputable def tIf (t : TT) (ta tb : TE) : TE := fun σ H Q => t σ H fun c H1 => if c = true then ta σ H1 Q else tb σ H1 Q
theorem xD {c : Expr} (hc : PT X c tA) (ha : PE X a ta) (hb : PE X b tb) : PE X (.IfExp c a b pos) (tIf tA ta tb) := by
 intro pins s σ H Q I h
 refine wpAny_IfExp (thn (hc pins s σ H _ I h) fun d s1 ⟨H1, I1, q1⟩ => ?_)
 cases d with
 | true => exact ha pins s1 σ H1 Q I1 q1
 | false => exact hb pins s1 σ H1 Q I1 q1
end
noncomputable def SqL (K : PySem.W.Frag) (H : Hp) (a : Addr) (xs : List V) : Prop :=
 Rd H a (.lst xs) ∨
  ∃ (o : Obj) (its : Array Value) (n : Nat), K.lookup a = some o ∧ o.cls = .type "list" ∧ o.dict = none ∧ o.data = .seq its n ∧ its.size ≤ sizeLine ∧ Vals xs its.toList
noncomputable def SqT (K : PySem.W.Frag) (H : Hp) (a : Addr) (xs : List V) : Prop :=
 Rd H a (.tup xs) ∨
  ∃ (o : Obj) (its : Array Value) (n : Nat), K.lookup a = some o ∧ o.cls = .type "tuple" ∧ o.data = .seq its n ∧ its.size ≤ sizeLine ∧ Vals xs its.toList
noncomputable def absV : Value → Option V
 | .none => some .non
 | .bool b => some (.bl b)
 | .int i _ => some (.int i)
 | .str x _ => some (.str x)
 | .bytes b _ => some (.byt b)
 | .float b _ => some (.flt b)
 | .ref a => some (.ref a)
 | .type n => some (.ty n)
 | _ => none
theorem RelV.abs {x : V} {u : Value} (r : RelV x u) : absV u = some x := by
 cases x with
 | non => cases r; rfl
 | bl _ => cases r; rfl
 | int _ => obtain ⟨t, rfl⟩ := r; rfl
 | str _ => obtain ⟨t, rfl⟩ := r; rfl
 | byt _ => obtain ⟨t, rfl⟩ := r; rfl
 | flt _ => obtain ⟨t, rfl⟩ := r; rfl
 | ref _ => cases r; rfl
 | ty _ => cases r; rfl
theorem RelV.inj {x y : V} {u : Value} (r : RelV x u) (q : RelV y u) : x = y := Option.some.inj (r.abs.symm.trans q.abs)
theorem Vals.inj : ∀ {xs ys : List V} {us : List Value}, Vals xs us → Vals ys us → xs = ys
 | _, _, _, .nil, .nil => rfl
 | _, _, _, .cons r t, .cons r' t' => by rw [r.inj r', Vals.inj t t']
section
variable {X : Cx} {pins : List (Addr × Obj)} {σ : St} {H : Hp} {s : Shared} {a : Addr} {xs ys : List V}
theorem SqL.of {K : PySem.W.Frag} (h : H a = some (.lst xs)) : SqL K H a xs := .inl (.inl h)
theorem SqT.of {K : PySem.W.Frag} (h : H a = some (.tup xs)) : SqT K H a xs := .inl (.inl h)
theorem Inv.list (I : Inv X pins σ H s) (h : SqL X.K H a xs) : ∃ its : List Value, Vals xs its ∧ PlainL s.heap a its.toArray ∧ xs.length ≤ sizeLine := by
 rcases h with h | ⟨o, its, n, hk, hc, hd, hs, hz, r⟩
 ·obtain ⟨z, its, n, r, e⟩ := h.ok I.hok
  exact ⟨its, r, ⟨_, n, e, rfl, rfl, rfl⟩, z⟩
 ·refine ⟨its.toList, r, ⟨o, n, I.kIn a o hk, hc, hd, by simpa using hs⟩, ?_⟩
  have e := r.length
  simp only [Array.length_toList] at e
  lia
theorem Inv.tuple (I : Inv X pins σ H s) (h : SqT X.K H a xs) : ∃ its : List Value, Vals xs its ∧ IsTup s.heap a its.toArray ∧ xs.length ≤ sizeLine := by
 rcases h with h | ⟨o, its, n, hk, hc, hs, hz, r⟩
 ·obtain ⟨z, its, r, p⟩ := h.ok I.hok
  exact ⟨its, r, p, z⟩
 ·refine ⟨its.toList, r, ⟨o, I.kIn a o hk, hc, n, by simpa using hs⟩, ?_⟩
  have e := r.length
  simp only [Array.length_toList] at e
  lia
theorem Inv.tuple_inj (I : Inv X pins σ H s) (h : SqT X.K H a xs) (h' : SqT X.K H a ys) : xs = ys := by
 obtain ⟨its, r, ⟨o, e, _, n, d⟩, _⟩ := I.tuple h
 obtain ⟨its', r', ⟨o', e', _, n', d'⟩, _⟩ := I.tuple h'
 rw [e] at e'; cases e'
 rw [d] at d'
 injection d' with d1 _
 have : its = its' := by simpa using congrArg Array.toList d1
 subst this
 exact r.inj r'
end
noncomputable abbrev Cx.wish (X : Cx) (E : Value → Shared → Prop) : Cx := { X with xe := E }
noncomputable abbrev Cx.nox (X : Cx) : Cx := X.wish fun _ _ => False
theorem Cx.Ok.wish {X : Cx} (ok : X.Ok) (E : Value → Shared → Prop) : (X.wish E).Ok :=
 ⟨ok.mod, ok.kind, ok.glob, ok.blt, ok.above, ok.inj, ok.has, ok.cab, ok.hd, ok.frames, ok.stk, ok.exf, ok.bs, ok.bsz, ok.noex, ok.exfs, ok.funs, ok.frf⟩
theorem Cx.Ok.unwish {X : Cx} {E : Value → Shared → Prop} (ok : (X.wish E).Ok) : X.Ok :=
 ⟨ok.mod, ok.kind, ok.glob, ok.blt, ok.above, ok.inj, ok.has, ok.cab, ok.hd, ok.frames, ok.stk, ok.exf, ok.bs, ok.bsz, ok.noex, ok.exfs, ok.funs, ok.frf⟩
section
variable {X : Cx} {pins : List (Addr × Obj)} {σ : St} {H : Hp} {s : Shared} {E : Value → Shared → Prop}
theorem Inv.wish (I : Inv X pins σ H s) (E : Value → Shared → Prop) : Inv (X.wish E) pins σ H s := ⟨I.ok.wish E, I.os, I.bare, I.base, I.loc, I.cell, I.free, I.freeC, I.pin, I.hok, I.len⟩
theorem Inv.unwish (I : Inv (X.wish E) pins σ H s) : Inv X pins σ H s := ⟨I.ok.unwish, I.os, I.bare, I.base, I.loc, I.cell, I.free, I.freeC, I.pin, I.hok, I.len⟩
theorem SP.unwish {D : Ends} {f : Flow} {s' : Shared} (h : SP (X.wish E) pins D f s') : SP X pins D f s' := by
 cases f with
 | next => obtain ⟨σ', H', I, q⟩ := h; exact ⟨σ', H', I.unwish, q⟩
 | brk => obtain ⟨σ', H', I, q⟩ := h; exact ⟨σ', H', I.unwish, q⟩
 | cont => obtain ⟨σ', H', I, q⟩ := h; exact ⟨σ', H', I.unwish, q⟩
 | ret u => obtain ⟨v, σ', H', I, r, q⟩ := h; exact ⟨v, σ', H', I.unwish, r, q⟩
theorem PSs.nox {st : List Stmt} {t : TS} (h : PSs X.nox st t) : PSs X st t := fun pins s σ H D I hw =>
 wpAny_mono (h pins s σ H D (I.wish _) hw) (fun _ _ q => q.unwish) fun _ _ z => False.elim z
end
section
variable {X : Cx} {st : Stmt} {rest : List Stmt} {t u : TS} {e : Expr} {te : TE} {pos : Pos}
noncomputable def Ww : TS := fun D σ H => D.nx σ H
noncomputable def tSeq (t u : TS) : TS := fun D σ H => t { D with nx := u D } σ H
theorem zp : PSs X [] Ww := fun _ _ σ H _ I h => wpAny_execs_nil ⟨σ, H, I, h⟩
theorem za (h1 : PS X st t) (h2 : PSs X rest u) : PSs X (st :: rest) (tSeq t u) := by
 intro pins s σ H D I h
 refine wpAny_execs_cons (thn (h1 pins s σ H { D with nx := u D } I h) fun f s1 q => ?_)
 cases f with
 | next =>
  obtain ⟨σ', H', I', q⟩ := q
  exact h2 pins s1 σ' H' D I' q
 | ret v => exact q
 | brk => exact q
 | cont => exact q
theorem ze (h1 : PS X st t) : PSs X [st] t := by
 intro pins s σ H D I h
 refine wpAny_execs_cons (thn (h1 pins s σ H D I h) fun f s1 q => ?_)
 cases f with
 | next => exact wpAny_execs_nil q
 | ret v => exact q
 | brk => exact q
 | cont => exact q
theorem Inv.quiet {pins : List (Addr × Obj)} {σ : St} {H : Hp} {s : Shared} (I : Inv X pins σ H s) : interactive X.env = false := by simp [interactive, I.ok.kind]
noncomputable def Wx (te : TE) : TS := fun D σ H => te σ H fun _ H1 => D.nx σ H1
theorem yi (he : PE X e te) (hs : swapsWith e none pos.line X.env = pure false := by rfl) : PS X (.Expr e pos) (Wx te) := by
 intro pins s σ H D I h
 exact wpAny_Expr_any (thn (he pins s σ H _ I h) fun v s1 ⟨x, H1, I1, r1, q1⟩ => ⟨σ, H1, I1, q1⟩) I.quiet hs
noncomputable def tRet (te : TE) : TS := fun D σ H => te σ H D.rt
theorem zt (he : PE X e te) : PS X (.Return (some e) pos) (tRet te) := by
 intro pins s σ H D I h
 exact wpAny_Return_some (thn (he pins s σ H _ I h) fun v s1 ⟨x, H1, I1, r1, q1⟩ => ⟨x, σ, H1, I1, r1, q1⟩)
noncomputable def tIfS (c : TT) (t u : TS) : TS := fun D σ H => c σ H fun b H1 => if b = true then t D σ H1 else u D σ H1
theorem zx {c : Expr} {a b : List Stmt} {tc : TT} (hc : PT X c tc) (ha : PSs X a t) (hb : PSs X b u) : PS X (.If c a b pos) (tIfS tc t u) := by
 intro pins s σ H D I h
 refine wpAny_If (thn (hc pins s σ H _ I h) fun d s1 ⟨H1, I1, q1⟩ => ?_)
 cases d with
 | true => exact ha pins s1 σ H1 D I1 q1
 | false => exact hb pins s1 σ H1 D I1 q1
end
noncomputable abbrev TG := V → St → Hp → (St → Hp → Prop) → Prop
noncomputable abbrev TGs := List V → St → Hp → (St → Hp → Prop) → Prop
noncomputable def PG (X : Cx) (target : Expr) (t : TG) : Prop :=
 ∀ (pins : List (Addr × Obj)) (s : Shared) (σ : St) (H : Hp) (v : V) (u : Value) (Q : St → Hp → Prop), Inv X pins σ H s → RelV v u → t v σ H Q →
  wpAny (model X.prog X.w) X.A (assign target X.env u) (fun _ s' => ∃ σ' H', Inv X pins σ' H' s' ∧ Q σ' H') X.xe s
noncomputable def PGs (X : Cx) (ts : List Expr) (t : TGs) : Prop :=
 ∀ (pins : List (Addr × Obj)) (s : Shared) (σ : St) (H : Hp) (vs : List V) (us : List Value) (Q : St → Hp → Prop), Inv X pins σ H s → Vals vs us → t vs σ H Q →
  wpAny (model X.prog X.w) X.A (assignInOrder ((assignEach ts X.env).map (·.2)) us) (fun _ s' => ∃ σ' H', Inv X pins σ' H' s' ∧ Q σ' H') X.xe s
noncomputable abbrev TSet := V → V → V → Hp → (Hp → Prop) → Prop
noncomputable def PSet (X : Cx) (t : TSet) : Prop :=
 ∀ (pins : List (Addr × Obj)) (s : Shared) (σ : St) (H : Hp) (o i v : V) (ov iv u : Value) (Q : Hp → Prop), Inv X pins σ H s → RelV o ov → RelV i iv → RelV v u → t o i v H Q →
  wpAny (model X.prog X.w) X.A (setItem ov iv u) (fun _ s' => ∃ H', Inv X pins σ H' s' ∧ Q H') X.xe s
section
variable {X : Cx} {pos : Pos}
noncomputable def yU (i : Nat) : TG := fun v σ H Q => Q (σ.set i (some v)) H
theorem Xa {i : Nat} {x : Str} (hN : X.N.Nodup) (hi : X.N[i]? = some x) (hx : Loc X.env.scope x) (hf : X.fn x = true ∨ X.env.scope.names.lookup x = some .local := by first | exact .inl rfl | exact .inr rfl | assumption) : PG X (.Name x pos) (yU i) := by
 intro pins s σ H v u Q I r h
 exact wpAny_assign_Name (wn I hN hi hx r (fun s' I' => ⟨_, H, I', h⟩) hf)
noncomputable def gNil : TGs := fun vs σ H Q => vs = [] ∧ Q σ H
noncomputable def gCons (t : TG) (u : TGs) : TGs := fun vs σ H Q => ∃ v r, vs = v :: r ∧ t v σ H fun σ' H' => u r σ' H' Q
theorem ww : PGs X [] gNil := by
 intro pins s σ H vs us Q I r h
 obtain ⟨e, h⟩ := h
 subst e
 cases r
 exact assignInOrder_nil ⟨σ, H, I, h⟩
theorem zQ {e : Expr} {es : List Expr} {t : TG} {u : TGs} (h1 : PG X e t) (h2 : PGs X es u)
  (hs : (assignEach (e :: es) X.env).map (·.2) = assign e X.env :: (assignEach es X.env).map (·.2) := by rfl) : PGs X (e :: es) (gCons t u) := by
 intro pins s σ H vs us Q I r h
 obtain ⟨v, vr, e1, h⟩ := h
 subst e1
 cases r with
 | cons r rr =>
  rw [hs]
  refine assignInOrder_cons (thn (h1 pins s σ H _ _ _ I r h) fun _ s1 ⟨σ1, H1, I1, q1⟩ => ?_)
  exact h2 pins s1 σ1 H1 _ _ Q I1 rr q1
noncomputable def gTup (K : PySem.W.Frag) (n : Nat) (t : TGs) : TG := fun v σ H Q => ∃ a xs, v = .ref a ∧ SqT K H a xs ∧ xs.length = n ∧ t xs σ H Q
theorem pg_tup {es : List Expr} {k : Nat} {t : TGs} {n : Nat} (hc : X.calm = true) (h : PGs X es t)
  (hn : (assignEach es X.env).length = n := by rfl) (hst : (assignEach es X.env).findIdx? (·.1) = none := by rfl) : PG X (.Tuple es k pos) (gTup X.K n t) := by
 intro pins s σ H v u Q I r hw
 obtain ⟨a, xs, e1, hq, hl, hw⟩ := hw
 subst e1
 cases r
 obtain ⟨its, rv, ht, hz⟩ := I.tuple hq
 refine assign_Tuple_tuple (I.ok.hd hc) ht (by simp [hn, ← hl, rv.length]) hst fun h' hx => ?_
 have I1 : Inv X pins σ H { s with heap := h' } := I.kept (t' := s.toks) fun b o e => hx b o (Nat.ne_of_lt (Heap.lt_size e)) e
 exact h pins _ σ H xs _ Q I1 (by simpa using rv) hw
noncomputable def gSub (to ti : TE) (t : TSet) : TG := fun v σ H Q => to σ H fun o H1 => ti σ H1 fun i H2 => t o i v H2 fun H3 => Q σ H3
theorem yy {o i : Expr} {to ti : TE} {t : TSet} (ho : PE X o to) (hi : PE X i ti) (hs : PSet X t)
  (ha : ∀ v, assign (.Subscript o i pos) X.env v = (do
   let ov ← holding [v] (eval o X.env)
   let iv ← holding [v, ov] (eval i X.env)
   standAt pos
   holding [v, ov, iv] (setItem ov iv v)
   release [v, ov, iv] []) := by intro _; rfl) : PG X (.Subscript o i pos) (gSub to ti t) := by
 intro pins s σ H v u Q I r h
 rw [ha]
 refine wpAny_bind (wpAny_holding (thn (ho pins s σ H _ I h) fun ov s1 ⟨x, H1, I1, r1, q1⟩ => ?_))
 refine wpAny_bind (wpAny_holding (thn (hi pins s1 σ H1 _ I1 q1) fun iv s2 ⟨y, H2, I2, r2, q2⟩ => ?_))
 refine wpAny_bind (wpAny_standAt (wpAny_bind (wpAny_holding (thn (hs pins s2 σ H2 x y v ov iv u _ I2 r1 r2 r q2) fun _ s3 ⟨H3, I3, q3⟩ => ?_))))
 exact wpAny_release ⟨σ, H3, I3, q3⟩
noncomputable def tAsg (te : TE) (g : TG) : TS := fun D σ H => te σ H fun x H1 => g x σ H1 D.nx
theorem ym {tg e : Expr} {te : TE} {g : TG} (he : PE X e te) (hg : PG X tg g) (hs : swapsWithSole [tg] e pos.line X.env = pure false := by rfl) (hw : swappedStores [tg] e X.env = pure none := by rfl)
  (h1 : (assignEach [tg] X.env).map (·.2) = [assign tg X.env] := by rfl) : PS X (.Assign [tg] e pos) (tAsg te g) := by
 intro pins s σ H D I h
 refine wpAny_Assign_stores (thn (he pins s σ H _ I h) fun v s1 ⟨x, H1, I1, r1, q1⟩ => ?_) hs hw
 rw [h1]
 exact thn (hg pins s1 σ H1 x v _ I1 r1 q1) fun _ s2 q => q
theorem wd {i : Nat} {x : Str} {e : Expr} {te : TE} {pos' : Pos} (hN : X.N.Nodup) (hi : X.N[i]? = some x) (hx : Loc X.env.scope x) (he : PE X e te) (hs : swapsWith e (some (.Name x pos')) pos.line X.env = pure false := by rfl) (hf : X.fn x = true ∨ X.env.scope.names.lookup x = some .local := by first | exact .inl rfl | exact .inr rfl | assumption) :
  PS X (.Assign [.Name x pos'] e pos) (tAsg te (yU i)) := by
 intro pins s σ H D I h
 refine wpAny_Assign_Name (thn (he pins s σ H _ I h) fun v s1 ⟨y, H1, I1, r1, q1⟩ => ?_) hs
 exact wn I1 hN hi hx r1 (fun s2 I2 => ⟨_, H1, I2, q1⟩) hf
end
section
variable {X : Cx} {pos : Pos}
noncomputable def XN (c : TT) (tb : TS) : TS := fun D σ H => ∃ W : Nat → St → Hp → Prop, (∃ m, W m σ H) ∧ ∀ m σ H, W m σ H →
 c σ H fun b H1 => if b = true then ∃ N : St → Hp → Prop, (∀ σ' H', N σ' H' → ∃ m', m' < m ∧ W m' σ' H') ∧ tb { D with nx := N, ct := N, bk := D.nx } σ H1 else D.nx σ H1
theorem ps_while {c : Expr} {body : List Stmt} {tc : TT} {tb : TS} (hp : PassesOwn (model X.prog X.w) X.A X.env X.xe) (hc : PT X c tc) (hb : PSs X body tb) : PS X (.While c body [] pos) (XN tc tb) := by
 intro pins s σ H D I h
 obtain ⟨W, ⟨m0, w0⟩, turn⟩ := h
 refine wpAny_While (codeAny_whileLoop (fun n s' => ∃ σ' H', Inv X pins σ' H' s' ∧ W n σ' H') ?_ m0 ⟨σ, H, I, w0⟩)
 rintro n s1 ⟨σ1, H1, I1, w1⟩
 refine wpAny_passesOwn hp (thn (hc pins s1 σ1 H1 _ I1 (turn n σ1 H1 w1)) fun b s2 ⟨H2, I2, q2⟩ => ?_)
 cases b with
 | true =>
  obtain ⟨N, hN, q2⟩ := q2
  rw [if_pos rfl]
  refine wpAny_passesOwn hp (thn (hb pins s2 σ1 H2 _ I2 q2) fun f s3 q3 => ?_)
  cases f with
  | next =>
   obtain ⟨σ3, H3, I3, n3⟩ := q3
   obtain ⟨m', hm, w3⟩ := hN σ3 H3 n3
   exact ⟨m', hm, σ3, H3, I3, w3⟩
  | cont =>
   obtain ⟨σ3, H3, I3, n3⟩ := q3
   obtain ⟨m', hm, w3⟩ := hN σ3 H3 n3
   exact ⟨m', hm, σ3, H3, I3, w3⟩
  | brk => exact q3
  | ret v => exact q3
 | false =>
  rw [if_neg Bool.false_ne_true]
  exact wpAny_execs_nil ⟨σ1, H2, I2, q2⟩
end
structure It where
 go : Nat → Hp → Prop
 yld : Nat → Hp → V → Hp → Prop
 stop : Nat → Hp → Prop
noncomputable def FpOk (X : Cx) (pins : List (Addr × Obj)) (H : Hp) (b : Addr) : Prop :=
 H b = none ∧ b ≠ X.env.locals ∧ b ∉ X.fs ∧ (b ∈ X.ex ∨ X.s₀.heap.objs.size ≤ b) ∧ (∀ x c, X.env.cells.lookup x = some c → c ≠ b) ∧ ∀ p ∈ X.pn ++ pins, p.1 ≠ b
theorem Inv.fpOk {X : Cx} {pins : List (Addr × Obj)} {σ : St} {H H' : Hp} {s : Shared} {b : Addr} (I : Inv X pins σ H s) (hb : s.heap.objs.size ≤ b) (hn : H' b = none) : FpOk X pins H' b := by
 refine ⟨hn, Nat.ne_of_gt (Nat.lt_of_lt_of_le I.lt hb), I.nofs hb, .inr (Nat.le_trans I.sz hb), fun x c e z => ?_, fun p hp z => ?_⟩
 ·obtain ⟨v, q⟩ := I.cell x c e
  exact absurd (Nat.lt_of_lt_of_le q.lt (by rw [z]; exact hb)) (Nat.lt_irrefl _)
 ·exact absurd (Nat.lt_of_lt_of_le (Heap.lt_size (I.pin p hp).1) (by rw [z]; exact hb)) (Nat.lt_irrefl _)
structure Turn (P : Program) (w : World) (K : PySem.W.Frag) (tg : Expr) (J : It) (fp : List Addr) (it : Addr) (tn : Nat → Heap → Prop) : Prop where
 mem : it ∈ fp
 obj : ∀ i h, tn i h → ∀ b ∈ fp, ∃ o, h.get? b = some o ∧ ∀ v, o.data ≠ .cell v
 keep : ∀ i h h', tn i h → (∀ b ∈ fp, ∀ o, h.get? b = some o → h'.get? b = some o) → tn i h'
 item : ∀ (X : Cx), X.prog = P → X.w = w → X.K = K → X.calm = true → ∀ (i : Nat) (pins : List (Addr × Obj)) (s : Shared) (σ : St) (H : Hp) (E : Value → Shared → Prop), Inv X pins σ H s → (∀ b ∈ fp, FpOk X pins H b) → tn i s.heap → J.go i H →
  wpAny (model P w) X.A (pyNext (.ref it)) (fun r s1 => ∃ u, r = some u ∧
   wpAny (model P w) X.A (letOwnedTupleGo tg (.ref it) u) (fun _ s2 => ∃ x H', Inv X pins σ H' s2 ∧ RelV x u ∧ J.yld i H x H' ∧ tn (i + 1) s2.heap ∧ ∀ b ∈ fp, H' b = none) E s1) E s
 done : ∀ (X : Cx), X.prog = P → X.w = w → X.K = K → X.calm = true → ∀ (i : Nat) (pins : List (Addr × Obj)) (s : Shared) (σ : St) (H : Hp) (E : Value → Shared → Prop), Inv X pins σ H s → (∀ b ∈ fp, FpOk X pins H b) → tn i s.heap → J.stop i H →
  wpAny (model P w) X.A (pyNext (.ref it)) (fun r s1 => r = none ∧ Inv X pins σ H s1) E s
 self : ∀ (A : Around) (i : Nat) (s : Shared) (Q : Value → Shared → Prop) (E : Value → Shared → Prop), tn i s.heap → Q (.ref it) s → wpAny (model P w) A (pyIter (.ref it)) Q E s
noncomputable abbrev TI := St → Hp → (It → Hp → Prop) → Prop
noncomputable def PIE (X : Cx) (pins : List (Addr × Obj)) (σ : St) (tg : Expr) (R : It → Hp → Prop) (itv : Value) (s2 : Shared) : Prop :=
 ∃ (it : Addr) (fp : List Addr) (tn : Nat → Heap → Prop) (J : It) (H' : Hp), itv = .ref it ∧ Inv X pins σ H' s2 ∧ Turn X.prog X.w X.K tg J fp it tn ∧ tn 0 s2.heap ∧ (∀ b ∈ fp, FpOk X pins H' b) ∧ R J H'
noncomputable def PI (X : Cx) (tg iter : Expr) (wi : TI) : Prop :=
 ∀ (pins : List (Addr × Obj)) (s : Shared) (σ : St) (H : Hp) (R : It → Hp → Prop), Inv X pins σ H s → wi σ H R →
  wpAny (model X.prog X.w) X.A (eval iter X.env) (fun v s1 => wpAny (model X.prog X.w) X.A (pyIter v) (PIE X pins σ tg R) X.xe s1) X.xe s
theorem Yk {M : Model} {A : Around} {E : Value → Shared → Prop} {s : Shared} {tg : Expr} {it : Addr} {u : Value} {o : Obj} {n : String} {vs : Array Value} {Q : Unit → Shared → Prop} (ho : s.heap.get? it = some o) (hc : o.cls = .type n) (hd : o.data = .fields vs)
    (hn : ["enumerate", "zip", "dict_itemiterator", "dict_reverseitemiterator", "odict_iterator", "itertools.zip_longest", "itertools.pairwise"].contains n = false) (hQ : Q () s) : wpAny M A (letOwnedTupleGo tg (.ref it) u) Q E s := by
  unfold letOwnedTupleGo
  cases tg <;> first
    | exact wpAny_pure hQ
    | (cases u <;> first
        | exact wpAny_pure hQ
        | (refine wpAny_bind (wpAny_load ho ?_)
           rw [hc, hd]
           show wpAny M A (if (["enumerate", "zip", "dict_itemiterator", "dict_reverseitemiterator", "odict_iterator", "itertools.zip_longest", "itertools.pairwise"].contains n && vs[0]? == some (rawInt _)) = true then _ else _) Q E s
           rw [if_neg (by intro h; rw [hn, Bool.false_and] at h; cases h)]
           exact wpAny_pure hQ))
noncomputable def Itt (K : PySem.W.Frag) (a : Addr) : It :=
 ⟨fun i H => ∃ xs x, SqT K H a xs ∧ xs[i]? = some x, fun i H x H' => H' = H ∧ ∀ xs, SqT K H a xs → xs[i]? = some x, fun i H => ∃ xs, SqT K H a xs ∧ xs.length ≤ i⟩
noncomputable def Itr (lo : Int) (n : Nat) : It := ⟨fun i _ => i < n, fun i H x H' => H' = H ∧ x = .int (lo + i), fun i _ => n ≤ i⟩
theorem turn_tuple {P : Program} {w : World} {K : PySem.W.Frag} {tg : Expr} (a it : Addr) : Turn P w K tg (Itt K a) [it] it (fun i h => h.IsTupleIter it a i) where
 mem := by simp
 obj := fun i h st b hb => by
  have e : b = it := by simpa using hb
  subst e
  obtain ⟨o, e, c, d⟩ := st
  exact ⟨o, e, fun v z => by rw [d] at z; cases z⟩
 keep := fun i h h' st k => st.at fun o e => k it (by simp) o e
 item := by
  intro X hP hw hK hc i pins s σ H E I hf st hg
  subst hP hw hK
  obtain ⟨xs, x, hq, hx⟩ := hg
  obtain ⟨its, rv, p, hz⟩ := I.tuple hq
  obtain ⟨u, hu, ru⟩ := rv.get hx
  obtain ⟨f0, f1, f2, f3, f4, f5⟩ := hf it (by simp)
  refine wpAny_pyNext_tuple_item st (show s.heap.IsTuple a its.toArray from p) (x := u) (by simpa using hu) fun h' st' sb => ?_
  have I1 : Inv X pins σ H { s with heap := h' } := I.turned (t' := s.toks) (fun b o hb e => (sb.2 b hb).trans e) f0 f1 f3 f4 f5
  obtain ⟨o, e, c, d⟩ := id st'
  exact ⟨u, rfl, Yk (s := { s with heap := h' }) e c d (by decide) ⟨x, H, I1, ru, ⟨rfl, fun ys hy => by rw [I.tuple_inj hy hq]; exact hx⟩, st', fun b hb => (hf b hb).1⟩⟩
 done := by
  intro X hP hw hK hc i pins s σ H E I hf st hg
  subst hP hw hK
  obtain ⟨xs, hq, hx⟩ := hg
  obtain ⟨its, rv, p, hz⟩ := I.tuple hq
  obtain ⟨f0, f1, f2, f3, f4, f5⟩ := hf it (by simp)
  have hl := rv.length
  exact wpAny_pyNext_tuple_end (I.ok.hd hc) st (show s.heap.IsTuple a its.toArray from p) (by simp; lia) fun h' eb => ⟨rfl, I.turned (t' := s.toks) (fun b o hb e => eb b o hb e) f0 f1 f3 f4 f5⟩
 self := fun _ _ _ _ _ st h => wpAny_pyIter_tupleiter st h
theorem turn_range {P : Program} {w : World} {K : PySem.W.Frag} {tg : Expr} (it : Addr) (lo : Int) (n : Nat) : Turn P w K tg (Itr lo n) [it] it (fun i h => IsRangeIter h it (lo + (i : Nat) * 1) ((n : Int) - (i : Nat)) 1) where
 mem := by simp
 obj := fun i h st b hb => by
  have e : b = it := by simpa using hb
  subst e
  exact ⟨_, st, fun v z => by
   have z' : Data.fields _ = Data.cell v := z
   cases z'⟩
 keep := fun i h h' st k => k it (by simp) _ st
 item := by
  intro X hP hw hK hc i pins s σ H E I hf st hg
  subst hP hw hK
  obtain ⟨f0, f1, f2, f3, f4, f5⟩ := hf it (by simp)
  have W := Walks.range (prog := X.prog) (w := X.w) (I.ok.hd hc) it lo 1 n
  refine W.item i s _ _ hg st fun v h' tk hv st' kk => ?_
  obtain ⟨t, rfl⟩ := hv
  have I1 : Inv X pins σ H { s with heap := h', toks := tk } := I.turned (fun b o hb e => kk b o (by simpa using hb) e) f0 f1 f3 f4 f5
  refine ⟨_, rfl, Yk (s := { s with heap := h', toks := tk }) (n := "range_iterator") st' rfl rfl (by decide) ⟨.int (lo + i), H, I1, ⟨t, ?_⟩, ⟨rfl, rfl⟩, st', fun b hb => (hf b hb).1⟩⟩
  rw [Int.mul_one]
 done := by
  intro X hP hw hK hc i pins s σ H E I hf st hg
  subst hP hw hK
  obtain ⟨f0, f1, f2, f3, f4, f5⟩ := hf it (by simp)
  exact wpAny_pyNext_range_end (I.ok.hd hc) st (by have : n ≤ i := hg; lia) fun h' eb => ⟨rfl, I.turned (t' := s.toks) (fun b o hb e => eb b o hb e) f0 f1 f3 f4 f5⟩
 self := fun _ _ _ _ _ st h => wpAny_pyIter_rangeiter st h
section
variable {X : Cx} {tg : Expr}
noncomputable def iTup (K : PySem.W.Frag) (tl : TE) : TI := fun σ H R => tl σ H fun x H1 => ∃ a, x = .ref a ∧ (∃ xs, SqT K H1 a xs) ∧ R (Itt K a) H1
theorem vz {l : Expr} {tl : TE} (hl : PE X l tl) : PI X tg l (iTup X.K tl) := by
 intro pins s σ H R I h
 refine thn (hl pins s σ H _ I h) fun v s1 ⟨x, H1, I1, r1, q1⟩ => ?_
 obtain ⟨a, e, ⟨xs, hq⟩, q⟩ := q1
 subst e
 cases r1
 obtain ⟨its, rv, p, hz⟩ := I1.tuple hq
 refine wpAny_pyIter_tuple (show s1.heap.IsTuple a its.toArray from p) ?_
 refine ⟨s1.heap.objs.size, [s1.heap.objs.size], _, _, H1, rfl, I1.kept (t' := s1.toks) fun b o e => Heap.get?_push_of_some _ e, turn_tuple a _, ⟨_, Heap.get?_push_size _ rfl, rfl, rfl⟩, fun b hb => ?_, q⟩
 have e : b = s1.heap.objs.size := by simpa using hb
 subst e
 exact I1.fpOk (Nat.le_refl _) (I1.hok.fresh (Nat.le_refl _))
theorem Z8 {pins : List (Addr × Obj)} {σ : St} {H : Hp} {s : Shared} {R : It → Hp → Prop} {E : Value → Shared → Prop} {lo hi : Int} {t u v : Tok} {tk : Nat} (I : Inv X pins σ H s) (h1 : -(2 ^ 62) ≤ lo) (h2 : lo < 2 ^ 62) (h3 : -(2 ^ 62) ≤ hi) (h4 : hi < 2 ^ 62)
  (q : R (Itr lo (hi - lo).toNat) H) : wpAny (model X.prog X.w) X.A (pyIter (.ref s.heap.objs.size)) (PIE X pins σ tg R) E { s with heap := s.heap.push { cls := .type "range", data := .fields #[.int lo t, .int hi u, .int 1 v] }, toks := tk } := by
 refine wpAny_pyIter_range (IsRange.new ..) (small_one h1 h2 h3 h4) ?_
 have I1 : Inv X pins σ H { s with heap := s.heap.push { cls := .type "range", data := .fields #[.int lo t, .int hi u, .int 1 v] }, toks := tk } := I.kept fun b o e => Heap.get?_push_of_some _ e
 refine ⟨(s.heap.push { cls := .type "range", data := .fields #[.int lo t, .int hi u, .int 1 v] }).objs.size, [(s.heap.push { cls := .type "range", data := .fields #[.int lo t, .int hi u, .int 1 v] }).objs.size], _, _, H, rfl,
  I1.kept (t' := tk) fun b o e => Heap.get?_push_of_some _ e, turn_range _ lo (hi - lo).toNat, ?_, fun b hb => ?_, q⟩
 ·have e1 : lo + ((0 : Nat) : Int) * 1 = lo := by simp
  have e2 : (((hi - lo).toNat : Nat) : Int) - ((0 : Nat) : Int) = Builtin.Range.rangeSize lo hi 1 := by rw [rangeSize_one]; split <;> lia
  show IsRangeIter _ _ (lo + ((0 : Nat) : Int) * 1) ((((hi - lo).toNat : Nat) : Int) - ((0 : Nat) : Int)) 1
  rw [e1, e2]
  exact Heap.get?_push_size _ rfl
 ·have e : b = (s.heap.push { cls := .type "range", data := .fields #[.int lo t, .int hi u, .int 1 v] }).objs.size := by simpa using hb
  subst e
  exact I1.fpOk (Nat.le_refl _) (I1.hok.fresh (Nat.le_refl _))
noncomputable def Xi (ta : TA) : TI := fun σ H R => ta σ H fun vs H1 => ∃ j : Int, vs = [.int j] ∧ -(2 ^ 62) ≤ j ∧ j < 2 ^ 62 ∧ R (Itr 0 j.toNat) H1
noncomputable def Yj (ta : TA) : TI := fun σ H R => ta σ H fun vs H1 => ∃ i j : Int, vs = [.int i, .int j] ∧ (-(2 ^ 62) ≤ i ∧ i < 2 ^ 62 ∧ -(2 ^ 62) ≤ j ∧ j < 2 ^ 62) ∧ R (Itr i (j - i).toNat) H1
theorem yL {a : Expr} {ta : TA} {p pos : Pos} (hg : Gl X "range") (hm : X.mg "range" = none) (ha : PA X [a] ta) (hs : starEach [a] X.env = [(false, eval a X.env)] := by rfl) : PI X tg (.Call (.Name "range" p) [a] [] pos) (Xi ta) := by
 intro pins s σ H R I h
 refine Call_ (wN I hg hm boot_range (PyProof.Rows.callWith_type1 (thn (ha pos pins s σ H _ I h) fun us s1 ⟨vs, H1, I1, r1, q1⟩ => ?_) hs rfl))
 obtain ⟨j, e, q1, q2, q⟩ := q1
 subst e
 cases r1 with
 | cons r rr =>
  cases rr
  obtain ⟨t, rfl⟩ := r
  exact call_range_1 (Z8 I1 (by lia) (by lia) q1 q2 (by simpa using q))
theorem pi_range2 {a b : Expr} {ta : TA} {p pos : Pos} (hg : Gl X "range") (hm : X.mg "range" = none) (ha : PA X [a, b] ta) (hs : starEach [a, b] X.env = [(false, eval a X.env), (false, eval b X.env)] := by rfl) (hs2 : starEach [b] X.env = [(false, eval b X.env)] := by rfl) :
  PI X tg (.Call (.Name "range" p) [a, b] [] pos) (Yj ta) := by
 intro pins s σ H R I h
 refine Call_ (wN I hg hm boot_range (PyProof.Rows.callWith_type1 (thn (ha pos pins s σ H _ I h) fun us s1 ⟨vs, H1, I1, r1, q1⟩ => ?_) (by rw [hs, hs2]) (by rw [hs2]; rfl)))
 obtain ⟨i, j, e, ⟨q1, q2, q3, q4⟩, q⟩ := q1
 subst e
 cases r1 with
 | cons r rr =>
  cases rr with
  | cons r' rr =>
   cases rr
   obtain ⟨t, rfl⟩ := r
   obtain ⟨t', rfl⟩ := r'
   exact call_range_2 (Z8 I1 q1 q2 q3 q4 q)
noncomputable def tFor (wi : TI) (g : TG) (tb : TS) : TS := fun D σ H => wi σ H fun J H1 => ∃ W : Nat → Nat → St → Hp → Prop, (∃ m, W 0 m σ H1) ∧ ∀ i m σ H, W i m σ H →
 (J.stop i H ∧ D.nx σ H) ∨ (J.go i H ∧ ∃ N : St → Hp → Prop, (∀ σ' H', N σ' H' → ∃ m', m' < m ∧ W (i + 1) m' σ' H') ∧ ∀ x H', J.yld i H x H' → g x σ H' fun σ2 H2 => tb { D with nx := N, ct := N, bk := D.nx } σ2 H2)
noncomputable def wI (fp : List Addr) (h : Heap) : List (Addr × Obj) := fp.filterMap fun b => (h.get? b).map fun o => (b, o)
theorem yD {fp : List Addr} {h : Heap} {b : Addr} {o : Obj} (hb : b ∈ fp) (e : h.get? b = some o) : (b, o) ∈ wI fp h := List.mem_filterMap.mpr ⟨b, hb, by rw [e]; rfl⟩
theorem of_pinsAt {fp : List Addr} {h : Heap} {p : Addr × Obj} (hp : p ∈ wI fp h) : p.1 ∈ fp ∧ h.get? p.1 = some p.2 := by
 obtain ⟨b, hb, e⟩ := List.mem_filterMap.mp hp
 cases q : h.get? b with
 | none => rw [q] at e; cases e
 | some o =>
  rw [q] at e
  have e' : (b, o) = p := Option.some.inj e
  subst e'
  exact ⟨hb, q⟩
theorem Inv.pinned {pins : List (Addr × Obj)} {σ : St} {H : Hp} {s : Shared} {fp : List Addr} (I : Inv X pins σ H s) (hf : ∀ b ∈ fp, FpOk X pins H b) (ho : ∀ b ∈ fp, ∃ o, s.heap.get? b = some o ∧ ∀ v, o.data ≠ .cell v) : Inv X (pins ++ wI fp s.heap) σ H s :=
 I.pins_of fun p hp => (List.mem_append.mp hp).elim (fun z => I.pin p (List.mem_append_right _ z)) fun z => by
  obtain ⟨hb, e⟩ := of_pinsAt z
  obtain ⟨f0, f1, f2, _⟩ := hf p.1 hb
  obtain ⟨o, e', d⟩ := ho p.1 hb
  rw [e] at e'; cases e'
  exact ⟨e, f0, f1, f2, d⟩
theorem Inv.unpinned {pins pl : List (Addr × Obj)} {σ : St} {H : Hp} {s : Shared} (I : Inv X (pins ++ pl) σ H s) : Inv X pins σ H s := I.pins_of fun p hp => I.pin p (List.mem_append_right _ (List.mem_append_left _ hp))
theorem yr {iter : Expr} {body : List Stmt} {wi : TI} {g : TG} {tb : TS} {pos : Pos} (hp : PassesOwn (model X.prog X.w) X.A X.env X.xe) (hc : X.calm = true) (hi : PI X tg iter wi) (hg : PG X tg g) (hb : PSs X body tb)
  (hs : ∀ x, foldedSetIterable iter X.env x = pure x := by intro _; rfl) : PS X (.For tg iter body [] pos) (tFor wi g tb) := by
 intro pins s σ H D I h
 refine wpAny_For (thn (hi pins s σ H _ I h) fun v s1 h1 => thn h1 fun itv s2 h2 => ?_) hs
 obtain ⟨it, fp, tn, J, H2, e, I2, T, st2, f2, W, ⟨m0, w0⟩, turn⟩ := h2
 subst e
 -- what stays true of the iterator's objects through the loop
 have stat : ∀ {H' : Hp}, (∀ b ∈ fp, H' b = none) → ∀ b ∈ fp, FpOk X pins H' b := fun hn b hb => ⟨hn b hb, (f2 b hb).2⟩
 refine codeAny_forLoop_any (fun n s' => ∃ i σ' H', Inv X pins σ' H' s' ∧ tn i s'.heap ∧ (∀ b ∈ fp, H' b = none) ∧ W i n σ' H') ?_ m0 ⟨0, σ, H2, I2, st2, fun b hb => (f2 b hb).1, w0⟩
 rintro n s3 ⟨i, σ3, H3, I3, st3, fr3, w3⟩
 rcases turn i n σ3 H3 w3 with ⟨stop, qn⟩ | ⟨go, N, hN, step⟩
 ·refine wpAny_passesOwn hp (thn (T.done X rfl rfl rfl hc i pins s3 σ3 H3 X.xe I3 (stat fr3) st3 stop) fun r s4 ⟨hr, I4⟩ => ?_)
  subst hr
  exact wpAny_execs_nil ⟨σ3, H3, I4, qn⟩
 ·refine wpAny_passesOwn hp (thn (T.item X rfl rfl rfl hc i pins s3 σ3 H3 X.xe I3 (stat fr3) st3 go) fun r s4 ⟨u, hr, h4⟩ => ?_)
  subst hr
  refine wpAny_passesOwn hp (thn h4 fun _ s5 ⟨x, H5, I5, r5, y5, st5, fr5⟩ => ?_)
  have I5' := I5.pinned (stat fr5) (T.obj _ _ st5)
  refine wpAny_passesOwn hp (thn (hg _ s5 σ3 H5 x u _ I5' r5 (step x H5 y5)) fun _ s6 ⟨σ6, H6, I6, q6⟩ => ?_)
  refine wpAny_passesOwn hp (thn (hb _ s6 σ6 H6 _ I6 q6) fun f s7 q7 => ?_)
  have again : ∀ {σ7 : St} {H7 : Hp}, Inv X (pins ++ wI fp s5.heap) σ7 H7 s7 → N σ7 H7 → ∃ m, m < n ∧ ∃ i σ' H', Inv X pins σ' H' s7 ∧ tn i s7.heap ∧ (∀ b ∈ fp, H' b = none) ∧ W i m σ' H' := fun {σ7 H7} I7 n7 => by
   obtain ⟨m', hm, w7⟩ := hN σ7 H7 n7
   refine ⟨m', hm, i + 1, σ7, H7, I7.unpinned, T.keep _ _ _ st5 fun b hb o e => (I7.pin (b, o) (List.mem_append_right _ (List.mem_append_right _ (yD hb e)))).1, fun b hb => ?_, w7⟩
   obtain ⟨o, e, d⟩ := T.obj _ _ st5 b hb
   exact (I7.pin (b, o) (List.mem_append_right _ (List.mem_append_right _ (yD hb e)))).2.1
  cases f with
  | next => obtain ⟨σ7, H7, I7, n7⟩ := q7; exact again I7 n7
  | cont => obtain ⟨σ7, H7, I7, n7⟩ := q7; exact again I7 n7
  | brk => obtain ⟨σ7, H7, I7, q7⟩ := q7; exact ⟨σ7, H7, I7.unpinned, q7⟩
  | ret v => obtain ⟨x7, σ7, H7, I7, r7, q7⟩ := q7; exact ⟨x7, σ7, H7, I7.unpinned, r7, q7⟩
end
theorem for_tup {K : PySem.W.Frag} {a : Addr} {xs : List V} {g : TG} {tb : TS} {D : Ends} {σ : St} {H : Hp} (Pv : Nat → St → Hp → Prop) (h0 : Pv 0 σ H) (hl : ∀ i σ H, i ≤ xs.length → Pv i σ H → SqT K H a xs)
  (hs : ∀ i x σ H, xs[i]? = some x → Pv i σ H → g x σ H fun σ2 H2 => tb { D with nx := Pv (i + 1), ct := Pv (i + 1), bk := D.nx } σ2 H2) (hd : ∀ σ H, Pv xs.length σ H → D.nx σ H) :
  ∃ W : Nat → Nat → St → Hp → Prop, (∃ m, W 0 m σ H) ∧ ∀ i m σ H, W i m σ H →
   ((Itt K a).stop i H ∧ D.nx σ H) ∨ ((Itt K a).go i H ∧ ∃ N : St → Hp → Prop, (∀ σ' H', N σ' H' → ∃ m', m' < m ∧ W (i + 1) m' σ' H') ∧ ∀ x H', (Itt K a).yld i H x H' → g x σ H' fun σ2 H2 => tb { D with nx := N, ct := N, bk := D.nx } σ2 H2) := by
 refine ⟨fun i m σ H => m = xs.length - i ∧ i ≤ xs.length ∧ Pv i σ H, ⟨xs.length, by simp, Nat.zero_le _, h0⟩, ?_⟩
 rintro i m σ H ⟨rfl, hi, p⟩
 have q := hl i σ H hi p
 by_cases hlt : i < xs.length
 ·refine .inr ⟨⟨xs, xs[i], q, by simp [hlt]⟩, Pv (i + 1), fun σ' H' p' => ⟨xs.length - (i + 1), by lia, rfl, hlt, p'⟩, fun x H' y => ?_⟩
  obtain ⟨e, y⟩ := y
  subst e
  exact hs i x σ _ (y xs q) p
 ·have e : i = xs.length := by lia
  subst e
  exact .inl ⟨⟨xs, q, Nat.le_refl _⟩, hd σ H p⟩
theorem zP {lo : Int} {n : Nat} {g : TG} {tb : TS} {D : Ends} {σ : St} {H : Hp} (Pv : Nat → St → Hp → Prop) (h0 : Pv 0 σ H)
  (hs : ∀ i σ H, i < n → Pv i σ H → g (.int (lo + i)) σ H fun σ2 H2 => tb { D with nx := Pv (i + 1), ct := Pv (i + 1), bk := D.nx } σ2 H2) (hd : ∀ σ H, Pv n σ H → D.nx σ H) :
  ∃ W : Nat → Nat → St → Hp → Prop, (∃ m, W 0 m σ H) ∧ ∀ i m σ H, W i m σ H →
   ((Itr lo n).stop i H ∧ D.nx σ H) ∨ ((Itr lo n).go i H ∧ ∃ N : St → Hp → Prop, (∀ σ' H', N σ' H' → ∃ m', m' < m ∧ W (i + 1) m' σ' H') ∧ ∀ x H', (Itr lo n).yld i H x H' → g x σ H' fun σ2 H2 => tb { D with nx := N, ct := N, bk := D.nx } σ2 H2) := by
 refine ⟨fun i m σ H => m = n - i ∧ i ≤ n ∧ Pv i σ H, ⟨n, by simp, Nat.zero_le _, h0⟩, ?_⟩
 rintro i m σ H ⟨rfl, hi, p⟩
 by_cases hlt : i < n
 ·refine .inr ⟨hlt, Pv (i + 1), fun σ' H' p' => ⟨n - (i + 1), by lia, rfl, hlt, p'⟩, fun x H' y => ?_⟩
  obtain ⟨e, y⟩ := y
  subst e y
  exact hs i σ _ hlt p
 ·have e : i = n := by lia
  subst e
  exact .inl ⟨Nat.le_refl _, hd σ H p⟩
noncomputable abbrev R2 := V → V → Hp → VK → Prop
noncomputable def OpR (X : Cx) (f : Value → Value → Sem Value) (r : R2) : Prop :=
 ∀ (pins : List (Addr × Obj)) (s : Shared) (σ : St) (H : Hp) (x y : V) (v u : Value) (Q : VK), Inv X pins σ H s → RelV x v → RelV y u → r x y H Q →
  wpAny (model X.prog X.w) X.A (f v u) (EP X pins σ Q) X.xe s
noncomputable def UnR (X : Cx) (f : Value → Sem Value) (r : V → Hp → VK → Prop) : Prop :=
 ∀ (pins : List (Addr × Obj)) (s : Shared) (σ : St) (H : Hp) (x : V) (v : Value) (Q : VK), Inv X pins σ H s → RelV x v → r x H Q →
  wpAny (model X.prog X.w) X.A (f v) (EP X pins σ Q) X.xe s
noncomputable def yb (X : Cx) (f : Value) (r : List V → Hp → VK → Prop) : Prop :=
 ∀ (pins : List (Addr × Obj)) (s : Shared) (σ : St) (H : Hp) (xs : List V) (us : List Value) (Q : VK), Inv X pins σ H s → Vals xs us → r xs H Q →
  wpAny (model X.prog X.w) X.A (call f us) (EP X pins σ Q) X.xe s
noncomputable def tOp (r : R2) (ta tb : TE) : TE := fun σ H Q => ta σ H fun x H1 => tb σ H1 fun y H2 => r x y H2 Q
noncomputable def tUn (r : V → Hp → VK → Prop) (ta : TE) : TE := fun σ H Q => ta σ H fun x H1 => r x H1 Q
noncomputable def rI (C : Int → Int → Prop) (g : Int → Int → V) : R2 := fun x y H Q => ∃ i j, x = .int i ∧ y = .int j ∧ C i j ∧ Q (g i j) H
noncomputable def rI0 (g : Int → Int → V) : R2 := fun x y H Q => ∃ i j, x = .int i ∧ y = .int j ∧ Q (g i j) H
noncomputable def rU (g : Int → V) : V → Hp → VK → Prop := fun x H Q => ∃ i, x = .int i ∧ Q (g i) H
section
variable {X : Cx} {a b c : Expr} {ta tb tc : TE} {pos : Pos}
theorem binT (ha : PE X a ta) (hb : PE X b tb) {pins : List (Addr × Obj)} {s : Shared} {σ : St} {H : Hp} {R : V → V → Hp → Prop} (I : Inv X pins σ H s)
  (h : ta σ H fun x H1 => tb σ H1 fun y H2 => R x y H2) {Q : Value → Shared → Prop} {f : Value → Value → Sem Value}
  (hf : ∀ v u s2 x y H2, Inv X pins σ H2 s2 → RelV x v → RelV y u → R x y H2 → wpAny (model X.prog X.w) X.A (f v u) Q X.xe s2) :
  wpAny (model X.prog X.w) X.A (eval a X.env) (fun v s₁ => wpAny (model X.prog X.w) X.A (eval b X.env) (fun u s₂ => wpAny (model X.prog X.w) X.A (f v u) Q X.xe s₂) X.xe s₁) X.xe s := by
 refine thn (ha pins s σ H _ I h) fun v s1 ⟨x, H1, I1, r1, q1⟩ => ?_
 refine thn (hb pins s1 σ H1 _ I1 q1) fun u s2 ⟨y, H2, I2, r2, q2⟩ => ?_
 exact hf v u s2 x y H2 I2 r1 r2 q2
theorem zo {op : Operator} {r : R2} (ho : OpR X (binaryOp op) r) (ha : PE X a ta) (hb : PE X b tb) : PE X (.BinOp a op b pos) (tOp r ta tb) := by
 intro pins s σ H Q I h
 exact wpAny_BinOp (binT ha hb I h fun v u s2 x y H2 I2 rx ry q => ho pins s2 σ H2 x y v u Q I2 rx ry q)
theorem pe_un {op : UnaryOp} {r : V → Hp → VK → Prop} (ho : UnR X (unaryOp op) r) (ha : PE X a ta) : PE X (.UnaryOp op a pos) (tUn r ta) := by
 intro pins s σ H Q I h
 exact UnaryOp_ (thn (ha pins s σ H _ I h) fun v s1 ⟨x, H1, I1, r1, q1⟩ => ho pins s1 σ H1 x v Q I1 r1 q1)
theorem opI {f : Value → Value → Sem Value} {C : Int → Int → Prop} {g : Int → Int → Int}
  (rule : ∀ (i j : Int) (t u : Tok) (s : Shared) (Q : Value → Shared → Prop) (E : Value → Shared → Prop), C i j → Q (.int (g i j) s.toks) { s with toks := s.toks + 1 } → wpAny (model X.prog X.w) X.A (f (.int i t) (.int j u)) Q E s) :
  OpR X f (rI C fun i j => .int (g i j)) := by
 intro pins s σ H x y v u Q I rx ry h
 obtain ⟨i, j, rfl, rfl, hc, q⟩ := h
 obtain ⟨t, rfl⟩ := rx
 obtain ⟨t', rfl⟩ := ry
 exact rule i j t t' s _ _ hc ⟨.int (g i j), H, I.tok _, ⟨_, rfl⟩, q⟩
theorem opI0 {f : Value → Value → Sem Value} {g : Int → Int → Int}
  (rule : ∀ (i j : Int) (t u : Tok) (s : Shared) (Q : Value → Shared → Prop) (E : Value → Shared → Prop), Q (.int (g i j) s.toks) { s with toks := s.toks + 1 } → wpAny (model X.prog X.w) X.A (f (.int i t) (.int j u)) Q E s) :
  OpR X f (rI0 fun i j => .int (g i j)) := by
 intro pins s σ H x y v u Q I rx ry h
 obtain ⟨i, j, rfl, rfl, q⟩ := h
 obtain ⟨t, rfl⟩ := rx
 obtain ⟨t', rfl⟩ := ry
 exact rule i j t t' s _ _ ⟨.int (g i j), H, I.tok _, ⟨_, rfl⟩, q⟩
theorem opB0 {f : Value → Value → Sem Value} {g : Int → Int → Bool}
  (rule : ∀ (i j : Int) (t u : Tok) (s : Shared) (Q : Value → Shared → Prop) (E : Value → Shared → Prop), Q (.bool (g i j)) s → wpAny (model X.prog X.w) X.A (f (.int i t) (.int j u)) Q E s) :
  OpR X f (rI0 fun i j => .bl (g i j)) := by
 intro pins s σ H x y v u Q I rx ry h
 obtain ⟨i, j, rfl, rfl, q⟩ := h
 obtain ⟨t, rfl⟩ := rx
 obtain ⟨t', rfl⟩ := ry
 exact rule i j t t' s _ _ ⟨.bl (g i j), H, I, rfl, q⟩
noncomputable def CDiv (i j : Int) : Prop := 0 < j ∧ j < 1073741824
noncomputable def CPow (i j : Int) : Prop := 0 ≤ j ∧ j ≤ 1000000 ∧ i.natAbs < 2 ^ 64
noncomputable def CMul (i j : Int) : Prop := (-(2 ^ 64) < i ∧ i < 2 ^ 64) ∨ (-(2 ^ 64) < j ∧ j < 2 ^ 64)
theorem CMul.ok {i j : Int} (h : CMul i j) : IntMulOk i j := by
 rcases h with ⟨h1, h2⟩ | ⟨h1, h2⟩
 ·exact .of_left (intBits_le_64 h1 h2)
 ·exact .of_right (intBits_le_64 h1 h2)
theorem zA : OpR X (binaryOp .Add) (rI0 fun i j => .int (i + j)) := opI0 fun _ _ _ _ _ _ _ q => add_int q
theorem xF : OpR X (binaryOp .Mult) (rI CMul fun i j => .int (i * j)) := opI fun _ _ _ _ _ _ _ hc q => mul_int q hc.ok
theorem ZE : OpR X (binaryOp .FloorDiv) (rI CDiv fun i j => .int (i / j)) := opI fun i j _ _ _ _ _ hc q => by
 have h1 : (0 : Int) < j := hc.1
 have h2 : j < 1073741824 := hc.2
 exact floordiv_int (by lia) (by rw [Int.fdiv_eq_ediv_of_nonneg i (by lia)]; exact q) (.inl (PyProof.noPylong_small (by lia)))
theorem xq : OpR X (binaryOp .Mod) (rI (fun _ j => 0 < j) fun i j => .int (i % j)) := opI fun i j _ _ _ _ _ hc q => by
 have h1 : (0 : Int) < j := hc
 exact mod_int' (by lia) (by rw [Int.fmod_eq_emod_of_nonneg i (by lia)]; exact q)
theorem op_pow : OpR X (binaryOp .Pow) (rI CPow fun i j => .int (i ^ j.toNat)) := opI fun _ _ _ _ _ _ _ hc q => pow_int_small hc.1 hc.2.1 hc.2.2 q
theorem unI {f : Value → Sem Value} {g : Int → Int}
  (rule : ∀ (i : Int) (t : Tok) (s : Shared) (Q : Value → Shared → Prop) (E : Value → Shared → Prop), Q (.int (g i) s.toks) { s with toks := s.toks + 1 } → wpAny (model X.prog X.w) X.A (f (.int i t)) Q E s) :
  UnR X f (rU fun i => .int (g i)) := by
 intro pins s σ H x v Q I rx h
 obtain ⟨i, rfl, q⟩ := h
 obtain ⟨t, rfl⟩ := rx
 exact rule i t s _ _ ⟨.int (g i), H, I.tok _, ⟨_, rfl⟩, q⟩
theorem un_neg : UnR X (unaryOp .USub) (rU fun i => .int (-i)) := unI fun _ _ _ _ _ q => neg_int q
end
noncomputable def scal : V → V → Bool
 | .non, .non => true | .non, .int _ => true | .int _, .non => true | .non, .bl _ => true | .bl _, .non => true | .non, .str _ => true | .str _, .non => true
 | .int _, .int _ => true | .bl _, .bl _ => true | .str _, .str _ => true | .byt _, .byt _ => true
 | .int _, .str _ => true | .str _, .int _ => true | .bl _, .str _ => true | .str _, .bl _ => true
 | _, _ => false
noncomputable def rEq : R2 := fun x y H Q => scal x y = true ∧ Q (.bl (decide (x = y))) H
noncomputable def rNe : R2 := fun x y H Q => scal x y = true ∧ Q (.bl (!decide (x = y))) H
theorem Xo {i j : Int} : decide (V.int i = V.int j) = (i == j) := by
 rw [Bool.eq_iff_iff]
 simp
theorem Wn {i j : Bool} : decide (V.bl i = V.bl j) = (i == j) := by
 rw [Bool.eq_iff_iff]
 simp
theorem Xn {i j : Str} : decide (V.str i = V.str j) = (i == j) := by
 rw [Bool.eq_iff_iff]
 simp
theorem Xp {i j : Array UInt8} : decide (V.byt i = V.byt j) = (i.toList == j.toList) := by
 rw [Bool.eq_iff_iff]
 cases i
 cases j
 simp
section
variable {X : Cx} {a b c : Expr} {ta tb tc : TE} {pos : Pos}
theorem zH {pins : List (Addr × Obj)} {σ : St} {H : Hp} {s : Shared} {Q : VK} {k k' : Bool} (I : Inv X pins σ H s) (q : Q (.bl k) H) (e : k = k') : EP X pins σ Q (.bool k') s := by
 subst e
 exact ⟨.bl k, H, I, rfl, q⟩
theorem zR : OpR X (compareOp .Eq) rEq := by
 intro pins s σ H x y v u Q I rx ry h
 obtain ⟨hs, q⟩ := h
 cases x with
 | non =>
  cases rx
  cases y with
  | non => cases ry; exact PySem.EqNone.eq_none_none (zH I q (by simp))
  | bl j => cases ry; exact PySem.EqNone.eq_none_bool (zH I q (by simp))
  | int j => obtain ⟨t', rfl⟩ := ry; exact PySem.EqNone.eq_none_int (zH I q (by simp))
  | str j => obtain ⟨t', rfl⟩ := ry; exact PySem.EqNone.eq_none_str (zH I q (by simp))
  | _ => exact absurd (show false = true from hs) Bool.false_ne_true
 | bl i =>
  cases rx
  cases y with
  | non => cases ry; exact PySem.EqNone.eq_bool_none (zH I q (by simp))
  | bl j => cases ry; exact eq_bool (zH I q Wn)
  | str j => obtain ⟨t', rfl⟩ := ry; exact PySem.EqMixed.eq_bool_str (zH I q (by simp))
  | _ => exact absurd (show false = true from hs) Bool.false_ne_true
 | int i =>
  obtain ⟨t, rfl⟩ := rx
  cases y with
  | non => cases ry; exact PySem.EqNone.eq_int_none (zH I q (by simp))
  | int j => obtain ⟨t', rfl⟩ := ry; exact eq_int (zH I q Xo)
  | str j => obtain ⟨t', rfl⟩ := ry; exact PySem.EqMixed.eq_int_str (zH I q (by simp))
  | _ => exact absurd (show false = true from hs) Bool.false_ne_true
 | str i =>
  obtain ⟨t, rfl⟩ := rx
  cases y with
  | non => cases ry; exact PySem.EqNone.eq_str_none (zH I q (by simp))
  | bl j => cases ry; exact PySem.EqMixed.eq_str_bool (zH I q (by simp))
  | int j => obtain ⟨t', rfl⟩ := ry; exact PySem.EqMixed.eq_str_int (zH I q (by simp))
  | str j => obtain ⟨t', rfl⟩ := ry; exact eq_str (zH I q Xn)
  | _ => exact absurd (show false = true from hs) Bool.false_ne_true
 | byt i =>
  obtain ⟨t, rfl⟩ := rx
  cases y with
  | byt j => obtain ⟨t', rfl⟩ := ry; exact PySem.W.eq_bytes (zH I q Xp)
  | _ => exact absurd (show false = true from hs) Bool.false_ne_true
 | _ => cases y <;> exact absurd (show false = true from hs) Bool.false_ne_true
theorem vR : OpR X (compareOp .NotEq) rNe := by
 intro pins s σ H x y v u Q I rx ry h
 obtain ⟨hs, q⟩ := h
 cases x with
 | non =>
  cases rx
  cases y with
  | non => cases ry; exact PySem.EqNone.ne_none_none (zH I q (by simp))
  | bl j => cases ry; exact PySem.EqNone.ne_none_bool (zH I q (by simp))
  | int j => obtain ⟨t', rfl⟩ := ry; exact PySem.EqNone.ne_none_int (zH I q (by simp))
  | str j => obtain ⟨t', rfl⟩ := ry; exact PySem.EqNone.ne_none_str (zH I q (by simp))
  | _ => exact absurd (show false = true from hs) Bool.false_ne_true
 | bl i =>
  cases rx
  cases y with
  | non => cases ry; exact PySem.EqNone.ne_bool_none (zH I q (by simp))
  | bl j => cases ry; exact ne_bool (zH I q (congrArg not Wn))
  | str j => obtain ⟨t', rfl⟩ := ry; exact PySem.EqMixed.ne_bool_str (zH I q (by simp))
  | _ => exact absurd (show false = true from hs) Bool.false_ne_true
 | int i =>
  obtain ⟨t, rfl⟩ := rx
  cases y with
  | non => cases ry; exact PySem.EqNone.ne_int_none (zH I q (by simp))
  | int j => obtain ⟨t', rfl⟩ := ry; exact ne_int (zH I q (congrArg not Xo))
  | str j => obtain ⟨t', rfl⟩ := ry; exact PySem.EqMixed.ne_int_str (zH I q (by simp))
  | _ => exact absurd (show false = true from hs) Bool.false_ne_true
 | str i =>
  obtain ⟨t, rfl⟩ := rx
  cases y with
  | non => cases ry; exact PySem.EqNone.ne_str_none (zH I q (by simp))
  | bl j => cases ry; exact PySem.EqMixed.ne_str_bool (zH I q (by simp))
  | int j => obtain ⟨t', rfl⟩ := ry; exact PySem.EqMixed.ne_str_int (zH I q (by simp))
  | str j => obtain ⟨t', rfl⟩ := ry; exact ne_str (zH I q (congrArg not Xn))
  | _ => exact absurd (show false = true from hs) Bool.false_ne_true
 | byt i =>
  obtain ⟨t, rfl⟩ := rx
  cases y with
  | byt j => obtain ⟨t', rfl⟩ := ry; exact PySem.W.ne_bytes (zH I q (congrArg not Xp))
  | _ => exact absurd (show false = true from hs) Bool.false_ne_true
 | _ => cases y <;> exact absurd (show false = true from hs) Bool.false_ne_true
theorem wy : OpR X (compareOp .Lt) (rI0 fun i j => .bl (decide (i < j))) := opB0 fun _ _ _ _ _ _ _ q => lt_int q
theorem vS : OpR X (compareOp .LtE) (rI0 fun i j => .bl (decide (i ≤ j))) := opB0 fun _ _ _ _ _ _ _ q => le_int q
theorem wV : OpR X (compareOp .Gt) (rI0 fun i j => .bl (decide (j < i))) := opB0 fun _ _ _ _ _ _ _ q => gt_int q
theorem X7 : OpR X (compareOp .GtE) (rI0 fun i j => .bl (decide (j ≤ i))) := opB0 fun _ _ _ _ _ _ _ q => ge_int q
theorem vT : OpR X (compareOp .In) (fun x y H Q => ∃ i j, x = .str i ∧ y = .str j ∧ Q (.bl (!(Builtin.Str.occurrences j i 0 j.length 1).isEmpty)) H) := by
 intro pins s σ H x y v u Q I rx ry h
 obtain ⟨i, j, rfl, rfl, q⟩ := h
 obtain ⟨t, rfl⟩ := rx
 obtain ⟨t', rfl⟩ := ry
 exact in_str (zH I q rfl)
theorem zm (b : Expr) {op : CmpOp} (h : op ≠ .In := by decide) (h2 : op ≠ .NotIn := by decide) : behindInMarks op b = false := by
 have e1 : (op == CmpOp.In) = false := by cases op <;> first | rfl | exact absurd rfl h
 have e2 : (op == CmpOp.NotIn) = false := by cases op <;> first | rfl | exact absurd rfl h2
 cases b <;> simp [behindInMarks, e1, e2]
theorem yj {op : CmpOp} {r : R2} (ho : OpR X (compareOp op) r) (ha : PE X a ta) (hb : PE X b tb) (hm : behindInMarks op b = false) : PE X (.Compare a [op] [b] pos) (tOp r ta tb) := by
 intro pins s σ H Q I h
 exact wpAny_Compare1 (binT ha hb I h fun v u s2 x y H2 I2 rx ry q => ho pins s2 σ H2 x y v u Q I2 rx ry q) hm
noncomputable def XO (t : TE) : TT := fun σ H Q => t σ H fun x H' => ∃ k, x = .bl k ∧ Q k H'
theorem zj {op : CmpOp} {r : R2} (ho : OpR X (compareOp op) r) (ha : PE X a ta) (hb : PE X b tb) (hm : behindInMarks op b = false) : PT X (.Compare a [op] [b] pos) (XO (tOp r ta tb)) := by
 intro pins s σ H Q I h
 refine wpAny_isTrue_Compare1 (thn (ha pins s σ H _ I h) fun v s1 ⟨x, H1, I1, r1, q1⟩ => thn (hb pins s1 σ H1 _ I1 q1) fun u s2 ⟨y, H2, I2, r2, q2⟩ =>
  thn (ho pins s2 σ H2 x y v u _ I2 r1 r2 q2) fun c s3 ⟨z, H3, I3, r3, k, e, q3⟩ => ?_) hm
 subst e
 cases r3
 exact wpAny_truthy_bool ⟨H3, I3, q3⟩
noncomputable def XT (r r' : R2) (ta tb tc : TE) : TE := fun σ H Q => ta σ H fun x H1 => tb σ H1 fun y H2 => r x y H2 fun z H3 => ∃ k, z = .bl k ∧
 (if k = true then tc σ H3 fun w' H4 => r' y w' H4 Q else Q (.bl false) H3)
theorem vw {op op' : CmpOp} {r r' : R2} (ho : OpR X (compareOp op) r) (ho' : OpR X (compareOp op') r') (ha : PE X a ta) (hb : PE X b tb) (hc : PE X c tc)
  (hm : lastMarks [op, op'] [b, c] = false := by with_unfolding_all rfl) : PT X (.Compare a [op, op'] [b, c] pos) (XO (XT r r' ta tb tc)) := by
 intro pins s σ H Q I h
 refine isTrue_chain (thn (ha pins s σ H _ I h) fun v s1 ⟨x, H1, I1, r1, q1⟩ => test_link (thn (hb pins s1 σ H1 _ I1 q1) fun u s2 ⟨y, H2, I2, r2, q2⟩ =>
  thn (ho pins s2 σ H2 x y v u _ I2 r1 r2 q2) fun d s3 ⟨z, H3, I3, r3, k, e, q3⟩ => ?_)) hm
 subst e
 cases r3
 refine wpAny_truthy_bool ?_
 cases k with
 | false =>
  obtain ⟨k', e', q'⟩ := q3
  cases e'
  exact ite_ff ⟨H3, I3, q'⟩
 | true =>
  refine ite_tt (test_last (thn (hc pins s3 σ H3 _ I3 q3) fun w' s4 ⟨z', H4, I4, r4, q4⟩ => thn (ho' pins s4 σ H4 y z' u w' _ I4 r2 r4 q4) fun d' s5 ⟨z2, H5, I5, r5, k2, e2, q5⟩ => ?_))
  subst e2
  cases r5
  exact wpAny_truthy_bool ⟨H5, I5, q5⟩
theorem wM : (sizeLine : Nat) < 2 ^ 63 := by rw [sizeLine_eq]; decide
theorem ye : OpR X (binaryOp .Add) (fun x y H Q => ∃ i j, x = .str i ∧ y = .str j ∧ i.length + j.length ≤ sizeLine ∧ Q (.str (i ++ j)) H) := by
 intro pins s σ H x y v u Q I rx ry h
 obtain ⟨i, j, rfl, rfl, hz, q⟩ := h
 obtain ⟨t, rfl⟩ := rx
 obtain ⟨t', rfl⟩ := ry
 exact add_str (fun t' tk => ⟨.str (i ++ j), H, I.tok _, ⟨_, rfl⟩, q⟩) hz
theorem wS {x : V} {us : List Value} (r : Vals [x] us) : ∃ u, us = [u] ∧ RelV x u := by
 cases r with
 | cons r1 r2 => cases r2; exact ⟨_, rfl, r1⟩
theorem vals2 {x y : V} {us : List Value} (r : Vals [x, y] us) : ∃ u w', us = [u, w'] ∧ RelV x u ∧ RelV y w' := by
 cases r with
 | cons r1 r2 =>
  cases r2 with
  | cons r3 r4 => cases r4; exact ⟨_, _, rfl, r1, r3⟩
theorem call_min2 (hc : X.calm = true) : yb X (.builtin "min") (fun xs H Q => ∃ i j, xs = [.int i, .int j] ∧ Q (.int (if j < i then j else i)) H) := by
 intro pins s σ H xs us Q I r h
 obtain ⟨i, j, rfl, q⟩ := h
 obtain ⟨u, w', rfl, ⟨t, rfl⟩, ⟨t', rfl⟩⟩ := vals2 r
 refine min_two_ints (I.ok.hd hc) fun h' tk k => ⟨_, H, I.kept k, ?_, q⟩
 by_cases hj : j < i
 ·rw [if_pos hj, if_pos hj]; exact ⟨_, rfl⟩
 ·rw [if_neg hj, if_neg hj]; exact ⟨_, rfl⟩
theorem Zf : yb X (.type "int") (fun xs H Q => (∃ i, xs = [.int i] ∧ Q (.int i) H) ∨ ∃ k, xs = [.bl k] ∧ Q (.int (if k then 1 else 0)) H) := by
 intro pins s σ H xs us Q I r h
 rcases h with ⟨i, rfl, q⟩ | ⟨k, rfl, q⟩
 ·obtain ⟨u, rfl, t, rfl⟩ := wS r
  exact call_int_int ⟨.int i, H, I, ⟨_, rfl⟩, q⟩
 ·obtain ⟨u, rfl, r1⟩ := wS r
  cases r1
  exact call_int_bool ⟨.int (if k then 1 else 0), H, I.tok _, ⟨_, rfl⟩, q⟩
end
structure ObjM (h : Heap) (x dx C : Addr) (mA : Str → Option Value) : Prop where
 obj : h.get? x = some (PySem.W.instObj C dx)
 ns : h.Ns1 dx mA
 ne : dx ≠ x
theorem vW {h : Heap} {dx : Addr} {mA : Str → Option Value} (n : h.Ns1 dx mA) : ∃ od, h.get? dx = some od ∧ ∀ name, PySem.W.lookIn name od = some (mA name) := by
 obtain ⟨o, es, ep, ho, hd, hk, _, hm⟩ := n
 refine ⟨o, ho, fun name => ?_⟩
 have e := hm name
 unfold nsFind findBy at e
 rw [← Array.find?_toList] at e
 unfold PySem.W.lookIn
 rw [hd]
 dsimp only
 split
 ·rename_i y q
  rw [q] at e
  exact congrArg some e
 ·rename_i q
  rw [q] at e
  have a : es.toList.any (·.refKey) = false := by
   rw [List.any_eq_false]
   intro y hy
   obtain ⟨z, t, hkey⟩ := hk y (Array.mem_toList_iff.mp hy)
   simp [DictEntry.refKey, hkey]
  have a' : ¬ es.toList.any (·.refKey) = true := by rw [a]; exact Bool.false_ne_true
  rw [if_neg a']
  exact congrArg some e
theorem ObjM.look {h : Heap} {x dx C : Addr} {mA : Str → Option Value} (I : ObjM h x dx C mA) : ∃ od, PySem.W.InstAt h x (PySem.W.instObj C dx) C (some od) ∧ ∀ name, PySem.W.lookIn name od = some (mA name) :=
 let ⟨od, ho, hl⟩ := vW I.ns
 ⟨od, ⟨I.obj, rfl, rfl, ho⟩, hl⟩
section
variable {prog : Program} {w : World} {A : Around} {E : Value → Shared → Prop} {s : Shared} {K : PySem.W.Frag} {x dx C f : Addr} {mA : Str → Option Value} {name : Str} {v : Value}
end
noncomputable def putF (f : Str) (v : V) : List (Str × V) → List (Str × V)
 | [] => [(f, v)]
 | (g, x) :: r => if g = f then (g, v) :: r else (g, x) :: putF f v r
theorem wX (f g : Str) (v : V) : ∀ fs : List (Str × V), (putF f v fs).lookup g = if g = f then some v else fs.lookup g
 | [] => by
  show List.lookup g [(f, v)] = _
  by_cases h : g = f
  ·have hb : (g == f) = true := beq_iff_eq.mpr h
   simp only [List.lookup, hb, if_pos h]
  ·have hb : (g == f) = false := beq_eq_false_iff_ne.mpr h
   simp only [List.lookup, hb, if_neg h]
 | (k, x) :: r => by
  have ih := wX f g v r
  rw [show putF f v ((k, x) :: r) = (if k = f then (k, v) :: r else (k, x) :: putF f v r) from rfl]
  by_cases hk : k = f
  ·rw [if_pos hk]
   by_cases h : g = k
   ·have hb : (g == k) = true := beq_iff_eq.mpr h
    simp only [List.lookup, hb, if_pos (h.trans hk)]
   ·have hb : (g == k) = false := beq_eq_false_iff_ne.mpr h
    simp only [List.lookup, hb, if_neg (fun e : g = f => h (e.trans hk.symm))]
  ·rw [if_neg hk]
   by_cases h : g = k
   ·have hb : (g == k) = true := beq_iff_eq.mpr h
    simp only [List.lookup, hb, if_neg (fun e : g = f => hk (h.symm.trans e))]
   ·have hb : (g == k) = false := beq_eq_false_iff_ne.mpr h
    simp only [List.lookup, hb]
    exact ih
theorem wO (f : Str) (v : V) : ∀ fs : List (Str × V), f ∈ (putF f v fs).map (·.1) ∧ ∀ g, g ∈ fs.map (·.1) → g ∈ (putF f v fs).map (·.1)
 | [] => ⟨by simp [putF], fun g h => by simp at h⟩
 | (k, x) :: r => by
  obtain ⟨i1, i2⟩ := wO f v r
  rw [show putF f v ((k, x) :: r) = (if k = f then (k, v) :: r else (k, x) :: putF f v r) from rfl]
  by_cases hk : k = f
  ·rw [if_pos hk]
   subst hk
   exact ⟨by simp, fun g h => by simpa using h⟩
  ·rw [if_neg hk]
   refine ⟨?_, fun g h => ?_⟩
   ·rw [List.map_cons]
    exact List.mem_cons_of_mem _ i1
   ·rw [List.map_cons] at h ⊢
    rcases List.mem_cons.mp h with e | e
    ·exact List.mem_cons.mpr (.inl e)
    ·exact List.mem_cons_of_mem _ (i2 g e)
theorem RelO.some_of {v : V} {o : Option Value} (r : RelO (some v) o) : ∃ u, o = some u ∧ RelV v u := by
 cases o with
 | none => exact (show False from r).elim
 | some u => exact ⟨u, rfl, r⟩
theorem handed_of {v : V} {u : Value} (r : RelV v u) : PySem.W.handedIn u = true := by
 cases v with
 | non => cases (show u = Value.none from r); rfl
 | bl b => cases (show u = Value.bool b from r); rfl
 | int i => obtain ⟨t, e⟩ := (show ∃ t, u = Value.int i t from r); cases e; rfl
 | str x => obtain ⟨t, e⟩ := (show ∃ t, u = Value.str x t from r); cases e; rfl
 | byt b => obtain ⟨t, e⟩ := (show ∃ t, u = Value.bytes b t from r); cases e; rfl
 | flt b => obtain ⟨t, e⟩ := (show ∃ t, u = Value.float b t from r); cases e; rfl
 | ref a => cases (show u = Value.ref a from r); rfl
 | ty n => cases (show u = Value.type n from r); rfl
section
variable {P : Program} {w : World} {H H' : Hp} {h h' : Heap} {a C dx : Addr} {fs fs' : List (Str × V)}
theorem ins_get (hok : HOk P w H h) (e : H a = some (.ins C dx fs)) : ∃ mA, ObjM h a dx C mA ∧ (∀ f, RelO (fs.lookup f) (mA f)) ∧ PySem.Within mA (fs.map (·.1)) ∧ fs.length ≤ 1000 ∧ H dx = some (.own a) := by
 obtain ⟨d, z, ne, ob, mA, n, r, q⟩ := (show ObjOk P w H h a (.ins C dx fs) from hok a _ e)
 exact ⟨mA, ⟨ob, n, ne⟩, r, q, z, d⟩
end
structure Cls (K : PySem.W.Frag) (C : Addr) : Prop where
 pg : PySem.W.plainGet K C Str.empty = true
 hd : PySem.W.hasDictIn K C = true
 po : PySem.W.plainOver K C = true
 sa : PySem.W.findIn K (.ref C) "__setattr__" = some (some (.builtin "object.__setattr__"))
theorem Cls.get {K : PySem.W.Frag} {C : Addr} (c : Cls K C) (f : Str) : PySem.W.plainGet K C f = true := c.pg
noncomputable def zW (K : PySem.W.Frag) (C : Addr) (f : Str) : Prop := PySem.W.findIn K (.ref C) f = some none
structure Con (K : PySem.W.Frag) (C : Addr) (f : Str) (v : V) (u : Value) : Prop where
 at_ : PySem.W.findIn K (.ref C) f = some (some u)
 rel : RelV v u
 get : PySem.W.specialIn K u "__get__" = some none
 cp : PySem.W.copiedNames.contains f = false
structure Meth (K : PySem.W.Frag) (C : Addr) (m : Str) (f : Addr) : Prop where
 at_ : PySem.W.findIn K (.ref C) m = some (some (.ref f))
 fn : PySem.W.isFn K (.ref f) = true
 kp : PySem.W.keepIn K (.ref f) = true
section
variable {X : Cx} {pins : List (Addr × Obj)} {σ : St} {H : Hp} {s : Shared} {a C dx : Addr} {fs : List (Str × V)} {f : Str} {v : V} {A : Around} {E : Value → Shared → Prop}
theorem attr_of {prog : Program} {w : World} {env : Env} {e : Expr} {f : Str} {pos : Pos} {s : Shared} {Q : Value → Shared → Prop} (hb : attributeBase e f env (eval e env) = eval e env)
  (h : wpAny (model prog w) A (eval e env) (fun o s₁ => wpAny (model prog w) A (getAttr o f true) Q E s₁) E s) : wpAny (model prog w) A (eval (.Attribute e f pos) env) Q E s :=
 Attribute_any_ h (by rw [arm_eval_Attribute, hb])
end
section
variable {X : Cx} {o e value : Expr} {f : Str} {pos pos' tpos : Pos} {ta tv : TE}
end
section
variable {X : Cx} {pins : List (Addr × Obj)} {σ : St} {H : Hp} {s : Shared} {A : Around} {E : Value → Shared → Prop} {Q : Value → Shared → Prop} {c : Value} {b : Bool}
inductive TyOf (K : PySem.W.Frag) (H : Hp) : V → Value → Prop where
 | non : TyOf K H .non (.type "NoneType")
 | bl (x : Bool) : TyOf K H (.bl x) (.type "bool")
 | int (i : Int) : TyOf K H (.int i) (.type "int")
 | str (x : Str) : TyOf K H (.str x) (.type "str")
 | flt (x : UInt64) : TyOf K H (.flt x) (.type "float")
 | lst {a : Addr} {xs : List V} (e : H a = some (.lst xs)) : TyOf K H (.ref a) (.type "list")
 | frz {a : Addr} {o : Obj} {xs : List V} (e : H a = some (.frz o (.lst xs))) : TyOf K H (.ref a) (.type "list")
 | tup {a : Addr} {xs : List V} (e : H a = some (.tup xs)) : TyOf K H (.ref a) (.type "tuple")
 | dK {a : Addr} {kvs : List (Key × V)} (e : H a = some (.dK kvs)) : TyOf K H (.ref a) (.type "dict")
 | dT {a : Addr} {kvs : List (List Key × V)} (e : H a = some (.dT kvs)) : TyOf K H (.ref a) (.type "dict")
 | ins {a C dx : Addr} {fs : List (Str × V)} (e : H a = some (.ins C dx fs)) (cl : Cls K C) (ha : PySem.W.findIn K (.ref C) "__class__" = some (some (.builtin "object.__class__")))
   (hn : PySem.W.specialIn K (.builtin "object.__class__") "__get__" = some (some (.builtin "getset_descriptor.__get__"))) (htk : PySem.W.takesIn K (.builtin "object.__class__") = some true)
   (hm : PySem.W.mroIn K C (.type "object") = some true) : TyOf K H (.ref a) (.ref C)
theorem isinst_ok {x : V} {u t : Value} (I : Inv X pins σ H s) (rx : RelV x u) (ty : TyOf X.K H x t) (e : PySem.W.kitOne X.K t c = some b) (h : ∀ tk, Q (.bool b) { s with toks := tk }) :
  wpAny (model X.prog X.w) A (call (.builtin "isinstance") [u, c]) Q E s := by
 cases ty with
 | non => cases (show u = Value.none from rx); exact PySem.W.kia_one PySem.W.kitx_none I.kIn True.intro e (fun z => nomatch z) h
 | bl y => cases (show u = Value.bool y from rx); exact PySem.W.kia_one PySem.W.kitx_bool I.kIn True.intro e (fun z => nomatch z) h
 | int i => obtain ⟨t, q⟩ := (show ∃ t, u = Value.int i t from rx); cases q; exact PySem.W.kia_one PySem.W.kitx_int I.kIn True.intro e (fun z => nomatch z) h
 | str y => obtain ⟨t, q⟩ := (show ∃ t, u = Value.str y t from rx); cases q; exact PySem.W.kia_one PySem.W.kitx_str I.kIn True.intro e (fun z => nomatch z) h
 | flt y => obtain ⟨t, q⟩ := (show ∃ t, u = Value.float y t from rx); cases q; exact PySem.W.kia_one PySem.W.kitx_float I.kIn True.intro e (fun z => nomatch z) h
 | @lst a xs ea =>
  cases (show u = Value.ref a from rx)
  obtain ⟨_, _, n, _, h1⟩ := (show ObjOk X.prog X.w H s.heap a (.lst xs) from I.hok a _ ea)
  exact PySem.W.kia_one PySem.W.kitx_list I.kIn ⟨_, h1, rfl⟩ e (fun z => nomatch z) h
 | @frz a ob xs ea =>
  cases (show u = Value.ref a from rx)
  obtain ⟨_, _, _, n, _, h1⟩ := (show ObjOk X.prog X.w H s.heap a (.frz ob (.lst xs)) from I.hok a _ ea)
  exact PySem.W.kia_one PySem.W.kitx_list I.kIn ⟨_, h1, rfl⟩ e (fun z => nomatch z) h
 | @tup a xs ea =>
  cases (show u = Value.ref a from rx)
  obtain ⟨_, _, _, p⟩ := (show ObjOk X.prog X.w H s.heap a (.tup xs) from I.hok a _ ea)
  obtain ⟨o, h1, h2, _⟩ := p
  exact PySem.W.kia_one PySem.W.kitx_tuple I.kIn ⟨o, h1, h2⟩ e (fun z => nomatch z) h
 | @dK a kvs ea =>
  cases (show u = Value.ref a from rx)
  obtain ⟨_, _, vs, _, p⟩ := (show ObjOk X.prog X.w H s.heap a (.dK kvs) from I.hok a _ ea)
  obtain ⟨o, es, ep, h1, h2, _⟩ := p
  exact PySem.W.kia_one PySem.W.kitx_dict I.kIn ⟨o, h1, h2.1⟩ e (fun z => nomatch z) h
 | @dT a kvs ea =>
  cases (show u = Value.ref a from rx)
  obtain ⟨_, _, xs, _, o, es, ep, h1, h2, _⟩ := (show ObjOk X.prog X.w H s.heap a (.dT kvs) from I.hok a _ ea)
  exact PySem.W.kia_one PySem.W.kitx_dict I.kIn ⟨o, h1, h2.1⟩ e (fun z => nomatch z) h
 | @ins a C dx fs ea cl ha hn htk hm =>
  cases (show u = Value.ref a from rx)
  obtain ⟨mA, O, _⟩ := ins_get I.hok ea
  obtain ⟨od, J, _⟩ := O.look
  exact PySem.W.kia_one (PySem.W.kitx_own (cl.get _) cl.hd ha hn htk hm) I.kIn J e (fun z => nomatch z) h
end
structure Room (k : Nat) (A : Around) : Prop where
 hd : A.handled = none
 dp : A.depth + 3 * k + 5 < recursionLimit
 un : A.units + 16 * k + 200 < cLine
 gd : A.guards = some []
theorem Room.mono {j k : Nat} {A : Around} (r : Room k A) (h : j ≤ k) : Room j A := ⟨r.hd, by have := r.dp; lia, by have := r.un; lia, r.gd⟩
theorem Room.deeper {k : Nat} {A : Around} (r : Room (k + 1) A) (env : Env) : Room k (A.deeper env) :=
 ⟨r.hd, by have := r.dp; show A.depth + 1 + 3 * k + 5 < _; lia, by have := r.un; show A.units + 3 + 16 * k + 200 < _; lia, r.gd⟩
theorem make_depth {A : Around} {C : Addr} {us : List Value} {kw : List (Str × Value)} : (A.under (.builtin "type.__call__" ⟨.ref C :: us, kw⟩)).depth = A.depth + 1 := by
 first | rfl | simp [Around.under, Code.weight, Code.isCreation, Code.isGuard, Code.isCaller, Code.frames, Code.isFrame, guardIds]
theorem make_units {A : Around} {C : Addr} {us : List Value} {kw : List (Str × Value)} : (A.under (.builtin "type.__call__" ⟨.ref C :: us, kw⟩)).units = A.units + 1 := by
 first | rfl | simp [Around.under, Code.cUnits, Code.frames, Code.isFrame]
theorem Room.make {k : Nat} {A : Around} (r : Room (k + 1) A) (C : Addr) (us : List Value) (kw : List (Str × Value)) : Room k (A.under (.builtin "type.__call__" ⟨.ref C :: us, kw⟩)) :=
 ⟨r.hd, by have := r.dp; rw [make_depth]; lia, by have := r.un; rw [make_units]; lia, by first | exact r.gd | simpa [Around.under, Code.isGuard, Code.isFrame, guardIds] using r.gd⟩
theorem Room.depth {k : Nat} {A : Around} (r : Room k A) : A.depth < recursionLimit := by have := r.dp; lia
theorem Room.units {k : Nat} {A : Around} (r : Room k A) : A.units + 64 < cLine := by have := r.un; lia
noncomputable def tNil : TA := fun _ H Q => Q [] H
noncomputable def xV (ta : TE) (tr : TA) : TA := fun σ H Q => ta σ H fun x H1 => tr σ H1 fun xs H2 => Q (x :: xs) H2
section
variable {X : Cx} {e : Expr} {es : List Expr} {te : TE} {t : TA} {pos : Pos}
theorem zz : PA X [] tNil := fun _ _ _ _ H Q I h => Calls.spliced_nil ⟨[], H, I, .nil, h⟩
theorem zq (ha : PE X e te) (hr : PA X es t) (hs : starEach (e :: es) X.env = (false, eval e X.env) :: starEach es X.env := by rfl) : PA X (e :: es) (xV te t) := by
 intro pos pins s σ H Q I h
 rw [hs]
 show wpAny _ _ (spliced ((false, eval e X.env) :: backTo pos (starEach es X.env))) _ _ s
 refine Calls.spliced_cons (thn (ha pins s σ H _ I h) fun u s1 ⟨x, H1, I1, r1, q1⟩ => ?_)
 exact thn (hr pos pins s1 σ H1 _ I1 q1) fun us s2 ⟨xs, H2, I2, r2, q2⟩ => ⟨x :: xs, H2, I2, .cons r1 r2, q2⟩
noncomputable def tTup (t : TA) : TE := fun σ H Q => t σ H fun xs H1 => xs.length ≤ sizeLine ∧ ∀ p, H1 p = none → Q (.ref p) (upd H1 p (.tup xs))
noncomputable def tLst (t : TA) : TE := fun σ H Q => t σ H fun xs H1 => xs.length ≤ sizeLine ∧ ∀ p, H1 p = none → Q (.ref p) (upd H1 p (.lst xs))
theorem yt {x1} (h : PA X es t) : PE X (.Tuple es x1 pos) (tTup t) := by
 intro pins s σ H Q I hq
 refine wpAny_Tuple_spliced (thn (h pos pins s σ H _ I hq) fun us s1 ⟨xs, H1, I1, r, z, q⟩ => ⟨by rw [← r.length]; exact z, ?_⟩)
 have hf : H1 s1.heap.objs.size = none := I1.hok.fresh (Nat.le_refl _)
 refine ⟨.ref s1.heap.objs.size, upd H1 s1.heap.objs.size (.tup xs), I1.laid (t' := s1.toks) (fun b u e => Heap.get?_push_of_some _ e) (Nat.le_refl _) ?_, rfl, q _ hf⟩
 exact ⟨z, us, r, ⟨_, Heap.get?_push_size _ rfl, rfl, _, rfl⟩⟩
theorem zM (h : PA X es t) : PE X (.List es pos) (tLst t) := by
 intro pins s σ H Q I hq
 refine wpAny_List_spliced (thn (h pos pins s σ H _ I hq) fun us s1 ⟨xs, H1, I1, r, z, q⟩ => ⟨by rw [← r.length]; exact z, ?_⟩)
 have hf : H1 s1.heap.objs.size = none := I1.hok.fresh (Nat.le_refl _)
 refine ⟨.ref s1.heap.objs.size, upd H1 s1.heap.objs.size (.lst xs), I1.laid (t' := s1.toks) (fun b u e => Heap.get?_push_of_some _ e) (Nat.le_refl _) ?_, rfl, q _ hf⟩
 exact ⟨z, us, 0, r, Heap.get?_push_size _ rfl⟩
end
noncomputable abbrev Sp := List V → Hp → VK → XK → Prop
noncomputable abbrev CXT := List Env → Hp → Shared → XK → Value → Shared → Prop
structure Env0 (P : Program) (w : World) (K : PySem.W.Frag) (mg : Str → Option Value) (base : Heap) (A : Around) (outer : List Env) (s : Shared) (H : Hp) : Prop where
 frames : A.frames = some outer
 mod : Mod K mg base
 bs : ∀ b o, base.get? b = some o → s.heap.get? b = some o ∧ H b = none
 bsz : base.objs.size ≤ s.heap.objs.size
 funs : s.heap.FunFrames base outer
 frf : ∀ b ∈ frs outer, H b = none
 hok : HOk P w H s.heap
 bare : AllBare s.gens
noncomputable def CE (outer : List Env) (P : Program) (w : World) (H : Hp) (s : Shared) (Q : VK) (u : Value) (s' : Shared) : Prop :=
 ∃ v H', s'.os = s.os ∧ AllBare s'.gens ∧ Un (frs outer) [] H H' s.heap s'.heap ∧ HOk P w H' s'.heap ∧ RelV v u ∧ Q v H'
noncomputable def CR (CX : CXT) (outer : List Env) (P : Program) (w : World) (H : Hp) (s : Shared) (Q : VK) (E : XK) (r : Result) (s' : Shared) : Prop :=
 match r with
 | .ok (.ret u) => CE outer P w H s Q u s'
 | .ok _ => False
 | .error e => CX outer H s E e s'
structure FnOk (P : Program) (w : World) (K : PySem.W.Frag) (mg : Str → Option Value) (base : Heap) (CX : CXT) (k : Nat) (f : Addr) (fd : FuncData) (ps : List Str) (sp : Sp) : Prop where
 len : ∀ vs H Q E, sp vs H Q E → vs.length = ps.length
 run : ∀ (A : Around) (outer : List Env) (s : Shared) (H : Hp) (args : Args) (us : List Value) (vs : List V) (Q : VK) (E : XK), Room k A → Env0 P w K mg base A outer s H → BindsTo s fd args (ps.zip us) → Vals vs us → sp vs H Q E →
  codeAny (model P w) A (.call (.ref f) args) (CR CX outer P w H s Q E) s
theorem Env0.make {P : Program} {w : World} {K : PySem.W.Frag} {mg : Str → Option Value} {base : Heap} {A : Around} {outer : List Env} {s : Shared} {H : Hp} (e : Env0 P w K mg base A outer s H) (C : Addr) (us : List Value) (kw : List (Str × Value)) :
  Env0 P w K mg base (A.under (.builtin "type.__call__" ⟨.ref C :: us, kw⟩)) outer s H := ⟨by first | exact e.frames | (simpa [Around.under, Code.envs, Code.isFrame, pushEnvs] using e.frames), e.mod, e.bs, e.bsz, e.funs, e.frf, e.hok, e.bare⟩
section
variable {X : Cx} {pins : List (Addr × Obj)} {σ : St} {H : Hp} {s s' : Shared}
theorem Inv.env0 (I : Inv X pins σ H s) : Env0 X.prog X.w X.K X.mg X.base X.A X.stack s H :=
 ⟨I.ok.frames, I.ok.mod, I.bs, Nat.le_trans I.ok.bsz I.sz, I.stack, I.stkFree, I.hok, I.bare⟩
theorem Inv.after {Q : VK} {u : Value} (I : Inv X pins σ H s) (h : CE X.stack X.prog X.w H s Q u s') : EP X pins σ Q u s' := by
 obtain ⟨v, H', os, bare, un, hok, r, q⟩ := h
 obtain ⟨hh, g, d, t, os'⟩ := s'
 obtain rfl : os' = s.os := os
 exact ⟨v, H', I.call (h' := hh) (g' := g) (d' := d) (t' := t) (ch := []) un hok bare (fun b z => absurd z (by simp)), r, q⟩
end
noncomputable def YX (sp : Sp) (dvs : List V) (E : XK) (t : TA) : TE := fun σ H Q => t σ H fun vs H1 => sp (vs ++ dvs) H1 Q E
noncomputable def Binds (K : PySem.W.Frag) (fd : FuncData) (ps : List Str) (ds : List Value) : Prop :=
 ∀ (s : Shared) (us : List Value), K.In s.heap → (us ++ ds).length = ps.length → BindsTo s fd ⟨us, []⟩ (ps.zip (us ++ ds))
theorem Binds.all {K : PySem.W.Frag} {fd : FuncData} {ps : List Str} (h : ∀ us : List Value, us.length = ps.length → bindArgs fd ⟨us, []⟩ = pure (ps.zip us)) : Binds K fd ps [] := fun s us _ hl => by
 rw [List.append_nil] at hl ⊢
 exact .of_eq (h us hl)
noncomputable def YL (CX : CXT) (X : Cx) (E : XK) : Prop := ∀ (pins : List (Addr × Obj)) (σ : St) (H : Hp) (s : Shared) (e : Value) (s' : Shared), Inv X pins σ H s → CX X.stack H s E e s' → X.xe e s'
section
variable {X : Cx} {CX : CXT} {k : Nat} {f C : Addr} {fd : FuncData} {ps : List Str} {sp : Sp} {dvs : List V} {ds : List Value} {E : XK} {x m : Str} {p pos apos : Pos} {e o : Expr} {es : List Expr} {ta : TE} {t : TA}
theorem run_fn {pins : List (Addr × Obj)} {σ : St} {H : Hp} {s : Shared} {Q : VK} {us : List Value} {vs : List V} (F : FnOk X.prog X.w X.K X.mg X.base CX k f fd ps sp) (hr : Room k X.A) (hb : Binds X.K fd ps ds) (hd : Vals dvs ds) (hx : YL CX X E)
  (I : Inv X pins σ H s) (r : Vals vs us) (h : sp (vs ++ dvs) H Q E) : wpAny (model X.prog X.w) X.A (call (.ref f) us) (EP X pins σ Q) X.xe s := by
 have r2 : Vals (vs ++ dvs) (us ++ ds) := r.append hd
 have hl : (us ++ ds).length = ps.length := by rw [← r2.length]; exact F.len _ _ _ _ h
 refine wpAny_call (codeAny_mono (F.run X.A X.stack s H ⟨us, []⟩ (us ++ ds) (vs ++ dvs) Q E hr I.env0 (hb s us I.kIn hl) r2 h) fun r s' hq => ?_)
 cases r with
 | error e => exact hx pins σ H s e s' I hq
 | ok fl =>
  cases fl with
  | ret u => exact I.after hq
  | next => exact False.elim hq
  | brk => exact False.elim hq
  | cont => exact False.elim hq
theorem pe_call (F : FnOk X.prog X.w X.K X.mg X.base CX k f fd ps sp) (hr : Room k X.A) (hg : Gl X x) (hm : X.mg x = some (.ref f)) (hk : PySem.W.keepIn X.K (.ref f) = true) (hb : Binds X.K fd ps ds) (hd : Vals dvs ds) (hx : YL CX X E)
  (ha : PA X (e :: es) t) (hdb : (x == ("__debug__" : Str)) = false := by decide) (he : starEach (e :: es) X.env = (false, eval e X.env) :: starEach es X.env := by rfl) (hpl : (backTo pos (starEach es X.env)).any (·.1) = false := by rfl) :
  PE X (.Call (.Name x p) (e :: es) [] pos) (YX sp dvs E t) := by
 intro pins s σ H Q I h
 refine wpAny_Call_Name_kw (xP I hg hm ?_ hdb)
 refine PySem.W.callWith_K (h₀ := X.base) I.ok.mod.kin hk (thn (ha pos pins s σ H _ I h) fun us s1 ⟨vs, H1, I1, r, q⟩ => ⟨I1.kIn, ?_⟩) he hpl
 exact run_fn F hr hb hd hx I1 r q
structure Mk (K : PySem.W.Frag) (C f : Addr) : Prop where
 makes : PySem.W.makesIn K C = true
 init : PySem.W.findIn K (.ref C) "__init__" = some (some (.ref f))
 fn : PySem.W.isFn K (.ref f) = true
 kp : PySem.W.keepIn K (.ref C) = true
end
section
variable {X : Cx} {CX : CXT} {k : Nat} {f C : Addr} {fd : FuncData} {ps ks : List Str} {sp : Sp} {E : XK} {x m : Str} {p pos apos kpos : Pos} {e o : Expr} {es : List Expr} {kws : List Keyword} {te ta : TE} {t tk : TA} {nm : Option Str}
structure KBinds (K : PySem.W.Frag) (fd : FuncData) (ps ks : List Str) (g : List Value → List Value → List Value) (gV : List V → List V → List V) : Prop where
 to : ∀ (s : Shared) (us ws : List Value), K.In s.heap → (g us ws).length = ps.length → BindsTo s fd ⟨us, ks.zip ws⟩ (ps.zip (g us ws))
 rel : ∀ {vs : List V} {us : List Value} {zs : List V} {ws : List Value}, Vals vs us → Vals zs ws → Vals (gV vs zs) (g us ws)
variable {g : List Value → List Value → List Value} {gV : List V → List V → List V}
end
structure FnScope (N P : List Str) (sc : Scope) : Prop where
 kind : sc.kind = .function
 co : sc.isCoroutine = false
 gen : sc.isGenerator = false
 nd : N.Nodup
 pre : N.take P.length = P
 par : ∀ x ∈ P, sc.names.lookup x = some .local ∨ sc.names.lookup x = some .cell
 nofree : ∀ y ∈ sc.names, y.2 ≠ .free
theorem Zg {kindOf : Str → Option NameKind} {x : Str} : ∀ {binds : List (Str × Value)} {m : Str → Option Value}, (∀ v, (x, v) ∉ binds) → bindL kindOf binds m x = m x
 | [], _, _ => rfl
 | (n, v) :: r, m, h => by
  unfold bindL
  rw [Zg fun w hw => h w (List.mem_cons_of_mem _ hw)]
  split
  ·have : x ≠ n := by rintro rfl; exact h v List.mem_cons_self
   simp [this]
  ·rfl
theorem Zi {kindOf : Str → Option NameKind} {x : Str} : ∀ {binds : List (Str × Value)} {m : Str → Option Value}, (∀ v, (x, v) ∉ binds) → bindC kindOf binds m x = m x
 | [], _, _ => rfl
 | (n, v) :: r, m, h => by
  unfold bindC
  rw [Zi fun w hw => h w (List.mem_cons_of_mem _ hw)]
  split
  ·rfl
  ·have : x ≠ n := by rintro rfl; exact h v List.mem_cons_self
   simp [this]
theorem Zh {kindOf : Str → Option NameKind} {x : Str} {v : Value} : ∀ {P : List Str} {vs : List Value} {i : Nat} {m : Str → Option Value}, P.Nodup → P[i]? = some x → vs[i]? = some v → kindOf x = some .local →
  bindL kindOf (P.zip vs) m x = some v
 | [], _, _, _, _, h, _, _ => by simp at h
 | _ :: _, [], _, _, _, _, h, _ => by simp at h
 | p :: P, w :: vs, 0, m, nd, h1, h2, hk => by
  simp at h1 h2; subst h1; subst h2
  show bindL kindOf ((p, w) :: P.zip vs) m p = _
  unfold bindL
  rw [Zg fun v hv => (List.nodup_cons.mp nd).1 (List.of_mem_zip hv).1, if_pos hk]
  simp
 | p :: P, w :: vs, i + 1, m, nd, h1, h2, hk => by
  show bindL kindOf ((p, w) :: P.zip vs) m x = _
  unfold bindL
  exact Zh (i := i) (List.nodup_cons.mp nd).2 (by simpa using h1) (by simpa using h2) hk
theorem Zj {kindOf : Str → Option NameKind} {x : Str} {v : Value} : ∀ {P : List Str} {vs : List Value} {i : Nat} {m : Str → Option Value}, P.Nodup → P[i]? = some x → vs[i]? = some v → kindOf x ≠ some .local →
  bindC kindOf (P.zip vs) m x = some v
 | [], _, _, _, _, h, _, _ => by simp at h
 | _ :: _, [], _, _, _, _, h, _ => by simp at h
 | p :: P, w :: vs, 0, m, nd, h1, h2, hk => by
  simp at h1 h2; subst h1; subst h2
  show bindC kindOf ((p, w) :: P.zip vs) m p = _
  unfold bindC
  rw [Zi fun v hv => (List.nodup_cons.mp nd).1 (List.of_mem_zip hv).1, if_neg hk]
  simp
 | p :: P, w :: vs, i + 1, m, nd, h1, h2, hk => by
  show bindC kindOf ((p, w) :: P.zip vs) m x = _
  unfold bindC
  exact Zj (i := i) (List.nodup_cons.mp nd).2 (by simpa using h1) (by simpa using h2) hk
noncomputable def start (N : List Str) (vs : List V) : St := vs.map some ++ List.replicate (N.length - vs.length) none
noncomputable def cxOf (CX : CXT) (P : Program) (w : World) (K : PySem.W.Frag) (mg : Str → Option Value) (base : Heap) (N : List Str) (qual : Str) (scope : Scope) (f : Addr) (cd : Value) (A : Around) (outer : List Env) (s : Shared) (H : Hp) (E : XK) : Cx where
 prog := P
 w := w
 K := K
 mg := mg
 base := base
 A := A.deeper (envOfC qual scope s.heap.objs.size f cd)
 N := N
 s₀ := s
 H₀ := H
 env := envOfC qual scope s.heap.objs.size f cd
 outer := outer
 stack := envOfC qual scope s.heap.objs.size f cd :: outer
 ex := []
 calm := true
 fn := fun _ => true
 pn := []
 xe := fun e s' => wpAny (model P w) (A.deeper (envOfC qual scope s.heap.objs.size f cd)) (leaving (envOfC qual scope s.heap.objs.size f cd) e) (fun _ s'' => CX outer H s E e s'') (fun e' s'' => CX outer H s E e' s'') s'
theorem Yp {sc : Scope} {n : Nat} {x : Str} (h : sc.names.lookup x = some .cell) : ∃ c, (cellsFrom n sc.names []).lookup x = some c := by
 have q := PySem.W.cellsFrom_some sc.names n [] (.inl h)
 exact Option.isSome_iff_exists.mp q
theorem inv_start {CX : CXT} {P : Program} {w : World} {K : PySem.W.Frag} {mg : Str → Option Value} {base : Heap} {N ps : List Str} {qual : Str} {scope : Scope} {f : Addr} {cd : Value} {A : Around} {outer : List Env} {s s1 : Shared} {H : Hp} {E : XK} {us : List Value} {vs : List V}
  (S : FnScope N ps scope) (hd : A.handled = none) (e0 : Env0 P w K mg base A outer s H) (hl : vs.length = ps.length) (r : Vals vs us)
  (x : InCallC s s.heap.objs.size (bindL (envOfC qual scope s.heap.objs.size f cd).kindOf (ps.zip us) fun _ => none) (cellsFrom (s.heap.objs.size + 1) scope.names []) (bindC (envOfC qual scope s.heap.objs.size f cd).kindOf (ps.zip us) fun _ => none) s1) :
  Inv (cxOf CX P w K mg base N qual scope f cd A outer s H E) [] (start N vs) H s1 := by
 have hpl : ps.length ≤ N.length := by have := congrArg List.length S.pre; rw [List.length_take] at this; lia
 obtain ⟨h1, tk, rfl, hk⟩ := x.done
 have noA : ∀ b : Addr, b ∉ (cxOf CX P w K mg base N qual scope f cd A outer s H E).ex := fun b z => absurd (show b ∈ ([] : List Addr) from z) (by simp)
 refine ⟨⟨e0.mod, S.kind, rfl, rfl, Nat.le_refl _, fun y z c h1 h2 => ?_, fun y hy => ?_, fun y c _ h => ?_, fun _ => hd, Around.frames_deeper e0.frames, .inr ⟨rfl, rfl⟩, fun b z => absurd z (noA b), e0.bs, e0.bsz, fun b _ _ => noA b, fun b z => absurd z (noA b), e0.funs, e0.frf⟩,
  rfl, e0.bare, Un.kept hk, ⟨_, x.toInCall.ns, fun i y v h1 h2 h3 => ?_⟩, fun y c h => ⟨_, x.cell y c h⟩, e0.hok.fresh (Nat.le_refl _), fun y c h => ?_, fun p hp => absurd (show p ∈ ([] : List (Addr × Obj)) from hp) (by simp), e0.hok.kept hk, ?_⟩
 ·exact name_of_addr x.apart (PySem.mem_of_lookup h1) (PySem.mem_of_lookup h2)
 ·have hy : scope.names.lookup y = some .cell ∨ scope.names.lookup y = some .free := hy
  rcases hy with hy | hy
  ·exact Yp hy
  ·exact absurd rfl (S.nofree _ (PySem.mem_of_lookup hy))
 ·exact Nat.le_of_lt (x.above y c (PySem.mem_of_lookup h))
 ·have hi : i < vs.length := by
   unfold start at h2
   by_cases hi : i < vs.length
   ·exact hi
   ·rw [List.getElem?_append_right (by simpa using hi)] at h2
    rw [List.getElem?_replicate] at h2
    split at h2 <;> cases h2
  have ha : vs[i]? = some v := by
   unfold start at h2
   rw [List.getElem?_append_left (by simpa using hi), List.getElem?_map] at h2
   cases e : vs[i]? with
   | none => rw [e] at h2; cases h2
   | some a => rw [e] at h2; cases h2; rfl
  obtain ⟨u, hu, rv⟩ := r.get ha
  have hp : ps[i]? = some y := by
   rw [← S.pre, List.getElem?_take_of_lt (by lia)]; exact h1
  have ndP : ps.Nodup := by rw [← S.pre]; exact S.nd.sublist (List.take_sublist _ _)
  refine ⟨u, rv, ?_⟩
  rcases S.par y (List.mem_of_getElem? hp) with k | k
  ·exact .inl ⟨k, Zh ndP hp hu k⟩
  ·obtain ⟨c, e⟩ := Yp (n := s.heap.objs.size + 1) k
   refine .inr ⟨.inl k, c, e, ?_⟩
   have q := x.cell y c e
   rw [Zj ndP hp hu (by show scope.names.lookup y ≠ _; rw [k]; decide)] at q
   exact q
 ·exact e0.hok.fresh (Nat.le_of_lt (x.above y c (PySem.mem_of_lookup h)))
 ·unfold start
  show _ = N.length
  rw [List.length_append, List.length_map, List.length_replicate]
  lia
theorem WL {CX : CXT} {P : Program} {w : World} {K : PySem.W.Frag} {mg : Str → Option Value} {base : Heap} {k : Nat} {f : Addr} {name qual : Str} {params : Arguments} {body : List Stmt} {scope : Scope} {dV kV doc pm cdv ct oc : Value} {an od : Option Addr}
  {osl : Array (Option Value)} {N ps : List Str} {sp : Sp} (lk : K.lookup f = some ⟨oc, od, .func (PySem.W.fnOf name qual params body scope dV kV doc pm an cdv ct), osl⟩) (hcd : PySem.W.codeIn K cdv qual = true) (S : FnScope N ps scope)
  (len : ∀ vs H Q E, sp vs H Q E → vs.length = ps.length)
  (hbody : ∀ (A : Around) (outer : List Env) (s : Shared) (H : Hp) (vs : List V) (Q : VK) (E : XK), Room k (A.deeper (envOfC qual scope s.heap.objs.size f cdv)) → sp vs H Q E →
   ∃ t, PSs (cxOf CX P w K mg base N qual scope f cdv A outer s H E) body t ∧ t { nx := fun _ H' => Q .non H', rt := Q } (start N vs) H) :
  FnOk P w K mg base CX (k + 1) f (PySem.W.fnOf name qual params body scope dV kV doc pm an cdv ct) ps sp := by
 refine ⟨len, fun A outer s H args us vs Q E hr e0 hb r hsp => ?_⟩
 have hl := len _ _ _ _ hsp
 have KX : K.In s.heap := e0.mod.kin.keeps fun b o e => (e0.bs b o e).1
 have lim : s.heap.NoLimit := e0.mod.nolimit.keeps fun b o e => (e0.bs b o e).1
 have hkind : ∀ y ∈ ps.zip us, scope.names.lookup y.1 = some .local ∨ (scope.names.lookup y.1 = some .cell ∧ ((cellsFrom (s.heap.objs.size + 1) scope.names []).lookup y.1).isSome = true) := fun ⟨n, v⟩ hy => by
  rcases S.par n (List.of_mem_zip hy).1 with q | q
  ·exact .inl q
  ·exact .inr ⟨q, PySem.W.cellsFrom_some _ _ _ (.inl q)⟩
 refine codeAny_call_function hr.depth (KX _ _ lk) rfl S.co S.gen rfl (PySem.W.codeRec_of KX hcd) (hb _ _ _ _ ?_)
 refine wpAny_newFunctionEnv_cells S.kind hkind fun env he s1 x => ?_
 subst he
 refine ⟨lim.keeps x.toInCall.keep, codeAny_func ?_⟩
 obtain ⟨t, ht, hq⟩ := hbody A outer s H vs Q E (hr.deeper _) hsp
 have I : Inv (cxOf CX P w K mg base N qual scope f cdv A outer s H E) [] (start N vs) H s1 := inv_start S hr.hd e0 hl r x
 refine wpAny_mono (ht [] s1 (start N vs) H _ I hq) (fun fl s' hs => ?_) fun e s' hs => hs
 have fin : ∀ {σ' : St} {H' : Hp} {v : V} {u : Value}, Inv (cxOf CX P w K mg base N qual scope f cdv A outer s H E) [] σ' H' s' → RelV v u → Q v H' → CE outer P w H s Q u s' :=
  fun {σ' H' v u} J rv q => ⟨v, H', J.os, J.bare, J.base, J.hok, rv, q⟩
 cases fl with
 | ret u =>
  obtain ⟨v, σ', H', J, rv, q⟩ := hs
  exact fin J rv q
 | next =>
  obtain ⟨σ', H', J, q⟩ := hs
  exact fin (v := V.non) (u := Value.none) J rfl q
 | brk =>
  obtain ⟨_, _, _, q⟩ := hs
  exact False.elim q
 | cont =>
  obtain ⟨_, _, _, q⟩ := hs
  exact False.elim q
section
variable {X : Cx} {x : Str} {p pos : Pos} {e : Expr} {es : List Expr} {t : TA} {id T : String} {r : List V → Hp → VK → Prop}
noncomputable def tCB (r : List V → Hp → VK → Prop) (t : TA) : TE := fun σ H Q => t σ H fun vs H1 => r vs H1 Q
theorem wx (hc : yb X (.builtin id) r) (hg : Gl X x) (hm : X.mg x = none) (hv : bootBuiltins x = some (.builtin id)) (ha : PA X (e :: es) t) (hn : x ≠ "__name__" := by decide) (hdb : (x == ("__debug__" : Str)) = false := by decide)
  (he : starEach (e :: es) X.env = (false, eval e X.env) :: starEach es X.env := by rfl) (hpl : (backTo pos (starEach es X.env)).any (·.1) = false := by rfl) : PE X (.Call (.Name x p) (e :: es) [] pos) (tCB r t) := by
 intro pins s σ H Q I h
 refine wpAny_Call_Name_kw (wN I hg hm hv ?_ hn hdb)
 exact PyProof.Rows.callWith_builtin1 (thn (ha pos pins s σ H _ I h) fun us s1 ⟨vs, H1, I1, r1, q1⟩ => hc pins s1 σ H1 vs us Q I1 r1 q1) he hpl
theorem xM (hc : yb X (.type T) r) (hg : Gl X x) (hm : X.mg x = none) (hv : bootBuiltins x = some (.type T)) (ha : PA X (e :: es) t) (hn : x ≠ "__name__" := by decide) (hdb : (x == ("__debug__" : Str)) = false := by decide)
  (he : starEach (e :: es) X.env = (false, eval e X.env) :: starEach es X.env := by rfl) (hpl : (backTo pos (starEach es X.env)).any (·.1) = false := by rfl) : PE X (.Call (.Name x p) (e :: es) [] pos) (tCB r t) := by
 intro pins s σ H Q I h
 refine wpAny_Call_Name_kw (wN I hg hm hv ?_ hn hdb)
 exact PyProof.Rows.callWith_type1 (thn (ha pos pins s σ H _ I h) fun us s1 ⟨vs, H1, I1, r1, q1⟩ => hc pins s1 σ H1 vs us Q I1 r1 q1) he hpl
end
end L2
namespace HT
open PySem PyProof.Rows
section
open PySem.SeqAt
open PySem.AutoSeq1 (wpAny_loadPart')
open PySem.MeetsSeq PySem.MeetsSeq2 PySem.MeetsSeq3
end
section
variable {prog : Program} {w : World} {A : Around} {E : Value → Shared → Prop} {s : Shared}
theorem cat_tup {t b : Addr} {vs ws : List Value} {Q : Value → Shared → Prop} (ht : IsTup s.heap t vs.toArray) (hb : IsTup s.heap b ws.toArray) (hv : vs ≠ [])
  (h1 : ws = [] → Q (.ref t) s) (h2 : ws ≠ [] → Q (.ref s.heap.objs.size) { s with heap := s.heap.push { cls := .type "tuple", data := .seq (vs ++ ws).toArray } })
  (hsz : vs.length + ws.length ≤ sizeLine) : wpAny (model prog w) A (binaryOp .Add (.ref t) (.ref b)) Q E s := by
 obtain ⟨⟨cls, dd, data, sl⟩, ho, hc, n, hd⟩ := id ht
 obtain ⟨⟨cls2, dd2, data2, sl2⟩, ho2, hc2, n2, hd2⟩ := id hb
 simp only at hc hd hc2 hd2
 subst hc hd hc2 hd2
 have e : vs.toArray ++ ws.toArray = (vs ++ ws).toArray := by simp
 by_cases hw : ws = []
 ·exact concat_meets ⟨_, ho, rfl⟩ ⟨_, ho2, rfl⟩ noFill_tuple_add seq_tuple_add PySem.F.slot_tuple_add PySem.F.entry_tuple_add (PySem.F.args_tuple_add_2 _ _)
   (tuple_addW1 t b vs.toArray ws.toArray n n2 dd dd2 sl sl2 (by simpa using hv) (by simp [hw])) ⟨ho, ho2, h1 hw⟩
 ·refine concat_meets ⟨_, ho, rfl⟩ ⟨_, ho2, rfl⟩ noFill_tuple_add seq_tuple_add PySem.F.slot_tuple_add PySem.F.entry_tuple_add (PySem.F.args_tuple_add_2 _ _)
   (tuple_addW2 t b vs.toArray ws.toArray n n2 dd dd2 sl sl2 (by simpa using hv) (by simpa using hw) (by rw [List.size_toArray, List.size_toArray]; exact hsz)) ⟨ho, ho2, ?_⟩
  rw [e]
  exact h2 hw
noncomputable def sIx (n d : Nat) : Option Int → Nat
 | none => d
 | some v => if v < 0 then (v + (n : Int)).toNat else min v.toNat n
theorem sIx_none (n d : Nat) : sIx n d none = d := rfl
theorem sIx_nat (n d k : Nat) : sIx n d (some (k : Int)) = min k n := by
 show (if (k : Int) < 0 then ((k : Int) + (n : Int)).toNat else min (k : Int).toNat n) = min k n
 rw [if_neg (by lia), Int.toNat_natCast]
end
end HT
namespace L2
open PySem PySem.Spec PyProof.Rows
noncomputable abbrev TO := St → Hp → (Option Int → Hp → Prop) → Prop
noncomputable def PO (X : Cx) (e : Option Expr) (t : TO) : Prop :=
 ∀ (pins : List (Addr × Obj)) (s : Shared) (σ : St) (H : Hp) (Q : Option Int → Hp → Prop), Inv X pins σ H s → t σ H Q →
  wpAny (model X.prog X.w) X.A (evalPart e X.env) (fun u s' => ∃ o H', Inv X pins σ H' s' ∧ IsPart u o ∧ Q o H') X.xe s
noncomputable def YW : TO := fun _ H Q => Q none H
noncomputable def Wu (t : TE) : TO := fun σ H Q => t σ H fun x H1 => ∃ i, x = .int i ∧ Q (some i) H1
section
variable {X : Cx} {e : Expr} {te : TE} {lo hi : Option Expr} {tl th : TO} {pos p2 : Pos}
theorem y0 : PO X none YW := by
 intro pins s σ H Q I h
 rw [evalPart_none]
 exact wpAny_pure ⟨none, H, I, .none, h⟩
theorem yF (h : PE X e te) : PO X (some e) (Wu te) := by
 intro pins s σ H Q I hw
 rw [evalPart_some]
 refine thn (h pins s σ H _ I hw) fun u s1 ⟨x, H1, I1, r1, q1⟩ => ?_
 obtain ⟨i, rfl, q⟩ := q1
 obtain ⟨t, rfl⟩ := r1
 exact ⟨some i, H1, I1, .int i t, q⟩
noncomputable def SlR (X : Cx) (r : V → Option Int → Option Int → Hp → VK → Prop) : Prop :=
 ∀ (pins : List (Addr × Obj)) (s : Shared) (σ : St) (H : Hp) (x : V) (v vl vu : Value) (lo hi : Option Int) (sl : Addr) (Q : VK), Inv X pins σ H s → RelV x v → s.heap.IsSliceOf sl vl vu .none → IsPart vl lo → IsPart vu hi → r x lo hi H Q →
  ∃ T id, typeLookup (.type T) "__getitem__" = pure (some (.builtin id)) ∧ s.TypeIs v T ∧ wpAny (model X.prog X.w) X.A (getItem v (.ref sl)) (EP X pins σ Q) X.xe s
noncomputable def tSl (r : V → Option Int → Option Int → Hp → VK → Prop) (te : TE) (tl th : TO) : TE := fun σ H Q => te σ H fun x H1 => tl σ H1 fun l H2 => th σ H2 fun u H3 => r x l u H3 Q
theorem yz {r : V → Option Int → Option Int → Hp → VK → Prop} (hr : SlR X r) (he : PE X e te) (hl : PO X lo tl) (hu : PO X hi th) : PE X (.Subscript e (.Slice lo hi none p2) pos) (tSl r te tl th) := by
 intro pins s σ H Q I h
 refine Subscript_ (thn (he pins s σ H _ I h) fun v s1 ⟨x, H1, I1, r1, q1⟩ => ?_)
 refine wpAny_Slice (thn (hl pins s1 σ H1 _ I1 q1) fun vl s2 ⟨l, H2, I2, pl, q2⟩ => thn (hu pins s2 σ H2 _ I2 q2) fun vu s3 ⟨u, H3, I3, pu, q3⟩ => ?_)
 rw [evalPart_none]
 refine wpAny_pure ?_
 have I4 : Inv X pins σ H3 { s3 with heap := s3.heap.push { cls := .type "slice", data := .fields #[vl, vu, .none] } } := I3.kept (t' := s3.toks) fun b ob q => Heap.get?_push_of_some _ q
 obtain ⟨T, id, hT, ht, hg⟩ := hr pins { s3 with heap := s3.heap.push { cls := .type "slice", data := .fields #[vl, vu, .none] } } σ H3 x v vl vu l u s3.heap.objs.size Q I4 r1 (Heap.IsSliceOf.new ..) pl pu q3
 show wpAny (model X.prog X.w) X.A (subscriptTail e (.Slice lo hi none p2) v (.ref s3.heap.objs.size)) (EP X pins σ Q) X.xe { s3 with heap := s3.heap.push { cls := .type "slice", data := .fields #[vl, vu, .none] } }
 exact tail_any (ops := [.ref s3.heap.objs.size, v]) ht hT hg (by with_unfolding_all rfl)
noncomputable def cutV (xs : List V) (lo hi : Option Int) : List V := (xs.drop (HT.sIx xs.length 0 lo)).take (HT.sIx xs.length xs.length hi - HT.sIx xs.length 0 lo)
theorem cutV_length (xs : List V) (lo hi : Option Int) : (cutV xs lo hi).length ≤ xs.length := by
 unfold cutV
 rw [List.length_take, List.length_drop]
 lia
noncomputable def rCatT (K : PySem.W.Frag) : R2 := fun x y H Q => ∃ a b xs ys, x = .ref a ∧ y = .ref b ∧ SqT K H a xs ∧ SqT K H b ys ∧ xs ≠ [] ∧ xs.length + ys.length ≤ sizeLine ∧
 (ys = [] → Q (.ref a) H) ∧ (ys ≠ [] → ∀ p, H p = none → Q (.ref p) (upd H p (.tup (xs ++ ys))))
theorem Vals.nil_iff {xs : List V} {us : List Value} (r : Vals xs us) : us = [] ↔ xs = [] := by
 cases r with
 | nil => simp
 | cons _ _ => simp
theorem op_catT : OpR X (binaryOp .Add) (rCatT X.K) := by
 intro pins s σ H x y v u Q I rx ry h
 obtain ⟨a, b, xs, ys, rfl, rfl, ha, hb, hx, hz, q1, q2⟩ := h
 cases rx
 cases ry
 obtain ⟨its, r1, p1, _⟩ := I.tuple ha
 obtain ⟨its2, r2, p2, _⟩ := I.tuple hb
 refine HT.cat_tup p1 p2 (fun z => hx (r1.nil_iff.mp z)) (fun z => ⟨.ref a, H, I, rfl, q1 (r2.nil_iff.mp z)⟩) (fun z => ?_) (by rw [← r1.length, ← r2.length]; exact hz)
 refine ⟨.ref s.heap.objs.size, _, I.laid (t' := s.toks) (o := .tup (xs ++ ys)) (fun b ob q => Heap.get?_push_of_some _ q) (Nat.le_refl _) ?_, rfl, q2 (fun w => z (r2.nil_iff.mpr w)) _ (I.hok.fresh (Nat.le_refl _))⟩
 exact ⟨by rw [List.length_append]; exact hz, _, r1.append r2, IsTup.new _ _⟩
end
noncomputable def ixN (n : Nat) (i : Int) : Option Nat := if 0 ≤ i then (if i < n then some i.toNat else none) else if -(n : Int) ≤ i then some (i + n).toNat else none
noncomputable def atI {α : Type} (xs : List α) (i : Int) : Option α := (ixN xs.length i).bind fun j => xs[j]?
theorem ZK {n : Nat} {i : Int} {j : Nat} (h : ixN n i = some j) : seqIndex? i n = some j ∧ j < n ∧ -(n : Int) ≤ i ∧ i < n := by
 unfold ixN at h
 by_cases h0 : 0 ≤ i
 ·rw [if_pos h0] at h
  by_cases h1 : i < n
  ·rw [if_pos h1] at h
   have e : i.toNat = j := Option.some.inj h
   exact ⟨by rw [seqIndex_of h0 h1, e], by lia, by lia, h1⟩
  ·rw [if_neg h1] at h; cases h
 ·rw [if_neg h0] at h
  by_cases h1 : -(n : Int) ≤ i
  ·rw [if_pos h1] at h
   have e : (i + n).toNat = j := Option.some.inj h
   exact ⟨by rw [seqIndex_neg (by lia) h1, e], by lia, h1, by lia⟩
  ·rw [if_neg h1] at h; cases h
theorem ZQ {α : Type} {xs : List α} {i : Int} {v : α} (h : atI xs i = some v) : ∃ j, seqIndex? i xs.length = some j ∧ xs[j]? = some v ∧ j < xs.length ∧ -(xs.length : Int) ≤ i ∧ i < xs.length := by
 unfold atI at h
 cases e : ixN xs.length i with
 | none => rw [e] at h; cases h
 | some j =>
  rw [e] at h
  obtain ⟨h1, h2, h3, h4⟩ := ZK e
  exact ⟨j, h1, h, h2, h3, h4⟩
theorem zG {α : Type} {xs : List α} {j : Nat} {v : α} (h : xs[j]? = some v) : atI xs (j : Int) = some v := by
 have hj : j < xs.length := (List.getElem?_eq_some_iff.mp h).1
 have e : ixN xs.length (j : Int) = some j := by
  unfold ixN
  rw [if_pos (by lia), if_pos (by lia)]; simp
 unfold atI; rw [e]; exact h
noncomputable def PlainIx (b : Expr) : Prop := ∀ o i, subscripted b false o i = operate [o, i] (getItem o i)
noncomputable def IxR (X : Cx) (r : R2) : Prop :=
 ∀ (value slice : Expr) (pins : List (Addr × Obj)) (s : Shared) (σ : St) (H : Hp) (x y : V) (v u : Value) (Q : VK), Inv X pins σ H s → RelV x v → RelV y u → r x y H Q →
  subscripted slice false v u = operate [v, u] (getItem v u) → wpAny (model X.prog X.w) X.A (subscriptTail value slice v u) (EP X pins σ Q) X.xe s
noncomputable def MtR (X : Cx) (id : String) (r : V → List V → Hp → VK → Prop) : Prop :=
 ∀ (pins : List (Addr × Obj)) (s : Shared) (σ : St) (H : Hp) (x : V) (xs : List V) (v : Value) (us : List Value) (Q : VK), Inv X pins σ H s → RelV x v → Vals xs us → r x xs H Q →
  wpAny (model X.prog X.w) X.A (call (.builtin id) (v :: us)) (EP X pins σ Q) X.xe s
section
variable {X : Cx} {a b : Expr} {ta tb : TE} {pos : Pos}
theorem IxR.or {r r' : R2} (h : IxR X r) (h' : IxR X r') : IxR X (fun x y H Q => r x y H Q ∨ r' x y H Q) := by
 intro value slice pins s σ H x y v u Q I rx ry q hs
 rcases q with q | q
 ·exact h value slice pins s σ H x y v u Q I rx ry q hs
 ·exact h' value slice pins s σ H x y v u Q I rx ry q hs
theorem zw {r : R2} (hr : IxR X r) (ha : PE X a ta) (hb : PE X b tb) (hs : PlainIx b) : PE X (.Subscript a b pos) (tOp r ta tb) := by
 intro pins s σ H Q I h
 exact Subscript_ (binT ha hb I h fun v u s2 x y H2 I2 rx ry q => hr a b pins s2 σ H2 x y v u Q I2 rx ry q (hs _ _))
noncomputable def rIxL (K : PySem.W.Frag) : R2 := fun x y H Q => ∃ p xs i v, x = .ref p ∧ y = .int i ∧ SqL K H p xs ∧ atI xs i = some v ∧ Q v H
noncomputable def rIxT (K : PySem.W.Frag) : R2 := fun x y H Q => ∃ p xs i v, x = .ref p ∧ y = .int i ∧ SqT K H p xs ∧ atI xs i = some v ∧ Q v H
noncomputable def rIxS : R2 := fun x y H Q => ∃ z i c, x = .str z ∧ y = .int i ∧ z.length ≤ sizeLine ∧ atI z.cps.toList i = some c ∧ Q (.str ⟨#[c]⟩) H
theorem ix_list : IxR X (rIxL X.K) := by
 intro value slice pins s σ H x y v u Q I rx ry h hs
 obtain ⟨p, xs, i, z, rfl, rfl, hq, he, q⟩ := h
 cases rx
 obtain ⟨t, rfl⟩ := ry
 obtain ⟨its, r, pl, hz⟩ := I.list hq
 obtain ⟨j, h1, h2, h3, h4, h5⟩ := ZQ he
 obtain ⟨w, ew, rw'⟩ := r.get h2
 have hl := r.length
 have hn := wM
 have fin : EP X pins σ Q w s := ⟨z, H, I, rw', q⟩
 by_cases h0 : 0 ≤ i
 ·have hj : i.toNat = j := by
   rw [seqIndex_of h0 h5] at h1
   exact Option.some.inj h1
  exact item_listR pl.isList h0 (by lia) (by rw [hj]; simpa using ew) fin hs
 ·have hj : (i + (its.toArray.size : Int)).toNat = j := by
   rw [seqIndex_neg (by lia) h4] at h1
   rw [List.size_toArray, ← hl]
   exact Option.some.inj h1
  exact subscriptTail_builtinR (x := w) pl.isList.typeIs slot_list_getitem.lookup
   (wpAny_getItem_list_neg (Q := fun r s' => r = w ∧ EP X pins σ Q r s') pl.isList (by lia) (by rw [List.size_toArray] <;> lia) (by lia) (by rw [hj]; simpa using ew) ⟨rfl, fin⟩) hs
theorem ix_tup : IxR X (rIxT X.K) := by
 intro value slice pins s σ H x y v u Q I rx ry h hs
 obtain ⟨p, xs, i, z, rfl, rfl, hq, he, q⟩ := h
 cases rx
 obtain ⟨t, rfl⟩ := ry
 obtain ⟨its, r, pl, hz⟩ := I.tuple hq
 obtain ⟨j, h1, h2, h3, h4, h5⟩ := ZQ he
 obtain ⟨w, ew, rw'⟩ := r.get h2
 have hl := r.length
 have hn := wM
 have fin : EP X pins σ Q w s := ⟨z, H, I, rw', q⟩
 exact subscriptTail_builtinR (x := w) pl.typeIs slot_tuple_getitem.lookup
  (getItem_tuple (j := j) (Q := fun r s' => r = w ∧ EP X pins σ Q r s') pl (by lia) (by lia) (by rw [List.size_toArray, ← hl]; exact h1) (by simpa using ew) ⟨rfl, fin⟩) hs
theorem Wk : IxR X rIxS := by
 intro value slice pins s σ H x y v u Q I rx ry h hs
 obtain ⟨z, i, c, rfl, rfl, hz, he, q⟩ := h
 obtain ⟨t, rfl⟩ := rx
 obtain ⟨t', rfl⟩ := ry
 obtain ⟨j, h1, h2, h3, h4, h5⟩ := ZQ he
 have hl : z.cps.toList.length = z.length := by simp [Str.length]
 rw [hl] at h1 h4 h5
 have hn := wM
 exact tail_any (typeIs_str s z t) slot_str_getitem.lookup (getItem_str (c := c) (by
  have e1 : decide (i < -(2 ^ 63 : Int)) = false := decide_eq_false (by lia)
  have e2 : decide (i ≥ 2 ^ 63) = false := decide_eq_false (by lia)
  rw [e1, e2, Bool.or_false]) (by rw [h1]; simpa using h2) ⟨.str ⟨#[c]⟩, H, I.tok _, ⟨_, rfl⟩, q⟩) hs
noncomputable def rIx (K : PySem.W.Frag) : R2 := fun x y H Q => rIxL K x y H Q ∨ rIxT K x y H Q ∨ rIxS x y H Q
theorem ix_seq : IxR X (rIx X.K) := ix_list.or (ix_tup.or Wk)
theorem mapSeq_set (its : List Value) (n j : Nat) (u : Value) : Obj.mapSeq (·.setIfInBounds j u) { cls := .type "list", data := .seq its.toArray n } = { cls := .type "list", data := .seq (its.set j u).toArray n } := by
 simp [Obj.mapSeq]
theorem Inv.lst {pins : List (Addr × Obj)} {σ : St} {H : Hp} {s : Shared} {p : Addr} {xs : List V} (I : Inv X pins σ H s) (h : H p = some (.lst xs)) :
  ∃ (its : List Value) (n : Nat), Vals xs its ∧ s.heap.get? p = some { cls := .type "list", data := .seq its.toArray n } ∧ xs.length ≤ sizeLine := by
 obtain ⟨z, its, n, r, e⟩ := I.hok p _ h
 exact ⟨its, n, r, e, z⟩
theorem Inv.lstUpd {pins : List (Addr × Obj)} {σ : St} {H : Hp} {s : Shared} {p : Addr} {xs ys : List V} {its its' : List Value} {n n' : Nat} {f : Obj → Obj} (I : Inv X pins σ H s) (h : H p = some (.lst xs))
  (ho : s.heap.get? p = some { cls := .type "list", data := .seq its.toArray n }) (hf : f { cls := .type "list", data := .seq its.toArray n } = { cls := .type "list", data := .seq its'.toArray n' }) (r : Vals ys its') (hz : ys.length ≤ sizeLine) (t : Nat) :
  Inv X pins σ (upd H p (.lst ys)) { s with heap := s.heap.update p f, toks := t } := by
 have e : (s.heap.update p f).get? p = some { cls := .type "list", data := .seq its'.toArray n' } := by
  rw [Heap.get?_update_self f ho (by rw [hf] <;> rfl), hf]
 refine I.write (x := p) (e := p) (by rw [h]; trivial) (.inl rfl) (fun b u hb q => (Heap.get?_update_other _ _ (Ne.symm hb)).trans q) ⟨_, e⟩ ?_
 exact ⟨hz, its', n', r, e⟩
noncomputable def rSetL : V → V → V → Hp → (Hp → Prop) → Prop := fun o i v H Q => ∃ p xs k j, o = .ref p ∧ i = .int k ∧ H p = some (.lst xs) ∧ ixN xs.length k = some j ∧ Q (upd H p (.lst (xs.set j v)))
theorem set_list : PSet X rSetL := by
 intro pins s σ H o i v ov iv u Q I ro ri rv h
 obtain ⟨p, xs, k, j, rfl, rfl, hp, hj, q⟩ := h
 cases ro
 obtain ⟨t, rfl⟩ := ri
 obtain ⟨its, n, r, ho, hz⟩ := I.lst hp
 obtain ⟨h1, h2, h3, h4⟩ := ZK hj
 have hl := r.length
 have hn := wM
 have I' : Inv X pins σ (upd H p (.lst (xs.set j v))) { s with heap := s.heap.update p (Obj.mapSeq (·.setIfInBounds j u)) } :=
  I.lstUpd hp ho (mapSeq_set its n j u) (r.set rv j) (by rw [List.length_set]; exact hz) s.toks
 by_cases h0 : 0 ≤ k
 ·have hk : k.toNat = j := by
   rw [seqIndex_of h0 h4] at h1
   exact Option.some.inj h1
  exact PySem.W.ki_setAt ho h0 (by lia) (by rw [List.size_toArray, ← hl]; exact h4) (by rw [hk]; exact ⟨_, I', q⟩)
 ·have hk : (k + (its.toArray.size : Int)).toNat = j := by
   rw [seqIndex_neg (by lia) h3] at h1
   rw [List.size_toArray, ← hl]
   exact Option.some.inj h1
  exact PySem.W.ki_setBack ho (by lia) (by rw [List.size_toArray, ← hl]; exact h3) (by lia) (by rw [hk]; exact ⟨_, I', q⟩)
theorem slice_bounds (lo hi : Option Int) (n : Nat) : (sliceBounds lo hi none n).1 = ((HT.sIx n 0 lo : Nat) : Int) ∧ (sliceBounds lo hi none n).2.1 = ((HT.sIx n n hi : Nat) : Int) ∧ (sliceBounds lo hi none n).2.2 = 1 := by
 refine ⟨?_, ?_, rfl⟩
 ·cases lo with
  | none => simp [sliceBounds, HT.sIx]
  | some i =>
   simp only [sliceBounds, HT.sIx, Option.getD_none, show (1 : Int) > 0 by decide, if_true]
   by_cases h : i < 0
   ·simp only [h, if_true] <;> lia
   ·simp only [h, if_false] <;> lia
 ·cases hi with
  | none => simp [sliceBounds, HT.sIx]
  | some i =>
   simp only [sliceBounds, HT.sIx, Option.getD_none, show (1 : Int) > 0 by decide, if_true]
   by_cases h : i < 0
   ·simp only [h, if_true] <;> lia
   ·simp only [h, if_false] <;> lia
theorem slicePick_cut (its : List Value) (lo hi : Option Int) : slicePick its.toArray lo hi none = ((its.drop (HT.sIx its.length 0 lo)).take (HT.sIx its.length its.length hi - HT.sIx its.length 0 lo)).toArray := by
 obtain ⟨h1, h2, h3⟩ := slice_bounds lo hi its.toArray.size
 unfold slicePick
 rw [h1, h2, h3]
 simp only [sliceRange_one, pick_run, List.size_toArray] <;> rfl
noncomputable def rSlL (K : PySem.W.Frag) : V → Option Int → Option Int → Hp → VK → Prop := fun x lo hi H Q => ∃ a xs, x = .ref a ∧ SqL K H a xs ∧ ∀ p, H p = none → Q (.ref p) (upd H p (.lst (cutV xs lo hi)))
theorem sl_list : SlR X (rSlL X.K) := by
 intro pins s σ H x v vl vu lo hi sl Q I rx hs pl pu h
 obtain ⟨a, xs, rfl, hx, q⟩ := h
 cases rx
 obtain ⟨its, r, ht, hz⟩ := I.list hx
 have hlen := r.length
 refine ⟨"list", _, slot_list_getitem.lookup, ht.isList.typeIs, ?_⟩
 refine wpAny_getItem_list_slice ht.isList hs pl pu .none (by simp) ?_ (by rw [List.size_toArray] <;> lia)
 rw [slicePick_cut, ← hlen]
 refine ⟨.ref s.heap.objs.size, _, I.laid (t' := s.toks) (o := .lst (cutV xs lo hi)) (fun b ob q => Heap.get?_push_of_some _ q) (Nat.le_refl _) ?_, rfl, q _ (I.hok.fresh (Nat.le_refl _))⟩
 exact ⟨Nat.le_trans (cutV_length xs lo hi) hz, _, 0, (r.drop (HT.sIx xs.length 0 lo)).take (HT.sIx xs.length xs.length hi - HT.sIx xs.length 0 lo), Heap.get?_push_size _ rfl⟩
noncomputable def yV : V → Bool
 | .non => true
 | .bl _ => true
 | .int _ => true
 | .str _ => true
 | _ => false
noncomputable def eqV : V → V → Bool
 | .non, .non => true
 | .bl a, .bl b => a == b
 | .bl a, .int b => (if a then 1 else 0) == b
 | .int a, .bl b => a == (if b then 1 else 0)
 | .int a, .int b => a == b
 | .str a, .str b => a == b
 | _, _ => false
theorem YJ {A : Around} {s : Shared} {y x : V} {u v : Value} (ry : RelV y u) (rx : RelV x v) (fy : yV y = true) (fx : yV x = true) : SeqAt.EqAt A s u v (eqV y x) := by
 cases y with
 | non =>
  cases ry
  cases x with
  | non => cases rx; exact SeqAt.EqAt.same _
  | bl b => cases rx; exact SeqAt.EqAt.none_bool b
  | int b => obtain ⟨t, rfl⟩ := rx; exact SeqAt.EqAt.none_int b t
  | str b => obtain ⟨t, rfl⟩ := rx; exact SeqAt.EqAt.none_str b t
  | _ => exact absurd (show false = true from fx) Bool.false_ne_true
 | bl a =>
  cases ry
  cases x with
  | non => cases rx; exact SeqAt.EqAt.bool_none a
  | bl b => cases rx; exact SeqAt.EqAt.bool_bool a b
  | int b => obtain ⟨t, rfl⟩ := rx; exact SeqAt.EqAt.bool_int a b t
  | str b => obtain ⟨t, rfl⟩ := rx; exact SeqAt.EqAt.bool_str a b t
  | _ => exact absurd (show false = true from fx) Bool.false_ne_true
 | int a =>
  obtain ⟨t', rfl⟩ := ry
  cases x with
  | non => cases rx; exact SeqAt.EqAt.int_none a t'
  | bl b => cases rx; exact SeqAt.EqAt.int_bool a t' b
  | int b => obtain ⟨t, rfl⟩ := rx; exact SeqAt.EqAt.int_int a t' b t
  | str b => obtain ⟨t, rfl⟩ := rx; exact SeqAt.EqAt.int_str a t' b t
  | _ => exact absurd (show false = true from fx) Bool.false_ne_true
 | str a =>
  obtain ⟨t', rfl⟩ := ry
  cases x with
  | non => cases rx; exact SeqAt.EqAt.str_none a t'
  | bl b => cases rx; exact SeqAt.EqAt.str_bool a t' b
  | int b => obtain ⟨t, rfl⟩ := rx; exact SeqAt.EqAt.str_int a t' b t
  | str b => obtain ⟨t, rfl⟩ := rx; exact SeqAt.EqAt.str_str a t' b t
  | _ => exact absurd (show false = true from fx) Bool.false_ne_true
 | _ => exact absurd (show false = true from fy) Bool.false_ne_true
noncomputable def eqU (x : V) (u : Value) : Bool := match u with
 | .none => eqV .non x
 | .bool b => eqV (.bl b) x
 | .int i _ => eqV (.int i) x
 | .str z _ => eqV (.str z) x
 | _ => false
theorem Wl {x y : V} {u : Value} (r : RelV y u) (f : yV y = true) : eqU x u = eqV y x := by
 cases y with
 | non => cases r; rfl
 | bl b => cases r; rfl
 | int i => obtain ⟨t, rfl⟩ := r; rfl
 | str z => obtain ⟨t, rfl⟩ := r; rfl
 | _ => exact absurd (show false = true from f) Bool.false_ne_true
theorem wE {x : V} : ∀ {xs : List V} {us : List Value}, Vals xs us → xs.all yV = true → us.any (eqU x) = xs.any fun y => eqV y x
 | _, _, .nil, _ => rfl
 | y :: xs, u :: us, .cons r t, f => by
  rw [List.all_cons, Bool.and_eq_true] at f
  rw [List.any_cons, List.any_cons, Wl r f.1, wE t f.2]
theorem xH {A : Around} {s : Shared} {x : V} {v : Value} (rx : RelV x v) (fx : yV x = true) : ∀ {xs : List V} {us : List Value}, Vals xs us → xs.all yV = true → ∀ u ∈ us, SeqAt.EqAt A s u v (eqU x u)
 | _, _, .nil, _ => fun u hu => by cases hu
 | y :: xs, u :: us, .cons r t, f => fun u' hu => by
  rw [List.all_cons, Bool.and_eq_true] at f
  rcases List.mem_cons.mp hu with rfl | hu
  ·rw [Wl r f.1]; exact YJ r rx f.1 fx
  ·exact xH rx fx t f.2 u' hu
noncomputable def inV (x : V) (xs : List V) : Bool := xs.any fun y => eqV y x
noncomputable def rIn (K : PySem.W.Frag) (neg : Bool) : R2 := fun x y H Q => ∃ p xs, y = .ref p ∧ (SqL K H p xs ∨ SqT K H p xs) ∧ yV x = true ∧ xs.all yV = true ∧ Q (.bl (if neg then !inV x xs else inV x xs)) H
theorem op_in_seq : OpR X (compareOp .In) (rIn X.K false) := by
 intro pins s σ H x y v u Q I rx ry h
 obtain ⟨p, xs, rfl, hq, fx, fs, q⟩ := h
 cases ry
 rcases hq with hq | hq
 ·obtain ⟨its, r, pl, hz⟩ := I.list hq
  refine SeqAt.in_listAt (eqU x) pl.isList (fun w hw => xH rx fx r fs w (by simpa using hw)) ⟨.bl _, H, I, rfl, ?_⟩
  rw [show its.toArray.any (eqU x) = its.any (eqU x) by simp, wE r fs]
  exact q
 ·obtain ⟨its, r, pl, hz⟩ := I.tuple hq
  refine SeqAt.in_tupleAt (eqU x) pl (fun w hw => xH rx fx r fs w (by simpa using hw)) ⟨.bl _, H, I, rfl, ?_⟩
  rw [show its.toArray.any (eqU x) = its.any (eqU x) by simp, wE r fs]
  exact q
theorem xp : OpR X (compareOp .NotIn) (rIn X.K true) := by
 intro pins s σ H x y v u Q I rx ry h
 obtain ⟨p, xs, rfl, hq, fx, fs, q⟩ := h
 cases ry
 rcases hq with hq | hq
 ·obtain ⟨its, r, pl, hz⟩ := I.list hq
  refine SeqAt.notIn_listAt (eqU x) pl.isList (fun w hw => xH rx fx r fs w (by simpa using hw)) ⟨.bl _, H, I, rfl, ?_⟩
  rw [show its.toArray.any (eqU x) = its.any (eqU x) by simp, wE r fs]
  exact q
 ·obtain ⟨its, r, pl, hz⟩ := I.tuple hq
  refine SeqAt.notIn_tupleAt (eqU x) pl (fun w hw => xH rx fx r fs w (by simpa using hw)) ⟨.bl _, H, I, rfl, ?_⟩
  rw [show its.toArray.any (eqU x) = its.any (eqU x) by simp, wE r fs]
  exact q
theorem op_notIn_str : OpR X (compareOp .NotIn) (fun x y H Q => ∃ i j, x = .str i ∧ y = .str j ∧ Q (.bl (!(!(Builtin.Str.occurrences j i 0 j.length 1).isEmpty))) H) := by
 intro pins s σ H x y v u Q I rx ry h
 obtain ⟨i, j, rfl, rfl, q⟩ := h
 obtain ⟨t, rfl⟩ := rx
 obtain ⟨t', rfl⟩ := ry
 exact notIn_str ⟨.bl _, H, I, rfl, q⟩
theorem yK : yb X (.builtin "len") (fun xs H Q => ∃ p ys, xs = [.ref p] ∧ (SqL X.K H p ys ∨ SqT X.K H p ys) ∧ Q (.int ys.length) H) := by
 intro pins s σ H xs us Q I r h
 obtain ⟨p, ys, rfl, hq, q⟩ := h
 obtain ⟨u, rfl, rx⟩ := wS r
 cases rx
 have hn := wM
 rcases hq with hq | hq
 ·obtain ⟨its, r', pl, hz⟩ := I.list hq
  have hlen := r'.length
  exact Calls.call_len_list pl.isList (by simp only [List.size_toArray] <;> lia) ⟨.int ys.length, H, I.tok _, ⟨s.toks + 1, by rw [List.size_toArray, hlen]⟩, q⟩
 ·obtain ⟨its, r', pl, hz⟩ := I.tuple hq
  have hlen := r'.length
  exact len_tuple pl (by simp only [List.size_toArray] <;> lia) ⟨.int ys.length, H, I.tok _, ⟨s.toks + 1, by rw [List.size_toArray, hlen]⟩, q⟩
theorem xu : yb X (.builtin "len") (fun xs H Q => ∃ z, xs = [.str z] ∧ z.length ≤ sizeLine ∧ Q (.int z.length) H) := by
 intro pins s σ H xs us Q I r h
 obtain ⟨z, rfl, hz, q⟩ := h
 obtain ⟨u, rfl, t, rfl⟩ := wS r
 have hn := wM
 exact len_str (by lia) ⟨.int z.length, H, I.tok _, ⟨_, rfl⟩, q⟩
theorem call_list_of : yb X (.type "list") (fun xs H Q => ∃ p ys, xs = [.ref p] ∧ (SqL X.K H p ys ∨ SqT X.K H p ys) ∧ ∀ l, H l = none → Q (.ref l) (upd H l (.lst ys))) := by
 intro pins s σ H xs us Q I r h
 obtain ⟨p, ys, rfl, hq, q⟩ := h
 obtain ⟨u, rfl, rx⟩ := wS r
 cases rx
 have fin : ∀ (its : List Value), Vals ys its → ys.length ≤ sizeLine → ∀ (h' : Heap) (c' : Nat), (∀ b o', s.heap.get? b = some o' → h'.get? b = some o') →
   h'.get? s.heap.objs.size = some { cls := .type "list", dict := none, data := .seq its.toArray c', slots := #[] } → EP X pins σ Q (.ref s.heap.objs.size) { s with heap := h' } := fun its r' hz h' c' kp e =>
  ⟨.ref s.heap.objs.size, _, I.laid (t' := s.toks) kp (Nat.le_refl _) (show ObjOk X.prog X.w _ h' _ (.lst ys) from ⟨hz, its, c', r', e⟩), rfl, q _ (I.hok.fresh (Nat.le_refl _))⟩
 rcases hq with hq | hq
 ·obtain ⟨its, r', pl, hz⟩ := I.list hq
  have hlen := r'.length
  obtain ⟨o, ho, hc, n, hd⟩ := pl.isList
  exact call_list_seq p (.inl rfl) ho hc hd (fun h' c' kp e => fin its r' hz h' c' kp e) (by simp only [List.size_toArray] <;> lia)
 ·obtain ⟨its, r', pl, hz⟩ := I.tuple hq
  have hlen := r'.length
  obtain ⟨o, ho, hc, n, hd⟩ := pl
  exact call_list_seq p (.inr rfl) ho hc hd (fun h' c' kp e => fin its r' hz h' c' kp e) (by simp only [List.size_toArray] <;> lia)
theorem xY : yb X (.type "tuple") (fun xs H Q => ∃ p ys, xs = [.ref p] ∧ ((SqL X.K H p ys ∧ ∀ l, H l = none → Q (.ref l) (upd H l (.tup ys))) ∨ (SqT X.K H p ys ∧ Q (.ref p) H))) := by
 intro pins s σ H xs us Q I r h
 obtain ⟨p, ys, rfl, h⟩ := h
 obtain ⟨u, rfl, rx⟩ := wS r
 cases rx
 rcases h with ⟨hq, q⟩ | ⟨hq, q⟩
 ·obtain ⟨its, r', pl, hz⟩ := I.list hq
  have hlen := r'.length
  refine call_tuple_list pl.isList (fun h' kp => ?_) (by simp only [List.size_toArray] <;> lia)
  have I1 : Inv X pins σ H { s with heap := h' } := I.kept (t' := s.toks) kp
  have I2 : Inv X pins σ (upd H h'.objs.size (.tup ys)) { s with heap := h'.push { cls := .type "tuple", data := .seq its.toArray } } :=
   I1.laid (t' := s.toks) (fun b o e => Heap.get?_push_of_some _ e) (Nat.le_refl _) (show ObjOk X.prog X.w _ _ _ (.tup ys) from ⟨hz, its, r', IsTup.new _ _⟩)
  exact ⟨.ref h'.objs.size, _, I2, rfl, q _ (I1.hok.fresh (Nat.le_refl _))⟩
 ·obtain ⟨its, r', pl, hz⟩ := I.tuple hq
  exact call_tuple_same pl ⟨.ref p, H, I, rfl, q⟩
noncomputable def tyV (K : PySem.W.Frag) (T : String) (x : V) (H : Hp) : Prop := match x with
 | .str _ => T = "str"
 | .int _ => T = "int"
 | .ref p => (T = "list" ∧ ∃ xs, SqL K H p xs) ∨ (T = "tuple" ∧ ∃ o, K.lookup p = some o ∧ o.cls = .type "tuple" ∧ o.dict = none) ∨
   (T = "dict" ∧ ((∃ kvs, H p = some (.dK kvs)) ∨ ∃ kvs, H p = some (.dT kvs))) ∨ (T = "set" ∧ ∃ S n, H p = some (.set S n))
 | _ => False
theorem XM {pins : List (Addr × Obj)} {σ : St} {H : Hp} {s : Shared} {T : String} {x : V} {v : Value} (I : Inv X pins σ H s) (r : RelV x v) (ty : tyV X.K T x H) :
  s.TypeIs v T ∧ ∀ a, v = .ref a → ∃ ob, s.heap.get? a = some ob ∧ ob.dict = none := by
 cases x with
 | str z =>
  obtain ⟨t, rfl⟩ := r
  cases (show T = "str" from ty)
  exact ⟨typeIs_str s z t, fun _ e => nomatch e⟩
 | int i =>
  obtain ⟨t, rfl⟩ := r
  cases (show T = "int" from ty)
  exact ⟨typeIs_int s i t, fun _ e => nomatch e⟩
 | ref p =>
  cases r
  rcases ty with ⟨rfl, xs, hq⟩ | ⟨rfl, o, hk, hc, hd⟩ | ⟨rfl, hk⟩ | ⟨rfl, S, n, hk⟩
  ·obtain ⟨its, _, pl, _⟩ := I.list hq
   refine ⟨pl.isList.typeIs, fun a e => ?_⟩
   cases e
   obtain ⟨o, n, e, c, hd, _⟩ := pl
   exact ⟨o, e, hd⟩
  ·refine ⟨⟨o, I.kIn p o hk, hc⟩, fun a e => ?_⟩
   cases e
   exact ⟨o, I.kIn _ o hk, hd⟩
  ·have z : ∃ o, s.heap.get? p = some o ∧ o.ExactDict := by
    rcases hk with ⟨kvs, hk⟩ | ⟨kvs, hk⟩
    ·obtain ⟨_, _, _, _, o, _, _, e, ex, _⟩ := I.hok p _ hk
     exact ⟨o, e, ex⟩
    ·obtain ⟨_, _, _, _, o, _, _, e, ex, _⟩ := I.hok p _ hk
     exact ⟨o, e, ex⟩
   obtain ⟨o, e, ex⟩ := z
   refine ⟨⟨o, e, ex.1⟩, fun a e2 => ?_⟩
   cases e2
   exact ⟨o, e, ex.2.1⟩
  ·obtain ⟨o, _, _, _, e, ex, _⟩ := I.hok p _ hk
   refine ⟨⟨o, e, ex.1⟩, fun a e2 => ?_⟩
   cases e2
   exact ⟨o, e, ex.2.1⟩
 | _ => exact False.elim ty
noncomputable def tBM (K : PySem.W.Frag) (T : String) (r : V → List V → Hp → VK → Prop) (to : TE) (t : TA) : TE := fun σ H Q => to σ H fun x H1 => tyV K T x H1 ∧ t σ H1 fun xs H2 => r x xs H2 Q
variable {o e : Expr} {es : List Expr} {to : TE} {t : TA} {name : Str} {apos cpos : Pos} {T id : String} {r : V → List V → Hp → VK → Prop}
/- xs.append(e), list.index on a module's tuple .. are MtR facts of 06m -/
end
noncomputable def MtM (X : Cx) (id : String) (r : V → List V → Hp → VK → Prop) : Prop :=
 ∀ (pins : List (Addr × Obj)) (s : Shared) (σ : St) (H : Hp) (x : V) (xs : List V) (v : Value) (us : List Value) (Q : VK), Inv X pins σ H s → RelV x v → Vals xs us → r x xs H Q →
  wpAny (model X.prog X.w) X.A (call (.builtin id) (v :: us)) (EP X pins σ Q) X.xe s
theorem Vals.one : ∀ {x : V} {us : List Value}, Vals [x] us → ∃ u, us = [u] ∧ RelV x u
 | _, _, .cons r .nil => ⟨_, rfl, r⟩
theorem Vals.eraseIdx : ∀ {xs : List V} {us : List Value} (i : Nat), Vals xs us → Vals (xs.eraseIdx i) (us.eraseIdx i)
 | _, _, _, .nil => .nil
 | _, _, 0, .cons _ t => t
 | _, _, i + 1, .cons r t => .cons r (Vals.eraseIdx i t)
theorem Vals.rep {xs : List V} {us : List Value} (h : Vals xs us) : ∀ k : Nat, Vals (List.replicate k xs).flatten (List.replicate k us).flatten
 | 0 => .nil
 | k + 1 => by
  rw [List.replicate_succ, List.replicate_succ, List.flatten_cons, List.flatten_cons]
  exact Vals.append h (Vals.rep h k)
theorem vY {α : Type} : ∀ (l : List α) (i : Nat), (l.eraseIdx i).length ≤ l.length
 | [], _ => Nat.le_refl _
 | _ :: _, 0 => Nat.le_succ _
 | _ :: r, i + 1 => Nat.succ_le_succ (vY r i)
theorem Za (its : List Value) : ∀ (k : Nat) (acc : List Value),
  List.foldl (fun x1 x2 => x1 ++ x2) acc.toArray (List.replicate k its.toArray) = (acc ++ (List.replicate k its).flatten).toArray
 | 0, acc => by simp
 | k + 1, acc => by
  have e : acc.toArray ++ its.toArray = (acc ++ its).toArray := by simp
  have e2 : (acc ++ its) ++ (List.replicate k its).flatten = acc ++ (List.replicate (k + 1) its).flatten := by
   rw [List.replicate_succ, List.flatten_cons, List.append_assoc]
  rw [← e2, ← Za its k (acc ++ its), ← e, List.replicate_succ, List.foldl_cons]
section
variable {X : Cx} {pins : List (Addr × Obj)} {σ : St} {H : Hp} {s : Shared} {l b : Addr} {xs ys zs : List V}
theorem Inv.lset {its its' : List Value} {n : Nat} {f : Array Value → Array Value} {t' : Nat} (I : Inv X pins σ H s) (hH : H l = some (.lst xs))
  (e : s.heap.get? l = some { cls := .type "list", data := .seq its.toArray n }) (hf : f its.toArray = its'.toArray) (hv : Vals ys its') (hz : ys.length ≤ sizeLine) :
  Inv X pins σ (upd H l (.lst ys)) { s with heap := s.heap.update l (Obj.mapSeq f), toks := t' } := by
 have q := PySem.IsL.update e f
 rw [hf] at q
 refine I.write (x := l) (e := l) (by rw [hH]; exact trivial) (.inl rfl) (fun b' u hb hu => (Heap.get?_update_other s.heap (Obj.mapSeq f) (Ne.symm hb)).trans hu) ⟨_, q⟩ ?_
 exact ⟨hz, its', _, hv, q⟩
theorem Inv.lnew {its : List Value} {t' : Nat} (I : Inv X pins σ H s) (hv : Vals ys its) (hz : ys.length ≤ sizeLine) :
  Inv X pins σ (upd H s.heap.objs.size (.lst ys)) { s with heap := s.heap.push { cls := .type "list", data := .seq its.toArray }, toks := t' } :=
 I.laid (fun _ _ q => Heap.get?_push_of_some _ q) (Nat.le_refl _) ⟨hz, its, 0, hv, Heap.get?_push_size _ rfl⟩
theorem Inv.fresh (I : Inv X pins σ H s) : H s.heap.objs.size = none := I.hok.fresh (Nat.le_refl _)
theorem Inv.lstM (I : Inv X pins σ H s) (hH : H l = some (.lst xs)) : xs.length ≤ sizeLine ∧ ∃ (its : List Value) (n : Nat), Vals xs its ∧ xs.length = its.length ∧ s.heap.get? l = some { cls := .type "list", data := .seq its.toArray n } := by
 obtain ⟨z, its, n, r, e⟩ := I.hok l _ hH
 exact ⟨z, its, n, r, r.length, e⟩
theorem notLongL {n : Nat} (h : n ≤ sizeLine) : Builtin.List.listTooLong n = false := by
 unfold Builtin.List.listTooLong
 exact decide_eq_false (by lia)
end
section
variable {X : Cx}
noncomputable def rAppend : V → List V → Hp → VK → Prop := fun x vs H Q => ∃ l xs y, x = .ref l ∧ vs = [y] ∧ H l = some (.lst xs) ∧ xs.length < sizeLine ∧ Q .non (upd H l (.lst (xs ++ [y])))
theorem yk : MtM X "list.append" rAppend := by
 intro pins s σ H x vs v us Q I rx rv h
 obtain ⟨l, xs, y, rfl, rfl, hH, hz, q⟩ := h
 cases rx
 obtain ⟨u, rfl, ru⟩ := rv.one
 obtain ⟨z, its, n, r, hl, e⟩ := I.lstM hH
 refine call_meets F.slot_list_append ⟨_, e, rfl⟩ F.entry_list_append (F.args_list_append_2 _ _) (PySem.list_append l its.toArray n u (by rw [List.size_toArray]; lia)) ⟨e, ?_⟩
 refine ⟨.non, _, I.lset (its' := its ++ [u]) hH e (by simp) (r.append (.cons ru .nil)) ?_, rfl, q⟩
 rw [List.length_append, List.length_singleton]
 lia
noncomputable def rPopAt : V → List V → Hp → VK → Prop := fun x vs H Q => ∃ l xs i k y, x = .ref l ∧ vs = [.int i] ∧ H l = some (.lst xs) ∧ -(2 ^ 63) ≤ i ∧ i < 2 ^ 63 ∧ seqIndex? i xs.length = some k ∧ xs[k]? = some y ∧ Q y (upd H l (.lst (xs.eraseIdx k)))
theorem vB : MtM X "list.pop" rPopAt := by
 intro pins s σ H x vs v us Q I rx rv h
 obtain ⟨l, xs, i, k, y, rfl, rfl, hH, h1, h2, hk, hy, q⟩ := h
 cases rx
 obtain ⟨u, rfl, ru⟩ := rv.one
 obtain ⟨t, rfl⟩ := ru
 obtain ⟨z, its, n, r, hl, e⟩ := I.lstM hH
 obtain ⟨w, hw, rw'⟩ := r.get hy
 refine call_meets F.slot_list_pop ⟨_, e, rfl⟩ F.entry_list_pop (F.args_list_pop_2 _ _)
  (MeetsSeq.list_pop_at l its.toArray n i t k w (fitsIndex_both h1 h2) (by rw [List.size_toArray, ← hl]; exact hk) (by rw [← Array.getElem?_toList]; exact hw) (by rw [List.size_toArray]; lia)) ⟨e, ?_⟩
 refine ⟨y, _, I.lset (its' := its.eraseIdx k) hH e ?_ (r.eraseIdx k) ?_, rw', q⟩
 ·show its.toArray.eraseIdxIfInBounds k = (its.eraseIdx k).toArray
  rw [List.eraseIdxIfInBounds_toArray]
 ·have := vY xs k
  lia
noncomputable def rCat : R2 := fun x y H Q => ∃ l b xs zs, x = .ref l ∧ y = .ref b ∧ H l = some (.lst xs) ∧ H b = some (.lst zs) ∧ xs.length + zs.length ≤ sizeLine ∧ ∀ p, H p = none → Q (.ref p) (upd H p (.lst (xs ++ zs)))
theorem xG : OpR X (binaryOp .Add) rCat := by
 intro pins s σ H x y v u Q I rx ry h
 obtain ⟨l, b, xs, zs, rfl, rfl, hH, hB, hz, q⟩ := h
 cases rx
 cases ry
 obtain ⟨z, its, n, r, hl, e⟩ := I.lstM hH
 obtain ⟨z2, its2, n2, r2, hl2, e2⟩ := I.lstM hB
 refine PySem.P.add_list e e2 ?_ (by rw [List.size_toArray, List.size_toArray]; lia)
 have ea : its.toArray ++ its2.toArray = (its ++ its2).toArray := by simp
 rw [ea]
 exact ⟨.ref _, _, I.lnew (t' := s.toks) (r.append r2) (by rw [List.length_append]; lia), rfl, q _ I.fresh⟩
noncomputable def rRep : R2 := fun x y H Q => ∃ l k xs, x = .ref l ∧ y = .int k ∧ H l = some (.lst xs) ∧ -(2 ^ 63) ≤ k ∧ k < 2 ^ 63 ∧ xs.length * k.toNat ≤ sizeLine ∧
 ∀ p, H p = none → Q (.ref p) (upd H p (.lst (List.replicate k.toNat xs).flatten))
theorem len_rep {α : Type} (xs : List α) (k : Nat) : (List.replicate k xs).flatten.length = k * xs.length := by
 induction k with
 | zero => simp
 | succ k ih => rw [List.replicate_succ, List.flatten_cons, List.length_append, ih, Nat.succ_mul, Nat.add_comm]
theorem X6 : OpR X (binaryOp .Mult) rRep := by
 intro pins s σ H x y v u Q I rx ry h
 obtain ⟨l, k, xs, rfl, rfl, hH, h1, h2, hz, q⟩ := h
 cases rx
 obtain ⟨t, rfl⟩ := ry
 obtain ⟨z, its, n, r, hl, e⟩ := I.lstM hH
 have hlen : its.toArray.size * k.toNat ≤ sizeLine := by rw [List.size_toArray, ← hl]; exact hz
 have hcap : ¬ its.toArray.size * k.toNat > (2 ^ 63 - 1) / 8 := by
  have : (sizeLine : Nat) ≤ (2 ^ 63 - 1) / 8 := by decide
  lia
 have hfit : ¬ (!Builtin.List.listFitsIndex k) = true := by
  rw [fitsIndex_both h1 h2]
  exact Bool.false_ne_true
 have hlong : ¬ Builtin.List.listTooLong (its.toArray.size * k.toNat) = true := by
  rw [notLongL hlen]
  exact Bool.false_ne_true
 have hnew : List.foldl (fun x1 x2 => x1 ++ x2) #[] (List.replicate (if its.toArray.isEmpty = true then 0 else k.toNat) its.toArray) = (List.replicate k.toNat its).flatten.toArray := by
  have f0 : ∀ m : Nat, List.foldl (fun x1 x2 => x1 ++ x2) #[] (List.replicate m its.toArray) = (List.replicate m its).flatten.toArray := fun m => by
   have := Za its m []
   rw [List.nil_append] at this
   exact this
  rw [f0]
  cases its with
  | nil => simp
  | cons a r' => rw [if_neg (by simp)]
 refine wpAny_binaryOp_repeat_ref (T := "list") (U := "int") (by decide) ⟨_, e, rfl⟩ (fun s' => typeIs_int s' k t) noFill_list_mul F.fills_int_mul F.slot_int_rmul repeat_list F.slot_int_index.lookup
  (call_meets F.slot_int_rmul (typeIs_int s k t) F.entry_int_rmul (F.args_int_rmul_2 _ _) (int___rmul___int_list k t l its.toArray n)
   ⟨e, rfl, ⟨_, e, rfl⟩, call_meets F.slot_list_mul ⟨_, e, rfl⟩ F.entry_list_mul (F.args_list_mul_2 _ _) (AutoListH.list___mul___list_int_3 l its.toArray n k t hfit hcap hlong) ⟨e, ?_⟩⟩)
 rw [hnew]
 exact ⟨.ref _, _, I.lnew (t' := s.toks) (r.rep k.toNat) (by rw [len_rep, Nat.mul_comm]; exact hz), rfl, q _ I.fresh⟩
end
section
variable {prog : Program} {w : World} {A : Around} {E : Value → Shared → Prop} {s : Shared}
end
section
variable {X : Cx}
end
end L2
namespace Att
open PySem PySem.W PySem.Calls PyProof.Rows
theorem ints_of_wellAll {P : Params} {h : Heap} : ∀ (ns : List Int) (vs : List Value), WellAll P h vs (ns.map WData.int) → IntsAre vs ns := by
 intro ns
 induction ns with
 | nil =>
  intro vs w
  rw [List.map_nil] at w
  cases w
  exact .nil
 | cons n ns ih =>
  intro vs w
  rw [List.map_cons] at w
  cases w with
  | cons a b =>
   cases a
   exact .cons _ _ (ih _ b)
theorem script_of {l : OpenLaw} {n : Nat} (hn : l.most = some n) {P : Params} {h : Heap} {args : List WData} {vals : List Value}
  (hpre : l.row.toRowW.claim.pre args = true) (hwl : WellAll P h vals args) :
  ∃ a vs ns, vals = [Value.ref a] ∧ args = [WData.list (ns.map WData.int)] ∧ h.get? a = some { cls := .type "list", data := .seq vs.toArray } ∧ IntsAre vs ns ∧ ns.length ≤ n := by
 have hsh : WShape.hasAll [] args [.list .int] = true := (pre_splitW hpre).1
 have hc : l.pre.holds [] { args := args } = true := (pre_splitW hpre).2
 obtain ⟨d, r, rfl, h1, h2⟩ := hasAllW_cons hsh
 obtain rfl := hasAllW_nil h2
 obtain ⟨xs, rfl, h3⟩ := hasW_list h1
 obtain ⟨ns, rfl⟩ := items_int h3
 have hlen : ns.length ≤ n := by
  unfold OpenLaw.pre at hc
  have h4 : (WTm.not (.lt (.lit (.int (n : Int))) (.len (.arg 0)))).holds [] { args := [.list (ns.map .int)] } = true := by
   have h4 := (holds_andW hc).1
   rw [hn] at h4
   exact h4
  have h5 := condW_of h4 (w_not (w_lt w_lit (w_len_list (w_arg rfl))))
  rw [List.length_map] at h5
  refine Nat.le_of_not_lt fun q => ?_
  have q' : (n : Int) < ((ns.length : Nat) : Int) := by lia
  first
   | (rw [decide_eq_true q'] at h5; exact absurd h5 (by decide))
   | (simp at h5; lia)
 cases hwl with
 | cons w1 w2 =>
  cases w2
  cases w1 with
  | list ho hall => exact ⟨_, _, ns, rfl, rfl, ho, ints_of_wellAll ns _ hall, hlen⟩
theorem post_true (l : OpenLaw) (args : List WData) : l.row.toRowW.claim.post args (.bool true) args = true :=
 postW_of (r := l.row.toRowW) (X := (true == true))
  (show WShape.has [] (.bool true) .bool = true by first | rfl | decide | simp [WShape.has, WShape.arms, WShape.armsAll])
  (show (WTm.eq .res (.lit (.bool true))).value [] { args := args, res := some (.bool true), after := args } = some (.bool (true == true)) from w_eq_bool (w_res rfl) w_lit) rfl
theorem attach_call {l : OpenLaw} {n : Nat} {q : Program} {loose : List Str} {XP : (Str → Option Value) → Heap → Prop} {YP : World → Heap → Prop} {d : DefRec}
  (hn : l.most = some n) (hdf : d.params.defaults = [])
  (call : ∀ (w : World) (s₀ s₁ : Shared) (mg mb : Str → Option Value) (fa : Addr) (o : Obj) (pm cd doc : Value) (a : Addr) (vs : List Value) (ns : List Int),
   Ground q loose [] XP w s₀ mg mb s₁.heap → YP w s₁.heap →
   s₁.heap.get? fa = some o → o.data = .func (docDef d.name d.params d.body d.scope pm cd doc) → s₁.heap.CodeRec cd d.name → mg d.name = some (.ref fa) →
   s₁.heap.get? a = some { cls := .type "list", data := .seq vs.toArray } → IntsAre vs ns → ns.length ≤ n → s₁.gens = #[] →
   codeAny (model l.prog w) callerA (.call (.ref fa) ⟨[.ref a], []⟩) (fun r s' => r = .ok (.ret (.bool true)) ∧ OldK s₁.heap s'.heap ∧ s'.os = s₁.os ∧ AllBare s'.gens) s₁) :
  WalkO q loose XP YP l.row.toRowW d [] (fun f vs => PySem.call f vs) := by
 intro w s₀ s₁ mg mb G Y fa o pm cd doc dV kV ho hd hcd hD hmg hg args vals as hpre hlay hrd hwl hlo
 obtain rfl : dV = .none := Dflts.none hD hdf
 obtain rfl : kV = .none := Dflts.noKw hD
 obtain ⟨a, vs, ns, rfl, rfl, hobj, hints, hlen⟩ := script_of hn hpre hwl
 refine enter_call (codeAny_mono (call w s₀ s₁ mg mb fa o pm cd doc a vs ns G Y ho (fd_plain hd) hcd hmg hobj hints hlen hg) fun r s' hq => ?_)
 obtain ⟨rfl, h2, h3, h4⟩ := hq
 exact ⟨.inl ⟨.bool true, .bool true, [], rfl, fun _ => rfl, .bool true, post_true l _, fun _ => ⟨List.Pairwise.nil, fun _ hm => (nomatch hm)⟩⟩, h2, h3, h4⟩
section
variable {prog : Program} {w : World} {A : Around} {E : Value → Shared → Prop} {s : Shared} {K : Frag}
end
end Att
namespace L2
open PySem PySem.Spec PyProof.Rows
theorem vJ : ∀ {vs : List Value} {ns : List Int}, IntsAre vs ns → Vals (ns.map V.int) vs
 | _, _, .nil => .nil
 | _, _, .cons n t h => .cons ⟨t, rfl⟩ (vJ h)
noncomputable def Only (H : Hp) : Prop := ∀ b, H b = none ∨ ∃ o xs, H b = some (.frz o (.lst xs))
theorem law_call {P : Program} {w : World} {K : PySem.W.Frag} {mg mb : Str → Option Value} {CX : CXT} {k : Nat} {fa a : Addr} {fd : FuncData} {x : Str} {sp : Sp} {s₁ : Shared} {vs : List Value} {ns : List Int}
  (KX : K.In s₁.heap) (hns : s₁.heap.Ns mainGlobals mg) (hb : s₁.heap.Ns builtinsNs mb) (hbb : ∀ x : Str, x ≠ "__name__" → mb x = bootBuiltins x) (hlim : s₁.heap.NoLimit) (hg : s₁.gens = #[])
  (ha : s₁.heap.get? a = some { cls := .type "list", data := .seq vs.toArray }) (hi : IntsAre vs ns) (hl : ns.length ≤ sizeLine) (hr : Room k callerA)
  (F : ∀ base : Heap, K.In base → base.Ns mainGlobals mg → FnOk P w K mg base CX k fa fd [x] sp) (hbind : ∀ (s : Shared) (u : Value), BindsTo s fd ⟨[u], []⟩ [(x, u)])
  (hsp : ∀ H : Hp, Only H → SqL K H a (ns.map V.int) → sp [.ref a] H (fun v _ => v = .bl true) fun _ _ _ => False)
  (hCX : ∀ H e s', CX [] H s₁ (fun _ _ _ => False) e s' → False) :
  codeAny (model P w) callerA (.call (.ref fa) ⟨[.ref a], []⟩) (fun r s' => r = .ok (.ret (.bool true)) ∧ OldK s₁.heap s'.heap ∧ s'.os = s₁.os ∧ AllBare s'.gens) s₁ := by
 have rv := vJ hi
 have lenV := hi.length
 -- from an abstract heap in which nothing but the script may be tracked
 have core : ∀ H : Hp, Only H → SqL K H a (ns.map V.int) → HOk P w H s₁.heap → (∀ b, H b ≠ none → b = a) → (H a ≠ none → K.lookup a = none) →
   codeAny (model P w) callerA (.call (.ref fa) ⟨[.ref a], []⟩) (fun r s' => r = .ok (.ret (.bool true)) ∧ OldK s₁.heap s'.heap ∧ s'.os = s₁.os ∧ AllBare s'.gens) s₁ := by
  intro H hO hS hok hA hK
  have base_of : ∀ {b : Addr} {o : Obj}, s₁.heap.get? b = some o → H b = none → (hidT s₁.heap H).get? b = some o := fun e n => hidT_get e n
  have noA : ∀ {b : Addr} {o : Obj} {es : Array DictEntry} {ep : Nat}, s₁.heap.get? b = some o → o.data = .dict es ep → H b = none := fun {b o es ep} e d => by
   cases q : H b with
   | none => rfl
   | some u =>
    have e' : b = a := hA b (by rw [q]; simp)
    subst e'
    rw [ha] at e; cases e
    have d' : Data.seq vs.toArray _ = Data.dict es ep := d
    cases d'
  have nsK : ∀ {b : Addr} {m : Str → Option Value}, s₁.heap.Ns b m → (hidT s₁.heap H).Ns b m := fun {b m} ⟨o, es, ep, e, d, r⟩ => ⟨o, es, ep, base_of e (noA e d), d, r⟩
  have hKb : K.In (hidT s₁.heap H) := fun b o e => base_of (KX b o e) (by
   cases q : H b with
   | none => rfl
   | some u =>
    have e' : b = a := hA b (by rw [q]; simp)
    subst e'
    rw [hK (by rw [q]; simp)] at e; cases e)
  have hM : Mod K mg (hidT s₁.heap H) := ⟨hKb, nsK hns, ⟨mb, nsK hb, hbb⟩, let ⟨mc, h1, h2⟩ := hlim; ⟨mc, nsK h1, h2⟩⟩
  have e0 : Env0 P w K mg (hidT s₁.heap H) callerA [] s₁ H := ⟨rfl, hM, fun b o e => of_hidT e, Nat.le_of_eq (hidT_size _ _), trivial, fun b hb => absurd (show b ∈ ([] : List Addr) from hb) (by simp), hok, .of_eq hg⟩
  refine codeAny_mono ((F _ hKb (nsK hns)).run callerA [] s₁ H ⟨[.ref a], []⟩ [.ref a] [.ref a] _ _ hr e0 (hbind s₁ (.ref a)) (.cons rfl .nil) (hsp H hO hS)) fun r s' h => ?_
  cases r with
  | error e => exact (hCX H e s' h).elim
  | ok fl =>
   cases fl with
   | next => exact False.elim h
   | brk => exact False.elim h
   | cont => exact False.elim h
   | ret u =>
    obtain ⟨v, H', os, bare, un, hok', r', q⟩ := h
    have q' : v = .bl true := q
    subst q'
    obtain rfl : u = Value.bool true := r'
    refine ⟨rfl, OldK.of_keep fun b o e => ?_, os, bare⟩
    cases q : H b with
    | none => exact un.keep b o e q (by intro z; exact absurd (show b ∈ ([] : List Addr) from z) (by simp)) (by simp)
    | some u =>
     rcases hO b with z | ⟨ob, xs, z⟩
     ·rw [q] at z; cases z
     ·have z2 := un.frzs b ob _ z
      obtain ⟨e1, _⟩ := hok b _ z
      obtain ⟨e2, _⟩ := hok' b _ z2
      rw [e] at e1; cases e1
      exact e2
 cases hk : K.lookup a with
 | some o =>
  -- the script is one of the module's own objects
  have e := KX a o hk
  rw [ha] at e
  cases e
  refine core (fun _ => none) (fun _ => .inl rfl) (.inr ⟨_, vs.toArray, _, hk, rfl, rfl, rfl, by rw [List.size_toArray, lenV]; exact hl, by simpa using rv⟩) (fun b u z => by have z' : (none : Option HO) = some u := z; cases z') (fun b z => absurd rfl z) fun z => absurd rfl z
 | none =>
  refine core (fun b => if b = a then some (.frz { cls := .type "list", data := .seq vs.toArray } (.lst (ns.map V.int))) else none) (fun b => ?_) (.inl (.inr ⟨{ cls := .type "list", data := .seq vs.toArray }, if_pos rfl⟩)) (fun b u z => ?_) (fun b z => ?_) fun _ => hk
  ·by_cases hb : b = a
   ·exact .inr ⟨_, _, if_pos hb⟩
   ·exact .inl (if_neg hb)
  ·by_cases hb : b = a
   ·have z' := (if_pos hb).symm.trans z
    cases z'
    subst hb
    exact ⟨ha, by rw [List.length_map]; exact hl, vs, _, rv, ha⟩
   ·have z' := (if_neg hb).symm.trans z
    cases z'
  ·by_cases hb : b = a
   ·exact hb
   ·exact absurd (if_neg hb) z
noncomputable abbrev KOf {K : PySem.W.Frag} {h : Heap} (_ : K.In h) : PySem.W.Frag := K
theorem walk_of {l : PySem.W.OpenLaw} {n k : Nat} {q : Program} {loose : List Str} {XP : (Str → Option Value) → Heap → Prop} {YP : World → Heap → Prop} {d : DefRec} {K : Params → PySem.W.Frag} {CX : World → CXT} {sp : World → Sp} {x : Str}
  (hn : l.most = some n) (hn2 : n ≤ sizeLine) (hdf : d.params.defaults = []) (hr : Room k callerA)
  (hY : ∀ (w : World) (h : Heap), YP w h → (K w.params).In h)
  (F : ∀ (w : World) (mg : Str → Option Value) (fa : Addr) (h : Heap), (K w.params).In h → h.Ns mainGlobals mg → mg d.name = some (.ref fa) →
   ∃ fd : FuncData, (∀ (s : Shared) (u : Value), BindsTo s fd ⟨[u], []⟩ [(x, u)]) ∧
    ∀ base : Heap, (K w.params).In base → base.Ns mainGlobals mg → FnOk l.prog w (K w.params) mg base (CX w) k fa fd [x] (sp w))
  (hsp : ∀ (w : World) (H : Hp) (a : Addr) (ns : List Int), ns.length ≤ n → Only H → SqL (K w.params) H a (ns.map V.int) → sp w [.ref a] H (fun v _ => v = .bl true) fun _ _ _ => False)
  (hCX : ∀ (w : World) (H : Hp) (s : Shared) (e : Value) (s' : Shared), CX w [] H s (fun _ _ _ => False) e s' → False) :
  PySem.W.WalkO q loose XP YP l.row.toRowW d [] (fun f vs => PySem.call f vs) := by
 refine Att.attach_call hn hdf fun w s₀ s₁ mg mb fa o pm cd doc a vs ns G Y ho hd hcd hmg hobj hints hlen hg => ?_
 have KX := hY w _ Y
 obtain ⟨fd, hb, hF⟩ := F w mg fa _ KX G.T.g hmg
 exact law_call KX G.T.g G.T.b G.T.builtins G.T.nolimit hg hobj hints (Nat.le_trans hlen hn2) hr hF hb (fun H hO hS => hsp w H a ns hlen hO hS) fun H e s' => hCX w H s₁ e s'
end L2
/- THE LAST THEOREM (shape; LID, My.* are yours):
   My.Adr: a structure of the addresses that your layer names (classes, functions); My.Txt K t: a structure (Prop) of the equations over K;
   My.txt_mk : {K} {implicit addresses ..} (e1 : nsIn K mainGlobals "law" = some (some (.ref f))) (e2 : K.lookup f = some ⟨oc, od, .func (fnOf "law" "law" params body scope dV kV doc pm an cdv ct), sl⟩) (e3 : codeIn K cdv "law" = true) .. : ∃ t, My.Txt K t
set_option maxRecDepth 100000 in
set_option maxHeartbeats 0 in
theorem PySem.Challenge.cw_LID_holds : PySem.Challenge.rw_LID.Holds := by
 w_on; o_law; k_head; (case hw => w_witness2)
 k_fill
 refine L2.walk_of (l := PySem.Challenge.rw_LID) (n := 63) (k := 40) (x := "script") (CX := fun w => ..) (sp := fun _ => My.sp_law) rfl (by decide) rfl ⟨rfl, by decide, by decide⟩ (fun w h Y => PySem.W.kIn_of Y) ?F ?S ?C
 case F =>
  intro w mg fa h KX G hmg
  have T : ∃ t, My.Txt (L2.KOf KX) t := by
   dsimp only [L2.KOf]                          -- K must stand as «<heap const> w.params» for k_is
   refine' My.txt_mk ?e1 ?e2 ?e3 ..
   (case e1 => PySem.W.k_is)                    -- in the order: a name -> its address -> its object -> its parts
   (case e2 => PySem.W.k_is)
   ..
  obtain ⟨t, T⟩ := T
  have e0 := hmg.symm.trans (PySem.W.mg_of KX G T.law)
  cases e0                                       -- fa is the law's own address
  exact ⟨_, fun s u => .of_eq rfl, fun base kb nb => My.law_fn T kb nb⟩     -- if «.of_eq rfl» comes too early: refine' ⟨_, ?b, fun base kb nb => My.law_fn T kb nb⟩; exact fun s u => .of_eq rfl
 case S => exact fun w H a ns hl hO hS => ..
 case C => exact ..
(the tactic k_is has no namespace: write k_is) -/
namespace L2
open PySem PySem.Spec PyProof.Rows
noncomputable def zu (s : Stmt) : Arguments := match s with
 | .FunctionDef _ a _ _ _ _ _ _ _ _ => a
 | _ => { posonlyargs := [], args := [], vararg := none, kwonlyargs := [], kw_defaults := [], kwarg := none, defaults := [] }
noncomputable def zk (s : Stmt) : List Stmt := match s with
 | .FunctionDef _ _ b _ _ _ _ _ _ _ => b
 | _ => []
noncomputable def zc (s : Stmt) : Scope := match s with
 | .FunctionDef _ _ _ _ _ _ sc _ _ _ => sc
 | _ => { kind := .function, names := [], isGenerator := false, isCoroutine := false }
noncomputable abbrev CX0 : CXT := fun _ _ _ _ _ _ => False
noncomputable abbrev E0 : XK := fun _ _ _ => False
theorem pass0 {X : Cx} : YL CX0 X E0 := fun _ _ _ _ _ _ _ h => h.elim
structure Fun (K : PySem.W.Frag) (x qual : Str) (st : Stmt) (f : Addr) (fd : FuncData) : Prop where
 ex : ∃ (oc : Value) (od : Option Addr) (kV doc pm : Value) (an : Option Addr) (cdv ct : Value) (osl : Array (Option Value)),
  fd = PySem.W.fnOf x qual (zu st) (zk st) (zc st) .none kV doc pm an cdv ct ∧ K.lookup f = some ⟨oc, od, .func fd, osl⟩ ∧ PySem.W.codeIn K cdv qual = true
 kp : PySem.W.keepIn K (.ref f) = true
section
variable {P : Program} {w : World} {K : PySem.W.Frag} {mg : Str → Option Value} {base : Heap}
theorem Fun.ok {x qual : Str} {st : Stmt} {f : Addr} {fd : FuncData} {N ps : List Str} {k : Nat} {sp : Sp} (F : Fun K x qual st f fd) (S : FnScope N ps (zc st)) (len : ∀ vs H Q E, sp vs H Q E → vs.length = ps.length)
  (hbody : ∀ (cdv : Value) (A : Around) (outer : List Env) (s : Shared) (H : Hp) (vs : List V) (Q : VK) (E : XK), Room k (A.deeper (envOfC qual (zc st) s.heap.objs.size f cdv)) → sp vs H Q E →
   ∃ t, PSs (cxOf CX0 P w K mg base N qual (zc st) f cdv A outer s H E).nox (zk st) t ∧ t { nx := fun _ H' => Q .non H', rt := Q } (start N vs) H) : FnOk P w K mg base CX0 (k + 1) f fd ps sp := by
 obtain ⟨oc, od, kV, doc, pm, an, cdv, ct, osl, rfl, lk, hcd⟩ := F.ex
 refine WL lk hcd S len fun A outer s H vs Q E hr hsp => ?_
 obtain ⟨t, h, q⟩ := hbody cdv A outer s H vs Q E hr hsp
 exact ⟨t, h.nox, q⟩
theorem Fun.binds {x qual : Str} {st : Stmt} {f : Addr} {fd : FuncData} {ps : List Str} (F : Fun K x qual st f fd)
  (h : ∀ (kV doc pm : Value) (an : Option Addr) (cdv ct : Value) (us : List Value), us.length = ps.length → bindArgs (PySem.W.fnOf x qual (zu st) (zk st) (zc st) .none kV doc pm an cdv ct) ⟨us, []⟩ = pure (ps.zip us)) : Binds K fd ps [] := by
 obtain ⟨oc, od, kV, doc, pm, an, cdv, ct, osl, rfl, lk, hcd⟩ := F.ex
 exact .all (h kV doc pm an cdv ct)
theorem zF {x qual : Str} {st : Stmt} {f : Addr} {oc : Value} {od an : Option Addr} {osl : Array (Option Value)} {kV doc pm cdv ct : Value} (l : K.lookup f = some ⟨oc, od, .func (PySem.W.fnOf x qual (zu st) (zk st) (zc st) .none kV doc pm an cdv ct), osl⟩)
  (c : PySem.W.codeIn K cdv qual = true) (k : PySem.W.keepIn K (.ref f) = true) : Fun K x qual st f (PySem.W.fnOf x qual (zu st) (zk st) (zc st) .none kV doc pm an cdv ct) := ⟨⟨oc, od, kV, doc, pm, an, cdv, ct, osl, rfl, l, c⟩, k⟩
end
theorem hu_of {A : Around} {k : Nat} (hr : Room k A) : A.units + 1 < cLine := Nat.lt_of_le_of_lt (Nat.add_le_add_left (by decide : 1 ≤ 64) _) hr.units
theorem zB {n : Nat} (h : n ≤ 1000) : n < sizeLine := Nat.lt_of_le_of_lt h (by decide)
section
variable {X : Cx}
theorem pv (i : Nat) {x : Str} {pos : Pos} (hN : X.N[i]? = some x := by rfl) (hv : Vis X.env.scope x := by first | exact Or.inl rfl | exact Or.inr (Or.inl rfl) | exact Or.inr (Or.inr rfl)) (hd : (x == ("__debug__" : Str)) = false := by decide)
  (hcd : (x == ("__classdict__" : Str)) = false := by decide) : PE X (.Name x pos) (tVar i) := YD hN hv hd hcd
end
theorem iteF {A B : Prop} (h : B) : if false = true then A else B := by
 rw [if_neg Bool.false_ne_true]
 exact h
theorem iteT {A B : Prop} (h : A) : if true = true then A else B := by
 rw [if_pos rfl]
 exact h
theorem v8 {c A B : Prop} [Decidable c] (hc : c) (h : B) : if (!decide c) = true then A else B := by
 rw [decide_eq_true hc]
 exact iteF h
noncomputable def Same (H H' : Hp) : Prop := ∀ b o, H b = some o → H' b = some o
theorem Same.refl (H : Hp) : Same H H := fun _ _ h => h
theorem Same.trans {H H1 H2 : Hp} (a : Same H H1) (b : Same H1 H2) : Same H H2 := fun c o h => b c o (a c o h)
theorem Same.free {H H' : Hp} (e : Same H H') {l : Addr} (h : H' l = Option.none) : H l = Option.none := by
 cases q : H l with
 | none => rfl
 | some o =>
  rw [e l o q] at h
  cases h
section
variable {P : Program} {w : World} {A : Around} {R : Result → Shared → Prop} {s : Shared}
theorem Zd {elt tgt iter : Expr} {ifs : List Expr} {scope : Scope} {pos : Pos} {it acc : Value} {env : Env} (J : Nat → Shared → Prop)
  (turn : ∀ n s, J n s → wpAny (model P w) A (pyNext it) (fun r c₁ => match r with
   | none => R (.ok .next) c₁
   | some v => wpAny (model P w) A (letOwnedTupleGo tgt it v) (fun _ d₁ => wpAny (model P w) A (assign tgt env v) (fun _ c₂ =>
     wpAny (model P w) A (forIn ifs true fun c r => if r = true then do let ok ← isTrue c env (eval c env); pure (ForInStep.yield ok) else pure (ForInStep.yield r)) (fun ok c₃ =>
      if ok = true then wpAny (model P w) A (eval elt env) (fun x c₄ =>
       wpAny (model P w) A (call (.builtin "list.append") [acc, x]) (fun _ c₅ => ∃ m, m < n ∧ J m c₅) (notedBy (model P w) A env fun e s' => R (.error e) s') c₄) (notedBy (model P w) A env fun e s' => R (.error e) s') c₃
      else ∃ m, m < n ∧ J m c₃) (notedBy (model P w) A env fun e s' => R (.error e) s') c₂) (notedBy (model P w) A env fun e s' => R (.error e) s') d₁) (notedBy (model P w) A env fun e s' => R (.error e) s') c₁) (notedBy (model P w) A env fun e s' => R (.error e) s') s)
  (n : Nat) (hn : J n s) :
  codeAny (model P w) A (.compLoop (.ListComp elt [⟨tgt, iter, ifs, 0⟩] scope pos) 0 it acc env) R s := by
 refine codeAny_loop rfl J (fun n s hJ => ?_) n hn
 show wpAny _ A ((compTurn (.ListComp elt [⟨tgt, iter, ifs, 0⟩] scope pos) 0 it acc env).onRaise (fun x => do noteFrame x env; theTreesLotGoes x)) _ _ s
 refine wpAny_noted ?_
 rw [compTurn_list]
 refine wpAny_bind (wpAny_standAt (wpAny_bind (wpAny_mono (turn n s hJ) (fun r c₁ e₁ => ?_) fun _ _ z => z)))
 cases r with
 | none => exact wpAny_pure e₁
 | some v =>
  refine wpAny_bind (wpAny_mono e₁ (fun _ d₁ f₁ => ?_) fun _ _ z => z)
  refine wpAny_bind (wpAny_mono f₁ (fun _ c₂ e₂ => wpAny_bind (wpAny_mono e₂ (fun ok c₃ e₃ => ?_) fun _ _ z => z)) fun _ _ z => z)
  cases ok with
  | false => exact wpAny_pure ⟨rfl, e₃⟩
  | true =>
   exact wpAny_bind (wpAny_bind (wpAny_mono e₃ (fun x c₄ e₄ => wpAny_bind (wpAny_mono e₄ (fun _ c₅ e₅ => wpAny_pure (wpAny_pure ⟨rfl, e₅⟩)) fun _ _ z => z)) fun _ _ z => z))
end
noncomputable def cloF (env : Env) : List (Str × NameKind) → List (Str × Addr) → List (Str × Addr)
 | [], acc => acc
 | (n, k) :: r, acc => if k = .free then cloF env r ((n, (env.cells.lookup n).getD 0) :: acc) else cloF env r acc
theorem vG {env : Env} : ∀ (names : List (Str × NameKind)) (acc : List (Str × Addr)), (∀ x ∈ names, x.2 = .free → ∃ c, env.cells.lookup x.1 = some c) →
  (forIn names acc (fun (x : Str × NameKind) (cs : List (Str × Addr)) => (if (x.2 == NameKind.free) = true then do let a ← cellOf env x.1; pure (ForInStep.yield ((x.1, a) :: cs)) else pure (ForInStep.yield cs) : Sem (ForInStep (List (Str × Addr))))) : Sem (List (Str × Addr))) = pure (cloF env names acc)
 | [], acc, _ => by simp [cloF]
 | (n, k) :: r, acc, h => by
  have ih := fun acc => vG (env := env) r acc fun x hx => h x (List.mem_cons_of_mem _ hx)
  rw [List.forIn_cons]
  by_cases hk : k = .free
  ·subst hk
   obtain ⟨c, hc⟩ := h (n, .free) List.mem_cons_self rfl
   have hc' : env.cells.lookup n = some c := hc
   have e : cellOf env n = pure c := by unfold cellOf; rw [hc']
   simp only [cloF, if_true, hc', Option.getD_some, beq_self_eq_true, e, pure_bind]
   exact ih _
  ·have hb : (k == NameKind.free) = false := by simpa using hk
   simp only [cloF, hk, if_false, hb, Bool.false_eq_true, pure_bind]
   exact ih _
theorem closure_eq {env : Env} {scope : Scope} (h : ∀ x ∈ scope.names, x.2 = .free → ∃ c, env.cells.lookup x.1 = some c) : closureFor scope env = pure (cloF env scope.names []) := by
 rw [← vG scope.names [] h]
 unfold closureFor
 simp only [bind_pure]
theorem xf {env : Env} {y : Str} : ∀ (names : List (Str × NameKind)) (acc : List (Str × Addr)), (cloF env names acc).lookup y = if (y, NameKind.free) ∈ names then some ((env.cells.lookup y).getD 0) else acc.lookup y
 | [], acc => by simp [cloF]
 | (n, k) :: r, acc => by
  unfold cloF
  by_cases hk : k = .free
  ·subst hk
   rw [if_pos rfl, xf r]
   by_cases hy : y = n
   ·subst hy
    simp [List.lookup_cons]
   ·have hb : (y == n) = false := by simpa using hy
    simp [List.lookup_cons, hb, hy]
  ·rw [if_neg hk, xf r]
   have : ¬ ((y, NameKind.free) = (n, k)) := by
    intro e
    exact hk (Prod.mk.inj e).2.symm
   simp [this]
structure CScope (o sc : Scope) (TN F : List Str) : Prop where
 okind : o.kind = .function
 kind : sc.kind = .function
 nocell : ∀ y ∈ sc.names, y.2 ≠ .cell
 names : ∀ y ∈ sc.names, y.2 = .local → sc.names.lookup y.1 = some .local
 fr : ∀ y ∈ sc.names, y.2 = .free → o.names.lookup y.1 = some .cell ∧ sc.names.lookup y.1 = some .free
 ff : ∀ y ∈ F, (y, NameKind.free) ∈ sc.names
theorem wt {env : Env} {y : Str} (hk : env.scope.kind = .function) (hc : env.kindOf y = some .cell) : ∀ {names : List (Str × NameKind)}, names.lookup y = some .free →
  (names.map fun (n, k) => if (k == NameKind.free && env.scope.kind == .function && env.kindOf n == some .cell) then (n, NameKind.cell) else (n, k)).lookup y = some .cell
 | [], h => by simp at h
 | (n, k) :: r, h => by
  have ih := @wt env y hk hc r
  show List.lookup y ((if (k == NameKind.free && env.scope.kind == .function && env.kindOf n == some .cell) = true then (n, NameKind.cell) else (n, k)) :: _) = _
  cases hx : y == n with
  | true =>
   rw [List.lookup_cons, hx] at h
   cases h
   have e : y = n := by simpa using hx
   subst e
   rw [if_pos (by simp [hk, hc])]
   simp [List.lookup_cons]
  | false =>
   rw [List.lookup_cons, hx] at h
   by_cases hc' : (k == NameKind.free && env.scope.kind == .function && env.kindOf n == some .cell) = true
   ·rw [if_pos hc']; simp only [List.lookup_cons, hx]; exact ih h
   ·rw [if_neg hc']; simp only [List.lookup_cons, hx]; exact ih h
theorem wq {env : Env} {y : Str} : ∀ {names : List (Str × NameKind)}, (∀ z ∈ names, z.2 ≠ .cell) →
    ((names.map fun (n, k) => if (k == NameKind.free && env.scope.kind == .function && env.kindOf n == some .cell) then (n, NameKind.cell) else (n, k)).lookup y = some .cell ∨
     (names.map fun (n, k) => if (k == NameKind.free && env.scope.kind == .function && env.kindOf n == some .cell) then (n, NameKind.cell) else (n, k)).lookup y = some .free) → (y, NameKind.free) ∈ names
  | [], _, h => by simp at h
  | (n, k) :: r, hn, h => by
    have ih := @wq env y r fun z hz => hn z (List.mem_cons_of_mem _ hz)
    have h' : List.lookup y ((if (k == NameKind.free && env.scope.kind == .function && env.kindOf n == some .cell) = true then (n, NameKind.cell) else (n, k)) :: (r.map fun (n, k) => if (k == NameKind.free && env.scope.kind == .function && env.kindOf n == some .cell) then (n, NameKind.cell) else (n, k))) = some .cell ∨
      List.lookup y ((if (k == NameKind.free && env.scope.kind == .function && env.kindOf n == some .cell) = true then (n, NameKind.cell) else (n, k)) :: (r.map fun (n, k) => if (k == NameKind.free && env.scope.kind == .function && env.kindOf n == some .cell) then (n, NameKind.cell) else (n, k))) = some .free := h
    clear h
    cases hx : y == n with
    | true =>
      have e : y = n := by simpa using hx
      subst e
      by_cases hc' : (k == NameKind.free && env.scope.kind == .function && env.kindOf y == some .cell) = true
      · have hk : k = .free := by
          have := (Bool.and_eq_true _ _ ▸ (Bool.and_eq_true _ _ ▸ hc').1).1
          simpa using this
        subst hk
        exact List.mem_cons_self
      · rw [if_neg hc'] at h'
        simp only [List.lookup_cons, beq_self_eq_true] at h'
        rcases h' with h' | h'
        · cases h'
          exact absurd rfl (hn _ List.mem_cons_self)
        · cases h'
          exact List.mem_cons_self
    | false =>
      by_cases hc' : (k == NameKind.free && env.scope.kind == .function && env.kindOf n == some .cell) = true
      · rw [if_pos hc'] at h'; simp only [List.lookup_cons, hx] at h'; exact List.mem_cons_of_mem _ (ih h')
      · rw [if_neg hc'] at h'; simp only [List.lookup_cons, hx] at h'; exact List.mem_cons_of_mem _ (ih h')
noncomputable def cxC (X : Cx) (N : List Str) (sc : Scope) (cl : List (Str × Addr)) (C : Addr) (fp : List Addr) (s₃ : Shared) (H₃ : Hp) (xe : Value → Shared → Prop) : Cx :=
 { X with N := N, s₀ := s₃, H₀ := H₃, env := compEnvC sc cl C X.env, outer := X.stack, ex := fp, fn := fun _ => false, pn := [], xe := xe }
noncomputable def sub (ix : List Nat) (σ : St) : St := ix.map fun i => (σ[i]?).join
theorem Yh {X : Cx} {pins : List (Addr × Obj)} {σ : St} {H : Hp} {s : Shared} {sc : Scope} {TN F : List Str} {ix : List Nat} {fp : List Addr} {h4 : Heap} {tk : Nat} {m : Str → Option Value} {xe : Value → Shared → Prop}
  (S : CScope X.env.scope sc TN F) (hix : ix.map (fun i => X.N[i]?) = F.map some) (I : Inv X pins σ H s) (hf : ∀ b ∈ fp, FpOk X pins H b) (ho : ∀ b ∈ fp, ∃ o, s.heap.get? b = some o)
  (hk : ∀ b o, s.heap.get? b = some o → h4.get? b = some o) (hn : h4.Ns s.heap.objs.size m) :
  Inv (cxC X (TN ++ F) sc (cloF X.env sc.names []) s.heap.objs.size fp s H xe) [] (List.replicate TN.length none ++ sub ix σ) H { s with heap := h4, toks := tk } := by
 have cl : ∀ x c, (cloF X.env sc.names []).lookup x = some c → X.env.cells.lookup x = some c := fun x c e => by
  rw [xf] at e
  by_cases hx : (x, NameKind.free) ∈ sc.names
  ·rw [if_pos hx] at e
   obtain ⟨c', hc'⟩ := I.ok.has x (.inl (S.fr _ hx rfl).1)
   rw [hc'] at e ⊢
   exact e
  ·rw [if_neg hx] at e
   cases e
 have cl' : ∀ x, (x, NameKind.free) ∈ sc.names → (cloF X.env sc.names []).lookup x = X.env.cells.lookup x := fun x hx => by
  rw [xf, if_pos hx]
  obtain ⟨c', hc'⟩ := I.ok.has x (.inl (S.fr _ hx rfl).1)
  rw [hc']
  rfl
 have hlen : ix.length = F.length := by
  have := congrArg List.length hix
  simpa using this
 refine ⟨⟨I.ok.mod, S.kind, I.ok.glob, I.ok.blt, Nat.le_refl _, fun x y c h1 h2 => I.ok.inj x y c (cl x c h1) (cl y c h2), fun x hx => ?_, fun x c z => (nomatch z), I.ok.hd, I.ok.frames, .inl rfl, fun b hb => ⟨?_, fun x c e => (hf b hb).2.2.2.2.1 x c (cl x c e)⟩,
  I.bs, Nat.le_trans I.ok.bsz I.sz, fun b o e hb => ?_, fun b hb hfs => ?_, I.stack, I.stkFree⟩, rfl, I.bare, Un.kept hk, ⟨m, hn, fun i x v h1 h2 h3 => ?_⟩, fun x c e => ?_, I.hok.fresh (Nat.le_refl _), fun x c e => I.freeC x c (cl x c e), fun p hp => absurd (show p ∈ ([] : List (Addr × Obj)) from hp) (by simp), I.hok.kept hk, ?_⟩
 ·have hx' : (x, NameKind.free) ∈ sc.names := wq (env := X.env) S.nocell hx
  obtain ⟨c, hc⟩ := I.ok.has x (.inl (S.fr _ hx' rfl).1)
  exact ⟨c, (cl' x hx').trans hc⟩
 ·obtain ⟨o, e⟩ := ho b hb
  exact Nat.ne_of_lt (Heap.lt_size e)
 ·rcases (hf b hb).2.2.2.1 with z | z
  ·exact I.ok.noex b o e z
  ·exact absurd (Nat.lt_of_lt_of_le (Heap.lt_size e) (Nat.le_trans I.ok.bsz z)) (Nat.lt_irrefl _)
 ·rcases List.mem_cons.mp (I.stkSub b hfs) with z | z
  ·exact (hf b hb).2.1 z
  ·exact (hf b hb).2.2.1 z
 ·have hi : TN.length ≤ i := by
   apply Nat.le_of_not_lt
   intro hlt
   rw [List.getElem?_append_left (by simpa using hlt), List.getElem?_replicate] at h2
   split at h2 <;> cases h2
  rw [List.getElem?_append_right (by simpa using hi), List.length_replicate] at h2
  have h1' : F[i - TN.length]? = some x := by
   have : (TN ++ F)[i]? = some x := h1
   rw [List.getElem?_append_right hi] at this
   exact this
  have e3 := congrArg (fun l => l[i - TN.length]?) hix
  simp only [List.getElem?_map, h1', Option.map_some] at e3
  unfold sub at h2
  rw [List.getElem?_map] at h2
  cases ej : ix[i - TN.length]? with
  | none => rw [ej] at h2; cases h2
  | some k =>
   rw [ej] at h2 e3
   have h2' : (σ[k]?).join = some v := Option.some.inj h2
   have e3' : X.N[k]? = some x := Option.some.inj e3
   have hσ : σ[k]? = some (some v) := by
    cases e : σ[k]? with
    | none => rw [e] at h2'; cases h2'
    | some q =>
     rw [e] at h2'
     have : q = some v := h2'
     rw [this]
   have hfr := S.ff x (List.mem_of_getElem? h1')
   have hcell := (S.fr _ hfr rfl).1
   obtain ⟨m0, hn0, hl0⟩ := I.loc
   obtain ⟨u, r, l⟩ := hl0 k x v e3' hσ (.inr (.inl hcell))
   refine ⟨u, r, ?_⟩
   rcases l with ⟨l1, _⟩ | ⟨_, c, hc, o, ho', hd⟩
   ·have l1' : X.env.scope.names.lookup x = some .local := l1
    rw [hcell] at l1'
    cases l1'
   ·exact .inr ⟨.inl (wt (env := X.env) S.okind hcell (S.fr _ hfr rfl).2), c, (cl' x hfr).trans hc, o, hk c o ho', hd⟩
 ·obtain ⟨v, o, ho', hd⟩ := I.cell x c (cl x c e)
  exact ⟨v, o, hk c o ho', hd⟩
 ·show _ = (TN ++ F).length
  rw [List.length_append, List.length_append, List.length_replicate]
  unfold sub
  rw [List.length_map, hlen]
noncomputable def PTs (X : Cx) (ifs : List Expr) (tc : TT) : Prop :=
 ∀ (pins : List (Addr × Obj)) (s : Shared) (σ : St) (H : Hp) (Q : Bool → Hp → Prop), Inv X pins σ H s → tc σ H Q →
  wpAny (model X.prog X.w) X.A (forIn ifs true fun c r => if r = true then do let ok ← isTrue c X.env (eval c X.env); pure (ForInStep.yield ok) else pure (ForInStep.yield r)) (TP X pins σ Q) X.xe s
noncomputable def tAll : TT := fun _ H Q => Q true H
theorem yp {X : Cx} : PTs X [] tAll := fun _ _ _ H _ I h => wpAny_tests_nil ⟨H, I, h⟩
theorem pts_one {X : Cx} {c : Expr} {tc : TT} (hc : PT X c tc) : PTs X [c] tc := fun pins s σ H Q I h => wpAny_tests_one (hc pins s σ H Q I h)
noncomputable def CGo (J : It) (D : Addr) (g : TG) (tc : TT) (te : TE) (Q : VK) (σ : St) (H : Hp) : Prop :=
 ∃ W : Nat → Nat → St → List V → Hp → Prop, (∃ m, W 0 m σ [] (upd H D (.lst []))) ∧ ∀ i m τ ys H, W i m τ ys H → H D = some (.lst ys) ∧
  ((J.stop i H ∧ Q (.ref D) H) ∨ (J.go i H ∧ ∀ v H', J.yld i H v H' → g v τ H' fun τ2 H2 => tc τ2 H2 fun b H3 =>
   if b = true then te τ2 H3 fun y H4 => H4 D = some (.lst ys) ∧ ys.length < sizeLine ∧ ∃ m', m' < m ∧ W (i + 1) m' τ2 (ys ++ [y]) (upd H4 D (.lst (ys ++ [y])))
   else ∃ m', m' < m ∧ W (i + 1) m' τ2 ys H3))
noncomputable def vK (wi : TI) (n : Nat) (ix : List Nat) (g : TG) (tc : TT) (te : TE) : TE := fun σ H Q => wi σ H fun J H1 => ∀ D, H1 D = none → CGo J D g tc te Q (List.replicate n none ++ sub ix σ) H1
theorem Zk {X : Cx} {pins : List (Addr × Obj)} {σ : St} {H : Hp} {s : Shared} {D : Addr} {ys : List V} {y : V} {u : Value} {Q : Value → Shared → Prop} {E : Value → Shared → Prop} (I : Inv X pins σ H s) (hD : H D = some (.lst ys)) (hz : ys.length < sizeLine) (r : RelV y u)
  (h : ∀ s', Inv X pins σ (upd H D (.lst (ys ++ [y]))) s' → Q .none s') : wpAny (model X.prog X.w) X.A (call (.builtin "list.append") [.ref D, u]) Q E s := by
 obtain ⟨z, its, n, rr, hl, e⟩ := I.lstM hD
 refine call_meets F.slot_list_append ⟨_, e, rfl⟩ F.entry_list_append (F.args_list_append_2 _ _) (PySem.list_append D its.toArray n u (by rw [List.size_toArray]; lia)) ⟨e, ?_⟩
 refine h _ (I.lset (its' := its ++ [u]) hD e (by simp) (rr.append (.cons r .nil)) ?_)
 rw [List.length_append, List.length_singleton]
 lia
theorem vE {X : Cx} {pins : List (Addr × Obj)} {σ : St} {H : Hp} {s : Shared} {sc : Scope} {TN F : List Str} {ix : List Nat} {elt tg iter : Expr} {ifs : List Expr} {pos : Pos} {g : TG} {tc : TT} {te : TE} {J : It} {fp : List Addr} {it : Addr} {tn : Nat → Heap → Prop} {Q : VK}
  {RR : Value → Addr → Result → Shared → Prop} {E : Value → Shared → Prop}
  (S : CScope X.env.scope sc TN F) (hix : ix.map (fun i => X.N[i]?) = F.map some) (hc : X.calm = true) (I : Inv X pins σ H s) (T : Turn X.prog X.w X.K tg J fp it tn) (st : tn 0 s.heap) (hf : ∀ b ∈ fp, FpOk X pins H b)
  (hg : ∀ cl C fp s3 H3 xe, PG (cxC X (TN ++ F) sc cl C fp s3 H3 xe) tg g) (ht : ∀ cl C fp s3 H3 xe, PTs (cxC X (TN ++ F) sc cl C fp s3 H3 xe) ifs tc) (he : ∀ cl C fp s3 H3 xe, PE (cxC X (TN ++ F) sc cl C fp s3 H3 xe) elt te)
  (hW : ∀ D, H D = none → CGo J D g tc te Q (List.replicate TN.length none ++ sub ix σ) H)
  (fin : ∀ D C H' s', Inv X pins σ H' s' → (∃ m, s'.heap.Ns C m) → H' C = none → C ≠ X.env.locals → X.s₀.heap.objs.size ≤ C → (∀ x c, X.env.cells.lookup x = some c → c ≠ C) → (∀ p ∈ X.pn ++ pins, p.1 ≠ C) → Q (.ref D) H' → RR (.ref D) C (.ok .next) s') :
  wpAny (model X.prog X.w) X.A (newList []) (fun acc s₃ => wpAny (model X.prog X.w) X.A (newFunctionEnv sc X.env.globals (cloF X.env sc.names []) [] X.env.qual none .none (some X.env)) (fun cenv s₄ =>
   codeAny (model X.prog X.w) X.A (.compStart (.ListComp elt [⟨tg, iter, ifs, 0⟩] sc pos) 0 (.ref it) acc { cenv with scope := relabel sc X.env }) (RR acc cenv.locals) s₄) E s₃) E s := by
 have hfo : ∀ b ∈ fp, ∃ o, s.heap.get? b = some o := fun b hb => let ⟨o, e, _⟩ := T.obj 0 _ st b hb; ⟨o, e⟩
 refine wpAny_newObj_type ?_
 obtain ⟨W, ⟨m0, w0⟩, go⟩ := hW s.heap.objs.size I.fresh
 have I3 : Inv X pins σ (upd H s.heap.objs.size (.lst [])) { s with heap := s.heap.push { cls := .type "list", data := .seq ([] : List Value).toArray } } := I.lnew (its := []) (ys := []) (t' := s.toks) .nil (Nat.zero_le _)
 generalize hs3 : ({ s with heap := s.heap.push { cls := .type "list", data := .seq ([] : List Value).toArray } } : Shared) = s3 at I3
 have hk3 : ∀ b o, s.heap.get? b = some o → s3.heap.get? b = some o := fun b o e => by
  rw [← hs3]
  exact Heap.get?_push_of_some _ e
 have hf3 : ∀ b ∈ fp, FpOk X pins (upd H s.heap.objs.size (.lst [])) b := fun b hb => by
  obtain ⟨o, e⟩ := hfo b hb
  exact ⟨by rw [zg (Nat.ne_of_lt (Heap.lt_size e))]; exact (hf b hb).1, (hf b hb).2⟩
 have st3 : tn 0 s3.heap := T.keep 0 _ _ st fun b hb o e => hk3 b o e
 show wpAny _ _ _ _ _ s3
 refine wpAny_newFunctionEnv S.nocell (by intro y hy; simp at hy) (fun h4 hn4 hsb => ?_) S.kind
 have hk4 : ∀ b o, s3.heap.get? b = some o → h4.get? b = some o := fun b o e => (hsb.2 b (Nat.ne_of_lt (Heap.lt_size e))).trans (Heap.get?_push_of_some _ e)
 generalize hR : RR (.ref s.heap.objs.size) s3.heap.objs.size = R
 have loop : ∀ s4 : Shared, s4 = { s3 with heap := h4, toks := s3.toks + ([] : List (Str × Value)).length } →
   codeAny (model X.prog X.w) X.A (.compLoop (.ListComp elt [⟨tg, iter, ifs, 0⟩] sc pos) 0 (.ref it) (.ref s.heap.objs.size) (compEnvC sc (cloF X.env sc.names []) s3.heap.objs.size X.env)) R s4 := by
  rintro s4 rfl
  let X' : Cx := cxC X (TN ++ F) sc (cloF X.env sc.names []) s3.heap.objs.size fp s3 (upd H s.heap.objs.size (.lst [])) (notedBy (model X.prog X.w) X.A (compEnvC sc (cloF X.env sc.names []) s3.heap.objs.size X.env) fun e s' => R (.error e) s')
  have I4 : Inv X' [] (List.replicate TN.length none ++ sub ix σ) (upd H s.heap.objs.size (.lst [])) { s3 with heap := h4, toks := s3.toks + ([] : List (Str × Value)).length } :=
   Yh S hix I3 hf3 (fun b hb => let ⟨o, e⟩ := hfo b hb; ⟨o, hk3 b o e⟩) hk4 hn4
  have fpx : ∀ {H' : Hp}, (∀ b ∈ fp, H' b = none) → ∀ b ∈ fp, FpOk X' [] H' b := fun {H'} hn b hb => by
   refine ⟨hn b hb, (I4.ok.exf b hb).1, fun z => I4.ok.exfs b hb z, .inl hb, fun x c e => (I4.ok.exf b hb).2 x c e, fun p hp => absurd (show p ∈ ([] : List (Addr × Obj)) from hp) (by simp)⟩
  refine Zd (fun n s' => ∃ i τ ys H', Inv X' [] τ H' s' ∧ tn i s'.heap ∧ (∀ b ∈ fp, H' b = none) ∧ W i n τ ys H') ?_ m0 ⟨0, _, [], _, I4, T.keep 0 _ _ st3 fun b hb o e => hk4 b o e, fun b hb => (hf3 b hb).1, w0⟩
  rintro n s5 ⟨i, τ, ys, H5, I5, st5, fr5, w5⟩
  obtain ⟨hD, hgo⟩ := go i n τ ys H5 w5
  rcases hgo with ⟨stop, q⟩ | ⟨hgo, step⟩
  ·refine thn (T.done X' rfl rfl rfl hc i [] s5 τ H5 X'.xe I5 (fpx fr5) st5 stop) fun r s6 ⟨hr, I6⟩ => ?_
   subst hr
   show R (.ok .next) s6
   rw [← hR]
   have J6 : Inv X pins σ H5 s6 := I3.call' (ch := fp) I6.os I6.base I6.hok I6.bare fun b hb => ⟨(hf3 b hb).2.2.2.1, (hf3 b hb).2.1, (hf3 b hb).2.2.2.2.1, (hf3 b hb).2.2.2.2.2⟩
   refine fin s.heap.objs.size s3.heap.objs.size H5 s6 J6 (let ⟨m, hn, _⟩ := I6.loc; ⟨m, hn⟩) I6.free (Nat.ne_of_gt I3.lt) I3.sz (fun x c e z => ?_) (fun p hp z => ?_) q
   ·obtain ⟨v, o, ho, _⟩ := I3.cell x c e
    exact absurd (Heap.lt_size ho) (by rw [z]; exact Nat.lt_irrefl _)
   ·exact absurd (Heap.lt_size (I3.pin p hp).1) (by rw [z]; exact Nat.lt_irrefl _)
  ·refine thn (T.item X' rfl rfl rfl hc i [] s5 τ H5 X'.xe I5 (fpx fr5) st5 hgo) fun r s6 ⟨u, hr, h6⟩ => ?_
   subst hr
   refine thn h6 fun _ s7 ⟨v, H7, I7, r7, y7, st7, fr7⟩ => ?_
   have I7' := I7.pinned (fpx fr7) (T.obj _ _ st7)
   refine thn (hg _ _ _ _ _ _ _ s7 τ H7 v u _ I7' r7 (step v H7 y7)) fun _ s8 ⟨τ8, H8, I8, q8⟩ => ?_
   refine thn (ht _ _ _ _ _ _ _ s8 τ8 H8 _ I8 q8) fun ok s9 ⟨H9, I9, q9⟩ => ?_
   have again : ∀ {ys' : List V} {H' : Hp} {s' : Shared}, Inv X' ([] ++ wI fp s7.heap) τ8 H' s' → (∃ m', m' < n ∧ W (i + 1) m' τ8 ys' H') → ∃ m, m < n ∧ ∃ i τ ys H'', Inv X' [] τ H'' s' ∧ tn i s'.heap ∧ (∀ b ∈ fp, H'' b = none) ∧ W i m τ ys H'' := fun {ys' H' s'} I' ⟨m', hm, w'⟩ => by
    refine ⟨m', hm, i + 1, τ8, ys', H', I'.unpinned, T.keep _ _ _ st7 fun b hb o e => (I'.pin (b, o) (List.mem_append_right _ (List.mem_append_right _ (yD hb e)))).1, fun b hb => ?_, w'⟩
    obtain ⟨o, e, d⟩ := T.obj _ _ st7 b hb
    exact (I'.pin (b, o) (List.mem_append_right _ (List.mem_append_right _ (yD hb e)))).2.1
   cases ok with
   | false =>
    exact again I9 q9
   | true =>
    refine thn (he _ _ _ _ _ _ _ s9 τ8 H9 _ I9 q9) fun x s10 ⟨y, H10, I10, r10, hD10, hz10, q10⟩ => ?_
    exact Zk (X := X') I10 hD10 hz10 r10 fun s11 I11 => again I11 q10
 subst hR
 exact codeAny_compStart_list (loop _ rfl) (T.self X.A 0 _ _ _ (T.keep 0 _ _ st3 fun b hb o e => hk4 b o e) (loop _ rfl))
section
variable {X : Cx} {sc : Scope} {TN F : List Str} {ix : List Nat} {elt tg iter : Expr} {ifs : List Expr} {pos : Pos} {g : TG} {tc : TT} {te : TE} {wi : TI}
theorem wk (S : CScope X.env.scope sc TN F) {pins : List (Addr × Obj)} {σ : St} {H : Hp} {s : Shared} (I : Inv X pins σ H s) : closureFor sc X.env = pure (cloF X.env sc.names []) :=
 closure_eq fun x hx hk => I.ok.has x.1 (.inl (S.fr x hx hk).1)
theorem yJ (S : CScope X.env.scope sc TN F) (hix : ix.map (fun i => X.N[i]?) = F.map some) (hc : X.calm = true) (hi : PI X tg iter wi)
  (hg : ∀ cl C fp s3 H3 xe, PG (cxC X (TN ++ F) sc cl C fp s3 H3 xe) tg g) (ht : ∀ cl C fp s3 H3 xe, PTs (cxC X (TN ++ F) sc cl C fp s3 H3 xe) ifs tc) (he : ∀ cl C fp s3 H3 xe, PE (cxC X (TN ++ F) sc cl C fp s3 H3 xe) elt te)
  (hs : ∀ x, foldedSetIterable iter X.env x = pure x := by intro _; rfl) : PE X (.ListComp elt [⟨tg, iter, ifs, 0⟩] sc pos) (vK wi TN.length ix g tc te) := by
 intro pins s σ H Q I h
 rw [eval_ListComp]
 refine wpAny_comprehension_free (use := none) rfl hs (wk S I) S.kind S.names (thn (hi pins s σ H _ I h) fun v s1 h1 => thn h1 fun itv s2 h2 => ?_)
 obtain ⟨it, fp, tn, J, H2, e, I2, T, st2, f2, q2⟩ := h2
 subst e
 refine vE (RR := fun acc C => compPost (model X.prog X.w) X.A X.xe none (EP X pins σ Q) acc C) S hix hc I2 T st2 f2 hg ht he q2 fun D C H' s' I' hn hC1 hC2 hC3 hC4 hC5 q => ?_
 obtain ⟨m, hn⟩ := hn
 exact ⟨m, hn, fun h' hs' => ⟨.ref D, H', I'.turned (t' := s'.toks) (fun b o hb e => (hs'.2 b hb).trans e) hC1 hC2 (.inr hC3) hC4 hC5, rfl, q⟩⟩
theorem Zy {i : Nat} {y : Str} {py spos : Pos} (hN : X.N.Nodup) (hiy : X.N[i]? = some y) (hy : X.env.scope.names.lookup y = some .local) (S : CScope X.env.scope sc TN F) (hix : ix.map (fun i => X.N[i]?) = F.map some) (hc : X.calm = true) (hi : PI X tg iter wi)
  (hg : ∀ cl C fp s3 H3 xe, PG (cxC X (TN ++ F) sc cl C fp s3 H3 xe) tg g) (ht : ∀ cl C fp s3 H3 xe, PTs (cxC X (TN ++ F) sc cl C fp s3 H3 xe) ifs tc) (he : ∀ cl C fp s3 H3 xe, PE (cxC X (TN ++ F) sc cl C fp s3 H3 xe) elt te)
  (hsw : swapsWith (.ListComp elt [⟨tg, iter, ifs, 0⟩] sc pos) (some (.Name y py)) spos.line X.env = pure true := by rfl)
  (hs : ∀ x, foldedSetIterable iter X.env x = pure x := by intro _; rfl) : PS X (.Assign [.Name y py] (.ListComp elt [⟨tg, iter, ifs, 0⟩] sc pos) spos) (tAsg (vK wi TN.length ix g tc te) (yU i)) := by
 intro pins s σ H D I h
 rw [exec_Assign_Name_used _ _ _ _ hsw]; refine wpAny_bind (wpAny_standAt (wpAny_bind ?_))
 show wpAny _ X.A (do let _ ← comprehension (.ListComp elt [⟨tg, iter, ifs, 0⟩] sc pos) sc X.env _ (newList []) false (eval iter X.env) (some (assign (.Name y py) X.env))) _ _ s
 refine wpAny_bind (wpAny_mono (wpAny_comprehension_free (use := some (assign (.Name y py) X.env)) (Q := fun _ s' => SP X pins D .next s') rfl hs (wk S I) S.kind S.names
  (thn (hi pins s σ H _ I h) fun v s1 h1 => thn h1 fun itv s2 h2 => ?_)) (fun _ s' hq => wpAny_pure (wpAny_pure hq)) fun _ _ e => e)
 obtain ⟨it, fp, tn, J, H2, e, I2, T, st2, f2, q2⟩ := h2
 subst e
 refine vE (RR := fun acc C => compPost (model X.prog X.w) X.A X.xe (some (assign (.Name y py) X.env)) (fun _ s' => SP X pins D .next s') acc C) S hix hc I2 T st2 f2 hg ht he q2 fun Dl C H' s' I' hn hC1 hC2 hC3 hC4 hC5 q => ?_
 obtain ⟨m, hn⟩ := hn
 show wpAny _ X.A (assign (.Name y py) X.env (.ref Dl)) _ _ _
 refine wpAny_assign_Name (vL I' hN hiy (.inl hy) (show RelV (.ref Dl) (.ref Dl) from rfl) (fun s'' I'' ⟨a, hsb, ha⟩ => ?_) (.inr hy))
 have haC : C ≠ a := by
  rcases ha with z | z
  ·rw [z]; exact hC2
  ·exact fun z' => hC4 y a z z'.symm
 refine ⟨m, hn.sameBut hsb haC, fun h' hs' => ?_⟩
 exact ⟨_, H', I''.turned (t' := s''.toks) (fun b o hb e => (hs'.2 b hb).trans e) hC1 hC2 (.inr hC3) hC4 hC5, q⟩
end
noncomputable def Y5 (H : Hp) (p : Addr) : Option (List V) := match H p with
 | some (.lst xs) => some xs
 | some (.tup xs) => some xs
 | _ => none
noncomputable def dAt (H : Hp) (x y : V) : Option V := match x, y with
 | .ref p, .int i => (Y5 H p).bind fun xs => atI xs i
 | _, _ => none
noncomputable def rIxd : R2 := fun x y H Q => ∃ v, dAt H x y = some v ∧ Q v H
section
variable {X : Cx}
theorem ix_d : IxR X rIxd := by
 intro value slice pins s σ H x y v u Q I rx ry h hs
 refine ix_seq value slice pins s σ H x y v u Q I rx ry ?_ hs
 obtain ⟨z, e, q⟩ := h
 unfold dAt at e
 split at e
 case h_2 => cases e
 case h_1 p i =>
  unfold Y5 at e
  split at e
  case h_1 xs hp => exact .inl ⟨_, xs, _, z, rfl, rfl, SqL.of hp, e, q⟩
  case h_2 xs hp => exact .inr (.inl ⟨_, xs, _, z, rfl, rfl, SqT.of hp, e, q⟩)
  case h_3 => cases e
noncomputable def dSet (H : Hp) (o i v : V) : Option Hp := match o, i with
 | .ref p, .int k => match H p with
  | some (.lst xs) => (ixN xs.length k).map fun j => upd H p (.lst (xs.set j v))
  | _ => none
 | _, _ => none
noncomputable def WD : V → V → V → Hp → (Hp → Prop) → Prop := fun o i v H Q => ∃ H', dSet H o i v = some H' ∧ Q H'
theorem yZ : PSet X WD := by
 intro pins s σ H o i v ov iv u Q I ro ri rv h
 refine set_list pins s σ H o i v ov iv u Q I ro ri rv ?_
 obtain ⟨H', e, q⟩ := h
 unfold dSet at e
 split at e
 case h_2 => cases e
 case h_1 p k =>
  split at e
  case h_2 => cases e
  case h_1 xs hp =>
   cases ej : ixN xs.length k with
   | none => rw [ej] at e; cases e
   | some j =>
    rw [ej] at e
    cases e
    exact ⟨p, xs, k, j, rfl, rfl, hp, ej, q⟩
end
section
variable {σ : St} {H : Hp} {Q : VK} {D : Ends} {t u : TS} {te ta tb : TE} {tr : TA} {g : TG} {r : R2} {x y v : V} {c : TT} {QB : Bool → Hp → Prop} {QL : List V → Hp → Prop} {QG : St → Hp → Prop} {n : Nat}
theorem YR (h : t { D with nx := u D } σ H) : tSeq t u D σ H := h
theorem wF (h : D.nx σ H) : Ww D σ H := h
theorem ZX (h : te σ H fun x H1 => g x σ H1 D.nx) : tAsg te g D σ H := h
theorem zJ {i : Nat} (h : QG (σ.set i (some v)) H) : yU i v σ H QG := h
theorem w_op (h : ta σ H fun x H1 => tb σ H1 fun y H2 => r x y H2 Q) : tOp r ta tb σ H Q := h
theorem ve {i : Nat} (e : σ[i]? = some (some v)) (h : Q v H) : tVar i σ H Q := ⟨v, e, h⟩
theorem w_c (h : Q v H) : tC v σ H Q := h
theorem Xx {k : Int → Int → V} {i j : Int} (h : Q (k i j) H) : rI0 k (.int i) (.int j) H Q := ⟨i, j, rfl, rfl, h⟩
theorem w_rI {C : Int → Int → Prop} {k : Int → Int → V} {i j : Int} (hc : C i j) (h : Q (k i j) H) : rI C k (.int i) (.int j) H Q := ⟨i, j, rfl, rfl, hc, h⟩
theorem ZW {b : TS} (h : c σ H fun b' H1 => if b' = true then t D σ H1 else b D σ H1) : tIfS c t b D σ H := h
theorem XE (h : c σ H fun b' H1 => if b' = true then ta σ H1 Q else tb σ H1 Q) : tIf c ta tb σ H Q := h
theorem Yt (h : te σ H fun x H' => ∃ k, x = .bl k ∧ QB k H') : XO te σ H QB := h
theorem w_tb (h : te σ H fun x H' => ∃ k, x = .bl k ∧ QB k H') : tB te σ H QB := h
theorem w_bl {b : Bool} {P : Bool → Prop} (h : P b) : ∃ k, V.bl b = .bl k ∧ P k := ⟨b, rfl, h⟩
theorem w_not (h : c σ H fun b H1 => QB (!b) H1) : tNot c σ H QB := h
theorem Xw (h : te σ H D.rt) : tRet te D σ H := h
theorem Xz (h : QL [] H) : tNil σ H QL := h
theorem Yx (h : te σ H fun x H1 => tr σ H1 fun xs H2 => QL (x :: xs) H2) : xV te tr σ H QL := h
theorem XB (h : tr σ H fun xs H1 => xs.length ≤ sizeLine ∧ ∀ p, H1 p = none → Q (.ref p) (upd H1 p (.lst xs))) : tLst tr σ H Q := h
theorem Xv (h : tr σ H fun xs H1 => xs.length ≤ sizeLine ∧ ∀ p, H1 p = none → Q (.ref p) (upd H1 p (.tup xs))) : tTup tr σ H Q := h
theorem w_cb {r : List V → Hp → VK → Prop} (h : tr σ H fun vs H1 => r vs H1 Q) : tCB r tr σ H Q := h
theorem Yy {sp : Sp} {dvs : List V} {E : XK} (h : tr σ H fun vs H1 => sp (vs ++ dvs) H1 Q E) : YX sp dvs E tr σ H Q := h
theorem wG {to ti : TE} {ts : TSet} (h : to σ H fun o H1 => ti σ H1 fun i H2 => ts o i v H2 fun H3 => QG σ H3) : gSub to ti ts v σ H QG := h
theorem zy {p : Addr} {xs : List V} {i : Int} (hp : H p = some (.lst xs)) (e : atI xs i = some v) (h : Q v H) : rIxd (.ref p) (.int i) H Q := ⟨v, by simp only [dAt, Y5, hp, Option.bind_some, e], h⟩
theorem YS {p : Addr} {xs : List V} {i : Int} (hp : H p = some (.tup xs)) (e : atI xs i = some v) (h : Q v H) : rIxd (.ref p) (.int i) H Q := ⟨v, by simp only [dAt, Y5, hp, Option.bind_some, e], h⟩
theorem yW {p : Addr} {xs : List V} {i : Int} {j : Nat} {QH : Hp → Prop} (hp : H p = some (.lst xs)) (e : ixN xs.length i = some j) (h : QH (upd H p (.lst (xs.set j v)))) : WD (.ref p) (.int i) v H QH :=
 ⟨_, by simp only [dSet, hp, e, Option.map_some], h⟩
theorem XJ {c d : TT} (h : c σ H fun b H1 => if b = true then d σ H1 QB else QB false H1) : tAnd c d σ H QB := h
theorem w_or {c d : TT} (h : c σ H fun b H1 => if b = true then QB true H1 else d σ H1 QB) : tOr c d σ H QB := h
theorem iteD {p A B : Prop} [Decidable p] (h1 : p → A) (h2 : ¬ p → B) : if decide p = true then A else B := by
 by_cases h : p
 ·rw [decide_eq_true h, if_pos rfl]
  exact h1 h
 ·rw [decide_eq_false h, if_neg Bool.false_ne_true]
  exact h2 h
theorem iteDN {p A B : Prop} [Decidable p] (h1 : ¬ p → A) (h2 : p → B) : if (!decide p) = true then A else B := by
 by_cases h : p
 ·rw [decide_eq_true h]
  exact iteF (h2 h)
 ·rw [decide_eq_false h]
  exact iteT (h1 h)
end
noncomputable def Has (P : Program) (w : World) (K : PySem.W.Frag) (mg : Str → Option Value) (base : Heap) (k : Nat) (x : Str) (ps : List Str) (sp : Sp) : Prop :=
 ∃ f fd, FnOk P w K mg base CX0 k f fd ps sp ∧ mg x = some (.ref f) ∧ PySem.W.keepIn K (.ref f) = true ∧ Binds K fd ps []
theorem xE {X : Cx} {k j : Nat} {x : Str} {ps : List Str} {sp : Sp} {e : Expr} {es : List Expr} {t : TA} {p pos : Pos} (h : Has X.prog X.w X.K X.mg X.base k x ps sp) (hr : Room j X.A) (hkj : k ≤ j) (ha : PA X (e :: es) t) (hg : Gl X x := by rfl)
  (hdb : (x == ("__debug__" : Str)) = false := by decide) (he : starEach (e :: es) X.env = (false, eval e X.env) :: starEach es X.env := by rfl) (hpl : (backTo pos (starEach es X.env)).any (·.1) = false := by rfl) :
  PE X (.Call (.Name x p) (e :: es) [] pos) (YX sp [] E0 t) := by
 obtain ⟨f, fd, F, hm, hk, hb⟩ := h
 exact pe_call F (hr.mono hkj) hg hm hk hb .nil pass0 ha hdb he hpl
section
variable {lo : Int} {n : Nat} {D : Addr} {te : TE} {tc : TT} {Q : VK} {ρ : St} {H : Hp}
theorem xj (Pv : Nat → List V → Hp → Prop) (h0 : Pv 0 [] (upd H D (.lst [])))
  (hs : ∀ i ys H', i < n → Pv i ys H' → H' D = some (.lst ys) → ∀ (R : V → Hp → Prop) (S : Hp → Prop), (∀ y H4, H4 D = some (.lst ys) → ys.length < sizeLine → Pv (i + 1) (ys ++ [y]) (upd H4 D (.lst (ys ++ [y]))) → R y H4) → (∀ H3, H3 D = some (.lst ys) → Pv (i + 1) ys H3 → S H3) →
   tc (some (.int (lo + i)) :: ρ) H' fun b H3 => if b = true then te (some (.int (lo + i)) :: ρ) H3 R else S H3)
  (hd : ∀ ys H', Pv n ys H' → H' D = some (.lst ys) → Q (.ref D) H') : CGo (Itr lo n) D (yU 0) tc te Q (none :: ρ) H := by
 refine ⟨fun i m τ ys H' => m = n - i ∧ i ≤ n ∧ (∃ tv, τ = tv :: ρ) ∧ Pv i ys H' ∧ H' D = some (.lst ys), ⟨n, by lia, Nat.zero_le _, ⟨_, rfl⟩, h0, zb⟩, ?_⟩
 rintro i m τ ys H' ⟨rfl, hi, ⟨tv, rfl⟩, hp, hD⟩
 refine ⟨hD, ?_⟩
 by_cases hlt : i < n
 ·refine .inr ⟨hlt, ?_⟩
  rintro v H'' ⟨rfl, rfl⟩
  show tc (some (.int (lo + i)) :: ρ) _ _
  exact hs i ys _ hlt hp hD _ _ (fun y H4 a b c => ⟨a, b, n - (i + 1), by lia, rfl, hlt, ⟨_, rfl⟩, c, zb⟩) fun H3 a c => ⟨n - (i + 1), by lia, rfl, hlt, ⟨_, rfl⟩, c, a⟩
 ·have e : i = n := by lia
  subst e
  exact .inl ⟨Nat.le_refl _, hd ys _ hp hD⟩
theorem ZP {K : PySem.W.Frag} {a : Addr} {xs : List V} (Pv : Nat → List V → Hp → Prop) (h0 : Pv 0 [] (upd H D (.lst []))) (hl : ∀ i ys H', i ≤ xs.length → Pv i ys H' → SqT K H' a xs)
  (hs : ∀ i x ys H', xs[i]? = some x → Pv i ys H' → H' D = some (.lst ys) → ∀ (R : V → Hp → Prop) (S : Hp → Prop), (∀ y H4, H4 D = some (.lst ys) → ys.length < sizeLine → Pv (i + 1) (ys ++ [y]) (upd H4 D (.lst (ys ++ [y]))) → R y H4) → (∀ H3, H3 D = some (.lst ys) → Pv (i + 1) ys H3 → S H3) →
   tc (some x :: ρ) H' fun b H3 => if b = true then te (some x :: ρ) H3 R else S H3)
  (hd : ∀ ys H', Pv xs.length ys H' → H' D = some (.lst ys) → Q (.ref D) H') : CGo (Itt K a) D (yU 0) tc te Q (none :: ρ) H := by
 refine ⟨fun i m τ ys H' => m = xs.length - i ∧ i ≤ xs.length ∧ (∃ tv, τ = tv :: ρ) ∧ Pv i ys H' ∧ H' D = some (.lst ys), ⟨xs.length, by lia, Nat.zero_le _, ⟨_, rfl⟩, h0, zb⟩, ?_⟩
 rintro i m τ ys H' ⟨rfl, hi, ⟨tv, rfl⟩, hp, hD⟩
 refine ⟨hD, ?_⟩
 have sq := hl i ys H' hi hp
 by_cases hlt : i < xs.length
 ·refine .inr ⟨⟨xs, xs[i], sq, by simp [hlt]⟩, ?_⟩
  rintro v H'' ⟨rfl, hv⟩
  have hv' := hv xs sq
  show tc (some v :: ρ) _ _
  exact hs i v ys _ hv' hp hD _ _ (fun y H4 a b c => ⟨a, b, xs.length - (i + 1), by lia, rfl, hlt, ⟨_, rfl⟩, c, zb⟩) fun H3 a c => ⟨xs.length - (i + 1), by lia, rfl, hlt, ⟨_, rfl⟩, c, a⟩
 ·have e : i = xs.length := by lia
  subst e
  exact .inl ⟨⟨xs, sq, Nat.le_refl _⟩, hd ys _ hp hD⟩
end
theorem ZY {σ : St} {H : Hp} {Q : Bool → Hp → Prop} (h : Q true H) : tAll σ H Q := h
noncomputable def yN (sc o : Scope) : Scope :=
 { sc with names := sc.names.map fun (n, k) => if (k == .free && o.kind == .function && o.names.lookup n == some .cell) then (n, .cell) else (n, k) }
noncomputable instance {sc : Scope} {x : Str} : Decidable (Vis sc x) := by unfold Vis; infer_instance
structure BScope (o sc : Scope) (TN F G : List Str) : Prop extends CScope o sc TN F where
 nd : (TN ++ F).Nodup
 vis : ∀ x ∈ TN ++ F, Vis (yN sc o) x
 loc : ∀ x ∈ TN, (yN sc o).names.lookup x = some .local
 gl : ∀ x ∈ G, (yN sc o).names.lookup x = some .globalImplicit
section
variable {X : Cx} {sc : Scope} {TN F G : List Str} {cl : List (Str × Addr)} {C : Addr} {fp : List Addr} {s3 : Shared} {H3 : Hp} {xe : Value → Shared → Prop} {x : Str} {pos : Pos}
theorem pvb (S : BScope X.env.scope sc TN F G) (i : Nat) (hN : (TN ++ F)[i]? = some x := by rfl) (hd : (x == ("__debug__" : Str)) = false := by decide) (hcd : (x == ("__classdict__" : Str)) = false := by decide) : PE (cxC X (TN ++ F) sc cl C fp s3 H3 xe) (.Name x pos) (tVar i) :=
 YD hN (S.vis x (List.mem_of_getElem? hN)) hd hcd
theorem pgb (S : BScope X.env.scope sc TN F G) (i : Nat) (hN : (TN ++ F)[i]? = some x := by rfl) (hT : TN[i]? = some x := by rfl) : PG (cxC X (TN ++ F) sc cl C fp s3 H3 xe) (.Name x pos) (yU i) :=
 Xa S.nd hN (.inl (S.loc x (List.mem_of_getElem? hT))) (.inr (S.loc x (List.mem_of_getElem? hT)))
theorem BScope.g (S : BScope X.env.scope sc TN F G) (i : Nat) (hG : G[i]? = some x := by rfl) : Gl (cxC X (TN ++ F) sc cl C fp s3 H3 xe) x := S.gl x (List.mem_of_getElem? hG)
end
noncomputable def Wp : Expr → Option V
 | .Constant (.int n) _ _ => some (.int n)
 | .Constant (.str y) _ _ => some (.str y)
 | .Constant (.bool b) _ _ => some (.bl b)
 | .Constant .none _ _ => some .non
 | _ => none
noncomputable def wD : List Expr → Option (List V)
 | [] => some []
 | e :: r => match Wp e, wD r with
  | some v, some vs => some (v :: vs)
  | _, _ => none
noncomputable def YV (vs : List V) : TA := fun _ H Q => Q vs H
theorem vQ {X : Cx} : ∀ {es : List Expr} {vs : List V}, wD es = some vs → PA X es (YV vs)
 | [], vs, h => by
  cases h
  exact zz
 | e :: r, vs, h => by
  unfold wD at h
  split at h
  case h_2 => cases h
  case h_1 v vs' h1 h2 =>
   cases h
   have ih := vQ (X := X) h2
   have go : ∀ {te : TE}, PE X e te → (starEach (e :: r) X.env = (false, eval e X.env) :: starEach r X.env) → (∀ σ H Q, Q v H → te σ H Q) → PA X (e :: r) (YV (v :: vs')) := fun {te} he hs hq => by
    have q := zq he ih hs
    intro pos pins s σ H Q I hh
    exact q pos pins s σ H Q I (hq σ H _ hh)
   unfold Wp at h1
   split at h1
   case h_1 => cases h1; exact go zd rfl fun _ _ _ h => h
   case h_2 => cases h1; exact go zn rfl fun _ _ _ h => h
   case h_3 => cases h1; exact go wU rfl fun _ _ _ h => h
   case h_4 => cases h1; exact go wJ rfl fun _ _ _ h => h
   case h_5 => cases h1
theorem xo {X : Cx} {es : List Expr} {pos : Pos} {vs : List V} (h : wD es = some vs) : PE X (.List es pos) (tLst (YV vs)) := zM (vQ h)
theorem Ys {vs : List V} {σ : St} {H : Hp} {Q : List V → Hp → Prop} (h : Q vs H) : YV vs σ H Q := h
noncomputable instance {sc : Scope} {x : Str} : Decidable (Loc sc x) := by unfold Loc; infer_instance
structure Nm (N : List Str) (sc : Scope) : Prop where
 nd : N.Nodup
 loc : ∀ x ∈ N, Loc sc x
section
variable {X : Cx} {x : Str} {pos : Pos}
theorem Loc.vis {sc : Scope} (h : Loc sc x) : Vis sc x := h.elim .inl fun z => .inr (.inl z)
theorem pvd (M : Nm X.N X.env.scope) (i : Nat) (hN : X.N[i]? = some x := by rfl) (hd : (x == ("__debug__" : Str)) = false := by decide) (hcd : (x == ("__classdict__" : Str)) = false := by decide) : PE X (.Name x pos) (tVar i) :=
 YD hN (M.loc x (List.mem_of_getElem? hN)).vis hd hcd
theorem zh {e : Expr} {te : TE} {pos' : Pos} (M : Nm X.N X.env.scope) (i : Nat) (he : PE X e te) (hi : X.N[i]? = some x := by rfl) (hs : swapsWith e (some (.Name x pos')) pos.line X.env = pure false := by rfl) (hf : X.fn x = true := by rfl) :
  PS X (.Assign [.Name x pos'] e pos) (tAsg te (yU i)) := wd M.nd hi (M.loc x (List.mem_of_getElem? hi)) he hs (.inl hf)
theorem pgd (M : Nm X.N X.env.scope) (i : Nat) (hi : X.N[i]? = some x := by rfl) (hf : X.fn x = true := by rfl) : PG X (.Name x pos) (yU i) := Xa M.nd hi (M.loc x (List.mem_of_getElem? hi)) (.inl hf)
end
section
variable {X : Cx} {l rest : List Stmt} {st : Stmt} {t u : TS} {e e' : Expr} {te : TE}
end
section
variable {ta : TA} {tl : TE} {n : Nat} {ix : List Nat} {g : TG} {tc : TT} {te : TE} {σ : St} {H : Hp} {Q : VK}
theorem Zp (h : ta σ H fun vs H1 => ∃ j : Int, vs = [.int j] ∧ -(2 ^ 62) ≤ j ∧ j < 2 ^ 62 ∧ ∀ D, H1 D = none → CGo (Itr 0 j.toNat) D g tc te Q (List.replicate n none ++ sub ix σ) H1) : vK (Xi ta) n ix g tc te σ H Q := h
theorem Zo {K : PySem.W.Frag} (h : tl σ H fun x H1 => ∃ a, x = .ref a ∧ (∃ xs, SqT K H1 a xs) ∧ ∀ D, H1 D = none → CGo (Itt K a) D g tc te Q (List.replicate n none ++ sub ix σ) H1) : vK (iTup K tl) n ix g tc te σ H Q := h
end
noncomputable def ForJ (J : It) (g : TG) (tb : TS) (D : Ends) (σ : St) (H1 : Hp) : Prop := ∃ W : Nat → Nat → St → Hp → Prop, (∃ m, W 0 m σ H1) ∧ ∀ i m σ H, W i m σ H →
 (J.stop i H ∧ D.nx σ H) ∨ (J.go i H ∧ ∃ N : St → Hp → Prop, (∀ σ' H', N σ' H' → ∃ m', m' < m ∧ W (i + 1) m' σ' H') ∧ ∀ x H', J.yld i H x H' → g x σ H' fun σ2 H2 => tb { D with nx := N, ct := N, bk := D.nx } σ2 H2)
theorem Yv {ta : TA} {g : TG} {tb : TS} {D : Ends} {σ : St} {H : Hp} (h : ta σ H fun vs H1 => ∃ j : Int, vs = [.int j] ∧ -(2 ^ 62) ≤ j ∧ j < 2 ^ 62 ∧ ForJ (Itr 0 j.toNat) g tb D σ H1) : tFor (Xi ta) g tb D σ H := h
theorem Yu {K : PySem.W.Frag} {tl : TE} {g : TG} {tb : TS} {D : Ends} {σ : St} {H : Hp} (h : tl σ H fun x H1 => ∃ a, x = .ref a ∧ (∃ xs, SqT K H1 a xs) ∧ ForJ (Itt K a) g tb D σ H1) : tFor (iTup K tl) g tb D σ H := h
noncomputable def zN : Expr → Bool
 | .Starred .. => true
 | _ => false
theorem yY {e : Expr} {es : List Expr} {env : Env} (h : zN e = false) : starEach (e :: es) env = (false, eval e env) :: starEach es env := by
 cases e <;> first | rfl | cases h
theorem yM {env : Env} {pos : Pos} : ∀ {es : List Expr}, es.all (fun e => !zN e) = true → (backTo pos (starEach es env)).any (·.1) = false
 | [], _ => rfl
 | e :: es, h => by
  rw [List.all_cons, Bool.and_eq_true] at h; rw [yY (by simpa using h.1)]
  cases es with
  | nil => rfl
  | cons a r =>
   have ih := yM (env := env) (pos := pos) (es := a :: r) h.2
   rw [yY (by simpa using (by simpa using h.2 : zN a = false ∧ _).1)] at ih ⊢
   exact ih
section
variable {X : Cx} {e a : Expr} {es : List Expr} {te : TE} {t ta : TA} {x : Str} {p pos : Pos} {tg : Expr} {id T : String} {r : List V → Hp → VK → Prop}
theorem pa_c (ha : PE X e te) (hr : PA X es t) (h : zN e = false := by rfl) : PA X (e :: es) (xV te t) := zq ha hr (yY h)
theorem wT (hm : X.mg "range" = none) (ha : PA X [a] ta) (hg : Gl X "range" := by rfl) (h : zN a = false := by rfl) : PI X tg (.Call (.Name "range" p) [a] [] pos) (Xi ta) := yL hg hm ha (yY h)
theorem zv (hc : yb X (.builtin id) r) (hm : X.mg x = none) (hv : bootBuiltins x = some (.builtin id)) (ha : PA X (e :: es) t) (hg : Gl X x := by rfl) (h : zN e = false := by rfl) (h2 : es.all (fun e => !zN e) = true := by rfl) (hn : x ≠ "__name__" := by decide) (hdb : (x == ("__debug__" : Str)) = false := by decide) :
  PE X (.Call (.Name x p) (e :: es) [] pos) (tCB r t) := wx hc hg hm hv ha hn hdb (yY h) (yM h2)
theorem yA (hc : yb X (.type T) r) (hm : X.mg x = none) (hv : bootBuiltins x = some (.type T)) (ha : PA X (e :: es) t) (hg : Gl X x := by rfl) (h : zN e = false := by rfl) (h2 : es.all (fun e => !zN e) = true := by rfl) (hn : x ≠ "__name__" := by decide) (hdb : (x == ("__debug__" : Str)) = false := by decide) :
  PE X (.Call (.Name x p) (e :: es) [] pos) (tCB r t) := xM hc hg hm hv ha hn hdb (yY h) (yM h2)
theorem pe_f {k j : Nat} {ps : List Str} {sp : Sp} (h : Has X.prog X.w X.K X.mg X.base k x ps sp) (hr : Room j X.A) (hkj : k ≤ j) (ha : PA X (e :: es) t) (hg : Gl X x := by rfl) (h1 : zN e = false := by rfl) (h2 : es.all (fun e => !zN e) = true := by rfl)
  (hdb : (x == ("__debug__" : Str)) = false := by decide) : PE X (.Call (.Name x p) (e :: es) [] pos) (YX sp [] E0 t) := xE h hr hkj ha hg hdb (yY h1) (yM h2)
end
end L2
namespace L2
theorem pa_1 {X : Cx} {e : PySem.Expr} {te : TE} (ha : PE X e te) (h : zN e = false := by rfl) : PA X [e] (xV te tNil) := pa_c ha zz h
theorem pa_2 {X : Cx} {e e' : PySem.Expr} {te te' : TE} (ha : PE X e te) (hb : PE X e' te') (h : zN e = false := by rfl) (h' : zN e' = false := by rfl) : PA X [e, e'] (xV te (xV te' tNil)) := pa_c ha (pa_1 hb h') h
end L2
namespace L2
open PySem PySem.Spec PyProof.Rows
theorem Yw {te : TE} {D : Ends} {σ : St} {H : Hp} (h : te σ H fun _ H1 => D.nx σ H1) : Wx te D σ H := h
theorem w_bm {K : PySem.W.Frag} {T : String} {r : V → List V → Hp → VK → Prop} {to : TE} {t : TA} {σ : St} {H : Hp} {Q : VK} (h : to σ H fun x H1 => tyV K T x H1 ∧ t σ H1 fun xs H2 => r x xs H2 Q) : tBM K T r to t σ H Q := h
mutual
inductive RdV (H : Hp) : V → PyData → Prop
 | non : RdV H .non .none
 | bl (b : Bool) : RdV H (.bl b) (.bool b)
 | int (i : Int) : RdV H (.int i) (.int i)
 | str (x : Str) : RdV H (.str x) (.str x)
 | lst {p : Addr} {xs : List V} {ds : List PyData} : H p = some (.lst xs) → RdVs H xs ds → RdV H (.ref p) (.list ds)
 | tup {p : Addr} {xs : List V} {ds : List PyData} : H p = some (.tup xs) → RdVs H xs ds → RdV H (.ref p) (.tuple ds)
 | ftup {p : Addr} {o : Obj} {xs : List V} {ds : List PyData} : H p = some (.frz o (.tup xs)) → RdVs H xs ds → RdV H (.ref p) (.tuple ds)
inductive RdVs (H : Hp) : List V → List PyData → Prop
 | nil : RdVs H [] []
 | cons {v : V} {d : PyData} {vs : List V} {ds : List PyData} : RdV H v d → RdVs H vs ds → RdVs H (v :: vs) (d :: ds)
end
section
variable {X : Cx} {pins : List (Addr × Obj)} {σ : St} {H : Hp} {s : Shared}
mutual
theorem RdV.reads (I : Inv X pins σ H s) {v : V} {d : PyData} : RdV H v d → ∀ {u : Value}, RelV v u → ∃ as, Reads s.heap u d as
 | .non, u, r => by
  cases r
  exact ⟨[], .none⟩
 | .bl b, u, r => by
  cases r
  exact ⟨[], .bool b⟩
 | .int i, u, r => by
  obtain ⟨t, rfl⟩ := r
  exact ⟨[], .int i t⟩
 | .str x, u, r => by
  obtain ⟨t, rfl⟩ := r
  exact ⟨[], .str x t⟩
 | .lst (p := p) hp h, u, r => by
  cases r
  obtain ⟨its, n, rv, e, z⟩ := I.lst hp
  obtain ⟨as, q⟩ := RdVs.reads I h rv
  exact ⟨p :: as, .list e rfl rfl (by simpa using q)⟩
 | .tup (p := p) hp h, u, r => by
  cases r
  obtain ⟨z, its, rv, o, e, c, n, d⟩ := I.hok p _ hp
  obtain ⟨as, q⟩ := RdVs.reads I h rv
  exact ⟨as, .tuple e c d (by simpa using q)⟩
 | .ftup (p := p) hp h, u, r => by
  cases r
  obtain ⟨_, z, its, rv, o, e, c, n, d⟩ := I.hok p _ hp
  obtain ⟨as, q⟩ := RdVs.reads I h rv
  exact ⟨as, .tuple e c d (by simpa using q)⟩
theorem RdVs.reads (I : Inv X pins σ H s) {vs : List V} {ds : List PyData} : RdVs H vs ds → ∀ {us : List Value}, Vals vs us → ∃ as, ReadsAll s.heap us ds as
 | .nil, us, r => by
  cases r
  exact ⟨[], .nil⟩
 | .cons h hs, us, r => by
  cases r with
  | cons r1 r2 =>
   obtain ⟨as, q⟩ := RdV.reads I h r1
   obtain ⟨bs, q2⟩ := RdVs.reads I hs r2
   exact ⟨as ++ bs, .cons q q2⟩
end
end
theorem wa {H : Hp} : ∀ (ns : List Int), RdVs H (ns.map V.int) (ns.map PyData.int)
 | [] => .nil
 | n :: ns => .cons (.int n) (wa ns)
section
variable {X : Cx} {k : Nat}
noncomputable def rEqD : R2 := fun x y H Q => ∃ dx dy, RdV H x dx ∧ RdV H y dy ∧ dx.canLay0 = true ∧ dy.canLay0 = true ∧ dx.depth ≤ 60 ∧ Q (.bl (PyData.eqv dx dy)) H
theorem ZF (hr : Room k X.A) : OpR X (compareOp .Eq) rEqD := by
 intro pins s σ H x y v u Q I rx ry h
 obtain ⟨dx, dy, hx, hy, cx, cy, hd, q⟩ := h
 obtain ⟨as, ra⟩ := hx.reads I rx
 obtain ⟨bs, rb⟩ := hy.reads I ry
 have := hr.units
 exact SeqAt.compareEq_reads ra rb cx cy (by lia) ⟨.bl _, H, I, rfl, q⟩
noncomputable def WE : List V → Hp → VK → Prop := fun xs H Q => ∃ v d, xs = [v] ∧ RdV H v d ∧ d.showable = true ∧ d.hasDict = false ∧ d.depth ≤ 50 ∧ d.shown.length ≤ sizeLine ∧ Q (.str d.shown) H
theorem xT (hr : Room k X.A) : yb X (.builtin "repr") WE := by
 intro pins s σ H xs us Q I r h
 obtain ⟨v, d, rfl, hv, h1, h2, h3, h4, q⟩ := h
 obtain ⟨u, rfl, ru⟩ := r.one
 have hu := hr.units
 cases hv with
 | non =>
  cases ru
  exact PySem.P.repr_of_none ⟨.str _, H, I.tok _, ⟨_, rfl⟩, q⟩
 | bl b =>
  cases ru
  exact PySem.P.repr_of_bool ⟨.str _, H, I.tok _, ⟨_, rfl⟩, q⟩
 | int i =>
  obtain ⟨t, rfl⟩ := ru
  exact PySem.P.repr_of_int (by simpa [PyData.showable] using h1) ⟨.str _, H, I.tok _, ⟨_, rfl⟩, q⟩
 | str x =>
  obtain ⟨t, rfl⟩ := ru
  exact PySem.P.repr_of_str ⟨.str _, H, I.tok _, ⟨_, rfl⟩, q⟩ h4
 | lst hp hs =>
  obtain ⟨as, ra⟩ := RdV.reads I (.lst hp hs) ru
  cases ru
  exact repr_of_reads' ra h1 (fun z => by rw [h2] at z; cases z) hr.gd (by lia) (fun _ _ e => e) (fun h' u tk hk => ⟨.str _, H, I.kept hk, ⟨_, rfl⟩, q⟩) h4
 | tup hp hs =>
  obtain ⟨as, ra⟩ := RdV.reads I (.tup hp hs) ru
  cases ru
  exact repr_of_reads' ra h1 (fun z => by rw [h2] at z; cases z) hr.gd (by lia) (fun _ _ e => e) (fun h' u tk hk => ⟨.str _, H, I.kept hk, ⟨_, rfl⟩, q⟩) h4
 | ftup hp hs =>
  obtain ⟨as, ra⟩ := RdV.reads I (.ftup hp hs) ru
  cases ru
  exact repr_of_reads' ra h1 (fun z => by rw [h2] at z; cases z) hr.gd (by lia) (fun _ _ e => e) (fun h' u tk hk => ⟨.str _, H, I.kept hk, ⟨_, rfl⟩, q⟩) h4
end
theorem wC : ∀ (ns ms : List Int), PyData.eqvAll (ns.map PyData.int) (ms.map PyData.int) = decide (ns = ms)
 | [], [] => by simp only [List.map_nil, PyData.eqvAll, decide_true]
 | [], m :: ms => by simp [PyData.eqvAll]
 | n :: ns, [] => by simp [PyData.eqvAll]
 | n :: ns, m :: ms => by
  simp only [List.map_cons, PyData.eqvAll, PyData.eqv, wC ns ms]
  by_cases h : n = m
  ·subst h; simp
  ·simp [h]
theorem yS : ∀ (ns : List Int), PyData.canLayAll0 (ns.map PyData.int) = true
 | [] => rfl
 | n :: ns => by simp [PyData.canLayAll0, PyData.canLay0, yS ns]
theorem xt : ∀ (ns : List Int), PyData.depthAll (ns.map PyData.int) = 0
 | [] => rfl
 | n :: ns => by simp [PyData.depthAll, PyData.depth, xt ns]
theorem XF {H : Hp} {Q : VK} {p q : Addr} {ns ms : List Int} (hp : H p = some (.lst (ns.map V.int))) (hq : H q = some (.lst (ms.map V.int))) (h : Q (.bl (decide (ns = ms))) H) : rEqD (.ref p) (.ref q) H Q := by
 refine ⟨_, _, .lst hp (wa ns), .lst hq (wa ms), yS ns, yS ms, ?_, ?_⟩
 ·show PyData.depthAll _ + 1 ≤ 60
  rw [xt]
  decide
 ·show Q (.bl (PyData.eqvAll _ _)) H
  rw [wC]
  exact h
section
variable {X : Cx}
theorem YU : ∀ {xs : List V} {us : List Value}, xs.length = us.length → (∀ (j : Nat) (x : V) (u : Value), xs[j]? = some x → us[j]? = some u → RelV x u) → Vals xs us
 | [], [], _, _ => .nil
 | [], v :: vs, h, _ => absurd h (by simp)
 | v :: vs, [], h, _ => absurd h (by simp)
 | x :: xs, u :: us, h, k => .cons (k 0 x u rfl rfl) (YU (by simpa using h) fun j y v e1 e2 => k (j + 1) y v (by simpa using e1) (by simpa using e2))
noncomputable def rRange : List V → Hp → VK → Prop := fun xs H Q => ∃ j : Int, xs = [.int j] ∧ ∀ r, H r = none → Q (.ref r) (upd H r (.rng 0 j))
theorem call_rangeV : yb X (.type "range") rRange := by
 intro pins s σ H xs us Q I r h
 obtain ⟨j, rfl, q⟩ := h
 obtain ⟨u, rfl, ru⟩ := r.one
 obtain ⟨t, rfl⟩ := ru
 refine call_range_1 ⟨.ref _, _, I.laid (fun b o e => Heap.get?_push_of_some _ e) (Nat.le_refl _) ?_, rfl, q _ I.fresh⟩
 exact ⟨_, _, _, Heap.get?_push_size _ rfl⟩
noncomputable def rListR : List V → Hp → VK → Prop := fun xs H Q => ∃ (p : Addr) (n : Nat), xs = [.ref p] ∧ H p = some (.rng 0 (n : Int)) ∧ n ≤ 1000 ∧ ∀ l, H l = none → Q (.ref l) (upd H l (.lst ((List.range n).map fun (i : Nat) => V.int (i : Int))))
theorem call_listRng (hc : X.calm = true) : yb X (.type "list") rListR := by
 intro pins s σ H xs us Q I r h
 obtain ⟨p, n, rfl, hp, hn, q⟩ := h
 obtain ⟨u, rfl, ru⟩ := r.one
 cases ru
 obtain ⟨t, u, v, e⟩ := I.hok p _ hp
 refine call_list_range (n := n) (I.ok.hd hc) e (small_one (by lia) (by lia) (by lia) (by lia)) (by rw [rangeSize_one]; split <;> lia) (by lia) fun h' tk acc' c' hk hS hacc => ?_
 refine ⟨.ref _, _, I.laid (t' := tk) hk (Nat.le_refl _) ?_, rfl, q _ I.fresh⟩
 obtain ⟨hsz, hit⟩ := hacc
 refine ⟨by rw [List.length_map, List.length_range]; exact Nat.le_of_lt (zB hn), acc'.toList, c', YU (by simp [hsz]) fun j x u ex eu => ?_, hS⟩
 have hj : j < n := by
  have := (List.getElem?_eq_some_iff.mp ex).1
  simpa using this
 rw [List.getElem?_map, List.getElem?_range hj] at ex
 have ex' : V.int (j : Int) = x := Option.some.inj ex
 subst ex'
 obtain ⟨t, ht⟩ := hit j u (by simpa using eu)
 exact ⟨t, by rw [ht]; congr 1; lia⟩
end
section
variable {X : Cx}
end
section
variable {prog : Program} {w : World} {A : Around} {E : Value → Shared → Prop} {s : Shared}
end
section
variable {prog : Program} {w : World} {A : Around} {E : Value → Shared → Prop} {s : Shared}
end
section
variable {X : Cx} {pins : List (Addr × Obj)} {σ : St} {H : Hp} {s : Shared}
end
section
variable {X : Cx} {es : List Expr} {kt : Nat} {pt : Pos}
end
section
variable {prog : Program} {w : World} {A : Around} {E : Value → Shared → Prop} {s : Shared}
end
section
variable {prog : Program} {w : World} {A : Around} {E : Value → Shared → Prop} {s : Shared}
end
section
variable {X : Cx} {es : List Expr} {kt : Nat} {pt : Pos}
end
structure Apart3 (z TI TO i1 i2 i3 l1 l2 l3 : Addr) : Prop where
 nz : TI ≠ z ∧ TO ≠ z ∧ i1 ≠ z ∧ i2 ≠ z ∧ i3 ≠ z
 nI : TI ≠ TO ∧ TI ≠ i1 ∧ TI ≠ i2 ∧ TI ≠ i3
 nO : TO ≠ i1 ∧ TO ≠ i2 ∧ TO ≠ i3
 ni : i1 ≠ i2 ∧ i1 ≠ i3 ∧ i2 ≠ i3
 l1 : l1 ≠ z ∧ l1 ≠ TO ∧ l1 ≠ i1 ∧ l1 ≠ i2 ∧ l1 ≠ i3
 l2 : l2 ≠ z ∧ l2 ≠ TO ∧ l2 ≠ i1 ∧ l2 ≠ i2 ∧ l2 ≠ i3
 l3 : l3 ≠ z ∧ l3 ≠ TO ∧ l3 ≠ i1 ∧ l3 ≠ i2 ∧ l3 ≠ i3
section
variable {prog : Program} {w : World} {A : Around} {E : Value → Shared → Prop} {s : Shared}
end
section
variable {D : Addr} {te : TE} {tc : TT} {Q : VK} {ρ : St} {H : Hp}
end
section
variable {ta : TA} {tl : TE} {n : Nat} {ix : List Nat} {g : TG} {tc : TT} {te : TE} {σ : St} {H : Hp} {Q : VK}
end
section
variable {X : Cx}
noncomputable def rIsI (K : PySem.W.Frag) : List V → Hp → VK → Prop := fun xs H Q => ∃ v n t b, xs = [v, .ty n] ∧ TyOf K H v t ∧ PySem.W.kitOne K t (.type n) = some b ∧ Q (.bl b) H
theorem call_isI : yb X (.builtin "isinstance") (rIsI X.K) := by
 intro pins s σ H xs us Q I r h
 obtain ⟨v, n, t, b, rfl, ty, e, q⟩ := h
 cases r with
 | cons r1 r2 =>
  obtain ⟨u, rfl, ru⟩ := Vals.one r2
  cases ru
  exact isinst_ok I r1 ty e fun tk => ⟨.bl b, H, I.kept (t' := tk) fun _ _ e => e, rfl, q⟩
end
section
variable {σ : St} {H : Hp} {Q : VK} {te ta tb tc : TE} {r r' : R2} {tl th : TO}
theorem YT (h : ta σ H fun x H1 => tb σ H1 fun y H2 => r x y H2 fun z H3 => ∃ k, z = .bl k ∧ (if k = true then tc σ H3 fun w' H4 => r' y w' H4 Q else Q (.bl false) H3)) : XT r r' ta tb tc σ H Q := h
theorem w_sl {r : V → Option Int → Option Int → Hp → VK → Prop} (h : te σ H fun x H1 => tl σ H1 fun l H2 => th σ H2 fun u H3 => r x l u H3 Q) : tSl r te tl th σ H Q := h
theorem ZV {QO : Option Int → Hp → Prop} (h : QO none H) : YW σ H QO := h
theorem Xy {QO : Option Int → Hp → Prop} (h : te σ H fun x H1 => ∃ i, x = .int i ∧ QO (some i) H1) : Wu te σ H QO := h
end
theorem yc {t u : TS} {D : Ends} {σ : St} {H : Hp} (Post : St → Hp → Prop) (h2 : ∀ σ' H', Post σ' H' → u D σ' H') (h1 : (∀ σ' H', Post σ' H' → u D σ' H') → t { D with nx := u D } σ H) : tSeq t u D σ H := h1 h2
theorem Wr {σ : St} {H : Hp} {Q : VK} {g : Int → V} {ta : TE} (h : ta σ H fun x H1 => ∃ i, x = .int i ∧ Q (g i) H1) : tUn (rU g) ta σ H Q := h
end L2
namespace G2
open PySem L2
theorem md {i j : Int} (h : 0 < j) : 0 ≤ i % j ∧ i % j < j := ⟨Int.emod_nonneg _ (Int.ne_of_gt h), Int.emod_lt_of_pos _ h⟩
theorem mulL {i j : Int} (h1 : -4000000000 < i) (h2 : i < 4000000000) : CMul i j := .inl ⟨by lia, by lia⟩
structure TK (H H' : Hp) : Prop where
 t : ∀ q xs, H q = some (.tup xs) → H' q = some (.tup xs)
 f : ∀ q o u, H q = some (.frz o u) → H' q = some (.frz o u)
section
variable {p l : Addr} {H H' H'' : Hp} {o : HO}
theorem TK.trans (a : TK H H') (b : TK H' H'') : TK H H'' := ⟨fun q xs e => b.t q xs (a.t q xs e), fun q o u e => b.f q o u (a.f q o u e)⟩
theorem TK.new (h : H l = none) : TK H (upd H l o) := ⟨fun q xs e => by rw [zg (zi e h)]; exact e, fun q ob u e => by rw [zg (zi e h)]; exact e⟩
theorem TK.lst {ys : List V} (h : H l = some (.lst ys)) : TK H (upd H l o) := ⟨fun q xs e => by rw [zg (vU e h (by intro z; cases z))]; exact e, fun q ob u e => by rw [zg (vU e h (by intro z; cases z))]; exact e⟩
end
theorem _root_.L2.Same.new {H H' : Hp} {l : Addr} {o : HO} (k : Same H H') (h : H' l = none) : Same H (upd H' l o) := fun b u e => by
 rw [zg (zi (k b u e) h)]
 exact k b u e
theorem _root_.L2.Same.put {H H' : Hp} {l : Addr} {o : HO} (k : Same H H') (h : H l = none) : Same H (upd H' l o) := fun b u e => by
 rw [zg (zi e h)]
 exact k b u e
noncomputable def SqF (K : PySem.W.Frag) (H : Hp) (a : Addr) (xs : List V) : Prop :=
 (∃ o, H a = some (.frz o (.lst xs))) ∨ ∃ (o : Obj) (its : Array Value) (n : Nat), K.lookup a = some o ∧ o.cls = .type "list" ∧ o.dict = none ∧ o.data = .seq its n ∧ its.size ≤ sizeLine ∧ Vals xs its.toList
theorem SqF.sq {K : PySem.W.Frag} {H : Hp} {a : Addr} {xs : List V} : SqF K H a xs → SqL K H a xs
 | .inl ⟨o, e⟩ => .inl (.inr ⟨o, e⟩)
 | .inr h => .inr h
theorem SqF.of {K : PySem.W.Frag} {H : Hp} {a : Addr} {xs : List V} (O : Only H) : SqL K H a xs → SqF K H a xs
 | .inl (.inl e) => by
  rcases O a with z | ⟨o, ys, z⟩
  ·rw [e] at z; cases z
  ·rw [e] at z; cases z
 | .inl (.inr h) => .inl h
 | .inr h => .inr h
structure Tp (H : Hp) (p l : Addr) (ns : List Int) : Prop where
 ex : ∃ c e : Int, H p = some (.lst [.ref l, .int c, .int e])
 hl : H l = some (.lst (ns.map V.int))
 ne : p ≠ l
section
variable {p l a : Addr} {H H' : Hp} {o : HO} {ns : List Int}
end
theorem log_small {n : Nat} (h : n < 1000000000000000) : n.log2 < 1920 := by
 by_cases h0 : n = 0
 ·subst h0
  decide
 ·exact (Nat.log2_lt h0).mpr (Nat.lt_of_lt_of_le h (by decide +kernel))
noncomputable def Sm (i : Int) : Prop := -1000000000000000 < i ∧ i < 1000000000000000
theorem len_int {n : Int} (h : Sm n) : (PyData.shown (.int n)).length ≤ 16 := by
 obtain ⟨h0, h1⟩ := h
 have := int_text_length_le10 (a := n) (k := 15) (by decide) (by lia)
 show (Str.ofString (toString n)).length ≤ 16
 rw [ofString_length]
 exact this
theorem len_tup (ds : List PyData) : (PyData.shown (.tuple ds)).length ≤ ((PyData.shownAll ds).map (·.length)).sum + 2 * (PyData.shownAll ds).length + 3 := tupleText_len_le _
structure Shw (d : PyData) (n h : Nat) : Prop where
 s : d.showable = true
 nd : d.hasDict = false
 p : d.depth ≤ h
 l : d.shown.length ≤ n
theorem Shw.up {d : PyData} {n h m i : Nat} (x : Shw d n h) (h1 : n ≤ m) (h2 : h ≤ i) : Shw d m i := ⟨x.s, x.nd, Nat.le_trans x.p h2, Nat.le_trans x.l h1⟩
theorem Shw.int {i : Int} (h : Sm i) : Shw (.int i) 16 0 := ⟨by
 obtain ⟨h0, h1⟩ := h
 have hs : i.natAbs.log2 < 1920 := log_small (by lia)
 simp only [PyData.showable, decide_eq_true hs], rfl, Nat.zero_le _, len_int h⟩
theorem Shw.three {a b c : PyData} {m n k h : Nat} (ha : Shw a m h) (hb : Shw b n h) (hc : Shw c k h) : Shw (.tuple [a, b, c]) (m + n + k + 9) (h + 1) := ⟨by
  simp only [PyData.showable, PyData.showableAll, ha.s, hb.s, hc.s, Bool.and_self], by
  simp only [PyData.hasDict, PyData.hasDictAll, ha.nd, hb.nd, hc.nd, Bool.or_self], by
  show PyData.depthAll [a, b, c] + 1 ≤ h + 1
  have := ha.p
  have := hb.p
  have := hc.p
  simp only [PyData.depthAll]
  lia, by
  have h1 := len_tup [a, b, c]
  have := ha.l
  have := hb.l
  have := hc.l
  simp only [PyData.shownAll, List.map_cons, List.map_nil, List.sum_cons, List.sum_nil, List.length_cons, List.length_nil] at h1
  lia⟩
theorem YQ {H : Hp} {Q : VK} {v : V} {d : PyData} {n h : Nat} (r : RdV H v d) (x : Shw d n h) (hn : n ≤ 100000) (hh : h ≤ 50) (q : Q (.str d.shown) H) : WE [v] H Q :=
 ⟨v, d, rfl, r, x.s, x.nd, Nat.le_trans x.p hh, Nat.le_trans x.l (Nat.le_trans hn (by decide : 100000 ≤ sizeLine)), q⟩
end G2
namespace L2
open PySem PySem.Spec PyProof.Rows
theorem vf {K : PySem.W.Frag} {n : Nat} {t : TGs} {σ : St} {H : Hp} {Q : St → Hp → Prop} {a : Addr} {xs : List V} (h : H a = some (.tup xs)) (hn : xs.length = n) (q : t xs σ H Q) : gTup K n t (.ref a) σ H Q := ⟨a, xs, rfl, SqT.of h, hn, q⟩
end L2
namespace G2
open PySem L2
section
variable {D : Addr} {te : TE} {tc : TT} {Q : VK} {ρ : St} {H : Hp} {K : PySem.W.Frag} {a b : Addr}
end
section
variable {X : Cx} {k : Nat}
noncomputable def rNeD : R2 := fun x y H Q => ∃ dx dy, RdV H x dx ∧ RdV H y dy ∧ dx.canLay0 = true ∧ dy.canLay0 = true ∧ dx.depth ≤ 60 ∧ Q (.bl (!PyData.eqv dx dy)) H
theorem op_neD (hr : Room k X.A) : OpR X (compareOp .NotEq) rNeD := by
 intro pins s σ H x y v u Q I rx ry h
 obtain ⟨dx, dy, hx, hy, cx, cy, hd, q⟩ := h
 obtain ⟨as, ra⟩ := hx.reads I rx
 obtain ⟨bs, rb⟩ := hy.reads I ry
 have := hr.units
 exact SeqAt.compareNe_reads ra rb cx cy (by lia) ⟨.bl _, H, I, rfl, q⟩
end
structure Fm where
 ins : List Int
 sts : List Int
 plus : Int
structure FmOk (n m : Nat) (B : Int) (f : Fm) : Prop where
 li : f.ins.length = n
 ls : f.sts.length = m
 bi : ∀ x ∈ f.ins, -B ≤ x ∧ x ≤ B
 bs : ∀ x ∈ f.sts, -B ≤ x ∧ x ≤ B
 bp : -B ≤ f.plus ∧ f.plus ≤ B
end G2
namespace L2
open PySem PySem.Spec PyProof.Rows
section
variable {prog : Program} {w : World} {A : Around} {E : Value → Shared → Prop} {s : Shared}
end
section
variable {X : Cx} {es : List Expr} {kt : Nat} {pt : Pos}
end
section
variable {X : Cx}
theorem Yr : ∀ {bs : List Bool} {us : List Value}, Vals (bs.map V.bl) us → us = bs.map Value.bool
 | [], us, r => by
  cases r
  rfl
 | b :: bs, us, r => by
  cases r with
  | cons r1 r2 =>
   cases r1
   rw [Yr r2]
   rfl
noncomputable def rAll : List V → Hp → VK → Prop := fun xs H Q => ∃ (p : Addr) (bs : List Bool), xs = [.ref p] ∧ H p = some (.lst (bs.map V.bl)) ∧ Q (.bl (bs.all id)) H
theorem all_range (bs : List Bool) : (List.range bs.length).all (fun i => bs.getD i false) = bs.all id := by
 rw [Bool.eq_iff_iff, List.all_eq_true, List.all_eq_true]
 constructor
 ·intro h b hb
  obtain ⟨i, hi, rfl⟩ := List.getElem_of_mem hb
  have := h i (List.mem_range.mpr hi)
  simpa [List.getD_eq_getElem?_getD, hi] using this
 ·intro h i hi
  have hi' := List.mem_range.mp hi
  have := h bs[i] (List.getElem_mem hi')
  simpa [List.getD_eq_getElem?_getD, hi'] using this
theorem Yq (hc : X.calm = true) : yb X (.builtin "all") rAll := by
 intro pins s σ H xs us Q I r h
 obtain ⟨p, bs, rfl, hp, q⟩ := h
 obtain ⟨u, rfl, ru⟩ := r.one
 cases ru
 obtain ⟨its, n, rv, e, z⟩ := I.lst hp
 have hits := Yr rv
 subst hits
 have hl : s.heap.IsList p (bs.map Value.bool).toArray := ⟨_, e, rfl, n, rfl⟩
 refine call_all_walk (wpAny_pyIter_list hl ?_)
 refine ⟨_, _, _, _, _, _, fun i => bs.getD i false, rfl, Walks.list (A := X.A.in1) (I.ok.hd hc) _ p (Nat.ne_of_lt (Heap.lt_size e)) (bs.map Value.bool).toArray, ⟨⟨_, Heap.get?_push_size _ rfl, rfl, rfl⟩, hl.push _⟩, ?_, fun h' tk hk => ?_⟩
 ·intro i v s' Q' E' hv hQ'
  have hv' : (bs.map Value.bool)[i]? = some v := by simpa using hv
  rw [List.getElem?_map] at hv'
  cases eb : bs[i]? with
  | none => rw [eb] at hv'; cases hv'
  | some b =>
   rw [eb] at hv'
   cases hv'
   have : bs.getD i false = b := by rw [List.getD_eq_getElem?_getD, eb]; rfl
   refine wpAny_truthy_bool ?_
   dsimp only at hQ'
   rw [this] at hQ'
   exact hQ'
 ·have e1 : (List.range (bs.map Value.bool).toArray.size).all (fun i => bs.getD i false) = bs.all id := by simpa using all_range bs
  rw [e1]
  exact ⟨.bl _, H, I.kept (t' := tk) (old_kept (l := p) hk), rfl, q⟩
end
section
variable {X : Cx} {es : List Expr} {kt : Nat} {pt : Pos}
end
noncomputable def isI (i : Int) : Value → Bool
 | .int a _ => a == i
 | _ => false
theorem wL (k : Nat) (xs : List Int) : (xs.map V.int).eraseIdx k = (xs.eraseIdx k).map V.int := by
 induction xs generalizing k with
 | nil => rfl
 | cons x xs ih => cases k with
  | zero => rfl
  | succ k => simp [ih]
section
variable {X : Cx}
end
section
variable {X : Cx}
noncomputable def rIns : V → List V → Hp → VK → Prop := fun x vs H Q => ∃ (l : Addr) (xs : List V) (i : Int) (y : V), x = .ref l ∧ vs = [.int i, y] ∧ H l = some (.lst xs) ∧ 0 ≤ i ∧ i ≤ xs.length ∧ xs.length < sizeLine ∧ Q .non (upd H l (.lst (xs.take i.toNat ++ y :: xs.drop i.toNat)))
theorem vV : MtM X "list.insert" rIns := by
 intro pins s σ H x vs v us Q I rx rv h
 obtain ⟨l, xs, i, y, rfl, rfl, hH, h0, hi, hz, q⟩ := h
 cases rx
 obtain ⟨u1, us', rfl, ru1, rv'⟩ : ∃ u1 us', us = u1 :: us' ∧ RelV (.int i) u1 ∧ Vals [y] us' := by
  cases rv with
  | cons r1 r2 => exact ⟨_, _, rfl, r1, r2⟩
 obtain ⟨u2, rfl, ru2⟩ := rv'.one
 obtain ⟨t, rfl⟩ := ru1
 obtain ⟨z, its, n, r, hl, e⟩ := I.lstM hH
 have hz' : xs.length < 2 ^ 62 := Nat.lt_of_lt_of_le hz (by decide)
 have hfit : ¬(!Builtin.List.listFitsIndex i) = true := by
  rw [fitsIndex_both (k := i) (by lia) (by lia)]
  decide
 have hsz : its.toArray.size ≤ sizeLine := by rw [List.size_toArray, ← hl]; exact Nat.le_of_lt hz
 refine call_meets F.slot_list_insert ⟨_, e, rfl⟩ F.entry_list_insert (F.args_list_insert_3 _ _ _) (AutoSeq1.list_insert_list_int_val_1 l its.toArray n i t u2 hfit hsz) ⟨e, ?_⟩
 refine ⟨.non, _, I.lset (its' := its.take i.toNat ++ u2 :: its.drop i.toNat) hH e ?_ ((r.take i.toNat).append (.cons ru2 (r.drop i.toNat))) ?_, rfl, q⟩
 ·have hk : (if i < 0 then (i + (its.toArray.size : Int)).toNat else min i.toNat its.toArray.size) = i.toNat := by
   rw [if_neg (by lia), List.size_toArray]
   lia
  show Array.push (its.toArray.extract 0 (if i < 0 then (i + (its.toArray.size : Int)).toNat else min i.toNat its.toArray.size)) u2 ++ its.toArray.extract (if i < 0 then (i + (its.toArray.size : Int)).toNat else min i.toNat its.toArray.size) = _
  rw [hk]
  apply Array.toList_inj.mp
  simp [List.take_drop]
  rw [List.take_of_length_le (by lia)]
 ·rw [List.length_append, List.length_cons, List.length_take, List.length_drop]
  lia
end
section
variable {X : Cx} {es : List Expr} {kt : Nat} {pt : Pos}
end
section
variable {D : Addr} {te : TE} {tc : TT} {Q : VK} {ρ : St} {H : Hp}
end
end L2
namespace G2
open PySem L2
end G2
namespace L2
open PySem PySem.Spec PyProof.Rows
structure NScope (o sc : Scope) (TN F : List Str) : Prop where
 okind : o.kind = .function
 kind : sc.kind = .function
 names : ∀ y ∈ sc.names, y.2 = .local → sc.names.lookup y.1 = some .local
 clN : ∀ y ∈ sc.names, y.2 = .cell → sc.names.lookup y.1 = some .cell
 fr : ∀ y ∈ sc.names, y.2 = .free → o.names.lookup y.1 = some .cell ∧ sc.names.lookup y.1 = some .free
 ff : ∀ y ∈ F, (y, NameKind.free) ∈ sc.names
section
variable {X : Cx} {sc : Scope} {TN F : List Str} {ix : List Nat} {elt tg iter : Expr} {ifs : List Expr} {pos : Pos} {g : TG} {tc : TT} {te : TE} {wi : TI}
end
structure NBScope (o sc : Scope) (TN F G : List Str) : Prop extends NScope o sc TN F where
 nd : (TN ++ F).Nodup
 vis : ∀ x ∈ TN ++ F, Vis (yN sc o) x
 loc : ∀ x ∈ TN, (yN sc o).names.lookup x = some .local ∨ ((yN sc o).names.lookup x = some .cell ∧ sc.names.lookup x = some .cell)
 gl : ∀ x ∈ G, (yN sc o).names.lookup x = some .globalImplicit
section
variable {X : Cx} {sc : Scope} {TN F G : List Str} {cl : List (Str × Addr)} {C : Addr} {fp : List Addr} {s3 : Shared} {H3 : Hp} {xe : Value → Shared → Prop} {x : Str} {pos : Pos}
end
end L2
namespace PySem
open Sem (wp)
open Builtin
open AutoSeq1 (wpAny_loadPart')
end PySem
namespace L2
open PySem PySem.Spec PyProof.Rows
section
variable {X : Cx}
end
section
variable {prog : Program} {w : World} {A : Around} {E : Value → Shared → Prop} {s : Shared}
end
section
variable {prog : Program} {w : World} {A : Around} {E : Value → Shared → Prop} {s : Shared}
end
section
variable {X : Cx} {es : List Expr} {kt : Nat} {pt : Pos}
end
section
variable {D : Addr} {te : TE} {tc : TT} {Q : VK} {ρ : St} {H : Hp}
end
end L2
namespace HT
open PySem PyProof.Rows
section
variable {prog : Program} {w : World} {A : Around} {E : Value → Shared → Prop} {s : Shared}
end
end HT
namespace L2
open PySem PySem.Spec PyProof.Rows
section
variable {X : Cx}
noncomputable def rCatG : R2 := fun x y H Q => ∃ a b xs ys, x = .ref a ∧ y = .ref b ∧ H a = some (.tup xs) ∧ H b = some (.tup ys) ∧ xs.length + ys.length ≤ 1000 ∧ ∀ q H', Same H H' → H' q = some (.tup (xs ++ ys)) → Q (.ref q) H'
theorem op_catG : OpR X (binaryOp .Add) rCatG := by
 intro pins s σ H x y v u Q I rx ry h
 obtain ⟨a, b, xs, ys, rfl, rfl, ha, hb, hz, q⟩ := h
 have hz' : xs.length + ys.length ≤ sizeLine := Nat.le_trans hz (by decide)
 by_cases hx : xs = []
 ·cases rx
  cases ry
  obtain ⟨its, r1, p1, _⟩ := I.tuple (SqT.of ha)
  obtain ⟨its2, r2, p2, _⟩ := I.tuple (SqT.of hb)
  obtain ⟨⟨cls, dd, data, sl⟩, ho, hc, n, hd⟩ := id p1
  obtain ⟨⟨cls2, dd2, data2, sl2⟩, ho2, hc2, n2, hd2⟩ := id p2
  simp only at hc hd hc2 hd2
  subst hc hd hc2 hd2
  have hv : its = [] := r1.nil_iff.mpr hx
  refine concat_meets ⟨_, ho, rfl⟩ ⟨_, ho2, rfl⟩ noFill_tuple_add seq_tuple_add PySem.F.slot_tuple_add PySem.F.entry_tuple_add (PySem.F.args_tuple_add_2 _ _)
   (tuple_addW0 a b its.toArray its2.toArray n n2 dd dd2 sl sl2 (by simp [hv])) ⟨ho, ho2, ?_⟩
  refine ⟨.ref b, H, I, rfl, q b H (Same.refl H) ?_⟩
  rw [hx, List.nil_append]
  exact hb
 ·refine op_catT pins s σ H _ _ v u Q I rx ry ⟨a, b, xs, ys, rfl, rfl, SqT.of ha, SqT.of hb, hx, hz', fun e => ?_, fun _ p hp => q p _ (Same.new (Same.refl H) hp) zb⟩
  refine q a H (Same.refl H) ?_
  rw [e, List.append_nil]
  exact ha
end
end L2
namespace PySem
open Sem (wp)
open Builtin
open AutoSeq1 (wpAny_loadPart')
end PySem
namespace L2
open PySem PySem.Spec PyProof.Rows
section
variable {X : Cx}
end
section
variable {X : Cx}
theorem flat_rep {α : Type} (k : Nat) (v : α) : (List.replicate k [v]).flatten = List.replicate k v := by
 induction k with
 | zero => rfl
 | succ k ih => rw [List.replicate_succ, List.flatten_cons, ih, List.replicate_succ]; rfl
noncomputable def rTupL : List V → Hp → VK → Prop := fun xs H Q => ∃ (p : Addr) (ys : List V), xs = [.ref p] ∧ H p = some (.lst ys) ∧ ∀ q H', Same H H' → H' q = some (.tup ys) → Q (.ref q) H'
theorem xS : yb X (.type "tuple") rTupL := fun pins s σ H xs us Q I r h => xY pins s σ H xs us Q I r (let ⟨p, ys, e, hp, q⟩ := h; ⟨p, ys, e, .inl ⟨SqL.of hp, fun l hl => q l _ (Same.new (Same.refl H) hl) zb⟩⟩)
end
end L2
namespace G2
open PySem L2
theorem Xq {n h : Nat} : ∀ ds : List PyData, (∀ d ∈ ds, Shw d n h) → PyData.showableAll ds = true ∧ PyData.hasDictAll ds = false ∧ PyData.depthAll ds ≤ h ∧ ((PyData.shownAll ds).map (·.length)).sum ≤ n * ds.length ∧ (PyData.shownAll ds).length = ds.length
 | [], _ => ⟨rfl, rfl, Nat.zero_le _, Nat.zero_le _, rfl⟩
 | d :: ds, k => by
  obtain ⟨h1, h2, h3, h4, h5⟩ := Xq ds fun x hx => k x (List.mem_cons_of_mem _ hx)
  have e := k d List.mem_cons_self
  have e3 := e.p
  have e4 := e.l
  refine ⟨?_, ?_, ?_, ?_, ?_⟩
  ·simp only [PyData.showableAll, e.s, h1, Bool.and_self]
  ·simp only [PyData.hasDictAll, e.nd, h2, Bool.or_self]
  ·simp only [PyData.depthAll]
   lia
  ·simp only [PyData.shownAll, List.map_cons, List.sum_cons, List.length_cons, Nat.mul_succ]
   lia
  ·simp only [PyData.shownAll, List.length_cons, h5]
theorem Shw.lsts {n h : Nat} {ds : List PyData} (k : ∀ d ∈ ds, Shw d n h) : Shw (.list ds) ((n + 2) * ds.length + 3) (h + 1) := by
 obtain ⟨h1, h2, h3, h4, h5⟩ := Xq ds k
 refine ⟨by simp only [PyData.showable]; exact h1, by simp only [PyData.hasDict]; exact h2, ?_, ?_⟩
 ·show PyData.depthAll _ + 1 ≤ h + 1
  lia
 ·have e : (PyData.shown (.list ds)).length ≤ ((PyData.shownAll ds).map (·.length)).sum + 2 * (PyData.shownAll ds).length + 3 := listText_len_le _
  rw [Nat.add_mul]
  lia
section
variable {D : Addr} {te : TE} {tc : TT} {Q : VK} {ρ : St} {H : Hp} {K : PySem.W.Frag} {a b : Addr}
end
end G2
namespace L2
open PySem PySem.Spec PyProof.Rows
section
variable {κ : Type} [DecidableEq κ]
noncomputable def valV (kvs : List (κ × V)) (k : κ) : Option V := (kvs.find? fun kv => decide (kv.1 = k)).map (·.2)
noncomputable def putK (kvs : List (κ × V)) (k : κ) (v : V) : List (κ × V) :=
 if (kvs.any fun kv => decide (kv.1 = k)) = true then kvs.map (fun kv => if kv.1 = k then (kv.1, v) else kv) else kvs ++ [(k, v)]
theorem ZZ {p : κ × V} {r : List (κ × V)} {k : κ} (e : p.1 = k) : valV (p :: r) k = some p.2 := by simp [valV, List.find?_cons, e]
theorem Z0 {p : κ × V} {r : List (κ × V)} {k : κ} (e : ¬ p.1 = k) : valV (p :: r) k = valV r k := by simp [valV, List.find?_cons, e]
theorem length_putK (kvs : List (κ × V)) (k : κ) (v : V) : (putK kvs k v).length ≤ kvs.length + 1 := by
 unfold putK
 split
 ·rw [List.length_map]; lia
 ·rw [List.length_append, List.length_cons, List.length_nil]; lia
theorem KV.val {kvs : List (κ × V)} {vs : List (κ × Value)} (r : KV kvs vs) (k : κ) : RelO (valV kvs k) (valueAt vs k) := by
 unfold KV at r
 induction r with
 | nil => exact True.intro
 | @cons p q ps qs h t ih =>
  obtain ⟨h1, h2⟩ := h
  by_cases e : p.1 = k
  ·have e' : q.1 = k := h1.symm.trans e
   have b : valueAt (q :: qs) k = some q.2 := by simp [valueAt, List.find?_cons, e']
   rw [ZZ e, b]; exact h2
  ·have e' : ¬ q.1 = k := fun z => e (h1.trans z)
   have b : valueAt (q :: qs) k = valueAt qs k := by simp [valueAt, List.find?_cons, e']
   rw [Z0 e, b]; exact ih
theorem KV.any {kvs : List (κ × V)} {vs : List (κ × Value)} (r : KV kvs vs) (k : κ) : (kvs.any fun kv => decide (kv.1 = k)) = vs.any fun kv => decide (kv.1 = k) := by
 unfold KV at r
 induction r with
 | nil => rfl
 | cons h t ih => rw [List.any_cons, List.any_cons, ih, h.1]
theorem KV.repl {kvs : List (κ × V)} {vs : List (κ × Value)} (r : KV kvs vs) (k : κ) {y : V} {u : Value} (ry : RelV y u) :
  KV (kvs.map fun kv => if kv.1 = k then (kv.1, y) else kv) (vs.map fun kv => if kv.1 = k then (kv.1, u) else kv) := by
 unfold KV at r ⊢
 induction r with
 | nil => exact .nil
 | @cons p q ps qs h t ih =>
  rw [List.map_cons, List.map_cons]
  refine .cons ?_ ih
  obtain ⟨h1, h2⟩ := h
  by_cases e : p.1 = k
  ·rw [if_pos e, if_pos (h1.symm.trans e)]; exact ⟨h1, ry⟩
  ·rw [if_neg e, if_neg (fun z => e (h1.trans z))]; exact ⟨h1, h2⟩
theorem KV.put {kvs : List (κ × V)} {vs : List (κ × Value)} (r : KV kvs vs) (k : κ) {y : V} {u : Value} (ry : RelV y u) : KV (putK kvs k y) (stored vs k u) := by
 unfold putK stored
 rw [r.any k]
 by_cases e : (vs.any fun kv => decide (kv.1 = k)) = true
 ·rw [if_pos e, if_pos e]; exact r.repl k ry
 ·rw [if_neg e, if_neg e]; exact Paired.snoc r ⟨rfl, ry⟩
end
theorem Wh {P : Program} {w : World} {k : Key} {u : Value} (r : RelV (kV k) u) : (ya P w).is k u = true := by
 cases k with
 | inl i => obtain ⟨t, e⟩ := (show ∃ t, u = Value.int i t from r); subst e; exact mixKind_int P w i t
 | inr x => obtain ⟨t, e⟩ := (show ∃ t, u = Value.str x t from r); subst e; exact mixKind_str P w x t
theorem v7 {P : Program} {w : World} : ∀ {ks : List Key} {us : List Value}, Vals (ks.map kV) us → ItemsAre (ya P w) ks us
 | [], _, r => by rw [List.map_nil] at r; cases r; exact .nil
 | k :: ks, _, r => by
  rw [List.map_cons] at r
  cases r with
  | cons h t => exact .cons (Wh h) (v7 t)
noncomputable abbrev KT (H : Hp) : List (List Key × V) → List (List Key × Addr × Value) → Prop := Paired fun p q => p.1 = q.1 ∧ H q.2.1 = some (.tup (p.1.map kV)) ∧ RelV p.2 q.2.2
theorem KT.val {H : Hp} {kvs : List (List Key × V)} {xs : List (List Key × Addr × Value)} (r : KT H kvs xs) (k : List Key) : RelO (valV kvs k) ((atKey xs k).map (·.2)) := by
 induction r with
 | nil => exact True.intro
 | @cons p q ps qs h t ih =>
  obtain ⟨h1, _, h2⟩ := h
  by_cases e : p.1 = k
  ·have e' : q.1 = k := h1.symm.trans e
   have b : atKey (q :: qs) k = some q.2 := by simp [atKey, List.find?_cons, e']
   rw [ZZ e, b]; exact h2
  ·have e' : ¬ q.1 = k := fun z => e (h1.trans z)
   have b : atKey (q :: qs) k = atKey qs k := by simp [atKey, List.find?_cons, e']
   rw [Z0 e, b]; exact ih
section
variable {P : Program} {w : World} {H : Hp} {h : Heap} {a : Addr}
theorem WC {u : HO} (ok : HOk P w H h) (e : Rd H a u) : ObjOk P w H h a u := e.ok ok
theorem Wm {kvs : List (Key × V)} (ok : HOk P w H h) (e : Rd H a (.dK kvs)) : kvs.length ≤ sizeLine ∧ (a == sysModules) = false ∧ ∃ vs, KV kvs vs ∧ h.DictOf (ya P w) a vs :=
 show ObjOk P w H h a (.dK kvs) from WC ok e
theorem dk_of {kvs : List (Key × V)} (ok : HOk P w H h) (e : H a = some (.dK kvs)) : kvs.length ≤ sizeLine ∧ (a == sysModules) = false ∧ ∃ vs, KV kvs vs ∧ h.DictOf (ya P w) a vs := Wm ok (.inl e)
theorem Wg {ks : List Key} (ok : HOk P w H h) (e : H a = some (.tup (ks.map kV))) : (tupleKind (ya P w)).is h ks a := by
 obtain ⟨_, its, r, o, h1, h2, n, h3⟩ := (show ObjOk P w H h a (.tup (ks.map kV)) from ok a _ e)
 exact ⟨o, its.toArray, n, h1, h2, h3, by simpa using v7 r⟩
theorem WN {kvs : List (List Key × V)} (ok : HOk P w H h) (e : Rd H a (.dT kvs)) : kvs.length ≤ sizeLine ∧ (a == sysModules) = false ∧
  ∃ xs, KT H kvs xs ∧ h.DictOfH (tupleKind (ya P w)) a xs := by
 obtain ⟨z, y, xs, r, o, es, ep, h1, h2, h3, h4, h5⟩ := (show ObjOk P w H h a (.dT kvs) from WC ok e)
 refine ⟨z, y, xs, r, o, es, ep, h1, h2, h3, h4, fun x hx => ?_, h5⟩
 have all : ∀ {l : List (List Key × V)} {m : List (List Key × Addr × Value)}, KT H l m → ∀ x ∈ m, (tupleKind (ya P w)).is h x.1 x.2.1 := by
  intro l m q
  induction q with
  | nil => intro x hx; exact nomatch hx
  | @cons p q ps qs hq t ih =>
   intro x hx
   rcases List.mem_cons.mp hx with e | hx
   ·subst e
    exact Wg ok (by rw [← hq.1]; exact hq.2.1)
   ·exact ih x hx
 exact all r x hx
end
noncomputable def DGet (H : Hp) (a : Addr) (y : V) (r : Option V) : Prop :=
 (∃ kvs k, Rd H a (.dK kvs) ∧ y = kV k ∧ r = valV kvs k) ∨ ∃ kvs k b, Rd H a (.dT kvs) ∧ y = .ref b ∧ H b = some (.tup (k.map kV)) ∧ r = valV kvs k
section
variable {X : Cx} {pins : List (Addr × Obj)} {σ : St} {H : Hp} {s : Shared} {a : Addr} {y v : V} {u r : Value} {o : Option V} {A : Around} {E : Value → Shared → Prop}
theorem Inv.big (I : Inv X pins σ H s) : sysModules < s.heap.objs.size := by
 have h : mainGlobals < s.heap.objs.size := (I.mod.glob.keeps I.bk).lt
 exact Nat.lt_trans (by decide) h
theorem d_getItem {Q : Value → Shared → Prop} (hu : A.units + 1 < cLine) (I : Inv X pins σ H s) (g : DGet H a y (some v)) (ry : RelV y u) (h : ∀ w' s', Inv X pins σ H s' → RelV v w' → Q w' s') :
  wpAny (model X.prog X.w) A (getItem (.ref a) u) Q E s := by
 rcases g with ⟨kvs, k, e, ey, l⟩ | ⟨kvs, k, b, e, ey, eb, l⟩
 ·subst ey
  obtain ⟨z, hd, vs, rel, dd⟩ := Wm I.hok e
  obtain ⟨w', hw, rw'⟩ := RelO.some_of (v := v) (o := valueAt vs k) (by rw [l]; exact rel.val k)
  exact wpAny_getItem_of (Wh ry) dd.mapOf hw (h w' _ (I.tok _) rw')
 ·subst ey
  cases (show u = Value.ref b from ry)
  obtain ⟨z, hd, xs, rel, dd⟩ := WN I.hok e
  obtain ⟨w', hw, rw'⟩ := RelO.some_of (v := v) (o := (atKey xs k).map (·.2)) (by rw [l]; exact rel.val k)
  obtain ⟨p, hp, hp2⟩ := Option.map_eq_some_iff.mp hw
  refine wpAny_getItem_heap (tupleKind_room_in1 hu) (Wg I.hok eb) dd hp ?_
  rw [hp2]
  exact h w' _ (I.tok _) rw'
theorem d_write {h' : Heap} {t' : Nat} {ob : HO} (I : Inv X pins σ H s) (mu : Mut (H a)) (hs : Heap.SameBut a s.heap h') (he : ∃ q, h'.get? a = some q) (new : ObjOk X.prog X.w (upd H a ob) h' a ob) :
  Inv X pins σ (upd H a ob) { s with heap := h', toks := t' } :=
 I.write (x := a) (e := a) mu (.inl rfl) (fun b q hb z => (hs.2 b hb).trans z) he new
theorem dk_new {P : Program} {w : World} {H' : Hp} {h' : Heap} {kvs : List (Key × V)} {vs : List (Key × Value)} (z : kvs.length ≤ sizeLine) (hd : (a == sysModules) = false) (rel : KV kvs vs) (dd : h'.DictOf (ya P w) a vs) :
  ObjOk P w H' h' a (.dK kvs) := ⟨z, hd, vs, rel, dd⟩
end
section
variable {X : Cx} {pins : List (Addr × Obj)} {σ : St} {H : Hp} {s : Shared} {a : Addr} {kvs : List (Key × V)} {k : Key} {u : Value} {A : Around} {E : Value → Shared → Prop}
end
noncomputable def NoSl (i : Expr) : Prop := ∀ ov iv, subscripted i false ov iv = operate [ov, iv] (getItem ov iv)
theorem subD_of {prog : Program} {w : World} {A : Around} {E : Value → Shared → Prop} {s : Shared} {env : Env} {value slice : Expr} {pos : Pos} {T id : String} {Q : Value → Shared → Prop}
  (hl : typeLookup (.type T) "__getitem__" = pure (some (.builtin id))) (hs : NoSl slice)
  (h : wpAny (model prog w) A (eval value env) (fun o s₁ => wpAny (model prog w) A (eval slice env) (fun i s₂ => s₂.TypeIs o T ∧ wpAny (model prog w) A (getItem o i) Q E s₂) E s₁) E s) :
  wpAny (model prog w) A (eval (.Subscript value slice pos) env) Q E s := by
 refine Subscript_ (wpAny_mono h (fun o s₁ h₁ => wpAny_mono h₁ (fun i s₂ h₂ => ?_) fun _ _ x => x) fun _ _ x => x)
 obtain ⟨hT, h₂⟩ := h₂
 unfold subscriptTail
 refine wpAny_bind ?_
 rw [getitemInPython_of_ne hT.not_modules]
 refine wpAny_bind (wpAny_specialOf hT hl ?_)
 have fin : wpAny (model prog w) A (subscripted slice false o i) (fun r s₃ => wpAny (model prog w) A (letTemporaryGo value o r >>= fun _ => pure r) Q E s₃) E s₂ := by
  rw [hs o i]
  exact wpAny_operating (wpAny_mono h₂ (fun r s₃ h₃ => wpAny_bind (wpAny_letTemporaryGo (wpAny_pure h₃))) fun _ _ x => x)
 first
  | exact wpAny_pure (wpAny_bind fin)
  | exact wpAny_bind (wpAny_pure (wpAny_bind fin))
  | exact wpAny_bind fin
theorem dict_typeIs {X : Cx} {pins : List (Addr × Obj)} {σ : St} {H : Hp} {s : Shared} {a : Addr} {y : V} {o : Option V} (I : Inv X pins σ H s) (g : DGet H a y o) : s.TypeIs (.ref a) "dict" := by
 rcases g with ⟨kvs, k, e, _, _⟩ | ⟨kvs, k, b, e, _, _, _⟩
 ·obtain ⟨_, _, vs, _, dd⟩ := Wm I.hok e
  exact dd.typeIs
 ·obtain ⟨_, _, xs, _, dd⟩ := WN I.hok e
  exact dd.typeIs
noncomputable def Wz (td ty : TE) : TE := fun σ H Q => td σ H fun x H1 => ty σ H1 fun y H2 => ∃ a v, x = .ref a ∧ DGet H2 a y (some v) ∧ Q v H2
section
variable {X : Cx} {o i e value : Expr} {pos pos' tpos : Pos} {td ty tv : TE}
theorem Xc (hu : X.A.units + 1 < cLine) (ho : PE X o td) (hi : PE X i ty) (hs : NoSl i) : PE X (.Subscript o i pos) (Wz td ty) := by
 intro pins s σ H Q I h
 refine subD_of PySem.F.slot_dict_getitem.lookup hs (thn (ho pins s σ H _ I h) fun u s1 ⟨x, H1, I1, rx, q1⟩ => thn (hi pins s1 σ H1 _ I1 q1) fun iv s2 ⟨y, H2, I2, ry, a, v, ex, g, q2⟩ => ?_)
 subst ex
 obtain rfl : u = Value.ref a := rx
 exact ⟨dict_typeIs I2 g, d_getItem hu I2 g ry fun w' s3 I3 rw' => ⟨v, H2, I3, rw', q2⟩⟩
end
theorem dk_empty {P : Program} {w : World} {H : Hp} (h : Heap) (hb : sysModules < h.objs.size) : ObjOk P w H (h.push { cls := .type "dict", data := .dict #[] }) h.objs.size (.dK []) :=
 ⟨Nat.zero_le _, beq_eq_false_iff_ne.mpr (Ne.symm (Nat.ne_of_lt hb)), [], .nil, Heap.DictOf.new h⟩
section
variable {X : Cx} {pos : Pos}
end
noncomputable def x6 : List (TE × TE) → St → Hp → (List (V × V) → Hp → Prop) → Prop
 | [], _, H, Q => Q [] H
 | (tk, tv) :: r, σ, H, Q => tk σ H fun x H1 => tv σ H1 fun y H2 => x6 r σ H2 fun ps H3 => Q ((x, y) :: ps) H3
noncomputable abbrev VV : List (V × V) → List (Value × Value) → Prop := Paired fun p q => RelV p.1 q.1 ∧ RelV p.2 q.2
noncomputable def PPs (X : Cx) (pos : Pos) (keys : List (Option Expr)) (values : List Expr) (trs : List (TE × TE)) : Prop :=
 ∀ (pins : List (Addr × Obj)) (s : Shared) (σ : St) (H : Hp) (Q : List (V × V) → Hp → Prop), Inv X pins σ H s → x6 trs σ H Q →
  wpAny (model X.prog X.w) X.A (evalPairs (pairTrees keys values X.env pos)) (fun vs s' => ∃ ps H', Inv X pins σ H' s' ∧ VV ps vs ∧ Q ps H') X.xe s
theorem Y8 {X : Cx} {pos : Pos} : PPs X pos [] [] [] := fun pins s σ H Q I h => pairTrees_nil_walk ⟨[], H, I, .nil, h⟩
theorem yG {X : Cx} {pos : Pos} {k v : Expr} {ks : List (Option Expr)} {vs : List Expr} {tk tv : TE} {trs : List (TE × TE)} (hk : PE X k tk) (hv : PE X v tv) (hr : PPs X pos ks vs trs) :
  PPs X pos (some k :: ks) (v :: vs) ((tk, tv) :: trs) := fun pins s σ H Q I h =>
 pairTrees_cons_walk (thn (hk pins s σ H _ I h) fun u s1 ⟨x, H1, I1, rx, q1⟩ => thn (hv pins s1 σ H1 _ I1 q1) fun w2 s2 ⟨y, H2, I2, ry, q2⟩ =>
  thn (hr pins s2 σ H2 _ I2 q2) fun ws s3 ⟨ps, H3, I3, rel, q3⟩ => ⟨(x, y) :: ps, H3, I3, .cons ⟨rx, ry⟩ rel, q3⟩)
noncomputable def yH (kvs more : List (Key × V)) : List (Key × V) := more.foldl (fun acc kv => putK acc kv.1 kv.2) kvs
theorem KV.merge : ∀ {more : List (Key × V)} {rs : List (Key × Value)} {kvs : List (Key × V)} {vs : List (Key × Value)}, KV more rs → KV kvs vs → KV (yH kvs more) (merged vs rs) := by
 intro more rs kvs vs r
 unfold KV at r
 induction r generalizing kvs vs with
 | nil => intro q; exact q
 | @cons p q ps qs h t ih =>
  intro r0
  have e : KV (putK kvs p.1 p.2) (stored vs q.1 q.2) := by
   have := r0.put p.1 h.2
   rw [← h.1]; exact this
  exact ih e
theorem xX : ∀ (more kvs : List (Key × V)), (yH kvs more).length ≤ kvs.length + more.length
 | [], kvs => by show kvs.length ≤ kvs.length + 0; lia
 | p :: r, kvs => by
  have h1 := xX r (putK kvs p.1 p.2)
  have h2 := length_putK kvs p.1 p.2
  show (yH (putK kvs p.1 p.2) r).length ≤ _
  rw [List.length_cons]; lia
theorem vI {P : Program} {w : World} : ∀ {kvs : List (Key × V)} {ws : List (Value × Value)}, VV (kvs.map fun kv => (kV kv.1, kv.2)) ws → ∃ rs, Carries (ya P w) ws rs ∧ KV kvs rs
 | [], _, r => by rw [List.map_nil] at r; cases r; exact ⟨[], True.intro, .nil⟩
 | p :: kvs, _, r => by
  rw [List.map_cons] at r
  cases r with
  | @cons a b as bs h t =>
   obtain ⟨rs, c, q⟩ := vI (P := P) (w := w) t
   obtain ⟨b1, b2⟩ := b
   exact ⟨(p.1, b2) :: rs, ⟨Wh h.1, rfl, c⟩, .cons ⟨rfl, h.2⟩ q⟩
noncomputable def Wy (trs : List (TE × TE)) : TE := fun σ H Q => ∀ p, H p = none → x6 trs σ (upd H p (.dK [])) fun ps H2 => H2 p = some (.dK []) ∧ ∃ kvs : List (Key × V), ps = kvs.map (fun kv => (kV kv.1, kv.2)) ∧ kvs.length ≤ 15 ∧ Q (.ref p) (upd H2 p (.dK (yH [] kvs)))
theorem Xb {X : Cx} {pos : Pos} {keys : List (Option Expr)} {values : List Expr} {trs : List (TE × TE)} (h : PPs X pos keys values trs) (hall : keys.all (·.isSome) = true) (hl : keys.length = values.length) (h0 : keys ≠ [])
  (h15 : keys.length ≤ 15) : PE X (.Dict keys values pos) (Wy trs) := by
 intro pins s σ H Q I q
 have hn := I.hok.fresh (Nat.le_refl s.heap.objs.size)
 have I1 := I.laid (a := s.heap.objs.size) (o := .dK []) (h' := s.heap.push { cls := .type "dict", data := .dict #[] }) (t' := s.toks) (fun _ _ q => Heap.get?_push_of_some _ q) (Nat.le_refl _) (dk_empty s.heap I.big)
 refine wpAny_Dict_walk (knd := ya X.prog X.w) hall hl h0 h15 (thn (h pins _ σ _ _ I1 (q _ hn)) fun ws s2 ⟨ps, H2, I2, rel, e, kvs, ep, lk, q2⟩ => ?_)
 subst ep
 obtain ⟨rs, c, rk⟩ := vI (P := X.prog) (w := X.w) rel
 obtain ⟨z, hd, vs0, r0, dd⟩ := dk_of I2.hok e
 cases r0
 refine ⟨rs, c, dd, fun h' dd' hs => ⟨.ref s.heap.objs.size, _, ?_, rfl, q2⟩⟩
 have hz : (yH [] kvs).length ≤ sizeLine := by
  have h1 := xX kvs []
  rw [List.length_nil] at h1
  rw [sizeLine_eq]; lia
 have he : ∃ q, h'.get? s.heap.objs.size = some q := let ⟨q, _, _, hq, _⟩ := dd'; ⟨q, hq⟩
 exact d_write I2 (by rw [e]; exact True.intro) hs he (dk_new hz hd (rk.merge .nil) dd')
structure M1 (X : Cx) (o : Expr) (m : Str) (apos : Pos) (e : Expr) (cpos : Pos) : Prop where
 base : attributeBase o m X.env (eval o X.env) = eval o X.env
 few : ((backTo cpos (starEach [e] X.env)).all (fun x => !x.1) && (backToKw cpos (keywordEach [] X.env)).all (fun x => x.1.isSome)
  && decide (([e] : List Expr).length + ([] : List Keyword).length + (if ([] : List Keyword).isEmpty then 0 else 1) < 30)) = true
 line : (apos.endLine == cpos.line) = true
 trees : backTo cpos (starEach [e] X.env) = [(false, eval e X.env)]
structure M2 (X : Cx) (o : Expr) (m : Str) (apos : Pos) (e f : Expr) (cpos : Pos) : Prop where
 base : attributeBase o m X.env (eval o X.env) = eval o X.env
 few : ((backTo cpos (starEach [e, f] X.env)).all (fun x => !x.1) && (backToKw cpos (keywordEach [] X.env)).all (fun x => x.1.isSome)
  && decide (([e, f] : List Expr).length + ([] : List Keyword).length + (if ([] : List Keyword).isEmpty then 0 else 1) < 30)) = true
 line : (apos.endLine == cpos.line) = true
 trees : backTo cpos (starEach [e, f] X.env) = [(false, eval e X.env), (false, eval f X.env)]
section
variable {X : Cx} {pins : List (Addr × Obj)} {σ : St} {H : Hp} {s : Shared} {a : Addr} {y d : V} {u r : Value} {o : Option V} {A : Around} {E : Value → Shared → Prop}
end
section
variable {X : Cx} {o e f : Expr} {apos cpos : Pos} {td ty tx : TE}
end
section
variable {X : Cx} {pins : List (Addr × Obj)} {σ : St} {H : Hp} {s : Shared} {a : Addr} {kvs : List (Key × V)} {A : Around} {E : Value → Shared → Prop}
end
section
variable {X : Cx} {pins : List (Addr × Obj)} {σ : St} {H : Hp} {s : Shared} {a : Addr} {y : V} {u : Value} {A : Around} {E : Value → Shared → Prop}
end
section
variable {X : Cx} {pins : List (Addr × Obj)} {σ : St} {H : Hp} {s : Shared} {a o : Addr} {kvs more : List (Key × V)} {A : Around} {E : Value → Shared → Prop}
end
section
variable {X : Cx} {k : Nat}
noncomputable def rEqE : R2 := fun x y H Q => ∃ (a z : Addr) (xs : List V), x = .ref a ∧ y = .ref z ∧ H a = some (.lst xs) ∧ H z = some (.lst []) ∧ Q (.bl xs.isEmpty) H
theorem op_eqE (hr : Room k X.A) : OpR X (compareOp .Eq) rEqE := by
 intro pins s σ H x y v u Q I rx ry h
 obtain ⟨a, z, xs, rfl, rfl, ha, hz, q⟩ := h
 cases rx
 cases ry
 have hu := hr.units
 obtain ⟨its, r, pl, _⟩ := I.list (SqL.of ha)
 obtain ⟨its2, r2, pl2, _⟩ := I.list (SqL.of hz)
 have e2 : its2 = [] := r2.nil_iff.mpr rfl
 subst e2
 cases xs with
 | nil =>
  have e1 : its = [] := r.nil_iff.mpr rfl
  subst e1
  have R := SeqAt.RcAt.lists (A := X.A) (e := fun _ => true) pl.isList pl2.isList rfl (by lia) (fun j h1 h2 => absurd h1 (by simp))
  exact R X.prog X.w X.xe _ ⟨.bl _, H, I, rfl, q⟩
 | cons y ys =>
  have hne : its ≠ [] := fun e => by have := r.nil_iff.mp e; cases this
  have R := SeqAt.RcAt.lists_lengths (A := X.A) pl.isList pl2.isList (by simp [hne]) (by lia)
  exact R X.prog X.w X.xe _ ⟨.bl _, H, I, rfl, q⟩
noncomputable def rNeE : R2 := fun x y H Q => ∃ (a z : Addr) (xs : List V), x = .ref a ∧ y = .ref z ∧ H a = some (.lst xs) ∧ H z = some (.lst []) ∧ Q (.bl (!xs.isEmpty)) H
theorem op_neE (hr : Room k X.A) : OpR X (compareOp .NotEq) rNeE := by
 intro pins s σ H x y v u Q I rx ry h
 obtain ⟨a, z, xs, rfl, rfl, ha, hz, q⟩ := h
 cases rx
 cases ry
 have hu := hr.units
 obtain ⟨its, r, pl, _⟩ := I.list (SqL.of ha)
 obtain ⟨its2, r2, pl2, _⟩ := I.list (SqL.of hz)
 have e2 : its2 = [] := r2.nil_iff.mpr rfl
 subst e2
 cases xs with
 | nil =>
  have e1 : its = [] := r.nil_iff.mpr rfl
  subst e1
  have R := SeqAt.RcNeAt.lists (A := X.A) (e := fun _ => true) pl.isList pl2.isList rfl (by lia) (fun j h1 h2 => absurd h1 (by simp))
  exact R X.prog X.w X.xe _ ⟨.bl _, H, I, rfl, q⟩
 | cons y ys =>
  have hne : its ≠ [] := fun e => by have := r.nil_iff.mp e; cases this
  have R := SeqAt.RcNeAt.lists_lengths (A := X.A) pl.isList pl2.isList (by simp [hne]) (by lia)
  exact R X.prog X.w X.xe _ ⟨.bl _, H, I, rfl, q⟩
end
end L2
namespace PySem.SeqAt
open PySem.MeetsSeq PySem PySem.Spec
section
variable {A : Around} {s : Shared}
end
end PySem.SeqAt
namespace HT
open PySem PySem.Spec PyProof.Rows
section
variable {prog : Program} {w : World} {A : Around} {E : Value → Shared → Prop} {s : Shared}
end
end HT
namespace L2
open PySem PySem.Spec PyProof.Rows
inductive Th where
 | non
 | bl (b : Bool)
 | int (i : Int)
 | str (s : Str)
 | tup (ts : List Th)
 | lst
 | dct
mutual
inductive ThAt (H : Hp) : V → Th → Prop
 | non : ThAt H .non .non
 | bl (b : Bool) : ThAt H (.bl b) (.bl b)
 | int (i : Int) : ThAt H (.int i) (.int i)
 | str (s : Str) : ThAt H (.str s) (.str s)
 | tup {p : Addr} {vs : List V} {ts : List Th} : H p = some (.tup vs) → ThsAt H vs ts → ThAt H (.ref p) (.tup ts)
 | lst {p : Addr} {vs : List V} : H p = some (.lst vs) → ThAt H (.ref p) .lst
 | dct {p : Addr} {kvs : List (Key × V)} : H p = some (.dK kvs) → ThAt H (.ref p) .dct
inductive ThsAt (H : Hp) : List V → List Th → Prop
 | nil : ThsAt H [] []
 | cons {v : V} {t : Th} {vs : List V} {ts : List Th} : ThAt H v t → ThsAt H vs ts → ThsAt H (v :: vs) (t :: ts)
end
structure KS (H H' : Hp) : Prop where
 t : ∀ q xs, H q = some (.tup xs) → H' q = some (.tup xs)
 l : ∀ q xs, H q = some (.lst xs) → ∃ ys, H' q = some (.lst ys)
 d : ∀ q xs, H q = some (.dK xs) → ∃ ys, H' q = some (.dK ys)
section
variable {H H' H'' : Hp} {a : Addr}
mutual
theorem ThAt.ks (k : KS H H') {v : V} {t : Th} : ThAt H v t → ThAt H' v t
 | .non => .non
 | .bl b => .bl b
 | .int i => .int i
 | .str s => .str s
 | .tup h hs => .tup (k.t _ _ h) (ThsAt.ks k hs)
 | .lst h => let ⟨_, h'⟩ := k.l _ _ h; .lst h'
 | .dct h => let ⟨_, h'⟩ := k.d _ _ h; .dct h'
theorem ThsAt.ks (k : KS H H') {vs : List V} {ts : List Th} : ThsAt H vs ts → ThsAt H' vs ts
 | .nil => .nil
 | .cons h hs => .cons (ThAt.ks k h) (ThsAt.ks k hs)
end
end
noncomputable def Th.tn : Th → String
 | .non => "NoneType"
 | .bl _ => "bool"
 | .int _ => "int"
 | .str _ => "str"
 | .tup _ => "tuple"
 | .lst => "list"
 | .dct => "dict"
noncomputable def Th.isI : Th → Bool
 | .bl _ => true
 | .int _ => true
 | _ => false
noncomputable def Th.isT : Th → Bool
 | .tup _ => true
 | _ => false
section
variable {X : Cx} {k : Nat}
end
noncomputable def GTup (K : PySem.W.Frag) (mg : Str → Option Value) (x : Str) (vs : List V) : Prop := ∃ (a : Addr) (o : Obj) (its : Array Value) (n : Nat), mg x = some (.ref a) ∧ K.lookup a = some o ∧ o.cls = .type "tuple" ∧ o.data = .seq its n ∧ its.size ≤ sizeLine ∧ Vals vs its.toList
theorem GTup.sq {K : PySem.W.Frag} {mg : Str → Option Value} {x : Str} {vs : List V} (g : GTup K mg x vs) : ∃ a, mg x = some (.ref a) ∧ ∀ H, SqT K H a vs := by
 obtain ⟨a, o, its, n, h1, h2, h3, h4, h5, h6⟩ := g
 exact ⟨a, h1, fun H => .inr ⟨o, its, n, h2, h3, h4, h5, h6⟩⟩
noncomputable def tGT (K : PySem.W.Frag) (vs : List V) : TE := fun _ H Q => ∀ a, SqT K H a vs → Q (.ref a) H
theorem pe_gt {X : Cx} {x : Str} {vs : List V} {pos : Pos} (g : GTup X.K X.mg x vs) (hg : Gl X x := by rfl) (hd : (x == ("__debug__" : Str)) = false := by decide) : PE X (.Name x pos) (tGT X.K vs) := by
 obtain ⟨a, h1, h2⟩ := g.sq
 exact fun pins s σ H Q I h => ZC hg h1 (v := .ref a) rfl hd pins s σ H Q I (h a (h2 H))
end L2
namespace L2
open PySem PySem.Spec PyProof.Rows Builtin Builtin.Str
theorem vg : ∀ (l : List (Str × Tok)), Vals ((l.map (·.1)).map V.str) (strValues l)
 | [] => .nil
 | p :: l => .cons ⟨p.2, rfl⟩ (vg l)
theorem vh : ∀ {xs : List Str} {us : List Value}, Vals (xs.map V.str) us → ∃ l : List (Str × Tok), us = strValues l ∧ l.map (·.1) = xs
 | [], _, .nil => ⟨[], rfl, rfl⟩
 | x :: xs, _, .cons r1 r2 => by
  obtain ⟨t, rfl⟩ := r1
  obtain ⟨l, rfl, e⟩ := vh r2
  exact ⟨(x, t) :: l, rfl, by rw [List.map_cons, e]⟩
section
variable {X : Cx}
noncomputable def rJoin : V → List V → Hp → VK → Prop := fun x vs H Q => ∃ b p xs, x = .str b ∧ vs = [.ref p] ∧ H p = some (.lst (xs.map V.str)) ∧ JoinOk b xs = true ∧ (Txt.join b xs).length ≤ sizeLine ∧ Q (.str (Txt.join b xs)) H
theorem w9 : MtM X "str.join" rJoin := by
 intro pins s σ H x vs v us Q I rx rv h
 obtain ⟨b, p, xs, rfl, rfl, hp, hj, hz, q⟩ := h
 obtain ⟨t, rfl⟩ := rx
 obtain ⟨w, rfl, rw⟩ := rv.one
 cases rw
 obtain ⟨its, n, r, e, z⟩ := I.lst hp
 obtain ⟨l, rfl, rfl⟩ := vh r
 have hj' : tooLong ((l.map (·.1)).toArray.foldl (· + ·.length + b.length) 0) = false := by
  unfold JoinOk at hj
  simpa using hj
 refine call_meets F.slot_str_join (typeIs_str _ _ _) F.entry_str_join (F.args_str_join_2 _ _) (meets_str_join_list b t p l hj') ⟨⟨_, e, rfl, _, rfl⟩, ?_⟩
 match l, hz, q with
 | [], hz, q => exact ⟨hz, ⟨.str _, H, I.tok _, ⟨_, rfl⟩, q⟩⟩
 | [c], hz, q => exact ⟨.str _, H, I, ⟨_, rfl⟩, q⟩
 | c :: d :: l, hz, q => exact ⟨hz, ⟨.str _, H, I.tok _, ⟨_, rfl⟩, q⟩⟩
theorem wR : yb X (.type "str") (fun xs H Q => ∃ i : Int, xs = [.int i] ∧ i.natAbs.log2 < 1920 ∧ Q (.str (Str.ofString (toString i))) H) := by
 intro pins s σ H xs us Q I r h
 obtain ⟨i, rfl, hi, q⟩ := h
 obtain ⟨u, rfl, t, rfl⟩ := wS r
 exact P.str_of_int hi ⟨.str _, H, I.tok _, ⟨_, rfl⟩, q⟩
theorem Ze : yb X (.type "int") (fun xs H Q => ∃ (a : Str) (i : Int), xs = [.str a] ∧ PySem.intText? a = some i ∧ a.length ≤ 640 ∧ Q (.int i) H) := by
 intro pins s σ H xs us Q I r h
 obtain ⟨a, i, rfl, hn, hl, q⟩ := h
 obtain ⟨u, rfl, t, rfl⟩ := wS r
 exact PySem.W.KIN.call_text hn hl ⟨.int i, H, I.tok _, ⟨_, rfl⟩, q⟩
end
end L2
namespace L2
open PySem
noncomputable def jn (c : Nat) : List (List Nat) → List Nat
 | [] => []
 | [w] => w
 | w :: v :: r => w ++ c :: jn c (v :: r)
theorem xQ (c : Nat) : ∀ (ws : List Str), (Str.join ⟨#[c]⟩ ws).cps.toList = jn c (ws.map fun w => w.cps.toList)
 | [] => rfl
 | [w] => rfl
 | w :: v :: r => by
  have ih := xQ c (v :: r)
  show ((w ++ (⟨#[c]⟩ : Str) ++ Str.join ⟨#[c]⟩ (v :: r)).cps).toList = w.cps.toList ++ c :: jn c ((v :: r).map fun w => w.cps.toList)
  rw [← ih]
  show ((w.cps ++ #[c]) ++ (Str.join ⟨#[c]⟩ (v :: r)).cps).toList = _
  simp
theorem Z2 (x : Str) (c : Nat) : Txt.split x ⟨#[c]⟩ ≠ [] := fun e => by
 have := PyProof.Rows.split_pos x ⟨#[c]⟩
 rw [e] at this
 exact absurd this (by decide)
end L2
namespace L2
open PySem PyProof.Rows
noncomputable def sg (x : Str) : List Str := x.cps.toList.map fun c => ⟨#[c]⟩
theorem Zt (x : Str) : (sg x).length = x.cps.size := by unfold sg; rw [List.length_map, Array.length_toList]
theorem WB {x : Str} {i : Nat} {c : Nat} (h : x.cps[i]? = some c) : (sg x)[i]? = some ⟨#[c]⟩ := by
 unfold sg
 rw [List.getElem?_map, Array.getElem?_toList, h]
 rfl
noncomputable def Its (x : Str) : It := ⟨fun i _ => i < x.cps.size, fun i H v H' => H' = H ∧ ∃ y, (sg x)[i]? = some y ∧ v = .str y, fun i _ => x.cps.size ≤ i⟩
section
variable {P : Program} {w : World} {K : PySem.W.Frag} {tg : Expr}
theorem turn_sa (x : Str) (t : Tok) (it : Addr) : Turn P w K tg (Its x) [it] it (fun i h => h.IsStrIter it "str_ascii_iterator" x t i) where
 mem := by simp
 obj := fun i h st b hb => by
  obtain rfl : b = it := by simpa using hb
  obtain ⟨o, e, c, d⟩ := st
  exact ⟨o, e, fun v z => by rw [d] at z; cases z⟩
 keep := fun i h h' st k => let ⟨o, e, c, d⟩ := st; ⟨o, k it (by simp) o e, c, d⟩
 item := by
  intro X hP hw hK hc i pins s σ H E I hf st hg
  subst hP hw hK
  obtain ⟨cp, hx⟩ : ∃ cp, x.cps[i]? = some cp := ⟨x.cps[i]'hg, Array.getElem?_eq_getElem hg⟩
  obtain ⟨f0, f1, f2, f3, f4, f5⟩ := hf it (by simp)
  refine wpAny_pyNext_ascii_item st hx fun h1 st1 sb => ?_
  have I1 : Inv X pins σ H { s with heap := h1, toks := s.toks + 1 } := I.turned (t' := s.toks + 1) (fun b o hb e => (sb.2 b hb).trans e) f0 f1 f3 f4 f5
  obtain ⟨o, e, c, d⟩ := id st1
  exact ⟨_, rfl, Yk (s := { s with heap := h1, toks := s.toks + 1 }) e c d (by decide) ⟨.str ⟨#[cp]⟩, H, I1, ⟨_, rfl⟩, ⟨rfl, _, WB hx, rfl⟩, st1, fun b hb => (hf b hb).1⟩⟩
 done := by
  intro X hP hw hK hc i pins s σ H E I hf st hg
  subst hP hw hK
  obtain ⟨f0, f1, f2, f3, f4, f5⟩ := hf it (by simp)
  exact wpAny_pyNext_ascii_end (I.ok.hd hc) st (by simp; exact hg) fun h1 eb => ⟨rfl, I.turned (t' := s.toks) (fun b o hb e => eb b o hb e) f0 f1 f3 f4 f5⟩
 self := fun _ _ _ _ _ st h => wpAny_pyIter_striter_ascii st h
theorem turn_sw (x : Str) (t : Tok) (it : Addr) : Turn P w K tg (Its x) [it] it (fun i h => h.IsStrIter it "str_iterator" x t i) where
 mem := by simp
 obj := fun i h st b hb => by
  obtain rfl : b = it := by simpa using hb
  obtain ⟨o, e, c, d⟩ := st
  exact ⟨o, e, fun v z => by rw [d] at z; cases z⟩
 keep := fun i h h' st k => let ⟨o, e, c, d⟩ := st; ⟨o, k it (by simp) o e, c, d⟩
 item := by
  intro X hP hw hK hc i pins s σ H E I hf st hg
  subst hP hw hK
  obtain ⟨cp, hx⟩ : ∃ cp, x.cps[i]? = some cp := ⟨x.cps[i]'hg, Array.getElem?_eq_getElem hg⟩
  obtain ⟨f0, f1, f2, f3, f4, f5⟩ := hf it (by simp)
  refine wpAny_pyNext_wide_item st hx fun h1 st1 sb => ?_
  have I1 : Inv X pins σ H { s with heap := h1, toks := s.toks + 1 } := I.turned (t' := s.toks + 1) (fun b o hb e => (sb.2 b hb).trans e) f0 f1 f3 f4 f5
  obtain ⟨o, e, c, d⟩ := id st1
  exact ⟨_, rfl, Yk (s := { s with heap := h1, toks := s.toks + 1 }) e c d (by decide) ⟨.str ⟨#[cp]⟩, H, I1, ⟨_, rfl⟩, ⟨rfl, _, WB hx, rfl⟩, st1, fun b hb => (hf b hb).1⟩⟩
 done := by
  intro X hP hw hK hc i pins s σ H E I hf st hg
  subst hP hw hK
  obtain ⟨f0, f1, f2, f3, f4, f5⟩ := hf it (by simp)
  exact wpAny_pyNext_wide_end (I.ok.hd hc) st (by simp; exact hg) fun h1 eb => ⟨rfl, I.turned (t' := s.toks) (fun b o hb e => eb b o hb e) f0 f1 f3 f4 f5⟩
 self := fun _ _ _ _ _ st h => wpAny_pyIter_striter_wide st h
end
section
variable {X : Cx} {tg : Expr}
noncomputable def iTx (te : TE) : TI := fun σ H R => te σ H fun v H1 => ∃ x, v = .str x ∧ R (Its x) H1
theorem X3 {l : Expr} {tl : TE} (hl : PE X l tl) : PI X tg l (iTx tl) := by
 intro pins s σ H R I h
 refine thn (hl pins s σ H _ I h) fun v s1 ⟨x, H1, I1, r1, q1⟩ => ?_
 obtain ⟨y, rfl, q⟩ := q1
 obtain ⟨t, rfl⟩ := r1
 have new : ∀ b, b ∈ [s1.heap.objs.size] → FpOk X pins H1 b := fun b hb => by
  obtain rfl : b = s1.heap.objs.size := by simpa using hb
  exact I1.fpOk (Nat.le_refl _) (I1.hok.fresh (Nat.le_refl _))
 cases ha : y.cps.all (· < 128) with
 | true =>
  refine wpAny_pyIter_ascii ha ?_
  exact ⟨s1.heap.objs.size, [s1.heap.objs.size], _, _, H1, rfl, I1.kept (t' := s1.toks) fun b o e => Heap.get?_push_of_some _ e, turn_sa y t _, ⟨_, Heap.get?_push_size _ rfl, rfl, rfl⟩, new, q⟩
 | false =>
  refine wpAny_pyIter_wide ha ?_
  exact ⟨s1.heap.objs.size, [s1.heap.objs.size], _, _, H1, rfl, I1.kept (t' := s1.toks) fun b o e => Heap.get?_push_of_some _ e, turn_sw y t _, ⟨_, Heap.get?_push_size _ rfl, rfl, rfl⟩, new, q⟩
end
theorem Zn {te : TE} {n : Nat} {ix : List Nat} {g : TG} {tc : TT} {te' : TE} {σ : St} {H : Hp} {Q : VK} (h : te σ H fun v H1 => ∃ x, v = .str x ∧ ∀ D, H1 D = none → CGo (Its x) D g tc te' Q (List.replicate n none ++ sub ix σ) H1) : vK (iTx te) n ix g tc te' σ H Q := h
theorem YK {D : Addr} {tc : TT} {te : TE} {Q : VK} {ρ : St} {H : Hp} {x : Str} (Pv : Nat → List V → Hp → Prop) (h0 : Pv 0 [] (upd H D (.lst [])))
  (hs : ∀ i y ys H', (sg x)[i]? = some y → Pv i ys H' → H' D = some (.lst ys) → ∀ (R : V → Hp → Prop) (S : Hp → Prop), (∀ z H4, H4 D = some (.lst ys) → ys.length < sizeLine → Pv (i + 1) (ys ++ [z]) (upd H4 D (.lst (ys ++ [z]))) → R z H4) → (∀ H3, H3 D = some (.lst ys) → Pv (i + 1) ys H3 → S H3) →
   tc (some (.str y) :: ρ) H' fun b H3 => if b = true then te (some (.str y) :: ρ) H3 R else S H3)
  (hd : ∀ ys H', Pv (sg x).length ys H' → H' D = some (.lst ys) → Q (.ref D) H') : CGo (Its x) D (yU 0) tc te Q (none :: ρ) H := by
 have hl := Zt x
 refine ⟨fun i m τ ys H' => m = x.cps.size - i ∧ i ≤ x.cps.size ∧ (∃ tv, τ = tv :: ρ) ∧ Pv i ys H' ∧ H' D = some (.lst ys), ⟨x.cps.size, by lia, Nat.zero_le _, ⟨_, rfl⟩, h0, zb⟩, ?_⟩
 rintro i m τ ys H' ⟨rfl, hi, ⟨tv, rfl⟩, hp, hD⟩
 refine ⟨hD, ?_⟩
 by_cases hlt : i < x.cps.size
 ·refine .inr ⟨hlt, ?_⟩
  rintro v H2 ⟨rfl, y, hy, rfl⟩
  refine hs i y ys _ hy hp hD _ _ (fun z H4 e4 hz p4 => ?_) (fun H3 e3 p3 => ?_)
  ·exact ⟨e4, hz, x.cps.size - (i + 1), by lia, rfl, by lia, ⟨_, rfl⟩, p4, zb⟩
  ·exact ⟨x.cps.size - (i + 1), by lia, rfl, by lia, ⟨_, rfl⟩, p3, e3⟩
 ·have e : i = (sg x).length := by lia
  subst e
  exact .inl ⟨by show x.cps.size ≤ _; lia, hd ys H' hp hD⟩
end L2
namespace PySem.W
open PySem PySem.Calls PyProof.Rows
noncomputable def KasT.eval {α : Type} (lt : Nat → Nat → Bool) : KasT α → α
 | .ret a => a
 | .ask i j k => (k (lt i j)).eval lt
inductive Nums : List Value → List Int → Prop
 | nil : Nums [] []
 | cons {i : Int} {t : Tok} {us : List Value} {ns : List Int} : Nums us ns → Nums (.int i t :: us) (i :: ns)
section
variable {prog : Program} {w : World} {A : Around} {E : Value → Shared → Prop} {s : Shared}
end
end PySem.W
namespace PySem
open Sem (wp)
open AutoSeq1 (wpAny_loadPart')
section
variable {prog : Program} {w : World} {A : Around} {E : Value → Shared → Prop} {s : Shared}
end
end PySem
namespace L2
open PySem PySem.Spec PyProof.Rows
section
variable {X : Cx} {k : Nat}
end
section
variable {X : Cx}
end
structure Fly (lo : Nat) (h : Heap) (H : Hp) (a : Addr) (T : Option Addr) (C : Value) (d : Option Addr) (fl : Value) : Prop where
 at_ : ∃ (vs : Array Value) (sl : Array (Option Value)), h.get? a = some ⟨C, d, .fields vs, sl⟩ ∧
  (match T with
   | none => vs[1]? = some .none
   | some t => vs[1]? = some (.ref t) ∧ t ≠ a ∧ ∃ oT ts, h.get? t = some oT ∧ oT.data = .fields ts ∧ ts[3]? = some fl)
 lo : ∀ b ∈ a :: T.toList, lo ≤ b ∧ H b = none
theorem Fly.mono {lo lo' : Nat} {h : Heap} {H : Hp} {a : Addr} {T : Option Addr} {C : Value} {d : Option Addr} {fl : Value} (f : Fly lo h H a T C d fl) (hl : lo' ≤ lo) : Fly lo' h H a T C d fl :=
 ⟨f.at_, fun b hb => ⟨Nat.le_trans hl (f.lo b hb).1, (f.lo b hb).2⟩⟩
theorem Fly.rcd {lo : Nat} {h : Heap} {H : Hp} {a : Addr} {T : Option Addr} {C : Value} {d : Option Addr} {fl : Value} (f : Fly lo h H a T C d fl) : ∀ b ∈ a :: T.toList, ∃ o vs, h.get? b = some o ∧ o.data = .fields vs := by
 obtain ⟨vs, sl, ha, hT⟩ := f.at_
 intro b hb
 rcases List.mem_cons.mp hb with e | hb
 ·rw [e]; exact ⟨_, vs, ha, rfl⟩
 ·cases T with
  | none => cases hb
  | some t =>
   obtain ⟨_, _, oT, ts, h1, h2, _⟩ := hT
   rcases List.mem_singleton.mp hb with rfl
   exact ⟨oT, ts, h1, h2⟩
theorem wP {P : Program} {w : World} {fs ch : List Addr} {H : Hp} {h h' : Heap} (ok : HOk P w H h) (k : ∀ b o, h.get? b = some o → b ∉ fs → b ∉ ch → h'.get? b = some o) (hf : ∀ b ∈ fs, H b = none) (hc : ∀ b ∈ ch, H b = none) : HOk P w H h' := fun a o e => by
 have st : ∀ b u, H b = some u → ∀ ob, h.get? b = some ob → h'.get? b = some ob := fun b u hb ob q => k b ob q (fun z => by rw [hf b z] at hb; cases hb) fun z => by rw [hc b z] at hb; cases hb
 refine (ok a o e).stay (fun b u hb q => ?_) (fun _ q => q) fun _ _ q => q
 rcases hb with rfl | hb
 ·exact st _ _ e _ q
 ·exact st _ _ hb _ q
theorem Z1 {fs ch : List Addr} {H : Hp} {h h' : Heap} (k : ∀ b o, h.get? b = some o → b ∉ fs → b ∉ ch → h'.get? b = some o) (sl : ∀ b o, h.get? b = some o → b ∉ ch → ∃ z, h'.get? b = some { o with slots := z }) : Un fs ch H H h h' where
 keep := fun b o q _ hb hx => k b o q hb hx
 slot := fun b o q _ _ hx => sl b o q hx
 free := fun b o _ n _ => n
 there := fun b o q hx => let ⟨_, e⟩ := sl b o q hx; ⟨_, e⟩
 tups := fun _ _ q => q
 frzs := fun _ _ _ q => q
 tbls := fun b ps e => ⟨#[], by rw [e]; simp⟩
section
variable {M : Model} {A : Around} {E : Value → Shared → Prop} {s : Shared} {base : Heap} {env : Env} {outer : List Env} {L a : Addr} {T : Option Addr} {C : Value} {d : Option Addr} {H : Hp} {lo : Nat} {fl : Value} {Q : Unit → Shared → Prop}
theorem ZO {oe : Obj} {vs : Array Value} {head : Value} {hadNext : Bool} (hfr : A.frames = some (env :: outer)) (hl : s.heap.FunFrames base (env :: outer)) (hf : env.frame = some L)
  (he : s.heap.get? a = some oe) (hd : oe.data = .fields vs) (hsz : 1 < vs.size)
  (h : ∀ h' T', s.heap.objs.size ≤ T' → T' ≠ a → h'.get? a = some { oe with data := .fields (vs.setIfInBounds 1 (.ref T')) } → (∃ oT ts, h'.get? T' = some oT ∧ oT.data = .fields ts ∧ ts[3]? = some (rawInt L)) →
   (∀ b o, s.heap.get? b = some o → b ∉ frs (env :: outer) → b ≠ a → h'.get? b = some o) → (∀ b o, s.heap.get? b = some o → b ≠ a → ∃ z, h'.get? b = some { o with slots := z }) → Q () { s with heap := h' }) :
  wpAny M A (do let x ← frameOf env; let pl ← entryPlaceOf L hadNext; let b ← EntryCells.newEntry head x .none (rawInt L) .none pl; setField (.ref a) 1 b) Q E s := by
 have hene : a ∉ (env :: outer).filterMap (·.frame) := fun hm => by
  obtain ⟨_, o, ho, hnf⟩ := hl.mem hm
  rw [he] at ho; injection ho with ho; subst ho; exact hnf vs hd
 refine wpAny_bind (wpAny_frameOf_fun hfr hl hf fun h₁ hs₁ => ?_)
 refine wpAny_bind (wpAny_entryPlaceOf fun pl hpl => ?_)
 unfold EntryCells.newEntry newFields
 refine wpAny_bind (wpAny_newObj_type ?_ (hpl.sizeOk5 _ _ _ _ _))
 have he₁ : h₁.get? a = some oe := (hs₁.2.1 a hene).trans he
 have he₂ := Heap.get?_push_of_some (h := h₁) { cls := .type "traceback", dict := none, data := .fields ([head, .ref L, .none, rawInt L, .none] ++ (if pl.isEmpty then List.replicate 6 Value.none else pl)).toArray } he₁
 refine wpAny_setField he₂ hd hsz ?_
 have hTe : h₁.objs.size ≠ a := Nat.ne_of_gt (Heap.lt_size he₁)
 have hd₃ := Obj.data_mapFields hd (·.setIfInBounds 1 (Value.ref h₁.objs.size))
 have he₃ := Heap.get?_update_self (Obj.mapFields (·.setIfInBounds 1 (Value.ref h₁.objs.size))) he₂ (Obj.isFreed_of_fields hd₃)
 have hT₃ := (Heap.get?_update_other (h₁.push { cls := .type "traceback", dict := none, data := .fields ([head, .ref L, .none, rawInt L, .none] ++ (if pl.isEmpty then List.replicate 6 Value.none else pl)).toArray })
  (Obj.mapFields (·.setIfInBounds 1 (Value.ref h₁.objs.size))) (Ne.symm hTe)).trans (Heap.get?_push_size h₁ rfl)
 have keep : ∀ b o, b ≠ a → h₁.get? b = some o →
   ((h₁.push { cls := .type "traceback", dict := none, data := .fields ([head, .ref L, .none, rawInt L, .none] ++ (if pl.isEmpty then List.replicate 6 Value.none else pl)).toArray }).update a (Obj.mapFields (·.setIfInBounds 1 (Value.ref h₁.objs.size)))).get? b = some o :=
  fun b o hbe hb => by
   rw [Heap.get?_update_other _ _ (Ne.symm hbe)]
   exact Heap.get?_push_of_some _ hb
 have hmf : Obj.mapFields (·.setIfInBounds 1 (Value.ref h₁.objs.size)) oe = { oe with data := .fields (vs.setIfInBounds 1 (.ref h₁.objs.size)) } := by
  obtain ⟨oc, od, odt, osl⟩ := oe
  have : odt = .fields vs := hd
  subst this
  rfl
 refine h _ h₁.objs.size (Nat.le_of_eq hs₁.1.symm) hTe (by rw [← hmf]; exact he₃) ⟨_, _, hT₃, rfl, ?_⟩ (fun b o hb hnf hne => keep b o hne ((hs₁.2.1 b hnf).trans hb)) fun b o hb hne => ?_
 ·first | (simp; done) | (rcases hpl with rfl | ⟨_, _, _, _, _, _, _, rfl⟩ <;> simp)
 ·obtain ⟨z, hz⟩ := hs₁.2.2 b o hb
  exact ⟨z, keep b _ hne hz⟩
theorem X8 (hfr : A.frames = some (env :: outer)) (hl : s.heap.FunFrames base (env :: outer)) (hf : env.frame = some L) (F : Fly lo s.heap H a T C d .none) (hlo : lo ≤ s.heap.objs.size) (hH : ∀ b, s.heap.objs.size ≤ b → H b = none)
  (h : ∀ h' T', Fly lo h' H a (some T') C d (rawInt L) → s.heap.objs.size ≤ T' → (∀ b o, s.heap.get? b = some o → b ∉ frs (env :: outer) → b ∉ a :: T.toList → h'.get? b = some o) →
   (∀ b o, s.heap.get? b = some o → b ∉ a :: T.toList → ∃ z, h'.get? b = some { o with slots := z }) → Q () { s with heap := h' }) :
  wpAny M A (noteFrame (.ref a) env) Q E s := by
 obtain ⟨⟨vs, sl, ha, hT⟩, hlow⟩ := F
 unfold noteFrame
 simp only [hf]
 cases T with
 | none =>
  refine wpAny_bind (wpAny_field ha rfl hT ?_)
  rw [if_neg (by decide)]
  refine ZO hfr hl hf ha rfl (Array.getElem?_eq_some_iff.mp hT).1 fun h' T' hs hne he htb k1 k2 => ?_
  obtain ⟨oT, ts, t1, t2, t3⟩ := htb
  refine h h' T' ⟨⟨_, sl, he, by simp [(Array.getElem?_eq_some_iff.mp hT).1], hne, oT, ts, t1, t2, t3⟩, fun b hb => ?_⟩ hs (fun b o hb hn hc => k1 b o hb hn fun z => hc (by simp [z])) fun b o hb hc => k2 b o hb fun z => hc (by simp [z])
  rcases List.mem_cons.mp hb with e | hb
  ·rw [e]; exact hlow a List.mem_cons_self
  ·rcases List.mem_singleton.mp hb with rfl
   exact ⟨Nat.le_trans hlo hs, hH _ hs⟩
 | some t =>
  obtain ⟨h1, hta, oT, ts, g1, g2, g3⟩ := hT
  refine wpAny_bind (wpAny_field ha rfl h1 ?_)
  rw [if_pos (show (Value.ref t != Value.none) = true from by simp)]
  refine wpAny_bind (wpAny_field g1 g2 g3 ?_)
  rw [if_neg (show ¬ ((Value.none == rawInt L) = true) from by simp [rawInt])]
  refine wpAny_bind (wpAny_setField g1 g2 (Array.getElem?_eq_some_iff.mp g3).1 ?_)
  have other : ∀ b, b ≠ t → (s.heap.update t (Obj.mapFields (·.setIfInBounds 3 Value.none))).get? b = s.heap.get? b := fun b hb => Heap.get?_update_other _ _ (Ne.symm hb)
  have noRecord : ∀ b o, s.heap.get? b = some o → (∀ vs, o.data ≠ .fields vs) → b ≠ t := fun b o hb hnf q => by
   rw [q, g1] at hb; injection hb with hb; subst hb; exact hnf ts g2
  have szu : (s.heap.update t (Obj.mapFields (·.setIfInBounds 3 Value.none))).objs.size = s.heap.objs.size := Heap.size_after_update ..
  refine ZO (s := { s with heap := s.heap.update t (Obj.mapFields (·.setIfInBounds 3 Value.none)) }) hfr (hl.of_keeps fun b o hb hnf => ⟨o, (other b (noRecord b o hb hnf)).trans hb, rfl⟩) hf ((other a (Ne.symm hta)).trans ha) rfl (Array.getElem?_eq_some_iff.mp h1).1 fun h' T' hs hne he htb k1 k2 => ?_
  have hs' : s.heap.objs.size ≤ T' := by
   have hs : (s.heap.update t (Obj.mapFields (·.setIfInBounds 3 Value.none))).objs.size ≤ T' := hs
   rw [szu] at hs; exact hs
  obtain ⟨oT', ts', t1, t2, t3⟩ := htb
  refine h h' T' ⟨⟨_, sl, he, by simp [(Array.getElem?_eq_some_iff.mp h1).1], hne, oT', ts', t1, t2, t3⟩, fun b hb => ?_⟩ hs' (fun b o hb hn hc => k1 b o ((other b fun z => hc (by simp [z])).trans hb) hn fun z => hc (by simp [z])) fun b o hb hc => k2 b o ((other b fun z => hc (by simp [z])).trans hb) fun z => hc (by simp [z])
  rcases List.mem_cons.mp hb with e | hb
  ·rw [e]; exact hlow a List.mem_cons_self
  ·rcases List.mem_singleton.mp hb with rfl
   exact ⟨Nat.le_trans hlo hs', hH _ hs'⟩
theorem YH {t : Addr} (F : Fly lo s.heap H a (some t) C d fl)
  (h : ∀ h', Fly lo h' H a (some t) C d .none → (∀ b o, s.heap.get? b = some o → b ≠ t → h'.get? b = some o) → Q () { s with heap := h' }) : wpAny M A (setFlight (.ref a) none) Q E s := by
 obtain ⟨⟨vs, sl, ha, h1, hta, oT, ts, g1, g2, g3⟩, hlow⟩ := F
 have hsz3 : 3 < ts.size := (Array.getElem?_eq_some_iff.mp g3).1
 have other : ∀ b, b ≠ t → (s.heap.update t (Obj.mapFields (·.setIfInBounds 3 ((none : Option Addr).elim Value.none fun f => rawInt f)))).get? b = s.heap.get? b :=
  fun b hb => Heap.get?_update_other _ _ (Ne.symm hb)
 unfold setFlight
 refine wpAny_bind (wpAny_field ha rfl h1 ?_)
 rw [if_pos (show (Value.ref t != Value.none) = true from by simp)]
 refine wpAny_setField g1 g2 hsz3 (h _ ⟨⟨vs, sl, (other a (Ne.symm hta)).trans ha, h1, hta, _, _, Heap.get?_update_self _ g1 (Obj.isFreed_of_fields (Obj.data_mapFields g2 _)), Obj.data_mapFields g2 _, by simp [hsz3]⟩, hlow⟩ fun b o hb hn => (other b hn).trans hb)
end
noncomputable def CXE (P : Program) (w : World) : CXT := fun outer H s E e s' => ∃ (a : Addr) (T : Option Addr) (C : Value) (d : Option Addr) (H' : Hp), e = .ref a ∧ s'.os = s.os ∧ AllBare s'.gens ∧ Un (frs outer) [] H H' s.heap s'.heap ∧
 HOk P w H' s'.heap ∧ Fly s.heap.objs.size s'.heap H' a T C d .none ∧ E C d H'
noncomputable def Lands (X : Cx) (EX : St → XK) : Prop := ∀ (pins : List (Addr × Obj)) (σ : St) (H : Hp) (s : Shared) (a : Addr) (T : Option Addr) (C : Value) (d : Option Addr), Inv X pins σ H s → Fly X.s₀.heap.objs.size s.heap H a T C d .none →
 (∀ p ∈ X.pn, p.1 ∉ a :: T.toList) → EX σ C d H → X.xe (.ref a) s
theorem Un.more {fs : List Addr} {H H' : Hp} {h h' h'' : Heap} (u : Un fs [] H H' h h') (k : ∀ b o, b < h.objs.size → h'.get? b = some o → b ∉ fs → h''.get? b = some o) (sl : ∀ b o, b < h.objs.size → h'.get? b = some o → ∃ z, h''.get? b = some { o with slots := z }) : Un fs [] H H' h h'' where
 keep := fun b o q n hb hx => k b o (Heap.lt_size q) (u.keep b o q n hb hx) hb
 slot := fun b o q n hb hx => by
  obtain ⟨z, e⟩ := u.slot b o q n hb hx
  obtain ⟨z', e'⟩ := sl b _ (Heap.lt_size q) e
  exact ⟨z', e'⟩
 free := u.free
 there := fun b o q hx => by
  obtain ⟨o', e⟩ := u.there b o q hx
  obtain ⟨z, e'⟩ := sl b _ (Heap.lt_size q) e
  exact ⟨_, e'⟩
 tups := u.tups
 frzs := u.frzs
 tbls := u.tbls
theorem Lands.passes {X : Cx} {EX : St → XK} (L : Lands X EX) {pins : List (Addr × Obj)} {σ : St} {H : Hp} {s s' : Shared} {e : Value} (I : Inv X pins σ H s) (h : CXE X.prog X.w X.stack H s (EX σ) e s') : X.xe e s' := by
 obtain ⟨a, T, C, d, H', rfl, os, bare, un, hok, F, hE⟩ := h
 have I' : Inv X pins σ H' s' := I.call' (ch := []) os un hok bare fun b hb => nomatch hb
 refine L pins σ H' s' a T C d I' (F.mono I.sz) (fun p hp hc => ?_) hE
 have q := (I.pin p (List.mem_append_left _ hp)).1
 exact absurd (Nat.lt_of_lt_of_le (Heap.lt_size q) (F.lo _ hc).1) (Nat.lt_irrefl _)
noncomputable def Zr (sp : Sp) (EX : St → XK) (t : TA) : TE := fun σ H Q => t σ H fun vs H1 => sp vs H1 Q (EX σ)
section
variable {X : Cx} {EX : St → XK} {k j : Nat} {f : Addr} {fd : FuncData} {ps : List Str} {sp : Sp} {x : Str} {p pos : Pos} {e : Expr} {es : List Expr} {t : TA}
theorem run_fnX {pins : List (Addr × Obj)} {σ : St} {H : Hp} {s : Shared} {Q : VK} {us : List Value} {vs : List V} (F : FnOk X.prog X.w X.K X.mg X.base (CXE X.prog X.w) k f fd ps sp) (hr : Room k X.A) (hb : Binds X.K fd ps []) (hx : Lands X EX)
  (I : Inv X pins σ H s) (r : Vals vs us) (h : sp vs H Q (EX σ)) : wpAny (model X.prog X.w) X.A (call (.ref f) us) (EP X pins σ Q) X.xe s := by
 have hl : us.length = ps.length := by rw [← r.length]; exact F.len _ _ _ _ h
 have hb' := hb s us I.kIn (by rw [List.append_nil]; exact hl)
 rw [List.append_nil] at hb'
 refine wpAny_call (codeAny_mono (F.run X.A X.stack s H ⟨us, []⟩ us vs Q (EX σ) hr I.env0 hb' r h) fun r s' hq => ?_)
 cases r with
 | error e => exact hx.passes I hq
 | ok fl =>
  cases fl with
  | ret u => exact I.after hq
  | next => exact False.elim hq
  | brk => exact False.elim hq
  | cont => exact False.elim hq
noncomputable def HasX (P : Program) (w : World) (K : PySem.W.Frag) (mg : Str → Option Value) (base : Heap) (k : Nat) (x : Str) (ps : List Str) (sp : Sp) : Prop :=
 ∃ (f : Addr) (fd : FuncData), FnOk P w K mg base (CXE P w) k f fd ps sp ∧ mg x = some (.ref f) ∧ PySem.W.keepIn K (.ref f) = true ∧ Binds K fd ps []
theorem yB (h : HasX X.prog X.w X.K X.mg X.base k x ps sp) (L : Lands X EX) (hr : Room j X.A) (hkj : k ≤ j) (ha : PA X (e :: es) t) (hg : Gl X x := by rfl) (h1 : zN e = false := by rfl) (h2 : es.all (fun e => !zN e) = true := by rfl)
  (hdb : (x == ("__debug__" : Str)) = false := by decide) : PE X (.Call (.Name x p) (e :: es) [] pos) (Zr sp EX t) := by
 obtain ⟨f, fd, F, hm, hk, hb⟩ := h
 intro pins s σ H Q I h
 refine wpAny_Call_Name_kw (xP I hg hm ?_ hdb)
 refine PySem.W.callWith_K (h₀ := X.base) I.ok.mod.kin hk (thn (ha pos pins s σ H _ I h) fun us s1 ⟨vs, H1, I1, r, q⟩ => ⟨I1.kIn, ?_⟩) (yY h1) (yM h2)
 exact run_fnX F (hr.mono hkj) hb L I1 r q
end
open Builtin Builtin.ObjectAttr
noncomputable abbrev bmV : List Value := [.type "ValueError", .type "Exception", .type "BaseException", .type "object"]
inductive OverV : List Value → Prop
 | base : OverV bmV
 | own (a : Addr) {l : List Value} : OverV l → OverV (.ref a :: l)
theorem OverV.has {l : List Value} (h : OverV l) {X : String} {b : Bool} (hb : bmV.contains (.type X) = b) : l.contains (.type X) = b := by
 induction h with
 | base => exact hb
 | own a _ ih => rw [List.contains_cons, ih]; rfl
theorem OverV.passes {l : List Value} (h : OverV l) (self : Value) : refuseLoop self "__setattr__" l = pure () := by
 induction h with
 | base => exact PySem.F.store_ValueError.passes self
 | own a _ ih => rw [refuseLoop_ref]; exact ih
structure XC (K : PySem.W.Frag) (C : Addr) (bm : List Value) : Prop where
 at_ : ∃ (nm q : Str) (N : Addr) (bs : List Value) (sn : List Str) (sub : List Value) (ab : Bool) (col : Option Bool) (dd : Option Addr) (k0 k1 k2 k3 k5 : Option Value),
  K.lookup C = some (excClassObj nm q C N bs bm true sn sub ab col dd k0 k1 k2 k3 k5 "ValueError.__new__")
 ov : OverV bm
structure XA (K : PySem.W.Frag) (C : Addr) : Prop where
 bm : ∃ bm, XC K C bm
 ga : PySem.W.findIn K (.ref C) "__getattribute__" = some (some (.builtin "BaseException.__getattribute__"))
 gt : PySem.W.findIn K (.ref C) "__getattr__" = some none
 sa : PySem.W.findIn K (.ref C) "__setattr__" = some (some (.builtin "object.__setattr__"))
 cl : PySem.W.findIn K (.ref C) "__class__" = some (some (.builtin "object.__class__"))
 sg : PySem.W.specialIn K (.builtin "object.__class__") "__get__" = some (some (.builtin "getset_descriptor.__get__"))
 tk : PySem.W.takesIn K (.builtin "object.__class__") = some true
end L2
namespace PySem
open Sem (wp)
open Builtin Builtin.ObjectAttr
open L2 (OverV)
section
variable {prog : Program} {w : World} {A : Around} {E : Value → Shared → Prop} {h : Heap} {g : Array GenState} {d : Drawn} {t : Nat} {os : OsState}
variable {nm q : Str} {C N : Addr} {bs bm : List Value} {sn : List Str} {sub : List Value} {ab : Bool} {col : Option Bool} {dd : Option Addr} {k0 k1 k2 k3 k5 : Option Value}
theorem check_new_x {M : Model} (T : OverV bm) {rest : List Value} {Q : Unit → Shared → Prop} (hC : h.get? C = some (excClassObj nm q C N bs bm true sn sub ab col dd k0 k1 k2 k3 k5 "ValueError.__new__"))
  (hq : Q () ⟨h, g, d, t, os⟩) : wpAny M A (checkBuiltinCall "ValueError.__new__" ⟨.ref C :: rest, []⟩) Q E ⟨h, g, d, t, os⟩ := by
 have F := PySem.F.excBase_ValueError
 have hcont : (Value.ref C :: bm).contains (.type "ValueError") = true := by rw [List.contains_cons, T.has F.hasB, Bool.or_true]
 have hstar := F.noStar
 simp only [checkBuiltinCall, F.newKind, F.newSplit, F.newRow]
 repeat (first | refine wpAny_loadPart_at hC ?_ | (refine wpAny_isSubtype_exc hC ?_; rw [hcont]) | refine wpAny_staticBase_exc hC ?_ | refine wpAny_madeBy_exc hC ?_ | simp only [bne_self_eq_false, Bool.false_eq_true, if_false] | wp_step)
 exact hq
theorem exc_new_x (T : OverV bm) {rest : List Value} {R : Result → Shared → Prop} (hC : h.get? C = some (excClassObj nm q C N bs bm true sn sub ab col dd k0 k1 k2 k3 k5 "ValueError.__new__"))
  (hq : R (.ok (.ret (.ref (h.objs.size + 1)))) ⟨(h.push { cls := .type "tuple", data := .seq rest.toArray }).push
   { cls := .ref C, data := .fields #[.ref h.objs.size, .none, .none, .none, .bool false, .none] }, g, d, t, os⟩) (hrest : rest.length ≤ sizeLine) :
  codeAny (model prog w) A (.builtin "ValueError.__new__" ⟨.ref C :: rest, []⟩) R ⟨h, g, d, t, os⟩ := by
 have F := PySem.F.excBase_ValueError
 have hends := F.ends
 have hcB : (Value.ref C :: bm).contains (.type "ValueError") = true := by rw [List.contains_cons, T.has F.hasB, Bool.or_true]
 have hcA : (Value.ref C :: bm).contains (.type "AttributeError") = false := by rw [List.contains_cons, T.has F.noAttr]; rfl
 have hcN : (Value.ref C :: bm).contains (.type "NameError") = false := by rw [List.contains_cons, T.has F.noName]; rfl
 refine codeAny_builtinAt F.entry ?_
 unfold Builtin.«BaseException.__new__»
 refine wpAt_bind ?_
 show wpAt _ _ _ (stack >>= _) _ _ _
 refine wpAt_bind (wpAt_stack fun p below => wpAt_of_wpAny ?_)
 wp_walk
 refine wpAt_of_wpAny ?_
 rw [F.owner]
 repeat (first | with_reducible refine wpAny_madeHere_exc F.canon hC ?_ | with_reducible refine wpAny_loadPart_at hC ?_ | (with_reducible refine wpAny_isSubtype_exc hC ?_; first | rw [hcB] | rw [hcA] | rw [hcN]) | wp_step)
 show R _ _
 rw [Heap.size_push]
 exact hq
theorem type_call_x (T : OverV bm) {rest : List Value} {fI : Addr} {Q : Fin → Shared → Prop} (hC : h.get? C = some (excClassObj nm q C N bs bm true sn sub ab col dd k0 k1 k2 k3 k5 "ValueError.__new__"))
  (hi : PySem.W.Looks (model prog w) h (typeLookup (.ref C) "__init__") (some (.ref fI))) (hf : ∀ self, PySem.W.Looks (model prog w) h (bindSpecial (.ref fI) self) (.ref fI, [self])) (hrest : rest.length ≤ sizeLine)
  (hq : wpAny (model prog w) A (call (.ref fI) (.ref (h.objs.size + 1) :: rest)) (fun r s' => r = .none ∧ Q (.done (.ret (.ref (h.objs.size + 1)))) s') E
   ⟨(h.push { cls := .type "tuple", data := .seq rest.toArray }).push { cls := .ref C, data := .fields #[.ref h.objs.size, .none, .none, .none, .bool false, .none] }, g, d, t, os⟩) :
  wpAny (model prog w) A (Builtin.«type.__call__» ⟨.ref C :: rest, []⟩) Q E ⟨h, g, d, t, os⟩ := by
 have F := PySem.F.excBase_ValueError
 repeat (first | with_reducible refine wpAny_loadPart_at hC ?_ | with_reducible refine wpAny_madeBy_exc hC ?_ | wp_step)
 refine codeAny_call_builtin_code (Code.quiet_builtin _ F.quiet) (check_new_x T hC ?_)
 refine exc_new_x T hC ?_ hrest
 show wpAny _ _ _ _ _ _
 have hC₁ := Heap.get?_push_of_some { cls := .ref C, data := .fields #[.ref h.objs.size, .none, .none, .none, .bool false, .none] }
  (Heap.get?_push_of_some { cls := .type "tuple", data := .seq rest.toArray } hC)
 have k : ∀ b o, h.get? b = some o → ((h.push { cls := .type "tuple", data := .seq rest.toArray }).push { cls := .ref C, data := .fields #[.ref h.objs.size, .none, .none, .none, .bool false, .none] }).get? b = some o := fun b o e => Heap.get?_push_of_some _ (Heap.get?_push_of_some _ e)
 have hget : ((h.push { cls := .type "tuple", data := .seq rest.toArray }).push
   { cls := .ref C, data := .fields #[.ref h.objs.size, .none, .none, .none, .bool false, .none] }).get? (h.objs.size + 1) = some
   { cls := .ref C, data := .fields #[.ref h.objs.size, .none, .none, .none, .bool false, .none] } := by heap_get
 have hcC : (Value.ref C :: bm).contains (.ref C) = true := by simp
 have i1 := hi.keeps k
 have b1 := (hf (.ref (h.objs.size + 1))).keeps k
 unfold isInstance
 repeat (first | with_reducible refine wpAny_loadPart_at hget ?_ | (with_reducible refine wpAny_isSubtype_exc hC₁ ?_; rw [hcC]) | wp_step)
 show wpAny _ _ (typeLookup (.ref C) _) _ _ _
 refine i1.at ?_
 refine wpAny_holding (wpAny_bind (b1.at ?_))
 refine wpAny_bind (wpAny_mono hq (fun r s' z => ?_) fun _ _ x => x)
 obtain ⟨rfl, z⟩ := z
 wp_walk
 exact z
theorem make_x (T : OverV bm) {rest : List Value} {fI : Addr} {Q : Value → Shared → Prop} (hC : h.get? C = some (excClassObj nm q C N bs bm true sn sub ab col dd k0 k1 k2 k3 k5 "ValueError.__new__"))
  (hi : PySem.W.Looks (model prog w) h (typeLookup (.ref C) "__init__") (some (.ref fI))) (hf : ∀ self, PySem.W.Looks (model prog w) h (bindSpecial (.ref fI) self) (.ref fI, [self])) (hrest : rest.length ≤ sizeLine)
  (hq : wpAny (model prog w) (A.under (.builtin "type.__call__" ⟨.ref C :: rest, []⟩)) (call (.ref fI) (.ref (h.objs.size + 1) :: rest)) (fun r s' => r = .none ∧ Q (.ref (h.objs.size + 1)) s') E
   ⟨(h.push { cls := .type "tuple", data := .seq rest.toArray }).push { cls := .ref C, data := .fields #[.ref h.objs.size, .none, .none, .none, .bool false, .none] }, g, d, t, os⟩) :
  wpAny (model prog w) A (call (.ref C) rest) Q E ⟨h, g, d, t, os⟩ := by
 have f1 := tc_lookup
 have f2 := tc_bind (.ref C)
 have hT : (⟨h, g, d, t, os⟩ : Shared).TypeIs (.ref C) "type" := ⟨_, hC, rfl⟩
 refine wpAny_call (codeAny_of_tree ?_)
 show wpAny _ _ (callAny (.ref C) _) _ _ _
 repeat (any_goals (first | assumption | with_reducible refine wpAny_loadPart_at hC ?_ | wp_step))
 refine ⟨rfl, ?_⟩
 refine codeAny_call_builtin_at (Code.quiet_builtin _ (by decide +kernel)) entry_typeCall (wpAny_check_type_call_sub hC (type_call_x T hC hi hf hrest ?_))
 exact hq
end
end PySem
namespace PySem
open Sem (wp)
open Builtin Builtin.ObjectAttr
open L2 (OverV XC XA bmV)
section
variable {prog : Program} {w : World} {A : Around} {E : Value → Shared → Prop} {h : Heap} {g : Array GenState} {d : Drawn} {t : Nat} {os : OsState}
variable {nm q : Str} {C N x : Addr} {bs bm : List Value} {sn : List Str} {sub : List Value} {ab : Bool} {col : Option Bool} {dd : Option Addr} {k0 k1 k2 k3 k5 : Option Value}
 {mA : Str → Option Value} {name : Str} {v : Value}
theorem store_entry_x {tk : Tok} {Q : Fin → Shared → Prop} {ns : List Str} (T : OverV bm)
  (hC : h.get? C = some (excClassObj nm q C N bs bm true sn sub ab col dd k0 k1 k2 k3 k5 "ValueError.__new__")) (hna : PySem.W.Looks (model prog w) h (typeLookup (.ref C) name) none) (hxC : x ≠ C) (I : h.Inst x C mA)
  (hq : ∀ h' tk', h'.Inst x C (fun y => if y = name then some v else mA y) →
   (∀ b o, b ≠ x → (∀ o₀ dx, h.get? x = some o₀ → o₀.dict = some dx → b ≠ dx) → h.get? b = some o → h'.get? b = some o) →
   (∀ o₀, h.get? x = some o₀ → ∃ o₁, h'.get? x = some o₁ ∧ o₁.cls = o₀.cls ∧ o₁.data = o₀.data ∧ o₁.slots = o₀.slots ∧ (∀ dx, o₀.dict = some dx → o₁.dict = some dx) ∧ (o₀.dict = none → o₁.dict = some h.objs.size)) → Q (.done (.ret .none)) ⟨h', g, d, tk', os⟩) (hw : Within mA ns) (hsz : ns.length ≤ sizeLine) :
  wpAny (model prog w) A (Builtin.«object.__setattr__» ⟨[.ref x, .str name tk, v], []⟩) Q E ⟨h, g, d, t, os⟩ := by
 obtain ⟨o, hx, hc, hnc, hd⟩ := I
 have hpass := T.passes (.ref x)
 unfold Builtin.«object.__setattr__»
 repeat (first | rw [refuse_eq] | (rw [refuseLoop_ref, hpass]) | (with_reducible refine wpAny_loadPart_at hx ?_; rw [hc]) | with_reducible refine wpAny_mroOf_exc hC ?_ | with_reducible refine hna.at ?_ | wp_step)
 rcases hd with ⟨hdn, hmA⟩ | ⟨dx, hdx, hne, hns⟩
 ·rw [hdn, if_neg (by simp [typeHasDict])]
  split
  ·rename_i hcd
   cases hcd
  split
  ·rename_i c hcd
   exact absurd hcd (hnc c)
  ·have hx₁ : (h.push { cls := .type "dict", data := .dict #[] }).get? x = some o := Heap.get?_push_of_some _ hx
   have hxs : x ≠ h.objs.size := Nat.ne_of_lt (Heap.lt_size hx)
   refine wpAny_bind (wpAny_alloc' ?_)
   refine wpAny_bind (wpAny_update' hx₁ ?_)
   refine wpAny_pure ?_
   have hgd : ((h.push { cls := .type "dict", data := .dict #[] }).update x fun o => { cls := o.cls, dict := some h.objs.size, data := o.data, slots := o.slots }).get? h.objs.size
     = some { cls := .type "dict", data := .dict #[] } :=
    (Heap.get?_update_ne _ _ _ _ hxs.symm).trans (Heap.get?_push_at rfl rfl)
   have hnd : ((h.push { cls := .type "dict", data := .dict #[] }).update x fun o => { cls := o.cls, dict := some h.objs.size, data := o.data, slots := o.slots }).Ns h.objs.size (fun _ => none) :=
    ⟨_, #[], _, hgd, rfl, fun e he => absurd he (by simp), fun _ => rfl⟩
   show wpAny _ _ (storeInDict h.objs.size (.str name tk) name v) _ _ _
   unfold storeInDict newKeyGuard
   refine wpAny_bind (wpAny_pure (wpAny_bind (wpAny_nsSet1 (Heap.Ns1.of_empty hnd) fun h' hn' hs => ?_)))
   obtain ⟨oD, esD, epD, hoD, hdD, hcD⟩ := hn'.count (Within.cons name v Within.nil)
   refine wpAny_bind (wpAny_lookBehind hoD (by rw [hdD]; exact pastItsLine_dict (Nat.le_trans hcD (by rw [List.length_cons, List.length_nil, sizeLine_eq]; lia))) ?_)
   wp_walk
   have hx' : h'.get? x = some { cls := o.cls, dict := some h.objs.size, data := o.data, slots := o.slots } := ?_
   refine hq h' _ ⟨{ cls := o.cls, dict := some h.objs.size, data := o.data, slots := o.slots }, hx', hc, hnc, .inr ⟨h.objs.size, rfl, hxs.symm, ?_⟩⟩ (fun b ob hbx _ hb => ?_)
    (fun o₀ h₀ => by obtain rfl : o = o₀ := Option.some.inj (hx.symm.trans h₀); exact ⟨_, hx', rfl, rfl, rfl, fun dx e => (by rw [hdn] at e; cases e), fun _ => rfl⟩)
   ·obtain ⟨o', es, ep, e1, e2, e3, eu, e4⟩ := hn'
    exact ⟨o', es, ep, e1, e2, e3, eu, fun y => by rw [e4 y]; by_cases hy : y = name <;> simp [hy, hmA]⟩
   ·exact (hs.2 b (Nat.ne_of_lt (Heap.lt_size hb))).trans ((Heap.get?_update_ne _ _ _ _ hbx).trans (Heap.get?_push_of_some _ hb))
   ·refine (hs.2 x hxs).trans (Heap.get?_update_self _ hx₁ ?_)
    have hfr := (Heap.get?_some_iff.mp hx).2
    obtain ⟨oc, od, odt, osl⟩ := o
    cases odt <;> first | rfl | exact hfr
 ·rw [hdx]
  refine wpAny_pure ?_
  show wpAny _ _ (storeInDict dx (.str name tk) name v) _ _ _
  unfold storeInDict newKeyGuard
  refine wpAny_bind (wpAny_pure (wpAny_bind (wpAny_nsSet1 hns fun h' hn' hs => ?_)))
  obtain ⟨oD, esD, epD, hoD, hdD, hcD⟩ := hn'.count (Within.cons name v hw)
  refine wpAny_bind (wpAny_lookBehind hoD (by rw [hdD]; exact pastItsLine_dict (Nat.le_trans hcD (by rw [List.length_cons]; lia))) ?_)
  wp_walk
  refine hq h' _ ⟨o, (hs.2 x hne.symm).trans hx, hc, hnc, .inr ⟨dx, hdx, hne, hn'⟩⟩ (fun b ob _ hbd hb => ?_)
   (fun o₀ h₀ => ⟨o₀, (hs.2 x hne.symm).trans h₀, rfl, rfl, rfl, fun _ e => e, fun e => by obtain rfl : o = o₀ := Option.some.inj (hx.symm.trans h₀); rw [hdx] at e; cases e⟩)
  exact (hs.2 b (hbd o dx hx hdx)).trans hb
theorem check_sa_x {M : Model} {o : Obj} {nameV : Value} {Q : Unit → Shared → Prop} (T : OverV bm)
  (hC : h.get? C = some (excClassObj nm q C N bs bm true sn sub ab col dd k0 k1 k2 k3 k5 "ValueError.__new__")) (hx : h.get? x = some o) (hc : o.cls = .ref C) (hq : Q () ⟨h, g, d, t, os⟩) :
  wpAny M A (checkBuiltinCall "object.__setattr__" ⟨[.ref x, nameV, v], []⟩) Q E ⟨h, g, d, t, os⟩ := by
 have SF := PySem.F.store_ValueError
 have hcB : (Value.ref C :: bm).contains (.type "object") = true := by rw [List.contains_cons, T.has SF.hasOwner, Bool.or_true]
 have ha := SF.args (.ref x) nameV v
 simp only [checkBuiltinCall, SF.kind, SF.split]
 refine wpAny_bind ?_
 ·unfold isInstance
  repeat (first | (with_reducible refine wpAny_loadPart_at hx ?_; rw [hc]) | (with_reducible refine wpAny_isSubtype_exc hC ?_; rw [hcB]) | wp_step)
  exact hq
theorem Y0 {Q : Unit → Shared → Prop} {ns : List Str} (T : OverV bm)
  (hC : h.get? C = some (excClassObj nm q C N bs bm true sn sub ab col dd k0 k1 k2 k3 k5 "ValueError.__new__")) (hsa : PySem.W.Looks (model prog w) h (typeLookup (.ref C) "__setattr__") (some (.builtin "object.__setattr__")))
  (hna : PySem.W.Looks (model prog w) h (typeLookup (.ref C) name) none) (hxC : x ≠ C) (I : h.Inst x C mA)
  (hq : ∀ h' tk', h'.Inst x C (fun y => if y = name then some v else mA y) →
   (∀ b o, b ≠ x → (∀ o₀ dx, h.get? x = some o₀ → o₀.dict = some dx → b ≠ dx) → h.get? b = some o → h'.get? b = some o) →
   (∀ o₀, h.get? x = some o₀ → ∃ o₁, h'.get? x = some o₁ ∧ o₁.cls = o₀.cls ∧ o₁.data = o₀.data ∧ o₁.slots = o₀.slots ∧ (∀ dx, o₀.dict = some dx → o₁.dict = some dx) ∧ (o₀.dict = none → o₁.dict = some h.objs.size)) → Q () ⟨h', g, d, tk', os⟩) (hw : Within mA ns) (hsz : ns.length ≤ sizeLine) :
  wpAny (model prog w) A (setAttr (.ref x) name v) Q E ⟨h, g, d, t, os⟩ := by
 obtain ⟨o, hx, hc, _⟩ := id I
 have SF := PySem.F.store_ValueError
 have f3 := SF.slot.bind (.ref x)
 unfold setAttr callSpecial? specialOf
 repeat (any_goals (first | assumption | (with_reducible refine wpAny_loadPart_at hx ?_; rw [hc]) | with_reducible refine hsa.at ?_ | wp_step))
 refine codeAny_call_builtin SF.slot.plain SF.entry (check_sa_x T hC hx hc (store_entry_x T hC hna hxC I (fun h' tk' I' hk hsame => ?_) hw hsz))
 repeat (any_goals (first | assumption | wp_step))
 exact hq h' tk' I' hk hsame
end
section
variable {prog : Program} {w : World} {A : Around} {E : Value → Shared → Prop} {h : Heap} {g : Array GenState} {d : Drawn} {t : Nat} {os : OsState} {K : PySem.W.Frag}
variable {nm q : Str} {C N x : Addr} {bs bm : List Value} {sn : List Str} {sub : List Value} {ab : Bool} {col : Option Bool} {dd : Option Addr} {k0 k1 k2 k3 k5 : Option Value}
 {name : Str} {v : Value} {ox : Obj} {od : Option Obj}
theorem vH {M : Model} {nameV : Value} {Q : Unit → Shared → Prop} (T : OverV bm) (hC : h.get? C = some (excClassObj nm q C N bs bm true sn sub ab col dd k0 k1 k2 k3 k5 "ValueError.__new__"))
  (hx : h.get? x = some ox) (hc : ox.cls = .ref C) (hq : Q () ⟨h, g, d, t, os⟩) : wpAny M A (checkBuiltinCall "BaseException.__getattribute__" ⟨[.ref x, nameV], []⟩) Q E ⟨h, g, d, t, os⟩ := by
 have hk : builtinKind "BaseException.__getattribute__" = some .slot := by decide +kernel
 have hsplit : splitId "BaseException.__getattribute__" = some ("BaseException", "__getattribute__") := by decide +kernel
 have hcB : (Value.ref C :: bm).contains (.type "BaseException") = true := by rw [List.contains_cons, T.has (b := true) (by decide +kernel)]; rfl
 have ha := F.args_bexc_ga (.ref x) nameV
 simp only [checkBuiltinCall, hk, hsplit]
 refine wpAny_bind ?_
 ·unfold isInstance
  repeat (first | (with_reducible refine wpAny_loadPart_at hx ?_; rw [hc]) | (with_reducible refine wpAny_isSubtype_exc hC ?_; rw [hcB]) | wp_step)
  exact hq
theorem load_x {expr : Bool} {Q : Value → Shared → Prop} (T : OverV bm) (hC : h.get? C = some (excClassObj nm q C N bs bm true sn sub ab col dd k0 k1 k2 k3 k5 "ValueError.__new__")) (X : K.In h)
  (hga : PySem.W.findIn K (.ref C) "__getattribute__" = some (some (.builtin "BaseException.__getattribute__"))) (hgt : PySem.W.findIn K (.ref C) "__getattr__" = some none)
  (I : PySem.W.InstAt h x ox C od) (hf : PySem.W.findObj K C od name = some (.value v)) (hh : PySem.W.handedIn v = true) (hq : Q v ⟨h, g, d, t + 1, os⟩) :
  wpAny (model prog w) A (getAttr (.ref x) name expr) Q E ⟨h, g, d, t, os⟩ := by
 have FB := PySem.F.attrBase_ValueError
 have f3 := FB.ga.bind (.ref x)
 have hx0 : (expr && onTheHeap (Value.builtin "BaseException.__getattribute__")) = false := by cases expr <;> rfl
 have hx2 : (Value.builtin "BaseException.__getattribute__" == Value.builtin "object.__getattribute__") = false := by decide +kernel
 have hx1 : (onTheHeap (Value.ref C) && Value.builtin "BaseException.__getattribute__" == Value.builtin "object.__getattribute__") = false := by rw [hx2]; rfl
 have L0 := I.type (M := model prog w)
 have L1 := PySem.W.looks_findIn (M := model prog w) X hga
 have L2 := PySem.W.looks_findIn (M := model prog w) X hgt
 have L3 := PySem.W.looks_find (M := model prog w) X I hf
 unfold getAttr getAttrBy
 refine wpAny_bind (wpAny_mkText (wpAny_holding (wpAny_bind (L0.at (wpAny_bind (L1.at ?_))))))
 dsimp only
 rw [hx1, if_neg (by decide)]
 unfold getAttrByItsOwn
 have ho : hookBefore (.ref C) = typeLookup (.ref C) "__getattr__" := rfl
 rw [ho]
 refine wpAny_bind (L2.at (wpAny_bind (wpAny_attempt (wpAny_holding ?_))))
 unfold callGetattribute
 rw [hx0, if_neg (by decide)]
 unfold boundAndCalled
 rw [f3]
 refine wpAny_bind (wpAny_pure ?_)
 refine wpAny_call (codeAny_call_builtin FB.ga.plain F.entry_bexc_ga (vH T hC I.at_ I.cls ?_))
 unfold Builtin.«object.__getattribute__»
 repeat (first | with_reducible refine L0.at ?_ | with_reducible refine L3.at ?_ | wp_step)
 show wpAny _ _ (handedOut v) _ _ _
 rw [PySem.W.handedOut_of hh]
 exact wpAny_pure hq
end
end PySem
namespace L2
open PySem PySem.Spec PyProof.Rows
noncomputable def XObj (a C : Addr) (d : Option Addr) (vs : Array Value) : HO := .ext fun h => ∃ sl, h.get? a = some ⟨.ref C, d, .fields vs, sl⟩
noncomputable def XDct (dx : Addr) (fs : List (Str × V)) : HO := .ext fun h => ∃ mA, h.Ns1 dx mA ∧ (∀ f, RelO (fs.lookup f) (mA f)) ∧ PySem.Within mA (fs.map (·.1))
section
variable {P : Program} {w : World} {H : Hp} {h : Heap} {a C dx : Addr} {d : Option Addr} {vs : Array Value} {fs : List (Str × V)}
theorem xz (ok : HOk P w H h) (e : H a = some (XObj a C d vs)) : ∃ sl, h.get? a = some ⟨.ref C, d, .fields vs, sl⟩ := (ok a _ e).1
theorem vc (ok : HOk P w H h) (e : H dx = some (XDct dx fs)) : ∃ mA, h.Ns1 dx mA ∧ (∀ f, RelO (fs.lookup f) (mA f)) ∧ PySem.Within mA (fs.map (·.1)) := (ok dx _ e).1
theorem Zl {sl : Array (Option Value)} (e : h.get? a = some ⟨.ref C, d, .fields vs, sl⟩) : ObjOk P w H h a (XObj a C d vs) := ⟨⟨sl, e⟩, ⟨_, e⟩, fun h1 h2 ⟨z, q⟩ k => ⟨z, k _ q⟩⟩
theorem YM {mA : Str → Option Value} (n : h.Ns1 dx mA) (r : ∀ f, RelO (fs.lookup f) (mA f)) (wi : PySem.Within mA (fs.map (·.1))) : ObjOk P w H h dx (XDct dx fs) := by
 refine ⟨⟨mA, n, r, wi⟩, ?_, fun h1 h2 ⟨m, ⟨o, es, ep, e, c⟩, r, wi⟩ k => ⟨m, ⟨o, es, ep, k _ e, c⟩, r, wi⟩⟩
 obtain ⟨o, _, _, e, _⟩ := n
 exact ⟨o, e⟩
end
section
variable {X : Cx} {pins : List (Addr × Obj)} {σ : St} {H : Hp} {s : Shared} {h' : Heap}
theorem Inv.two {a dx : Addr} {o o' : HO} {φ : Heap → Prop} {t' : Nat} (I : Inv X pins σ H s) (mu : H a = some (.ext φ)) (hdx : s.heap.objs.size ≤ dx) (k : ∀ b u, b ≠ a → s.heap.get? b = some u → h'.get? b = some u) (ha : ∃ u, h'.get? a = some u)
  (n1 : ObjOk X.prog X.w (upd (upd H dx o) a o') h' dx o) (n2 : ObjOk X.prog X.w (upd (upd H dx o) a o') h' a o') : Inv X pins σ (upd (upd H dx o) a o') { s with heap := h', toks := t' } := by
 have hn : H dx = none := I.hok.fresh hdx
 have up : ∀ b, b ≠ a → b ≠ dx → upd (upd H dx o) a o' b = H b := fun b h1 h2 => by rw [zg h1, zg h2]
 have nea : ∀ b u, H b = some u → (∀ φ, u ≠ .ext φ) → b ≠ a ∧ b ≠ dx := fun b u e hu => ⟨fun z => by rw [z, mu] at e; exact hu φ (Option.some.inj e).symm, zi e hn⟩
 refine I.un ⟨fun b ob e n _ _ => k b ob (fun z => by rw [z, mu] at n; cases n) e, fun b ob e n _ _ => ⟨ob.slots, k b ob (fun z => by rw [z, mu] at n; cases n) e⟩, fun b ob e n _ => ?_, fun b ob e _ => ?_, fun b xs e => ?_, fun b ob u e => ?_, fun b ps e => ⟨#[], ?_⟩⟩ fun b u e => ?_
 ·rw [up b (fun z => by rw [z, mu] at n; cases n) fun z => absurd (Nat.lt_of_lt_of_le (Heap.lt_size e) (z ▸ hdx)) (Nat.lt_irrefl _)]; exact n
 ·by_cases q : b = a
  ·rw [q]; exact ha
  ·exact ⟨ob, k b ob q e⟩
 ·have q := nea b _ e (fun _ z => by cases z); rw [up b q.1 q.2]; exact e
 ·have q := nea b _ e (fun _ z => by cases z); rw [up b q.1 q.2]; exact e
 ·have q := nea b _ e (fun _ z => by cases z); rw [up b q.1 q.2, e]; simp
 ·by_cases q : b = a
  ·rw [q, zb] at e; cases e; rw [q]; exact n2
  ·by_cases q2 : b = dx
   ·rw [q2] at q; rw [q2, zg q, zb] at e; cases e; rw [q2]; exact n1
   ·rw [up b q q2] at e
    refine (I.hok b u e).stay (fun c v hc z => k c v (fun y => ?_) z) (fun c z => ?_) fun c xs z => ?_
    ·rcases hc with hc | hc
     ·exact q (hc ▸ y)
     ·rw [y, mu] at hc; cases hc
    ·have q := nea c _ z (fun _ z => by cases z); rw [up c q.1 q.2]; exact z
    ·have q := nea c _ z (fun _ z => by cases z); rw [up c q.1 q.2]; exact z
theorem Inv.inst {a C : Addr} {d : Option Addr} {vs : Array Value} {bm : List Value} (I : Inv X pins σ H s) (e : H a = some (XObj a C d vs)) (xc : XC X.K C bm) : a ≠ C := by
 obtain ⟨nm, q, N, bs, sn, sub, ab, col, dd, k0, k1, k2, k3, k5, hl⟩ := xc.at_
 have hC := I.kIn _ _ hl
 obtain ⟨sl, ha⟩ := xz I.hok e
 rintro rfl
 rw [hC] at ha
 cases ha
noncomputable def XSt (H : Hp) (a C : Addr) (d : Option Addr) (vs : Array Value) (f : Str) (y : V) (G : Hp → Prop) : Prop := match d with
 | none => ∀ dx, H dx = none → dx ≠ a → G (upd (upd H dx (XDct dx [(f, y)])) a (XObj a C (some dx) vs))
 | some dx => ∃ fs, H dx = some (XDct dx fs) ∧ fs.length < 100 ∧ G (upd H dx (XDct dx (putF f y fs)))
theorem setattr_x {A : Around} {E : Value → Shared → Prop} {a C : Addr} {d : Option Addr} {vs : Array Value} {f : Str} {y : V} {u : Value} {Q : Unit → Shared → Prop} (I : Inv X pins σ H s) (e : H a = some (XObj a C d vs)) (xa : XA X.K C) (n : zW X.K C f) (ry : RelV y u)
  (h : XSt H a C d vs f y fun H' => ∀ s', Inv X pins σ H' s' → Q () s') : wpAny (model X.prog X.w) A (setAttr (.ref a) f u) Q E s := by
 obtain ⟨bm, xc⟩ := xa.bm
 have hne := I.inst e xc
 obtain ⟨nm, q, N, bs, sn, sub, ab, col, dd, k0, k1, k2, k3, k5, hl⟩ := xc.at_
 obtain ⟨sl, ha⟩ := xz I.hok e
 have K := I.kIn
 have L1 := PySem.W.looks_findIn (M := model X.prog X.w) K xa.sa
 have L2 := PySem.W.looks_findIn (M := model X.prog X.w) K (show PySem.W.findIn X.K (.ref C) f = some none from n)
 have hC := K _ _ hl
 obtain ⟨hh, g, dr, t, os⟩ := s
 cases d with
 | none =>
  refine Y0 (mA := fun _ => none) (ns := []) xc.ov hC L1 L2 hne ⟨_, ha, rfl, fun c z => (by cases z), .inl ⟨rfl, fun _ => rfl⟩⟩ (fun h' tk' inst k same => ?_) PySem.Within.nil (by decide)
  obtain ⟨o1, e1, c1, d1, s1, _, d2⟩ := same _ ha
  have d2 := d2 rfl
  obtain ⟨o2, e2, _, _, z⟩ := inst
  rw [e1] at e2; cases e2
  have hd : hh.objs.size ≠ a := Nat.ne_of_gt (Heap.lt_size ha)
  refine h hh.objs.size (I.hok.fresh (Nat.le_refl _)) hd _ (I.two (t' := tk') (h' := h') e (Nat.le_refl _) (fun b u hb z => k b u hb (fun o₀ dx h0 hdx => by rw [ha] at h0; cases h0; cases hdx) z) ⟨_, e1⟩ ?_ ?_)
  ·rcases z with ⟨z, _⟩ | ⟨d3, z, _, ns⟩
   ·rw [d2] at z; cases z
   ·rw [d2] at z; cases z
    refine YM ns (fun g => ?_) fun g hg => ?_
    ·show RelO (List.lookup g [(f, y)]) (if g = f then some u else none)
     by_cases q : g = f
     ·have hb : (g == f) = true := beq_iff_eq.mpr q
      simp only [List.lookup, hb, if_pos q]; exact ry
     ·have hb : (g == f) = false := beq_eq_false_iff_ne.mpr q
      simp only [List.lookup, hb, if_neg q]; exact True.intro
    ·by_cases q : g = f
     ·rw [q]; simp
     ·exact absurd (if_neg q) hg
  ·obtain ⟨oc, od, odt, osl⟩ := o1
   dsimp only at c1 d1 s1 d2
   rw [c1, d1, s1, d2] at e1
   exact Zl e1
 | some dx =>
  obtain ⟨fs, ed, hl', h⟩ := h
  obtain ⟨mA, n1, r, wi⟩ := vc I.hok ed
  have hda : dx ≠ a := fun z => by
   obtain ⟨o, es, ep, e1, e2, _⟩ := n1
   rw [z, ha] at e1; cases e1; cases e2
  refine Y0 (mA := mA) (ns := fs.map (·.1)) xc.ov hC L1 L2 hne ⟨_, ha, rfl, fun c z => (by cases z), .inr ⟨dx, rfl, hda, n1⟩⟩ (fun h' tk' inst k same => ?_) wi (by rw [List.length_map, sizeLine_eq]; lia)
  obtain ⟨o1, e1, c1, d1, s1, d2, _⟩ := same _ ha
  have d2 := d2 dx rfl
  obtain ⟨o2, e2, _, _, z⟩ := inst
  rw [e1] at e2; cases e2
  obtain ⟨oc, od, odt, osl⟩ := o1
  dsimp only at c1 d1 s1 d2
  rw [c1, d1, s1, d2] at e1
  have ns : h'.Ns1 dx (fun y => if y = f then some u else mA y) := by
   rcases z with ⟨z, _⟩ | ⟨d3, z, _, ns⟩
   ·have z : od = none := z
    rw [d2] at z; cases z
   ·have z : od = some d3 := z
    rw [d2] at z; cases z; exact ns
  refine h _ (I.write (x := dx) (e := dx) (t' := tk') (h' := h') (by rw [ed]; exact True.intro) (.inl rfl) (fun b u hb z => ?_) (by obtain ⟨o, _, _, e, _⟩ := ns; exact ⟨o, e⟩) (YM ns (fun g => ?_) fun g hg => ?_))
  ·by_cases q : b = a
   ·rw [q] at z ⊢
    have z : hh.get? a = some u := z
    rw [ha] at z; cases z; exact e1
   ·exact k b u q (fun o₀ dx' h0 hdx => by rw [ha] at h0; cases h0; cases hdx; exact hb) z
  ·show RelO ((putF f y fs).lookup g) (if g = f then some u else mA g)
   rw [wX]
   by_cases q : g = f
   ·rw [if_pos q, if_pos q]; exact ry
   ·rw [if_neg q, if_neg q]; exact r g
  ·by_cases q : g = f
   ·rw [q]; exact (wO f y fs).1
   ·refine (wO f y fs).2 g (wi g fun z => hg ?_)
    show (if g = f then some u else mA g) = none
    rw [if_neg q]; exact z
theorem getattr_x {A : Around} {E : Value → Shared → Prop} {a C dx : Addr} {vs : Array Value} {fs : List (Str × V)} {f : Str} {v : V} {b : Bool} {Q : Value → Shared → Prop} (I : Inv X pins σ H s) (e : H a = some (XObj a C (some dx) vs)) (ed : H dx = some (XDct dx fs)) (xa : XA X.K C) (n : zW X.K C f)
  (l : fs.lookup f = some v) (h : ∀ u s', Inv X pins σ H s' → RelV v u → Q u s') : wpAny (model X.prog X.w) A (getAttr (.ref a) f b) Q E s := by
 obtain ⟨bm, xc⟩ := xa.bm
 obtain ⟨nm, q, N, bs, sn, sub, ab, col, dd, k0, k1, k2, k3, k5, hl⟩ := xc.at_
 obtain ⟨sl, ha⟩ := xz I.hok e
 obtain ⟨mA, n1, r, wi⟩ := vc I.hok ed
 obtain ⟨u, hu, ru⟩ := RelO.some_of (v := v) (o := mA f) (by rw [← l]; exact r f)
 obtain ⟨od, J, hlk⟩ := vW n1
 have K := I.kIn
 have hC := K _ _ hl
 have hh : PySem.W.hasDictIn X.K C = true := by
  unfold PySem.W.hasDictIn PySem.W.clsIn
  rw [hl]; rfl
 obtain ⟨hp, g, dr, t, os⟩ := s
 exact load_x (ox := ⟨.ref C, some dx, .fields vs, sl⟩) (od := some od) xc.ov hC K xa.ga xa.gt ⟨ha, rfl, rfl, J⟩ (PySem.W.findObj_own hh n rfl (by rw [hlk, hu])) (handed_of ru) (h u _ (I.tok _) ru)
end
noncomputable def sXf (K : PySem.W.Frag) (ta tv : TE) (f : Str) : TS := fun D σ H => tv σ H fun y H1 => ta σ H1 fun x H2 => ∃ (a C : Addr) (d : Option Addr) (vs : Array Value), x = .ref a ∧ H2 a = some (XObj a C d vs) ∧ XA K C ∧ zW K C f ∧ XSt H2 a C d vs f y (D.nx σ)
noncomputable def tXf (K : PySem.W.Frag) (ta : TE) (f : Str) : TE := fun σ H Q => ta σ H fun x H1 => ∃ (a C dx : Addr) (vs : Array Value) (fs : List (Str × V)) (v : V), x = .ref a ∧ H1 a = some (XObj a C (some dx) vs) ∧ H1 dx = some (XDct dx fs) ∧ XA K C ∧ zW K C f ∧ fs.lookup f = some v ∧ Q v H1
section
variable {X : Cx} {e o value : Expr} {ta tv : TE} {f : Str} {pos pos' : Pos}
theorem pe_xf (he : PE X e ta) (hb : attributeBase e f X.env (eval e X.env) = eval e X.env := by rfl) : PE X (.Attribute e f pos) (tXf X.K ta f) := by
 intro pins s σ H Q I h
 refine attr_of hb (thn (he pins s σ H _ I h) fun u s1 ⟨x, H1, I1, rx, a, C, dx, vs, fs, v, ex, ea, ed, c, n, l, q⟩ => ?_)
 subst ex
 obtain rfl : u = Value.ref a := rx
 exact getattr_x I1 ea ed c n l fun u' s2 I2 ru => ⟨v, H1, I2, ru, q⟩
theorem WF (ha : PE X o ta) (hv : PE X value tv) (hs : swapsWith value (some (.Attribute o f pos')) pos.line X.env = pure false := by rfl) : PS X (.Assign [.Attribute o f pos'] value pos) (sXf X.K ta tv f) := by
 intro pins s σ H D I h
 refine plainObj_wpAny_Assign_Attribute (thn (hv pins s σ H _ I h) fun u s1 ⟨y, H1, I1, ry, q⟩ => thn (ha pins s1 σ H1 _ I1 q) fun ov s2 ⟨x, H2, I2, rx, a, C, d, vs, ex, ea, c, n, q2⟩ => ?_) hs
 subst ex
 obtain rfl : ov = Value.ref a := rx
 refine setattr_x I2 ea c n ry ?_
 cases d with
 | none => exact fun dx h1 h2 s3 I3 => ⟨σ, _, I3, q2 dx h1 h2⟩
 | some dx =>
  obtain ⟨fs, h1, h2, q2⟩ := q2
  exact ⟨fs, h1, h2, fun s3 I3 => ⟨σ, _, I3, q2⟩⟩
end
end L2
namespace PySem
open Sem (wp)
open L2 (OverV)
section
variable {M : Model} {A : Around} {E : Value → Shared → Prop} {env : Env}
variable {nm q : Str} {C N : Addr} {bs bm : List Value} {sn : List Str} {sub : List Value} {ab : Bool} {col : Option Bool} {dd : Option Addr} {k0 k1 k2 k3 k5 : Option Value}
theorem raise_made_x {s : Shared} {x : Sem Value} {Q : Flow → Shared → Prop} (T : OverV bm) (hh : A.handled = none)
  (h : wpAny M A x (fun v s₁ => ∃ e vs d sl, v = .ref e ∧ s₁.heap.get? C = some (excClassObj nm q C N bs bm true sn sub ab col dd k0 k1 k2 k3 k5 "ValueError.__new__") ∧
   s₁.heap.get? e = some ⟨.ref C, d, .fields vs, sl⟩ ∧ vs[1]? = some .none ∧ E (.ref e) s₁) E s) :
  wpAny M A (raiseStmt env (some x) none) Q E s := by
 have hcB : (Value.ref C :: bm).contains (.type "BaseException") = true := by rw [List.contains_cons, T.has (b := true) (by decide +kernel), Bool.or_true]
 unfold raiseStmt
 refine wpAny_bind (wpAny_mono h (fun v s₁ h₁ => ?_) fun _ _ x => x)
 obtain ⟨e, vs, d, sl, rfl, hC, he, h1, hE⟩ := h₁
 obtain ⟨hp, g, dr, tk, os⟩ := s₁
 unfold setFlight
 repeat (first | with_reducible refine wpAny_loadPart_at he ?_ | with_reducible refine wpAny_loadPart_at hC ?_ | (with_reducible refine wpAny_isSubtype_exc hC ?_; rw [hcB]) | with_reducible refine wpAny_field he rfl h1 ?_ | wp_step)
 exact wpAny_raiseNew_none hh hE
end
end PySem
namespace L2
open PySem PySem.Spec PyProof.Rows
noncomputable def unt (H : Hp) (a : Addr) : Hp := fun b => if b = a then none else H b
theorem wm {H : Hp} {a : Addr} : unt H a a = none := if_pos rfl
theorem xA {H : Hp} {a b : Addr} (h : b ≠ a) : unt H a b = H b := if_neg h
structure XMk (K : PySem.W.Frag) (C f : Addr) : Prop where
 init : PySem.W.findIn K (.ref C) "__init__" = some (some (.ref f))
 fn : PySem.W.isFn K (.ref f) = true
 kp : PySem.W.keepIn K (.ref C) = true
 xa : XA K C
section
variable {X : Cx} {pins : List (Addr × Obj)} {σ : St} {H : Hp} {s : Shared}
theorem Inv.drop {a : Addr} {φ : Heap → Prop} (I : Inv X pins σ H s) (e : H a = some (.ext φ)) : Inv X pins σ (unt H a) s := by
 have nea : ∀ b u, H b = some u → (∀ φ, u ≠ .ext φ) → b ≠ a := fun b u h hu z => by rw [z, e] at h; exact hu φ (Option.some.inj h).symm
 have nn : ∀ b, H b = none → unt H a b = none := fun b h => by
  by_cases q : b = a
  ·rw [q]; exact wm
  ·rw [xA q]; exact h
 refine ⟨I.ok, I.os, I.bare, ⟨I.base.keep, I.base.slot, fun b o q n hx => nn b (I.base.free b o q n hx), I.base.there, fun b xs q => ?_, fun b o u q => ?_, fun b ps q => ?_⟩, I.loc, I.cell, nn _ I.free, fun x c q => nn _ (I.freeC x c q), fun p hp => ?_, fun b u q => ?_, I.len⟩
 ·have z := I.base.tups b xs q; rw [xA (nea b _ z fun _ y => by cases y)]; exact z
 ·have z := I.base.frzs b o u q; rw [xA (nea b _ z fun _ y => by cases y)]; exact z
 ·obtain ⟨m, z⟩ := I.base.tbls b ps q; exact ⟨m, by rw [xA (nea b _ z fun _ y => by cases y)]; exact z⟩
 ·obtain ⟨p1, p2, p3⟩ := I.pin p hp; exact ⟨p1, nn _ p2, p3⟩
 ·by_cases z : b = a
  ·rw [z, wm] at q; cases q
  ·rw [xA z] at q
   refine (I.hok b u q).stay (fun c v _ y => y) (fun c y => ?_) fun c xs y => ?_
   ·rw [xA (nea c _ y fun _ w => by cases w)]; exact y
   ·rw [xA (nea c _ y fun _ w => by cases w)]; exact y
theorem run_makeX {C f : Addr} {k : Nat} {fd : FuncData} {ps : List Str} {sp : Sp} {us : List Value} {vs : List V} {Q : Addr → Array Value → Hp → Prop} (M : XMk X.K C f) (F : FnOk X.prog X.w X.K X.mg X.base CX0 k f fd ps sp) (hr : Room (k + 1) X.A) (hb : Binds X.K fd ps [])
  (I : Inv X pins σ H s) (r : Vals vs us) (hl : vs.length ≤ 1000) (h : ∀ a v0, H a = none → sp (.ref a :: vs) (upd H a (XObj a C none v0)) (fun v H2 => v = .non ∧ Q a v0 H2) E0) :
  wpAny (model X.prog X.w) X.A (call (.ref C) us) (fun u s' => ∃ a v0 H2, u = .ref a ∧ s.heap.objs.size ≤ a ∧ v0[1]? = some Value.none ∧ Inv X pins σ H2 s' ∧ Q a v0 H2) X.xe s := by
 obtain ⟨bm, xc⟩ := M.xa.bm
 obtain ⟨nm, q, N, bs, sn, sub, ab, col, dd, k0, k1, k2, k3, k5, hlk⟩ := xc.at_
 have hC := I.kIn _ _ hlk
 have I2 : Inv X pins σ (upd H (s.heap.objs.size + 1) (XObj (s.heap.objs.size + 1) C none #[.ref s.heap.objs.size, .none, .none, .none, .bool false, .none]))
   { s with heap := (s.heap.push { cls := .type "tuple", data := .seq us.toArray }).push { cls := .ref C, data := .fields #[.ref s.heap.objs.size, .none, .none, .none, .bool false, .none] } } := by
  refine I.laid (t' := s.toks) (fun b u e => Heap.get?_push_of_some _ (Heap.get?_push_of_some _ e)) (Nat.le_succ _) (Zl (sl := #[]) ?_)
  have := Heap.get?_push_size (s.heap.push { cls := .type "tuple", data := .seq us.toArray }) (o := { cls := .ref C, data := .fields #[.ref s.heap.objs.size, .none, .none, .none, .bool false, .none] }) rfl
  rwa [Heap.size_push] at this
 have hq := h (s.heap.objs.size + 1) #[.ref s.heap.objs.size, .none, .none, .none, .bool false, .none] (I.hok.fresh (Nat.le_succ _))
 have r2 : Vals (V.ref (s.heap.objs.size + 1) :: vs) (Value.ref (s.heap.objs.size + 1) :: us) := .cons rfl r
 have hlp : (Value.ref (s.heap.objs.size + 1) :: us).length = ps.length := by rw [← r2.length]; exact F.len _ _ _ _ hq
 have hb' := hb _ (Value.ref (s.heap.objs.size + 1) :: us) I2.kIn (by rw [List.append_nil]; exact hlp)
 rw [List.append_nil] at hb'
 have L1 := PySem.W.looks_findIn (M := model X.prog X.w) I.kIn M.init
 have L2 : ∀ self, PySem.W.Looks (model X.prog X.w) s.heap (bindSpecial (.ref f) self) (.ref f, [self]) := fun self => PySem.W.bind_fn I.kIn self (beq_iff_eq.mp M.fn)
 have hlu : us.length ≤ sizeLine := by rw [← r.length, sizeLine_eq]; lia
 obtain ⟨hh, g, dr, t, os⟩ := s
 refine make_x xc.ov hC L1 L2 hlu (wpAny_call (codeAny_mono (F.run _ X.stack _ _ ⟨Value.ref (hh.objs.size + 1) :: us, []⟩ (Value.ref (hh.objs.size + 1) :: us) _ _ E0 (hr.make C us []) (I2.env0.make C us []) hb' r2 hq) fun r s' hq' => ?_))
 cases r with
 | error e => exact False.elim hq'
 | ok fl =>
  cases fl with
  | ret u =>
   obtain ⟨v, H', I3, rv, ev, q3⟩ := I2.after hq'
   subst ev
   exact ⟨rv, _, _, H', rfl, Nat.le_succ _, rfl, I3, q3⟩
  | next => exact False.elim hq'
  | brk => exact False.elim hq'
  | cont => exact False.elim hq'
end
noncomputable def XQ (C : Addr) (sp : Sp) (EX : St → XK) (t : TA) : TS := fun _ σ H => t σ H fun vs H1 => vs.length ≤ 1000 ∧ ∀ a v0, H1 a = none →
 sp (.ref a :: vs) (upd H1 a (XObj a C none v0)) (fun v H2 => v = .non ∧ ∃ d, H2 a = some (XObj a C d v0) ∧ EX σ (.ref C) d (unt H2 a)) E0
noncomputable def HasC (P : Program) (w : World) (K : PySem.W.Frag) (mg : Str → Option Value) (base : Heap) (k : Nat) (x : Str) (C : Addr) (ps : List Str) (sp : Sp) : Prop :=
 ∃ (f : Addr) (fd : FuncData), XMk K C f ∧ FnOk P w K mg base CX0 k f fd ps sp ∧ mg x = some (.ref C) ∧ Binds K fd ps []
theorem zK {X : Cx} {EX : St → XK} {k j : Nat} {C : Addr} {ps : List Str} {sp : Sp} {x : Str} {p cpos pos : Pos} {e : Expr} {es : List Expr} {t : TA} (h : HasC X.prog X.w X.K X.mg X.base k x C ps sp) (L : Lands X EX) (hc : X.calm = true) (hr : Room j X.A) (hkj : k + 1 ≤ j)
  (ha : PA X (e :: es) t) (hg : Gl X x := by rfl) (h1 : zN e = false := by rfl) (h2 : es.all (fun e => !zN e) = true := by rfl) (hdb : (x == ("__debug__" : Str)) = false := by decide) :
  PS X (.Raise (some (.Call (.Name x p) (e :: es) [] cpos)) none pos) (XQ C sp EX t) := by
 obtain ⟨f, fd, M, F, hm, hb⟩ := h
 obtain ⟨bm, xc⟩ := M.xa.bm
 obtain ⟨nm, q, N, bs, sn, sub, ab, col, dd, k0, k1, k2, k3, k5, hlk⟩ := xc.at_
 intro pins s σ H D I h
 rw [arm_exec_Raise]
 refine wpAny_bind (wpAny_standAt (raise_made_x (C := C) (nm := nm) (q := q) (N := N) (bs := bs) (sn := sn) (sub := sub) (ab := ab) (col := col) (dd := dd) (k0 := k0) (k1 := k1) (k2 := k2) (k3 := k3) (k5 := k5) xc.ov (I.ok.hd hc) ?_))
 refine wpAny_bind (wpAny_mono (wpAny_Call_Name_kw (xP I hg hm ?_ hdb)) (fun v s₃ h₃ => wpAny_bind (wpAny_standAt (wpAny_pure h₃))) fun _ _ x => x)
 refine PySem.W.callWith_K (h₀ := X.base) I.ok.mod.kin M.kp (thn (ha cpos pins s σ H _ I h) fun us s1 ⟨vs, H1, I1, r, hl, q⟩ => ⟨I1.kIn, ?_⟩) (yY h1) (yM h2)
 refine thn (run_makeX M F (hr.mono hkj) hb I1 r hl q) fun u s2 ⟨a, v0, H2, eu, hlo, hv, I2, d, ea, hE⟩ => ?_
 subst eu
 obtain ⟨sl, hget⟩ := xz I2.hok ea
 have I3 := I2.drop ea
 refine ⟨a, v0, d, sl, rfl, I2.kIn _ _ hlk, hget, hv, ?_⟩
 refine L pins σ _ _ a none (.ref C) d I3 ⟨⟨v0, sl, hget, hv⟩, fun b hb => ?_⟩ (fun p hp hc => ?_) hE
 ·rcases List.mem_singleton.mp hb with rfl
  exact ⟨Nat.le_trans I1.sz hlo, wm⟩
 ·rcases List.mem_singleton.mp hc with e
  have z := (I2.pin p (List.mem_append_left _ hp)).2.1
  rw [e, ea] at z; cases z
noncomputable def spXi (K : PySem.W.Frag) (fs : List Str) : Sp := fun vs H Q _ => ∃ (a C : Addr) (v0 : Array Value) (us : List V), vs = .ref a :: us ∧ us.length = fs.length ∧ H a = some (XObj a C none v0) ∧ XA K C ∧ (∀ f ∈ fs, zW K C f) ∧
 ∀ dx, H dx = none → dx ≠ a → Q .non (upd (upd H dx (XDct dx (fs.zip us))) a (XObj a C (some dx) v0))
theorem upd_swap {H : Hp} {a b : Addr} {o1 o2 o3 : HO} (h : b ≠ a) : upd (upd (upd H b o1) a o2) b o3 = upd (upd H b o3) a o2 := by
 funext c
 by_cases q1 : c = a
 ·rw [q1, zg (Ne.symm h), zb, zb]
 ·by_cases q2 : c = b
  ·rw [q2, zb, zg h, zb]
  ·rw [zg q2, zg q1, zg q2, zg q1, zg q2]
theorem unt_upd {H : Hp} {a b : Addr} {o1 o2 o3 : HO} (h : b ≠ a) (hn : H a = none) : unt (upd (upd (upd H a o1) b o2) a o3) a = upd H b o2 := by
 funext c
 by_cases q1 : c = a
 ·rw [q1, wm, zg (Ne.symm h), hn]
 ·rw [xA q1, zg q1]
  by_cases q2 : c = b
  ·rw [q2, zb, zb]
  ·rw [zg q2, zg q2, zg q1]
theorem zC {K : PySem.W.Frag} {C : Addr} {fs : List Str} {EX : St → XK} {t : TA} {D : Ends} {σ : St} {H : Hp} (xa : XA K C) (hn : ∀ f ∈ fs, zW K C f)
  (h : t σ H fun vs H1 => vs.length = fs.length ∧ fs.length ≤ 2 ∧ ∀ dx, H1 dx = none → EX σ (.ref C) (some dx) (upd H1 dx (XDct dx (fs.zip vs)))) (hm : ∀ (Q Q' : List V → Hp → Prop), (∀ vs H1, Q vs H1 → Q' vs H1) → t σ H Q → t σ H Q') : XQ C (spXi K fs) EX t D σ H := by
 refine hm _ _ (fun vs H1 hq => ?_) h
 obtain ⟨hl, h2, hq⟩ := hq
 refine ⟨by lia, fun a v0 ha => ⟨a, C, v0, vs, rfl, hl, zb, xa, hn, fun dx hd hne => ⟨rfl, some dx, zb, ?_⟩⟩⟩
 rw [unt_upd hne ha]
 refine hq dx ?_
 rw [zg hne] at hd
 exact hd
end L2
namespace PySem
open Sem (wp)
open L2 (OverV)
theorem excMatches_x {M : Model} {A : Around} {E : Value → Shared → Prop} {nm q nm' q' : Str} {C N D N' : Addr} {bs bm bs' bm' : List Value} {sn sn' : List Str} {sub sub' : List Value} {ab ab' : Bool} {col col' : Option Bool} {dd dd' : Option Addr} {k0 k1 k2 k3 k5 k0' k1' k2' k3' k5' : Option Value}
  {h : Heap} {g : Array GenState} {d : Drawn} {t : Nat} {os : OsState} {e : Addr} {oe : Obj} {Q : Bool → Shared → Prop} (TD : OverV bm')
  (hC : h.get? C = some (excClassObj nm q C N bs bm true sn sub ab col dd k0 k1 k2 k3 k5 "ValueError.__new__")) (hD : h.get? D = some (excClassObj nm' q' D N' bs' bm' true sn' sub' ab' col' dd' k0' k1' k2' k3' k5' "ValueError.__new__"))
  (he : h.get? e = some oe) (hcls : oe.cls = .ref C) (hin : (Value.ref C :: bm).contains (.ref D) = true) (hq : Q true ⟨h, g, d, t, os⟩) : wpAny M A (excMatches (.ref e) (.ref D)) Q E ⟨h, g, d, t, os⟩ := by
 have hcB : (Value.ref D :: bm').contains (.type "BaseException") = true := by rw [List.contains_cons, TD.has (b := true) (by decide +kernel), Bool.or_true]
 have f := tc_notTuple
 unfold excMatches
 repeat (first | (with_reducible refine wpAny_loadPart_at he ?_; rw [hcls]) | with_reducible refine wpAny_loadPart_at hD ?_ | (with_reducible refine wpAny_isSubtype_exc hD ?_; rw [hcB]) | (with_reducible refine wpAny_isSubtype_exc hC ?_; rw [hin]) | wp_step)
 exact hq
end PySem
namespace L2
open PySem PySem.Spec PyProof.Rows
noncomputable abbrev Cx.tr (X : Cx) (pn : List (Addr × Obj)) (xe : Value → Shared → Prop) : Cx := { X with pn := pn, xe := xe }
noncomputable abbrev Cx.hdl (X : Cx) (a : Addr) : Cx := { X with A := X.A.mark (some (.ref a)), calm := false, xe := fun _ _ => False }
section
variable {X : Cx} {pins q : List (Addr × Obj)} {σ : St} {H : Hp} {s : Shared} {xe : Value → Shared → Prop}
theorem Cx.Ok.tr (ok : X.Ok) (pn : List (Addr × Obj)) (xe : Value → Shared → Prop) : (X.tr pn xe).Ok :=
 ⟨ok.mod, ok.kind, ok.glob, ok.blt, ok.above, ok.inj, ok.has, ok.cab, ok.hd, ok.frames, ok.stk, ok.exf, ok.bs, ok.bsz, ok.noex, ok.exfs, ok.funs, ok.frf⟩
theorem Cx.Ok.untr {pn : List (Addr × Obj)} (ok : (X.tr pn xe).Ok) : X.Ok :=
 ⟨ok.mod, ok.kind, ok.glob, ok.blt, ok.above, ok.inj, ok.has, ok.cab, ok.hd, ok.frames, ok.stk, ok.exf, ok.bs, ok.bsz, ok.noex, ok.exfs, ok.funs, ok.frf⟩
theorem Cx.Ok.hdl (ok : X.Ok) (a : Addr) : (X.hdl a).Ok :=
 ⟨ok.mod, ok.kind, ok.glob, ok.blt, ok.above, ok.inj, ok.has, ok.cab, fun z => (nomatch z), ok.frames, ok.stk, ok.exf, ok.bs, ok.bsz, ok.noex, ok.exfs, ok.funs, ok.frf⟩
theorem Inv.tr (I : Inv X pins σ H s) (xe : Value → Shared → Prop) : Inv (X.tr (X.pn ++ pins) xe) [] σ H s := ⟨I.ok.tr _ _, I.os, I.bare, I.base, I.loc, I.cell, I.free, I.freeC, fun p hp => I.pin p (by rw [List.append_nil] at hp; exact hp), I.hok, I.len⟩
theorem Inv.untr (I : Inv (X.tr (X.pn ++ pins) xe) q σ H s) : Inv X pins σ H s := ⟨I.ok.untr, I.os, I.bare, I.base, I.loc, I.cell, I.free, I.freeC, fun p hp => I.pin p (List.mem_append_left _ hp), I.hok, I.len⟩
theorem Inv.hdl (I : Inv X pins σ H s) (a : Addr) : Inv (X.hdl a) pins σ H s := ⟨I.ok.hdl a, I.os, I.bare, I.base, I.loc, I.cell, I.free, I.freeC, I.pin, I.hok, I.len⟩
theorem Inv.unhdl {a : Addr} (ok : X.Ok) (I : Inv (X.hdl a) pins σ H s) : Inv X pins σ H s := ⟨ok, I.os, I.bare, I.base, I.loc, I.cell, I.free, I.freeC, I.pin, I.hok, I.len⟩
theorem SP.untr {D : Ends} {f : Flow} (h : SP (X.tr (X.pn ++ pins) xe) q D f s) : SP X pins D f s := by
 cases f with
 | next => obtain ⟨σ', H', I, q⟩ := h; exact ⟨σ', H', I.untr, q⟩
 | brk => obtain ⟨σ', H', I, q⟩ := h; exact ⟨σ', H', I.untr, q⟩
 | cont => obtain ⟨σ', H', I, q⟩ := h; exact ⟨σ', H', I.untr, q⟩
 | ret u => obtain ⟨v, σ', H', I, r, q⟩ := h; exact ⟨v, σ', H', I.untr, r, q⟩
theorem Inv.away {lo : Nat} {a : Addr} {T : Option Addr} {C fl : Value} {d : Option Addr} (I : Inv X pins σ H s) (F : Fly lo s.heap H a T C d fl) (hlo : X.s₀.heap.objs.size ≤ lo) (hp : ∀ p ∈ X.pn ++ pins, p.1 ∉ a :: T.toList) :
  ∀ b ∈ a :: T.toList, (b ∈ X.ex ∨ X.s₀.heap.objs.size ≤ b) ∧ b ≠ X.env.locals ∧ (∀ x c, X.env.cells.lookup x = some c → c ≠ b) ∧ ∀ p ∈ X.pn ++ pins, p.1 ≠ b := fun b hb => by
 obtain ⟨o, vs, e, hd⟩ := F.rcd b hb
 refine ⟨.inr (Nat.le_trans hlo (F.lo b hb).1), fun z => ?_, fun x c hc z => ?_, fun p hp' z => hp p hp' (z ▸ hb)⟩
 ·obtain ⟨m, ⟨o', _, _, e', d', _⟩, _⟩ := I.loc
  rw [z] at e; rw [e'] at e; cases e; rw [d'] at hd; cases hd
 ·obtain ⟨v, o', e', d'⟩ := I.cell x c hc
  rw [z, e] at e'; cases e'; rw [hd] at d'; cases d'
theorem Inv.newer {t : Addr} (I : Inv X pins σ H s) (ht : s.heap.objs.size ≤ t) : ∀ b ∈ [t], (b ∈ X.ex ∨ X.s₀.heap.objs.size ≤ b) ∧ b ≠ X.env.locals ∧ (∀ x c, X.env.cells.lookup x = some c → c ≠ b) ∧ ∀ p ∈ X.pn ++ pins, p.1 ≠ b := fun b hb => by
 rcases List.mem_singleton.mp hb with rfl
 have lt : ∀ c o, s.heap.get? c = some o → c ≠ b := fun c o e z => absurd (Nat.lt_of_lt_of_le (Heap.lt_size e) (z ▸ ht)) (Nat.lt_irrefl _)
 refine ⟨.inr (Nat.le_trans I.sz ht), fun z => ?_, fun x c hc => ?_, fun p hp => lt _ _ (I.pin p hp).1⟩
 ·exact absurd (Nat.lt_of_lt_of_le I.lt (z ▸ ht)) (Nat.lt_irrefl _)
 ·obtain ⟨v, o, e, _⟩ := I.cell x c hc
  exact lt c o e
theorem Inv.track {a : Addr} {o : HO} {ob : Obj} {vs : Array Value} (I : Inv X pins σ H s) (hn : H a = none) (e : s.heap.get? a = some ob) (hd : ob.data = .fields vs)
  (hch : (a ∈ X.ex ∨ X.s₀.heap.objs.size ≤ a) ∧ a ≠ X.env.locals ∧ (∀ x c, X.env.cells.lookup x = some c → c ≠ a) ∧ ∀ p ∈ X.pn ++ pins, p.1 ≠ a) (hx : a ∉ X.ex) (new : ObjOk X.prog X.w (upd H a o) s.heap a o) : Inv X pins σ (upd H a o) s := by
 have hlo : X.s₀.heap.objs.size ≤ a := hch.1.elim (fun z => absurd z hx) id
 have up : ∀ b, b ≠ a → upd H a o b = H b := fun b h => zg h
 refine ⟨I.ok, I.os, I.bare, ⟨I.base.keep, I.base.slot, fun b ob q n hx => ?_, I.base.there, fun b xs q => ?_, fun b o u q => ?_, fun b ps q => ?_⟩, I.loc, I.cell, ?_, fun x c q => ?_, fun p hp => ?_, fun b u q => ?_, I.len⟩
 ·rw [up b fun z => absurd (Nat.lt_of_lt_of_le (Heap.lt_size q) (z ▸ hlo)) (Nat.lt_irrefl _)]; exact I.base.free b ob q n hx
 ·have z := I.base.tups b xs q; rw [up b (zi z hn)]; exact z
 ·have z := I.base.frzs b o u q; rw [up b (zi z hn)]; exact z
 ·obtain ⟨m, z⟩ := I.base.tbls b ps q; exact ⟨m, by rw [up b (zi z hn)]; exact z⟩
 ·rw [up _ (Ne.symm hch.2.1)]; exact I.free
 ·rw [up _ (hch.2.2.1 x c q)]; exact I.freeC x c q
 ·obtain ⟨p1, p2, p3⟩ := I.pin p hp; exact ⟨p1, by rw [up _ (hch.2.2.2 p hp)]; exact p2, p3⟩
 ·by_cases z : b = a
  ·rw [z, zb] at q; cases q; rw [z]; exact new
  ·rw [up b z] at q
   refine (I.hok b u q).stay (fun c v _ y => y) (fun c y => ?_) fun c xs y => ?_
   ·rw [up c (zi y hn)]; exact y
   ·rw [up c (zi y hn)]; exact y
theorem ZL {M : Model} {A : Around} {E : Value → Shared → Prop} {i : Nat} {n : Str} {pos : Pos} {Q : Unit → Shared → Prop} (I : Inv X pins σ H s) (hN : X.N.Nodup) (hi : X.N[i]? = some n) (hk : X.env.scope.names.lookup n = some .local)
  (h : ∀ s', Inv X pins (σ.set i none) H s' → Q () s') : wpAny M A (do bindName X.env n .none; unbindBehindTheSuite X.env n pos) Q E s := by
 have hcls : (X.env.scope.kind == .class || (X.env.scope.kind == .module && X.env.locals != X.env.globals)) = false := by rw [I.ok.kind]; rfl
 have hl : X.env.kindOf n = some .local := hk
 have hiσ : i < σ.length := by rw [I.len]; exact (List.getElem?_eq_some_iff.mp hi).1
 refine wpAny_bind (wpAny_bindName (wn (v := V.non) I hN hi (.inl hk) rfl (fun s1 I1 => ?_) (.inr hk)))
 obtain ⟨m, hn, hlo⟩ := id I1.loc
 obtain ⟨u, _, lk⟩ := hlo i n V.non hi (List.getElem?_set_self hiσ) (.inl hk)
 have hmn : m n = some u := by
  rcases lk with ⟨_, e⟩ | ⟨z, _⟩
  ·exact e
  ·rcases z with z | z <;> (rw [hl] at z; cases z)
 unfold unbindBehindTheSuite
 refine wpAny_onRaise ?_
 unfold unbindName
 refine wpAny_bind (wpAny_point (wpAny_bind ?_))
 unfold deleteName
 simp only [hl, hcls]
 rw [if_neg (by decide)]
 refine wpAny_bind (wpAny_nsDel_keeps hn fun h2 v hn2 hs => ?_)
 rw [hmn]
 simp only [if_true, Option.isSome_some, Bool.not_true, Bool.false_eq_true, if_false]
 refine wpAny_pure (wpAny_point (h _ ?_))
 have cne := I1.cne
 have tracked : HOk X.prog X.w H h2 := fun b ob e => by
  refine (I1.hok b ob e).stay (fun c w' hc q => (hs.2 c ?_).trans q) (fun _ q => q) fun _ _ q => q
  rintro rfl
  rcases hc with rfl | hc
  ·rw [I1.free] at e; cases e
  ·rw [I1.free] at hc; cases hc
 refine ⟨I1.ok, I1.os, I1.bare, ⟨fun b o e n hb hx => ?_, fun b o e n hb hx => ?_, I1.base.free, fun b o e hx => ?_, I1.base.tups, I1.base.frzs, I1.base.tbls⟩, ⟨_, hn2, fun j y v' e1 e2 e3 => ?_⟩, fun y c e => ?_, I1.free, I1.freeC, fun p hp => ?_, tracked, by simpa using I.len⟩
 ·exact (hs.2 b (Nat.ne_of_lt (Nat.lt_of_lt_of_le (Heap.lt_size e) I1.ok.above))).trans (I1.base.keep b o e n hb hx)
 ·obtain ⟨sl, e1⟩ := I1.base.slot b o e n hb hx
  exact ⟨sl, (hs.2 b (Nat.ne_of_lt (Nat.lt_of_lt_of_le (Heap.lt_size e) I1.ok.above))).trans e1⟩
 ·obtain ⟨o', e1⟩ := I1.base.there b o e hx
  exact ⟨o', (hs.2 b (Nat.ne_of_lt (Nat.lt_of_lt_of_le (Heap.lt_size e) I1.ok.above))).trans e1⟩
 ·by_cases hj : j = i
  ·subst hj
   rw [List.getElem?_set_self hiσ] at e2
   cases e2
  ·rw [List.getElem?_set_ne (Ne.symm hj)] at e2
   obtain ⟨u', r', q⟩ := hlo j y v' e1 (by rw [List.getElem?_set_ne (Ne.symm hj)]; exact e2) e3
   refine ⟨u', r', ?_⟩
   rcases q with ⟨k, e⟩ | ⟨k, c, e, z⟩
   ·refine .inl ⟨k, ?_⟩
    have : y ≠ n := fun e => hj (vA hN e1 (e ▸ hi))
    simp [this, e]
   ·exact .inr ⟨k, c, e, z.sameBut hs (cne y c e)⟩
 ·obtain ⟨w', z⟩ := I1.cell y c e
  exact ⟨w', z.sameBut hs (cne y c e)⟩
 ·obtain ⟨e, n, ne, nf, d⟩ := I1.pin p hp
  exact ⟨(hs.2 p.1 ne).trans e, n, ne, nf, d⟩
end
noncomputable def unE (i : Nat) (D : Ends) : Ends := { nx := fun σ H => D.nx (σ.set i none) H, rt := D.rt, bk := fun σ H => D.bk (σ.set i none) H, ct := fun σ H => D.ct (σ.set i none) H }
noncomputable def tTry (K : PySem.W.Frag) (D : Addr) (i : Nat) (tb : (St → XK) → TS) (ts : TS) : TS := fun Dn σ H => tb (fun σ' C d H' => ∃ (c : Addr) (bm : List Value), C = .ref c ∧ XC K c bm ∧ (Value.ref c :: bm).contains (.ref D) = true ∧
 ∀ a vs, H' a = none → ts (unE i Dn) (σ'.set i (some (.ref a))) (upd H' a (XObj a c d vs))) Dn σ H
theorem ps_try {X : Cx} {D : Addr} {bmD : List Value} {x n : Str} {i : Nat} {body suite : List Stmt} {b₀ : Stmt} {tb : (St → XK) → TS} {ts : TS} {np hpos pos : Pos} (M : Nm X.N X.env.scope) (hst : X.stack = X.env :: X.outer) (hfr : X.env.frame = some X.env.locals) (hex : X.ex = [])
  (hm : X.mg x = some (.ref D)) (xd : XC X.K D bmD) (hi : X.N[i]? = some n) (hk : X.env.scope.names.lookup n = some .local)
  (hb : ∀ pn xe EX, PassesOwn (model X.prog X.w) X.A X.env xe → Lands (X.tr pn xe) EX → PSs (X.tr pn xe) body (tb EX)) (hs : ∀ a, PSs (X.hdl a) (b₀ :: suite) ts) (hg : Gl X x := by rfl) (hdb : (x == ("__debug__" : Str)) = false := by decide) :
  PS X (.Try body [.ExceptHandler (some (.Name x np)) (some n) (b₀ :: suite) hpos] [] [] pos) (tTry X.K D i tb ts) := by
 intro pins s σ H Dn I h
 refine wpAny_Try_except ?_
 have hL : ∀ EX : St → XK, (∀ σ' C d H', EX σ' C d H' → ∃ (c : Addr) (bm : List Value), C = .ref c ∧ XC X.K c bm ∧ (Value.ref c :: bm).contains (.ref D) = true ∧ ∀ a vs, H' a = none → ts (unE i Dn) (σ'.set i (some (.ref a))) (upd H' a (XObj a c d vs))) →
   Lands (X.tr (X.pn ++ pins) fun e s' => wpAny (model X.prog X.w) X.A (noteFrame e X.env) (fun _ s2 => wpAny (model X.prog X.w) X.A (setFlight e none) (fun _ s3 => wpAny (model X.prog X.w) X.A (handleBy e X.env [.ExceptHandler (some (.Name x np)) (some n) (b₀ :: suite) hpos]) (SP X pins Dn) X.xe s3) X.xe s2) X.xe s') EX := by
  intro EX hEX pins' σ' H' s' a T C d I1 F hp hE
  obtain ⟨c, bm, rfl, xc, hin, hts⟩ := hEX _ _ _ _ hE
  have I2 : Inv X pins σ' H' s' := I1.untr
  have hstk : s'.heap.FunFrames X.base (X.env :: X.outer) := by rw [← hst]; exact I2.stack
  have hfrs : ∀ b ∈ frs (X.env :: X.outer), H' b = none := by rw [← hst]; exact I2.stkFree
  show wpAny (model X.prog X.w) X.A (noteFrame (.ref a) X.env) _ X.xe s'
  refine X8 (by rw [I2.ok.frames, hst]) hstk hfr F I2.sz (fun b hb => I2.hok.fresh hb) fun h1 T1 F1 hT1 k1 k2 => ?_
  have aw := I2.away F (Nat.le_refl _) hp
  have I3 : Inv X pins σ' H' { s' with heap := h1 } := I2.call (g' := s'.gens) (d' := s'.drawn) (t' := s'.toks) (ch := a :: T.toList) (by rw [hst]; exact Z1 k1 k2) (wP I2.hok k1 hfrs fun b hb => (F.lo b hb).2) I2.bare aw
  refine YH (s := { s' with heap := h1 }) F1 fun h2 F2 k3 => ?_
  have nw := I2.newer hT1
  have I4 : Inv X pins σ' H' { s' with heap := h2 } := Inv.call (s := { s' with heap := h1 }) (h' := h2) (g' := s'.gens) (d' := s'.drawn) (t' := s'.toks) (ch := [T1]) I3 (Z1 (h := h1) (fun b o q _ hc => k3 b o q fun z => hc (by simp [z])) fun b o q hc => ⟨o.slots, k3 b o q fun z => hc (by simp [z])⟩)
   (wP (h := h1) (fs := []) (ch := [T1]) I3.hok (fun b o q _ hc => k3 b o q fun z => hc (by simp [z])) (fun b hb => nomatch hb) fun b hb => by rcases List.mem_singleton.mp hb with rfl; exact I2.hok.fresh hT1) I2.bare nw
  obtain ⟨vs, sl, hget, _⟩ := F2.at_
  obtain ⟨nm, q, N, bs, sn, sub, ab, col, dd, k0, k1', k2', k3', k5, hlk⟩ := xc.at_
  obtain ⟨nm', q', N', bs', sn', sub', ab', col', dd', k0', k1'', k2'', k3'', k5', hlk'⟩ := xd.at_
  refine wpAny_handleBy_cons (codeAny_handlers_test (xP (X := X.hdl a) (I4.hdl a) hg hm ?_ hdb)) (by intro z; cases z)
  refine excMatches_x xd.ov (I4.kIn _ _ hlk) (I4.kIn _ _ hlk') hget rfl hin ?_
  refine codeAny_handlers_suite_as ?_
  refine YH (s := { s' with heap := h2 }) F2 fun h5 F5 k5' => ?_
  have I5 : Inv X pins σ' H' { s' with heap := h5 } := Inv.call (s := { s' with heap := h2 }) (h' := h5) (g' := s'.gens) (d' := s'.drawn) (t' := s'.toks) (ch := [T1]) I4 (Z1 (h := h2) (fun b o q _ hc => k5' b o q fun z => hc (by simp [z])) fun b o q hc => ⟨o.slots, k5' b o q fun z => hc (by simp [z])⟩)
   (wP (h := h2) (fs := []) (ch := [T1]) I4.hok (fun b o q _ hc => k5' b o q fun z => hc (by simp [z])) (fun b hb => nomatch hb) fun b hb => by rcases List.mem_singleton.mp hb with rfl; exact I2.hok.fresh hT1) I2.bare nw
  obtain ⟨vs5, sl5, hget5, _⟩ := F5.at_
  have I6 : Inv X pins σ' (upd H' a (XObj a c d vs5)) { s' with heap := h5 } := I5.track (F.lo a List.mem_cons_self).2 hget5 rfl (aw a List.mem_cons_self) (by rw [hex]; exact fun z => nomatch z) (Zl hget5)
  refine wn (X := X.hdl a) (v := V.ref a) (I6.hdl a) M.nd hi (.inl hk) rfl (fun s7 I7 => ?_) (.inr hk)
  have ok := I.ok
  refine wpAny_mono (hs a pins s7 _ _ _ I7 (hts a vs5 (F.lo a List.mem_cons_self).2)) (fun f s8 z => ?_) fun _ _ z => False.elim z
  cases f with
  | next =>
   obtain ⟨σ8, H8, I8, z⟩ := z
   exact ZL (I8.unhdl ok) M.nd hi hk fun s9 I9 => ⟨_, H8, I9, z⟩
  | brk =>
   obtain ⟨σ8, H8, I8, z⟩ := z
   exact ZL (I8.unhdl ok) M.nd hi hk fun s9 I9 => ⟨_, H8, I9, z⟩
  | cont =>
   obtain ⟨σ8, H8, I8, z⟩ := z
   exact ZL (I8.unhdl ok) M.nd hi hk fun s9 I9 => ⟨_, H8, I9, z⟩
  | ret u =>
   obtain ⟨v, σ8, H8, I8, r, z⟩ := z
   exact ZL (I8.unhdl ok) M.nd hi hk fun s9 I9 => ⟨v, _, H8, I9, r, z⟩
 refine wpAny_mono (hb (X.pn ++ pins) _ _ PassesOwn.looking (hL _ fun _ _ _ _ z => z) [] s σ H Dn (I.tr _) h) (fun f s1 z => ?_) fun _ _ z => z
 cases f with
 | next => exact wpAny_execs_nil z.untr
 | brk => exact z.untr
 | cont => exact z.untr
 | ret u => exact z.untr
end L2
namespace PySem
open Sem (wp)
open Builtin Builtin.ObjectAttr
open L2 (OverV XC XA bmV)
section
variable {prog : Program} {w : World} {A : Around} {E : Value → Shared → Prop} {h : Heap} {g : Array GenState} {d : Drawn} {t : Nat} {os : OsState} {K : PySem.W.Frag}
variable {nm q : Str} {C N x : Addr} {bs bm : List Value} {sn : List Str} {sub : List Value} {ab : Bool} {col : Option Bool} {dd : Option Addr} {k0 k1 k2 k3 k5 : Option Value}
 {ox : Obj} {od : Option Obj}
theorem class_get_x {R : Result → Shared → Prop} (T : OverV bm) (hC : h.get? C = some (excClassObj nm q C N bs bm true sn sub ab col dd k0 k1 k2 k3 k5 "ValueError.__new__")) (hx : h.get? x = some ox) (hc : ox.cls = .ref C) (hq : R (.ok (.ret (.ref C))) ⟨h, g, d, t, os⟩) :
  codeAny (model prog w) A (.call (.builtin "getset_descriptor.__get__") ⟨[.builtin "object.__class__", .ref x, .ref C], []⟩) R ⟨h, g, d, t, os⟩ := by
 have hT5 : (⟨h, g, d, t, os⟩ : Shared).TypeIs (.builtin "object.__class__") "getset_descriptor" := F.typeOf_object_class
 have hcB : (Value.ref C :: bm).contains (.type (".".intercalate ("object.__class__".cutAt '.').dropLast)) = true := by
  rw [F.owner_object_class, List.contains_cons, T.has (b := true) (by decide +kernel)]; rfl
 refine codeAny_call_builtin F.slot_gs_get.plain F.entry_gs_get (F.slot_gs_get.check _ _ _ _ _ _ _ _ hT5 (F.args_gs_get _ _ _) ?_)
 repeat (any_goals (first | assumption | (with_reducible refine wpAny_loadPart_at hx ?_; rw [hc]) | (with_reducible refine wpAny_isSubtype_exc hC ?_; rw [hcB]) | wp_step))
 refine ⟨Code.quiet_builtin _ (by decide +kernel), codeAny_builtin F.entry_object_class ?_⟩
 repeat (any_goals (first | assumption | (with_reducible refine wpAny_loadPart_at hx ?_; rw [hc]) | wp_step))
theorem class_attr_x {Q : Option Value → Shared → Prop} (T : OverV bm) (hC : h.get? C = some (excClassObj nm q C N bs bm true sn sub ab col dd k0 k1 k2 k3 k5 "ValueError.__new__")) (X : K.In h)
  (hga : PySem.W.findIn K (.ref C) "__getattribute__" = some (some (.builtin "BaseException.__getattribute__"))) (hgt : PySem.W.findIn K (.ref C) "__getattr__" = some none)
  (I : PySem.W.InstAt h x ox C od) (hf : PySem.W.findObj K C od "__class__" = some (.bind (.builtin "getset_descriptor.__get__") (.builtin "object.__class__"))) (hq : Q (some (.ref C)) ⟨h, g, d, t + 1, os⟩) :
  wpAny (model prog w) A (getAttr? (.ref x) "__class__") Q E ⟨h, g, d, t, os⟩ := by
 have FB := PySem.F.attrBase_ValueError
 have f3 := FB.ga.bind (.ref x)
 have hx0 : (false && onTheHeap (Value.builtin "BaseException.__getattribute__")) = false := rfl
 have hx2 : (Value.builtin "BaseException.__getattribute__" == Value.builtin "object.__getattribute__") = false := by decide +kernel
 have hx1 : (onTheHeap (Value.ref C) && Value.builtin "BaseException.__getattribute__" == Value.builtin "object.__getattribute__") = false := by rw [hx2]; rfl
 have L0 := I.type (M := model prog w)
 have L1 := PySem.W.looks_findIn (M := model prog w) X hga
 have L2 := PySem.W.looks_findIn (M := model prog w) X hgt
 have L3 := PySem.W.looks_find (M := model prog w) X I hf
 unfold getAttr? getAttrBy? getAttrBy
 refine wpAny_bind (wpAny_mkText (wpAny_bind (wpAny_attempt (wpAny_holding (wpAny_bind (L0.at (wpAny_bind (L1.at ?_))))))))
 dsimp only
 rw [hx1, if_neg (by decide)]
 unfold getAttrByItsOwn
 have ho : hookBefore (.ref C) = typeLookup (.ref C) "__getattr__" := rfl
 rw [ho]
 refine wpAny_bind (L2.at (wpAny_bind (wpAny_attempt (wpAny_holding ?_))))
 unfold callGetattribute
 rw [hx0, if_neg (by decide)]
 unfold boundAndCalled
 rw [f3]
 refine wpAny_bind (wpAny_pure ?_)
 refine wpAny_call (codeAny_call_builtin FB.ga.plain F.entry_bexc_ga (vH T hC I.at_ I.cls ?_))
 unfold Builtin.«object.__getattribute__»
 repeat (first | with_reducible refine L0.at ?_ | with_reducible refine L3.at ?_ | wp_step)
 refine class_get_x T hC I.at_ I.cls ?_
 repeat (any_goals (first | assumption | wp_step))
end
end PySem
namespace L2
open PySem PySem.Spec PyProof.Rows
theorem XC.cls {K : PySem.W.Frag} {C : Addr} {bm : List Value} (x : XC K C bm) : ∃ cd, PySem.W.clsIn K C = some cd ∧ cd.mro = .ref C :: bm ∧ PySem.W.typeIn K (.ref C) = some (.type "type") := by
 obtain ⟨nm, q, N, bs, sn, sub, ab, col, dd, k0, k1, k2, k3, k5, hl⟩ := x.at_
 refine ⟨{ name := nm, bases := bs, mro := .ref C :: bm, ns := N, qualname := q, hasDict := true, slotNames := sn, subclasses := sub, abstract := ab, collection := col, hasDel := false }, ?_, rfl, ?_⟩
 ·unfold PySem.W.clsIn
  rw [hl]
 ·unfold PySem.W.typeIn
  simp only [hl]
  rfl
theorem XC.mro {K : PySem.W.Frag} {C : Addr} {bm : List Value} (x : XC K C bm) (v : Value) : PySem.W.mroIn K C v = some ((Value.ref C :: bm).contains v) := by
 obtain ⟨cd, h1, h2, _⟩ := x.cls
 unfold PySem.W.mroIn
 rw [h1, Option.bind_some, h2, if_neg (by simp)]
theorem kit_xx {K : PySem.W.Frag} {C c : Addr} {bm bm' : List Value} (x : XC K C bm) (y : XC K c bm') : PySem.W.kitOne K (.ref C) (.ref c) = some ((Value.ref C :: bm).contains (.ref c)) := by
 obtain ⟨cd, h1, h2, h3⟩ := y.cls
 unfold PySem.W.kitOne
 by_cases q : (Value.ref C == Value.ref c) = true
 ·rw [if_pos q, List.contains_cons]
  have : (Value.ref c == Value.ref C) = true := by rw [beq_iff_eq] at q ⊢; exact q.symm
  rw [this]; rfl
 ·rw [if_neg q]
  unfold PySem.W.kitCls
  dsimp only
  rw [h1, h3, if_pos (by simp)]
  exact x.mro _
theorem kit_xv {K : PySem.W.Frag} {C : Addr} {bm : List Value} (x : XC K C bm) : PySem.W.kitOne K (.ref C) (.type "ValueError") = some true := by
 unfold PySem.W.kitOne
 rw [if_neg (by intro q; cases beq_iff_eq.mp q)]
 unfold PySem.W.kitCls
 dsimp only
 rw [if_pos (by decide +kernel)]
 show PySem.W.mroIn K C _ = _
 rw [x.mro, List.contains_cons, x.ov.has (b := true) (by decide +kernel), Bool.or_true]
theorem kitx_x {K : PySem.W.Frag} {C a : Addr} (xa : XA K C) : PySem.W.KitX K (.ref a) (.ref C) (fun h => ∃ ox od, PySem.W.InstAt h a ox C (some od)) := by
 obtain ⟨bm, xc⟩ := xa.bm
 obtain ⟨nm, q, N, bs, sn, sub, ab, col, dd, k0, k1, k2, k3, k5, hl⟩ := xc.at_
 obtain ⟨cd, h1, h2, h3⟩ := xc.cls
 refine ⟨fun M h X ⟨ox, od, I⟩ => I.type, fun M h X _ => ?_, fun h tp dd' its n sl X htp => ?_, fun {prog w A E Q s} X ⟨ox, od, I⟩ k => ?_⟩
 ·intro A' Q' E' s' k z
  unfold isType loadHead
  exact wpAny_bind (wpAny_loadPart (k _ _ (X _ _ hl)) (wpAny_pure z))
 ·refine Bool.eq_false_iff.mpr fun z => ?_
  have e : C = tp := Value.ref.inj (beq_iff_eq.mp z)
  subst e
  have z := (X _ _ hl).symm.trans htp
  have z2 := congrArg (fun o => Option.map Obj.cls o) z
  simp [excClassObj] at z2
 ·obtain ⟨hp, g, d, t, os⟩ := s
  exact class_attr_x xc.ov (X _ _ hl) X xa.ga xa.gt I (PySem.W.findObj_data (by rw [h1]; rfl) xa.cl xa.sg xa.tk) k
section
variable {X : Cx} {pins : List (Addr × Obj)} {σ : St} {H : Hp} {s : Shared}
theorem Inv.instAt {a C dx : Addr} {vs : Array Value} {fs : List (Str × V)} (I : Inv X pins σ H s) (e : H a = some (XObj a C (some dx) vs)) (ed : H dx = some (XDct dx fs)) : ∃ ox od, PySem.W.InstAt s.heap a ox C (some od) := by
 obtain ⟨sl, ha⟩ := xz I.hok e
 obtain ⟨mA, ⟨o, _, _, ho, _⟩, _⟩ := vc I.hok ed
 exact ⟨_, o, ha, rfl, rfl, ho⟩
end
noncomputable def rIsX (K : PySem.W.Frag) : List V → Hp → VK → Prop := fun xs H Q => ∃ (a C dx : Addr) (vs : Array Value) (fs : List (Str × V)) (c : V) (b : Bool), xs = [.ref a, c] ∧ H a = some (XObj a C (some dx) vs) ∧ H dx = some (XDct dx fs) ∧ XA K C ∧
 (∀ u, RelV c u → PySem.W.kitOne K (.ref C) u = some b) ∧ Q (.bl b) H
theorem call_isX {X : Cx} : yb X (.builtin "isinstance") (rIsX X.K) := by
 intro pins s σ H xs us Q I r h
 obtain ⟨a, C, dx, vs, fs, c, b, rfl, ea, ed, xa, hk, q⟩ := h
 cases r with
 | cons r1 r2 =>
  obtain ⟨u, rfl, ru⟩ := Vals.one r2
  cases r1
  have hp := I.instAt ea ed
  exact PySem.W.kia_one (kitx_x xa) I.kIn hp (hk u ru) (fun z => nomatch z) fun tk => ⟨.bl b, H, I.kept (t' := tk) fun _ _ e => e, rfl, q⟩
theorem Wt {K : PySem.W.Frag} {H : Hp} {Q : VK} {a C dx : Addr} {vs : Array Value} {fs : List (Str × V)} {c : V} {b : Bool} (ea : H a = some (XObj a C (some dx) vs)) (ed : H dx = some (XDct dx fs)) (xa : XA K C) (hk : ∀ u, RelV c u → PySem.W.kitOne K (.ref C) u = some b) (q : Q (.bl b) H) :
  rIsX K [.ref a, c] H Q := ⟨a, C, dx, vs, fs, c, b, rfl, ea, ed, xa, hk, q⟩
theorem pe_cls {X : Cx} {x : Str} {pos : Pos} {C : Addr} (hm : X.mg x = some (.ref C)) (hg : Gl X x := by rfl) (hd : (x == ("__debug__" : Str)) = false := by decide) : PE X (.Name x pos) (tC (.ref C)) :=
 fun pins s σ H Q I h => xP I hg hm ⟨.ref C, H, I, rfl, h⟩ hd
theorem zL {sp : Sp} {EX : St → XK} {t : TA} {σ : St} {H : Hp} {Q : VK} (h : t σ H fun vs H1 => sp vs H1 Q (EX σ)) : Zr sp EX t σ H Q := h
theorem w_try {K : PySem.W.Frag} {D : Addr} {i : Nat} {tb : (St → XK) → TS} {ts : TS} {Dn : Ends} {σ : St} {H : Hp} (h : tb (fun σ' C d H' => ∃ (c : Addr) (bm : List Value), C = .ref c ∧ XC K c bm ∧ (Value.ref c :: bm).contains (.ref D) = true ∧
 ∀ a vs, H' a = none → ts (unE i Dn) (σ'.set i (some (.ref a))) (upd H' a (XObj a c d vs))) Dn σ H) : tTry K D i tb ts Dn σ H := h
theorem w_unE {i : Nat} {D : Ends} {σ : St} {H : Hp} (h : D.nx (σ.set i none) H) : (unE i D).nx σ H := h
theorem w_xf {K : PySem.W.Frag} {ta : TE} {f : Str} {σ : St} {H : Hp} {Q : VK} (h : ta σ H fun x H1 => ∃ (a C dx : Addr) (vs : Array Value) (fs : List (Str × V)) (v : V), x = .ref a ∧ H1 a = some (XObj a C (some dx) vs) ∧ H1 dx = some (XDct dx fs) ∧ XA K C ∧ zW K C f ∧ fs.lookup f = some v ∧ Q v H1) : tXf K ta f σ H Q := h
theorem Ws {K : PySem.W.Frag} {ta tv : TE} {f : Str} {D : Ends} {σ : St} {H : Hp} (h : tv σ H fun y H1 => ta σ H1 fun x H2 => ∃ (a C : Addr) (d : Option Addr) (vs : Array Value), x = .ref a ∧ H2 a = some (XObj a C d vs) ∧ XA K C ∧ zW K C f ∧ XSt H2 a C d vs f y (D.nx σ)) : sXf K ta tv f D σ H := h
theorem WJ {X : Cx} {K : PySem.W.Frag} (h : X.K = K) : yb X (.builtin "isinstance") (rIsX K) := h ▸ call_isX
theorem X4 {X : Cx} {K : PySem.W.Frag} {e : Expr} {ta : TE} {f : Str} {pos : Pos} (h : X.K = K) (he : PE X e ta) (hb : attributeBase e f X.env (eval e X.env) = eval e X.env := by rfl) : PE X (.Attribute e f pos) (tXf K ta f) := h ▸ pe_xf he hb
noncomputable def Wc (s : Stmt) (i : Nat) : Stmt := match s with
 | .ClassDef _ _ _ body _ _ _ _ _ _ _ => body.getD i (.Pass ⟨0, 0, 0, 0⟩)
 | _ => .Pass ⟨0, 0, 0, 0⟩
structure XUni (K : PySem.W.Frag) (mg : Str → Option Value) (D : Addr) (cs : List (Str × Addr)) : Prop where
 base : XC K D bmV
 mD : mg "DropError" = some (.ref D)
 cls : ∀ c ∈ cs, mg c.1 = some (.ref c.2) ∧ XC K c.2 (.ref D :: bmV) ∧ XA K c.2
 nd : (D :: cs.map (·.2)).Nodup
theorem contains_D {D c : Addr} : (Value.ref c :: .ref D :: bmV).contains (.ref D) = true := by simp
end L2
namespace PySem
open Sem (wp)
open L2 (OverV bmV)
section
variable {prog : Program} {w : World} {A : Around} {E : Value → Shared → Prop} {h : Heap} {g : Array GenState} {d : Drawn} {t : Nat} {os : OsState}
variable {nm q : Str} {C N : Addr} {bs : List Value} {sn : List Str} {sub : List Value} {ab : Bool} {col : Option Bool} {dd : Option Addr} {k0 k1 k2 k3 k5 : Option Value}
end
end PySem
namespace L2
open PySem PySem.Spec PyProof.Rows
structure FnOkH (P : Program) (w : World) (K : PySem.W.Frag) (mg : Str → Option Value) (base : Heap) (k : Nat) (f : Addr) (fd : FuncData) (ps : List Str) (sp : Sp) : Prop where
 len : ∀ vs H Q E, sp vs H Q E → vs.length = ps.length
 run : ∀ (A : Around) (a : Addr) (outer : List Env) (s : Shared) (H : Hp) (args : Args) (us : List Value) (vs : List V) (Q : VK), Room k A → Env0 P w K mg base A outer s H → BindsTo s fd args (ps.zip us) → Vals vs us → sp vs H Q E0 →
  codeAny (model P w) (A.mark (some (.ref a))) (.call (.ref f) args) (CR CX0 outer P w H s Q E0) s
section
variable {X : Cx} {k j : Nat} {f a : Addr} {fd : FuncData} {ps : List Str} {sp : Sp} {x : Str} {p pos : Pos} {e : Expr} {es : List Expr} {t : TA}
end
structure XBase (K : PySem.W.Frag) (C : Addr) : Prop where
 at_ : ∃ (nm q : Str) (N : Addr) (bs : List Value) (sn : List Str) (sub : List Value) (ab : Bool) (col : Option Bool) (dd : Option Addr) (k0 k1 k2 k3 k5 : Option Value),
  K.lookup C = some (excClassObj nm q C N bs bmV true sn sub ab col dd k0 k1 k2 k3 k5 "ValueError.__new__")
 fi : PySem.W.findIn K (.ref C) "__init__" = some (some (.builtin "ValueError.__init__"))
 kp : PySem.W.keepIn K (.ref C) = true
section
variable {X : Cx} {k : Nat}
end
section
variable {pr : Program} {wo : World} {Ar : Around} {R : Result → Shared → Prop} {I : Addr} {fp wr : List Addr} {G : Array GenState → Array GenState → Prop} {n : Nat} {P : Nat → Value → Prop} {St : Nat → Shared → Prop}
end
section
variable {pr : Program} {wo : World} {Ar : Around} {E : Value → Shared → Prop} {s : Shared}
end
end L2
namespace L2
open PySem
structure Bl (mg : Str → Option Value) : Prop where
 len : mg "len" = none
 range : mg "range" = none
 tuple : mg "tuple" = none
 int : mg "int" = none
 bool : mg "bool" = none
 list : mg "list" = none
 str : mg "str" = none
 all : mg "all" = none
 any : mg "any" = none
 isi : mg "isinstance" = none
 repr : mg "repr" = none
 zip : mg "zip" = none
 min : mg "min" = none
 max : mg "max" = none
 sum : mg "sum" = none
 enu : mg "enumerate" = none
 sorted : mg "sorted" = none
 set : mg "set" = none
 dict : mg "dict" = none
 abs : mg "abs" = none
noncomputable def Kn (mg : Str → Option Value) (x : Str) (i : Int) : Prop := ∃ t, mg x = some (Value.int i t)
noncomputable def KnS (mg : Str → Option Value) (x : Str) (a : Str) : Prop := ∃ t, mg x = some (Value.str a t)
theorem pe_k {X : Cx} {x : Str} {i : Int} {pos : Pos} (h : Kn X.mg x i) (hg : Gl X x := by rfl) (hd : (x == ("__debug__" : Str)) = false := by decide) : PE X (.Name x pos) (tC (.int i)) := by
 obtain ⟨t, e⟩ := h
 exact ZC hg e ⟨t, rfl⟩ hd
theorem WG {X : Cx} {x a : Str} {pos : Pos} (h : KnS X.mg x a) (hg : Gl X x := by rfl) (hd : (x == ("__debug__" : Str)) = false := by decide) : PE X (.Name x pos) (tC (.str a)) := by
 obtain ⟨t, e⟩ := h
 exact ZC hg e ⟨t, rfl⟩ hd
theorem vP {X : Cx} {a b tg : Expr} {ta : TA} {p pos : Pos} (hm : X.mg "range" = none) (ha : PA X [a, b] ta) (hg : Gl X "range" := by rfl) (h : zN a = false := by rfl) (h' : zN b = false := by rfl) : PI X tg (.Call (.Name "range" p) [a, b] [] pos) (Yj ta) := pi_range2 hg hm ha (by rw [yY h, yY h']; rfl) (by rw [yY h']; rfl)
theorem w6 {ta : TA} {g : TG} {tb : TS} {D : Ends} {σ : St} {H : Hp} (h : ta σ H fun vs H1 => ∃ i j : Int, vs = [.int i, .int j] ∧ (-(2 ^ 62) ≤ i ∧ i < 2 ^ 62 ∧ -(2 ^ 62) ≤ j ∧ j < 2 ^ 62) ∧ ForJ (Itr i (j - i).toNat) g tb D σ H1) : tFor (Yj ta) g tb D σ H := h
theorem w_compR2 {ta : TA} {n : Nat} {ix : List Nat} {g : TG} {tc : TT} {te : TE} {σ : St} {H : Hp} {Q : VK} (h : ta σ H fun vs H1 => ∃ i j : Int, vs = [.int i, .int j] ∧ (-(2 ^ 62) ≤ i ∧ i < 2 ^ 62 ∧ -(2 ^ 62) ≤ j ∧ j < 2 ^ 62) ∧ ∀ D, H1 D = none → CGo (Itr i (j - i).toNat) D g tc te Q (List.replicate n none ++ sub ix σ) H1) : vK (Yj ta) n ix g tc te σ H Q := h
theorem w_gt {K : PySem.W.Frag} {vs : List V} {σ : St} {H : Hp} {Q : VK} (h : ∀ a, SqT K H a vs → Q (.ref a) H) : tGT K vs σ H Q := h
theorem w_orV {ta tb : TE} {σ : St} {H : Hp} {Q : VK} (h : ta σ H fun x H1 => ∃ c, x = .bl c ∧ if c = true then Q (.bl true) H1 else tb σ H1 Q) : tOrV ta tb σ H Q := h
theorem XI {ta tb : TE} {σ : St} {H : Hp} {Q : VK} (h : ta σ H fun x H1 => ∃ c, x = .bl c ∧ if c = true then tb σ H1 Q else Q (.bl false) H1) : WA ta tb σ H Q := h
theorem at0 {v : V} {xs : List V} : atI (v :: xs) 0 = some v := zG (show (v :: xs)[0]? = some v from rfl)
theorem v9 {c A B : Prop} [Decidable c] (hc : ¬ c) (h : A) : if (!decide c) = true then A else B := by rw [decide_eq_false hc]; exact iteT h
theorem iteP {c A B : Prop} [Decidable c] (hc : c) (h : A) : if decide c = true then A else B := by rw [decide_eq_true hc]; exact iteT h
theorem iteQ {c A B : Prop} [Decidable c] (hc : ¬ c) (h : B) : if decide c = true then A else B := by rw [decide_eq_false hc]; exact iteF h
end L2
namespace L2
open PySem PySem.Spec PyProof.Rows Builtin Builtin.Str
section
variable {X : Cx}
noncomputable def rJoinT : V → List V → Hp → VK → Prop := fun x vs H Q => ∃ b p xs, x = .str b ∧ vs = [.ref p] ∧ (H p = some (.tup (xs.map V.str)) ∨ ∃ o, H p = some (.frz o (.tup (xs.map V.str)))) ∧ JoinOk b xs = true ∧ (Txt.join b xs).length ≤ sizeLine ∧ Q (.str (Txt.join b xs)) H
theorem mt_joinT : MtM X "str.join" rJoinT := by
 intro pins s σ H x vs v us Q I rx rv h
 obtain ⟨b, p, xs, rfl, rfl, hp, hj, hz, q⟩ := h
 obtain ⟨t, rfl⟩ := rx
 obtain ⟨w, rfl, rw⟩ := rv.one
 cases rw
 have hT : ∃ its : List Value, Vals (xs.map V.str) its ∧ ∃ o n, s.heap.get? p = some o ∧ o.cls = .type "tuple" ∧ o.data = .seq its.toArray n := by
  rcases hp with hp | ⟨o, hp⟩
  ·obtain ⟨z, its, rv, o, e, c, n, d⟩ := I.hok p _ hp
   exact ⟨its, rv, o, n, e, c, d⟩
  ·obtain ⟨_, z, its, rv, o, e, c, n, d⟩ := I.hok p _ hp
   exact ⟨its, rv, o, n, e, c, d⟩
 obtain ⟨its, r, ht⟩ := hT
 obtain ⟨l, rfl, rfl⟩ := vh r
 have hj' : tooLong ((l.map (·.1)).toArray.foldl (· + ·.length + b.length) 0) = false := by
  unfold JoinOk at hj
  simpa using hj
 refine call_meets F.slot_str_join (typeIs_str _ _ _) F.entry_str_join (F.args_str_join_2 _ _) (meets_str_join_tuple b t p l hj') ⟨ht, ?_⟩
 match l, hz, q with
 | [], hz, q => exact ⟨hz, ⟨.str _, H, I.tok _, ⟨_, rfl⟩, q⟩⟩
 | [c], hz, q => exact ⟨.str _, H, I, ⟨_, rfl⟩, q⟩
 | c :: d :: l, hz, q => exact ⟨hz, ⟨.str _, H, I.tok _, ⟨_, rfl⟩, q⟩⟩
noncomputable def rIndexS : V → List V → Hp → VK → Prop := fun x vs H Q => ∃ (l : Addr) (ws : List Str) (b : Str) (k : Nat), x = .ref l ∧ vs = [.str b] ∧ H l = some (.lst (ws.map V.str)) ∧ ws[k]? = some b ∧ (∀ i y, i < k → ws[i]? = some y → y ≠ b) ∧ Q (.int (k : Int)) H
noncomputable def isT (b : Str) : Value → Bool
 | .str a _ => decide (a = b)
 | _ => false
theorem wK : MtM X "list.index" rIndexS := by
 intro pins s σ H x vs v us Q I rx rv h
 obtain ⟨l, ws, b, k, rfl, rfl, hH, hk, hno, q⟩ := h
 cases rx
 obtain ⟨u, rfl, ru⟩ := rv.one
 obtain ⟨t, rfl⟩ := ru
 obtain ⟨z, its, n, r, hl, e⟩ := I.lstM hH
 have hl' : ws.length = its.length := by simpa using hl
 have hkl : k < ws.length := (List.getElem?_eq_some_iff.mp hk).1
 have zl : ws.length ≤ sizeLine := by simpa using z
 have at' : ∀ m (hm : m < its.length), ∃ tt, its[m] = .str (ws[m]'(by lia)) tt := fun m hm => by
  obtain ⟨w', ew, rw'⟩ := r.get (show (ws.map V.str)[m]? = some (V.str (ws[m]'(by lia))) by simp [show m < ws.length by lia])
  rw [List.getElem?_eq_getElem hm] at ew
  rw [Option.some.inj ew]
  exact rw'
 refine call_meets F.slot_list_index ⟨_, e, rfl⟩ F.entry_list_index (F.args_list_index_2 _ _)
  (SeqAt.list_indexAt l its.toArray n none #[] (.str b t) (isT b) k (by rw [List.size_toArray]; lia) ?_ ?_ (fun m hm hmk => ?_)) ⟨e, fun y hy => ?_, ?_⟩
 ·have := sizeLine_eq
  lia
 ·obtain ⟨tt, ee⟩ := at' k (by lia)
  rw [List.getElem_toArray, ee]
  show decide (ws[k] = b) = true
  rw [List.getElem?_eq_getElem hkl] at hk
  exact decide_eq_true (Option.some.inj hk)
 ·rw [List.size_toArray] at hm
  obtain ⟨tt, ee⟩ := at' m hm
  rw [List.getElem_toArray, ee]
  exact decide_eq_false (hno m _ hmk (List.getElem?_eq_getElem (by lia)))
 ·obtain ⟨m, hm, rfl⟩ := Array.mem_iff_getElem.mp hy
  rw [List.size_toArray] at hm
  obtain ⟨tt, ee⟩ := at' m hm
  rw [List.getElem_toArray, ee]
  have := YJ (A := X.A.in1) (s := s) (y := .str (ws[m]'(by lia))) (x := .str b) ⟨tt, rfl⟩ ⟨t, rfl⟩ rfl rfl
  exact this
 ·exact ⟨.int k, H, I.tok _, ⟨_, rfl⟩, q⟩
end
noncomputable def Itrs (lo c : Int) (n : Nat) : It := ⟨fun i _ => i < n, fun i H x H' => H' = H ∧ x = .int (lo + i * c), fun i _ => n ≤ i⟩
theorem turn_rangeS {P : Program} {w : World} {K : PySem.W.Frag} {tg : Expr} (it : Addr) (lo c : Int) (n : Nat) : Turn P w K tg (Itrs lo c n) [it] it (fun i h => IsRangeIter h it (lo + (i : Nat) * c) ((n : Int) - (i : Nat)) c) where
 mem := by simp
 obj := fun i h st b hb => by
  have e : b = it := by simpa using hb
  subst e
  exact ⟨_, st, fun v z => by
   have z' : Data.fields _ = Data.cell v := z
   cases z'⟩
 keep := fun i h h' st k => k it (by simp) _ st
 item := by
  intro X hP hw hK hc i pins s σ H E I hf st hg
  subst hP hw hK
  obtain ⟨f0, f1, f2, f3, f4, f5⟩ := hf it (by simp)
  have W := Walks.range (prog := X.prog) (w := X.w) (I.ok.hd hc) it lo c n
  refine W.item i s _ _ hg st fun v h' tk hv st' kk => ?_
  obtain ⟨t, rfl⟩ := hv
  have I1 : Inv X pins σ H { s with heap := h', toks := tk } := I.turned (fun b o hb e => kk b o (by simpa using hb) e) f0 f1 f3 f4 f5
  exact ⟨_, rfl, Yk (s := { s with heap := h', toks := tk }) (n := "range_iterator") st' rfl rfl (by decide) ⟨.int (lo + i * c), H, I1, ⟨t, rfl⟩, ⟨rfl, rfl⟩, st', fun b hb => (hf b hb).1⟩⟩
 done := by
  intro X hP hw hK hc i pins s σ H E I hf st hg
  subst hP hw hK
  obtain ⟨f0, f1, f2, f3, f4, f5⟩ := hf it (by simp)
  exact wpAny_pyNext_range_end (I.ok.hd hc) st (by have : n ≤ i := hg; lia) fun h' eb => ⟨rfl, I.turned (t' := s.toks) (fun b o hb e => eb b o hb e) f0 f1 f3 f4 f5⟩
 self := fun _ _ _ _ _ st h => wpAny_pyIter_rangeiter st h
theorem Z3 (a b : Int) : Builtin.Range.rangeSize a b 2 = if a < b then (b - a + 1) / 2 else 0 := by
 unfold Builtin.Range.rangeSize
 simp only [show (2 : Int) > 0 by decide, if_true]
 split <;> lia
theorem small_two {a b : Int} (ha : 0 ≤ a) (ha' : a < 2 ^ 40) (hb : 0 ≤ b) (hb' : b < 2 ^ 40) : Builtin.Range.small a b 2 = true := by
 unfold Builtin.Range.small
 rw [Z3]
 simp only [Builtin.Range.rangeFitsLong, Bool.and_eq_true, Bool.or_eq_true, decide_eq_true_eq, beq_iff_eq, show (2 : Int) > 0 by decide, if_true]
 split <;> lia
noncomputable def WK (ta : TA) : TI := fun σ H R => ta σ H fun vs H1 => ∃ i j : Int, vs = [.int i, .int j, .int 2] ∧ (0 ≤ i ∧ i < 2 ^ 40 ∧ 0 ≤ j ∧ j < 2 ^ 40) ∧ R (Itrs i 2 ((j - i + 1) / 2).toNat) H1
section
variable {X : Cx} {tg : Expr}
theorem range_it2 {pins : List (Addr × Obj)} {σ : St} {H : Hp} {s : Shared} {R : It → Hp → Prop} {E : Value → Shared → Prop} {lo hi : Int} {t u v : Tok} {tk : Nat} (I : Inv X pins σ H s) (h1 : 0 ≤ lo) (h2 : lo < 2 ^ 40) (h3 : 0 ≤ hi) (h4 : hi < 2 ^ 40)
  (q : R (Itrs lo 2 ((hi - lo + 1) / 2).toNat) H) : wpAny (model X.prog X.w) X.A (pyIter (.ref s.heap.objs.size)) (PIE X pins σ tg R) E { s with heap := s.heap.push { cls := .type "range", data := .fields #[.int lo t, .int hi u, .int 2 v] }, toks := tk } := by
 refine wpAny_pyIter_range (IsRange.new ..) (small_two h1 h2 h3 h4) ?_
 have I1 : Inv X pins σ H { s with heap := s.heap.push { cls := .type "range", data := .fields #[.int lo t, .int hi u, .int 2 v] }, toks := tk } := I.kept fun b o e => Heap.get?_push_of_some _ e
 refine ⟨(s.heap.push { cls := .type "range", data := .fields #[.int lo t, .int hi u, .int 2 v] }).objs.size, [(s.heap.push { cls := .type "range", data := .fields #[.int lo t, .int hi u, .int 2 v] }).objs.size], _, _, H, rfl,
  I1.kept (t' := tk) fun b o e => Heap.get?_push_of_some _ e, turn_rangeS _ lo 2 ((hi - lo + 1) / 2).toNat, ?_, fun b hb => ?_, q⟩
 ·have e1 : lo + ((0 : Nat) : Int) * 2 = lo := by simp
  have e2 : (((((hi - lo + 1) / 2).toNat : Nat) : Int)) - ((0 : Nat) : Int) = Builtin.Range.rangeSize lo hi 2 := by rw [Z3]; split <;> lia
  show IsRangeIter _ _ (lo + ((0 : Nat) : Int) * 2) (((((hi - lo + 1) / 2).toNat : Nat) : Int) - ((0 : Nat) : Int)) 2
  rw [e1, e2]
  exact Heap.get?_push_size _ rfl
 ·have e : b = (s.heap.push { cls := .type "range", data := .fields #[.int lo t, .int hi u, .int 2 v] }).objs.size := by simpa using hb
  subst e
  exact I1.fpOk (Nat.le_refl _) (I1.hok.fresh (Nat.le_refl _))
theorem pi_r3 {a b c : Expr} {ta : TA} {p pos : Pos} (hm : X.mg "range" = none) (ha : PA X [a, b, c] ta) (hg : Gl X "range" := by rfl) (h : zN a = false := by rfl) (h' : zN b = false := by rfl) (h'' : zN c = false := by rfl) :
  PI X tg (.Call (.Name "range" p) [a, b, c] [] pos) (WK ta) := by
 intro pins s σ H R I h0
 refine Call_ (wN I hg hm boot_range (PyProof.Rows.callWith_type1 (thn (ha pos pins s σ H _ I h0) fun us s1 ⟨vs, H1, I1, r1, q1⟩ => ?_) (by rw [yY h]) (yM (by simp [h', h'']))))
 obtain ⟨i, j, e, ⟨q1, q2, q3, q4⟩, q⟩ := q1
 subst e
 cases r1 with
 | cons r rr =>
  cases rr with
  | cons r' rr =>
   cases rr with
   | cons r'' rr =>
    cases rr
    obtain ⟨t, rfl⟩ := r
    obtain ⟨t', rfl⟩ := r'
    obtain ⟨t'', rfl⟩ := r''
    exact call_range_3 (by decide) (range_it2 I1 q1 q2 q3 q4 q) (Or.inl (PyProof.noPylong_small (by lia)))
theorem w_forR3 {ta : TA} {g : TG} {tb : TS} {D : Ends} {σ : St} {H : Hp} (h : ta σ H fun vs H1 => ∃ i j : Int, vs = [.int i, .int j, .int 2] ∧ (0 ≤ i ∧ i < 2 ^ 40 ∧ 0 ≤ j ∧ j < 2 ^ 40) ∧ ForJ (Itrs i 2 ((j - i + 1) / 2).toNat) g tb D σ H1) : tFor (WK ta) g tb D σ H := h
end
theorem for_rangeS {lo c : Int} {n : Nat} {g : TG} {tb : TS} {D : Ends} {σ : St} {H : Hp} (Pv : Nat → St → Hp → Prop) (h0 : Pv 0 σ H)
  (hs : ∀ i σ H, i < n → Pv i σ H → g (.int (lo + i * c)) σ H fun σ2 H2 => tb { D with nx := Pv (i + 1), ct := Pv (i + 1), bk := D.nx } σ2 H2) (hd : ∀ σ H, Pv n σ H → D.nx σ H) : ForJ (Itrs lo c n) g tb D σ H := by
 refine ⟨fun i m σ H => m = n - i ∧ i ≤ n ∧ Pv i σ H, ⟨n, by simp, Nat.zero_le _, h0⟩, ?_⟩
 rintro i m σ H ⟨rfl, hi, p⟩
 by_cases hlt : i < n
 ·refine .inr ⟨hlt, Pv (i + 1), fun σ' H' p' => ⟨n - (i + 1), by lia, rfl, hlt, p'⟩, fun x H' y => ?_⟩
  obtain ⟨e, y⟩ := y
  subst e y
  exact hs i σ _ hlt p
 ·have e : i = n := by lia
  subst e
  exact .inl ⟨Nat.le_refl _, hd σ H p⟩
theorem ZN {a b : Str} : eqV (.str a) (.str b) = decide (a = b) := by
 show _ = _
 unfold eqV
 rfl
theorem yh (x : Str) : ∀ (ws : List Str), inV (.str x) (ws.map V.str) = decide (x ∈ ws)
 | [] => rfl
 | w :: ws => by
  show (eqV (.str w) (.str x) || inV (.str x) (ws.map V.str)) = _
  rw [yh x ws, ZN]
  by_cases h : w = x
  ·subst h; simp
  ·have h' : ¬ x = w := fun e => h e.symm
   simp [h, h']
theorem zZ (ws : List Str) : (ws.map V.str).all yV = true := by
 rw [List.all_map]
 exact List.all_eq_true.mpr fun _ _ => rfl
theorem Y4 {x : Str} {n : Nat} (hl : x.length ≤ n) (hc : ∀ c ∈ x.cps.toList, c < 16 ^ 8) : G2.Shw (.str x) (10 * n + 2) 0 := ⟨rfl, rfl, Nat.zero_le _, Nat.le_trans (PySem.StrLaws.reprText_len x hc) (by lia)⟩
end L2
namespace PT
open PySem L2 G2
noncomputable def fT (i : Int) : Str := Str.ofString (toString i)
noncomputable def inF (y : Str) : Bool := !(Builtin.Str.occurrences "0123456789" y 0 (Str.length "0123456789") 1).isEmpty
noncomputable def figB (x : Str) : Bool := decide (x.length ≤ 10) && (sg x).all inF && (match x.cps.toList with | [] => false | c :: _ => decide (x = "0") || !decide ((⟨#[c]⟩ : Str) = "0"))
noncomputable def inL (y : Str) : Bool := !(Builtin.Str.occurrences "abcdefghijklmnopqrstuvwxyz" y 0 (Str.length "abcdefghijklmnopqrstuvwxyz") 1).isEmpty
noncomputable def noNames : List Str := ["sorts", "begin", "in", "out", "rule", "to"]
noncomputable def wA (x : Str) : Bool := decide (1 ≤ x.length) && decide (x.length ≤ 8) && !decide (x ∈ noNames) && (sg x).all inL && x.cps.toList.all fun c => decide (97 ≤ c) && decide (c ≤ 122)
noncomputable def cntB (i : Int) : Bool := figB (fT i) && decide ((fT i).length ≤ 2) && decide (PySem.intText? (fT i) = some i) && (fT i).cps.toList.all (fun c => decide (48 ≤ c) && decide (c ≤ 57)) && decide (i.natAbs.log2 < 1920)
theorem cnts : ∀ n : Nat, n < 100 → cntB (n : Int) = true := by decide +kernel
structure Cnt (i : Int) : Prop where
 fig : figB (fT i) = true
 l2 : (fT i).length ≤ 2
 rd : PySem.intText? (fT i) = some i
 ch : ∀ c ∈ (fT i).cps.toList, 48 ≤ c ∧ c ≤ 57
 lg : i.natAbs.log2 < 1920
theorem vF {i : Int} (h0 : 0 ≤ i) (h1 : i ≤ 99) : Cnt i := by
 have h := cnts i.toNat (by lia)
 rw [show ((i.toNat : Nat) : Int) = i by lia] at h
 unfold cntB at h
 simp only [Bool.and_eq_true, decide_eq_true_eq, List.all_eq_true] at h
 obtain ⟨⟨⟨⟨a, b⟩, c⟩, d⟩, e⟩ := h
 exact ⟨a, b, c, d, e⟩
structure Wd (w : Str) : Prop where
 l : w.length ≤ 8
 ch : ∀ c ∈ w.cps.toList, 33 ≤ c ∧ c ≤ 127
theorem Wd.cnt {i : Int} (h : Cnt i) : Wd (fT i) := ⟨Nat.le_trans h.l2 (by decide), fun c hc => by have := h.ch c hc; lia⟩
structure Nme (x : Str) : Prop where
 b : wA x = true
 l1 : 1 ≤ x.length
 l8 : x.length ≤ 8
 no : x ∉ noNames
 al : (sg x).all inL = true
 ch : ∀ c ∈ x.cps.toList, 97 ≤ c ∧ c ≤ 122
theorem YG {x : Str} (h : wA x = true) : Nme x := by
 have h' := h
 unfold wA at h'
 simp only [Bool.and_eq_true, decide_eq_true_eq, List.all_eq_true, Bool.not_eq_true', decide_eq_false_iff_not] at h'
 obtain ⟨⟨⟨⟨a, b⟩, c⟩, d⟩, e⟩ := h'
 exact ⟨h, a, b, c, List.all_eq_true.mpr d, e⟩
theorem Wd.name {x : Str} (h : wA x = true) : Wd x := ⟨(YG h).l8, fun c hc => by have := (YG h).ch c hc; lia⟩
noncomputable def wdB (w : Str) : Bool := decide (w.length ≤ 8) && w.cps.toList.all fun c => decide (33 ≤ c) && decide (c ≤ 127)
theorem Wd.of {w : Str} (h : wdB w = true) : Wd w := by
 unfold wdB at h
 simp only [Bool.and_eq_true, decide_eq_true_eq, List.all_eq_true] at h
 exact ⟨h.1, h.2⟩
noncomputable def ln (ws : List Str) : Str := Txt.join ⟨#[32]⟩ ws
theorem xk : (" " : Str) = ⟨#[32]⟩ := by decide +kernel
theorem Wj {c B : Nat} : ∀ (ls : List (List Nat)), (∀ l ∈ ls, l.length ≤ B) → (jn c ls).length ≤ ls.length * (B + 1)
 | [], _ => Nat.zero_le _
 | [w], h => by
  have := h w (by simp)
  show w.length ≤ 1 * (B + 1)
  lia
 | w :: v :: r, h => by
  have h1 := h w (by simp)
  have ih := Wj (c := c) (v :: r) fun l hl => h l (List.mem_cons_of_mem _ hl)
  show (w ++ c :: jn c (v :: r)).length ≤ _
  rw [List.length_append, List.length_cons, List.length_cons, Nat.succ_mul]
  lia
theorem ZJ {c x : Nat} : ∀ (ls : List (List Nat)), x ∈ jn c ls → x = c ∨ ∃ l ∈ ls, x ∈ l
 | [], h => nomatch h
 | [w], h => .inr ⟨w, by simp, h⟩
 | w :: v :: r, h => by
  have h : x ∈ w ++ c :: jn c (v :: r) := h
  rcases List.mem_append.mp h with h | h
  ·exact .inr ⟨w, by simp, h⟩
  ·rcases List.mem_cons.mp h with h | h
   ·exact .inl h
   ·rcases ZJ (v :: r) h with h | ⟨l, hl, h⟩
    ·exact .inl h
    ·exact .inr ⟨l, List.mem_cons_of_mem _ hl, h⟩
theorem Wf (ws : List Str) : ln ws = Str.join ⟨#[32]⟩ ws := StrLaws.glued_eq_join _ _
theorem we (ws : List Str) : (ln ws).cps.toList = jn 32 (ws.map fun w => w.cps.toList) := by rw [Wf, xQ]
theorem vC {ws : List Str} (h : ∀ w ∈ ws, Wd w) (hl : ws.length ≤ 40) : (ln ws).length ≤ 360 := by
 show (ln ws).cps.size ≤ _
 rw [← Array.length_toList, we]
 refine Nat.le_trans (Wj (B := 8) _ fun l hl => ?_) ?_
 ·obtain ⟨p, hp, rfl⟩ := List.mem_map.mp hl
  rw [Array.length_toList]
  exact (h p hp).l
 ·rw [List.length_map]
  lia
theorem ZH {ws : List Str} (h : ∀ w ∈ ws, Wd w) (hl : ws.length ≤ 40) : JoinOk " " ws = true ∧ (Txt.join " " ws).length ≤ sizeLine := by
 rw [xk]
 refine ⟨?_, Nat.le_trans (vC h hl) (by decide)⟩
 unfold JoinOk
 have z := StrLaws.joinFits (sep := ⟨#[32]⟩) (fun w hw => (h w hw).l) (by show ws.length * 8 + ws.length * 1 ≤ 16777216; lia)
 rw [z]
 rfl
theorem vX (ws : List Str) : Txt.join " " ws = ln ws := by rw [xk]; rfl
theorem ln_chars {ws : List Str} (h : ∀ w ∈ ws, Wd w) : ∀ c ∈ (ln ws).cps.toList, c < 16 ^ 8 := fun c hc => by
 rw [we] at hc
 rcases ZJ _ hc with rfl | ⟨l, hl, hc⟩
 ·decide
 ·obtain ⟨w, hw, rfl⟩ := List.mem_map.mp hl
  have := (h w hw).ch c hc
  exact Nat.lt_of_le_of_lt this.2 (by decide)
theorem ln_ascii {ws : List Str} (h : ∀ w ∈ ws, Wd w) : ∀ c ∈ (ln ws).cps.toList, c < 128 := fun c hc => by
 rw [we] at hc
 rcases ZJ _ hc with rfl | ⟨l, hl, hc⟩
 ·decide
 ·obtain ⟨w, hw, rfl⟩ := List.mem_map.mp hl
  have := (h w hw).ch c hc
  lia
theorem str_ext {x y : Str} (h : x.cps.toList = y.cps.toList) : x = y := Str.ext' (Array.toList_inj.mp h)
theorem ZR (x y : Str) : (x ++ y).cps.toList = x.cps.toList ++ y.cps.toList := by
 show (x.cps ++ y.cps).toList = _
 simp
theorem ZI {a : Str} {ws : List Str} (hne : ws ≠ []) : (a ++ " ") ++ ln ws = ln (a :: ws) := by
 apply str_ext
 rw [ZR, ZR, we, we]
 match ws, hne with
 | w :: r, _ =>
  show a.cps.toList ++ _ ++ _ = a.cps.toList ++ 32 :: jn 32 ((w :: r).map fun w => w.cps.toList)
  rw [List.append_assoc]
  rfl
noncomputable def prs : Nat → List Int → List (Nat × Int)
 | _, [] => []
 | k, c :: cs => if 0 < c then (k, c) :: prs (k + 1) cs else prs (k + 1) cs
theorem Y7 : ∀ (k : Nat) (a b : List Int), prs k (a ++ b) = prs k a ++ prs (k + a.length) b
 | k, [], b => rfl
 | k, c :: a, b => by
  have ih := Y7 (k + 1) a b
  rw [List.length_cons, show k + (a.length + 1) = (k + 1) + a.length by lia]
  show (if 0 < c then (k, c) :: prs (k + 1) (a ++ b) else prs (k + 1) (a ++ b)) = (if 0 < c then (k, c) :: prs (k + 1) a else prs (k + 1) a) ++ _
  split
  ·rw [ih]; rfl
  ·exact ih
theorem Zz : ∀ {k : Nat} {cs : List Int} {p : Nat × Int}, p ∈ prs k cs → k ≤ p.1 ∧ p.1 < k + cs.length ∧ 0 < p.2 ∧ p.2 ∈ cs
 | k, c :: cs, p, h => by
  have h : p ∈ if 0 < c then (k, c) :: prs (k + 1) cs else prs (k + 1) cs := h
  have rec_ : p ∈ prs (k + 1) cs → k ≤ p.1 ∧ p.1 < k + (c :: cs).length ∧ 0 < p.2 ∧ p.2 ∈ c :: cs := fun h => by
   obtain ⟨a, b, d, e⟩ := Zz h
   exact ⟨by lia, by rw [List.length_cons]; lia, d, List.mem_cons_of_mem _ e⟩
  split at h
  ·rename_i hc
   rcases List.mem_cons.mp h with rfl | h
   ·exact ⟨Nat.le_refl _, by rw [List.length_cons]; lia, hc, List.mem_cons_self⟩
   ·exact rec_ h
  ·exact rec_ h
theorem ZA : ∀ (k : Nat) (cs : List Int), (prs k cs).length ≤ cs.length
 | _, [] => Nat.le_refl _
 | k, c :: cs => by
  have := ZA (k + 1) cs
  show (if 0 < c then (k, c) :: prs (k + 1) cs else prs (k + 1) cs).length ≤ _
  split <;> (simp only [List.length_cons]; lia)
noncomputable def sdW (nm : List Str) (ps : List (Nat × Int)) : List Str := ps.flatMap fun p => [fT p.2, nm.getD p.1 ""]
theorem sdW_app {nm : List Str} {a b : List (Nat × Int)} : sdW nm (a ++ b) = sdW nm a ++ sdW nm b := List.flatMap_append
theorem Zv {nm : List Str} : ∀ (ps : List (Nat × Int)), (sdW nm ps).length = 2 * ps.length
 | [] => rfl
 | p :: ps => by
  show ([fT p.2, nm.getD p.1 ""] ++ sdW nm ps).length = _
  rw [List.length_append, Zv ps, List.length_cons]
  simp only [List.length_cons, List.length_nil]
  lia
noncomputable def yv (nm : List Str) (cs : List Int) : List Str := sdW nm (prs 0 cs)
structure Sd (m : Nat) (cs : List Int) : Prop where
 l : cs.length = m
 b : ∀ c ∈ cs, 0 ≤ c ∧ c ≤ 9
theorem xL {nm : List Str} {m : Nat} {cs : List Int} (h : Sd m cs) : (yv nm cs).length ≤ 2 * m := by
 unfold yv
 rw [Zv]
 have := ZA 0 cs
 have := h.l
 lia
theorem mem_sdW {nm : List Str} {ps : List (Nat × Int)} {w : Str} (h : w ∈ sdW nm ps) : ∃ p ∈ ps, w = fT p.2 ∨ w = nm.getD p.1 "" := by
 obtain ⟨p, hp, hw⟩ := List.mem_flatMap.mp h
 refine ⟨p, hp, ?_⟩
 simpa using hw
theorem Yl {nm : List Str} {k : Nat} (h : k < nm.length) : nm.getD k "" ∈ nm := by
 rw [List.getD_eq_getElem?_getD, List.getElem?_eq_getElem h]
 exact List.getElem_mem h
theorem Z4 {nm : List Str} {m : Nat} {cs : List Int} (h : Sd m cs) (hl : nm.length = m) (hn : ∀ x ∈ nm, wA x = true) : ∀ w ∈ yv nm cs, Wd w ∧ w ≠ "to" := fun w hw => by
 obtain ⟨p, hp, e⟩ := mem_sdW hw
 obtain ⟨_, h2, h3, h4⟩ := Zz hp
 rcases e with rfl | rfl
 ·have := h.b _ h4
  have c := vF (i := p.2) (by lia) (by lia)
  refine ⟨Wd.cnt c, fun z => ?_⟩
  have := c.ch 116 (by rw [z]; decide +kernel)
  lia
 ·have hm := hn _ (Yl (nm := nm) (k := p.1) (by have := h.l; lia))
  exact ⟨Wd.name hm, fun z => (YG hm).no (by rw [z]; decide +kernel)⟩
structure PD where
 nm : List Str
 rl : List (List Int × List Int)
 ins : List Int
 beg : List Int
 ans : Int
structure PD.ok (d : PD) (m : Nat) : Prop where
 nl : d.nm.length = m
 nd : d.nm.Nodup
 nb : ∀ x ∈ d.nm, wA x = true
 m0 : 0 < m
 m8 : m ≤ 8
 r8 : d.rl.length ≤ 8
 rs : ∀ r ∈ d.rl, Sd m r.1 ∧ Sd m r.2 ∧ (∃ x ∈ r.1, 0 < x) ∧ r.1 ≠ r.2
 hi : ∀ i ∈ d.ins, 0 ≤ i ∧ i < m
 i3 : d.ins.length ≤ 3
 inn : d.ins.Nodup
 bl : d.beg.length = m
 hb : ∀ b ∈ d.beg, 0 ≤ b ∧ b ≤ 99
 ha : 0 ≤ d.ans ∧ d.ans < m
noncomputable def nmI (nm : List Str) (i : Int) : Str := nm.getD i.toNat ""
noncomputable def ruW (nm : List Str) (r : List Int × List Int) : List Str := ("rule" : Str) :: (yv nm r.1 ++ ("to" : Str) :: yv nm r.2)
noncomputable def ptW (d : PD) : List (List Str) := [("sorts" : Str) :: d.nm, ("begin" : Str) :: d.beg.map fT, ("in" : Str) :: d.ins.map (nmI d.nm), [("out" : Str), nmI d.nm d.ans]] ++ d.rl.map (ruW d.nm)
noncomputable def ptL (d : PD) : List Str := (ptW d).map ln
theorem Xf {d : PD} {m : Nat} (h : d.ok m) {i : Int} (h0 : 0 ≤ i) (h1 : i < m) : nmI d.nm i ∈ d.nm := Yl (by have := h.nl; lia)
theorem YB {d : PD} {m : Nat} (h : d.ok m) {r : List Int × List Int} (hr : r ∈ d.rl) : (∀ w ∈ ruW d.nm r, Wd w) ∧ (ruW d.nm r).length ≤ 40 := by
 obtain ⟨h1, h2, _⟩ := h.rs r hr
 have l1 := xL (nm := d.nm) h1
 have l2 := xL (nm := d.nm) h2
 have := h.m8
 refine ⟨fun w hw => ?_, by show (yv d.nm r.1 ++ ("to" : Str) :: yv d.nm r.2).length + 1 ≤ 40; rw [List.length_append, List.length_cons]; lia⟩
 rcases List.mem_cons.mp hw with rfl | hw
 ·exact Wd.of (by decide +kernel)
 ·rcases List.mem_append.mp hw with hw | hw
  ·exact (Z4 h1 h.nl h.nb w hw).1
  ·rcases List.mem_cons.mp hw with rfl | hw
   ·exact Wd.of (by decide +kernel)
   ·exact (Z4 h2 h.nl h.nb w hw).1
theorem YC {d : PD} {m : Nat} (h : d.ok m) : ∀ ws ∈ ptW d, (∀ w ∈ ws, Wd w) ∧ ws.length ≤ 40 ∧ ws ≠ [] := fun ws hw => by
 have m8 := h.m8
 rcases List.mem_append.mp hw with hw | hw
 ·simp only [List.mem_cons, List.not_mem_nil, or_false] at hw
  rcases hw with rfl | rfl | rfl | rfl
  ·refine ⟨fun w hw => ?_, by rw [List.length_cons, h.nl]; lia, List.cons_ne_nil _ _⟩
   rcases List.mem_cons.mp hw with rfl | hw
   ·exact Wd.of (by decide +kernel)
   ·exact Wd.name (h.nb w hw)
  ·refine ⟨fun w hw => ?_, by rw [List.length_cons, List.length_map, h.bl]; lia, List.cons_ne_nil _ _⟩
   rcases List.mem_cons.mp hw with rfl | hw
   ·exact Wd.of (by decide +kernel)
   ·obtain ⟨b, hb, rfl⟩ := List.mem_map.mp hw
    exact Wd.cnt (vF (h.hb b hb).1 (h.hb b hb).2)
  ·refine ⟨fun w hw => ?_, by rw [List.length_cons, List.length_map]; have := h.i3; lia, List.cons_ne_nil _ _⟩
   rcases List.mem_cons.mp hw with rfl | hw
   ·exact Wd.of (by decide +kernel)
   ·obtain ⟨b, hb, rfl⟩ := List.mem_map.mp hw
    exact Wd.name (h.nb _ (Xf h (h.hi b hb).1 (h.hi b hb).2))
  ·refine ⟨fun w hw => ?_, by show 2 ≤ 40; decide, List.cons_ne_nil _ _⟩
   simp only [List.mem_cons, List.not_mem_nil, or_false] at hw
   rcases hw with rfl | rfl
   ·exact Wd.of (by decide +kernel)
   ·exact Wd.name (h.nb _ (Xf h h.ha.1 h.ha.2))
 ·obtain ⟨r, hr, rfl⟩ := List.mem_map.mp hw
  exact ⟨(YB h hr).1, (YB h hr).2, List.cons_ne_nil _ _⟩
noncomputable def liD (ls : List Str) : PyData := .list (ls.map .str)
theorem x9 {H : Hp} : ∀ (ws : List Str), RdVs H (ws.map V.str) (ws.map PyData.str)
 | [] => .nil
 | w :: ws => .cons (.str w) (x9 ws)
theorem shw_lines {d : PD} {m : Nat} (h : d.ok m) : Shw (liD (ptL d)) 50000 1 := by
 have hl : (ptL d).length ≤ 12 := by
  unfold ptL ptW
  rw [List.length_map, List.length_append, List.length_map]
  have := h.r8
  simp only [List.length_cons, List.length_nil]
  lia
 refine (Shw.lsts (n := 3602) (h := 0) (ds := (ptL d).map PyData.str) fun x hx => ?_).up (by rw [List.length_map]; lia) (by decide)
 obtain ⟨y, hy, rfl⟩ := List.mem_map.mp hx
 obtain ⟨ws, hw, rfl⟩ := List.mem_map.mp hy
 obtain ⟨h1, h2, h3⟩ := YC h ws hw
 exact Y4 (n := 360) (vC h1 h2) (ln_chars h1)
end PT
namespace L2
open PySem PySem.Spec PyProof.Rows
section
variable {X : Cx}
noncomputable def rTupF (K : PySem.W.Frag) : List V → Hp → VK → Prop := fun xs H Q => ∃ p ys, xs = [.ref p] ∧ SqL K H p ys ∧ ∀ l o, H l = none → o.dict = none → o.cls = .type "tuple" → Q (.ref l) (upd H l (.frz o (.tup ys)))
theorem call_tupleF : yb X (.type "tuple") (rTupF X.K) := by
 intro pins s σ H xs us Q I r h
 obtain ⟨p, ys, rfl, hq, q⟩ := h
 obtain ⟨u, rfl, rx⟩ := r.one
 cases rx
 obtain ⟨its, r', pl, hz⟩ := I.list hq
 have hlen := r'.length
 refine call_tuple_list pl.isList (fun h' kp => ?_) (by simp only [List.size_toArray] <;> lia)
 have I1 : Inv X pins σ H { s with heap := h' } := I.kept (t' := s.toks) kp
 have g : (h'.push { cls := .type "tuple", data := .seq its.toArray }).get? h'.objs.size = some { cls := .type "tuple", data := .seq its.toArray } := Heap.get?_push_size _ rfl
 have I2 : Inv X pins σ (upd H h'.objs.size (.frz { cls := .type "tuple", data := .seq its.toArray } (.tup ys))) { s with heap := h'.push { cls := .type "tuple", data := .seq its.toArray } } :=
  I1.laid (t' := s.toks) (fun b o e => Heap.get?_push_of_some _ e) (Nat.le_refl _) ⟨g, hz, its, r', ⟨_, g, rfl, _, rfl⟩⟩
 exact ⟨.ref h'.objs.size, _, I2, rfl, q _ _ (I1.hok.fresh (Nat.le_refl _)) rfl rfl⟩
end
section
variable {prog : Program} {w : World} {A : Around} {E : Value → Shared → Prop} {s : Shared}
theorem tup_index {l : Addr} {o : Obj} {items : Array Value} {n : Nat} {x : Value} {e : Nat → Bool} {j : Nat} {Q : Value → Shared → Prop} (ho : s.heap.get? l = some o) (hd : o.data = .seq items n) (hj : j < items.size) (hit : e j = true) (hno : ∀ m, m < j → e m = false)
  (he : ∀ i (hi : i < items.size), SeqAt.EqAt A s items[i] x (e i)) (h : Q (.int j s.toks) { s with toks := s.toks + 1 }) :
  wpAny (model prog w) A (Builtin.«tuple.index» ⟨[.ref l, x], []⟩) (fun f s' => ∃ v, f = .done (.ret v) ∧ Q v s') E s := by
 unfold Builtin.«tuple.index»
 refine wpAny_bind (wpAny_of_eq (a := (Value.ref l, [x])) rfl ?_)
 dsimp only
 unfold PySem.Builtin.Tuple.tupleItemsOf
 refine wpAny_bind (wpAny_bind (wpAny_seqItems ho hd (wpAny_pure ?_)))
 refine wpAny_bind (wpAny_pure (wpAny_bind (wpAny_pure ?_))); refine wpAny_bind ?_; rw [Std.Legacy.Range.forIn_eq_forIn_range']
 simp only [Std.Legacy.Range.size, Nat.sub_zero, Nat.add_sub_cancel, Nat.div_one, Nat.min_self]
 have go : ∀ (k i : Nat), i + k = j → wpAny (model prog w) A
   (forIn (List.range' i (items.size - i)) ((none : Option PySem.Fin), ()) fun (i : Nat) _ => match items[i]? with
    | some y => do
     let b ← eqBool y x
     if b = true then do
      let rr ← retInt (i : Int)
      pure (ForInStep.done (some rr, ()))
     else pure (ForInStep.yield (none, ()))
    | _ => pure (ForInStep.yield (none, ())))
   (fun a s' => a.1 = some (.done (.ret (.int j s.toks))) ∧ s' = { s with toks := s.toks + 1 }) E s := by
  intro k
  induction k with
  | zero =>
   intro i hi
   have e : i = j := by lia
   subst e
   rw [show items.size - i = (items.size - (i + 1)) + 1 by lia, List.range'_succ, List.forIn_cons]
   simp only [Array.getElem?_eq_getElem hj]
   refine wpAny_bind (wpAny_bind (he _ hj prog w _ _ ?_))
   rw [hit]
   simp only [if_true]
   exact wpAny_bind (wpAny_bind (wpAny_mkInt (wpAny_pure (wpAny_pure (wpAny_pure ⟨rfl, rfl⟩)))))
  | succ k ih =>
   intro i hi
   have hlt : i < items.size := Nat.lt_of_le_of_lt (by lia : i ≤ j) hj
   rw [show items.size - i = (items.size - (i + 1)) + 1 by lia, List.range'_succ, List.forIn_cons]
   simp only [Array.getElem?_eq_getElem hlt]; refine wpAny_bind (wpAny_bind (he _ hlt prog w _ _ ?_))
   rw [hno i (by lia)]
   simp only [Bool.false_eq_true, if_false]; exact wpAny_pure (ih (i + 1) (by lia))
 refine wpAny_mono (go j 0 (by lia)) (fun a s' ⟨h1, h2⟩ => ?_) fun _ _ z => z
 subst h2
 rw [h1]
 exact wpAny_pure ⟨_, rfl, h⟩
end
noncomputable def TupF (H : Hp) (l : Addr) (ys : List V) : Prop := ∃ o, H l = some (.frz o (.tup ys)) ∧ o.dict = none ∧ o.cls = .type "tuple"
theorem TupF.sq {K : PySem.W.Frag} {H : Hp} {l : Addr} {ys : List V} (t : TupF H l ys) : SqT K H l ys := let ⟨o, e, _⟩ := t; .inl (.inr ⟨o, e⟩)
section
variable {X : Cx} {o e : Expr} {to : TE} {ta : TA} {apos cpos : Pos}
noncomputable def XR (to : TE) (ta : TA) : TE := fun σ H Q => to σ H fun x H1 => (∃ l ys, x = .ref l ∧ TupF H1 l ys) ∧ ta σ H1 fun vs H2 => ∃ (l : Addr) (ys : List V) (v : V) (k : Nat) (hk : k < ys.length), vs = [v] ∧ x = .ref l ∧ TupF H2 l ys ∧ yV v = true ∧ (∀ y ∈ ys, yV y = true) ∧
 eqV ys[k] v = true ∧ (∀ i (hi : i < ys.length), i < k → eqV ys[i] v = false) ∧ Q (.int (k : Int)) H2
theorem pe_index (ho : PE X o to) (ha : PA X [e] ta) (hbase : attributeBase o "index" X.env (eval o X.env) = eval o X.env := by rfl)
  (hfew : ((backTo cpos (starEach [e] X.env)).all (fun x => !x.1) && (backToKw cpos (keywordEach [] X.env)).all (fun x => x.1.isSome) && decide ([e].length + ([] : List Keyword).length + (if ([] : List Keyword).isEmpty then 0 else 1) < 30)) = true := by rfl)
  (hline : (apos.endLine == cpos.line) = true := by rfl) (hst : zN e = false := by rfl) : PE X (.Call (.Attribute o "index" apos) [e] [] cpos) (XR to ta) := by
 intro pins s σ H Q I h
 refine wpAny_Call_method_late hbase hfew hline rfl (thn (ho pins s σ H _ I h) fun v s1 ⟨x, H1, I1, r1, ⟨l, ys, ex, ob, e1, hd, hc⟩, q1⟩ => ?_)
 subst ex
 obtain rfl : v = Value.ref l := r1
 obtain ⟨g1, _⟩ := I1.hok l _ e1
 refine ⟨"tuple", "tuple.index", PySem.F.plainAttrs_tuple, PySem.F.slot_tuple_index, PySem.F.type_tuple_index, ⟨ob, g1, hc⟩, fun a ea => ?_, ?_⟩
 ·cases ea
  exact ⟨ob, g1, hd⟩
 have hA := ha cpos pins s1 σ H1 _ I1 q1
 rw [yY hst] at hA ⊢
 refine Calls.callWith_builtin (by rfl) (Calls.evalArgs_plain ?_)
 refine thn hA fun us s2 ⟨vs, H2, I2, r2, q2⟩ => ?_
 obtain ⟨l', zs, v, k, hk, rfl, el, ⟨ob2, e2, hd2, hc2⟩, fv, fz, hit, hno, q⟩ := q2
 cases el
 obtain ⟨u, rfl, ru⟩ := r2.one
 obtain ⟨g2, z2, its, rv, ot, et, ct, n, dt⟩ := I2.hok l _ e2
 have hl := rv.length
 have eqs : ∀ i (h1 : i < zs.length) (h2 : i < its.length), RelV zs[i] its[i] := fun i h1 h2 => by
  obtain ⟨w', ew, rw'⟩ := rv.get (show zs[i]? = some zs[i] by simp [h1])
  rw [List.getElem?_eq_getElem h2] at ew
  rw [Option.some.inj ew]
  exact rw'
 have hT : s2.TypeIs (.ref l) "tuple" := ⟨ot, et, ct⟩
 refine wpAny_call_entry PySem.F.slot_tuple_index hT PySem.F.entry_tuple_index (tup_index (e := fun i => eqV (zs.getD i .non) v) (j := k) et dt (by simp; lia) ?_ (fun i hi => ?_) (fun i hi => ?_) ⟨.int k, H2, I2.tok _, ⟨_, rfl⟩, q⟩) (PySem.F.args_tuple_index_2 _ _)
 ·show eqV (zs.getD k .non) v = true
  rw [List.getD_eq_getElem?_getD, List.getElem?_eq_getElem hk]
  exact hit
 ·show eqV (zs.getD i .non) v = false
  rw [List.getD_eq_getElem?_getD, List.getElem?_eq_getElem (show i < zs.length by lia)]
  exact hno i (by lia) hi
 ·have hi2 : i < its.length := by simpa using hi
  have hi1 : i < zs.length := by lia
  have q := YJ (A := X.A.in1) (s := s2) (eqs i hi1 hi2) ru (fz _ (List.getElem_mem hi1)) fv
  show SeqAt.EqAt _ _ its.toArray[i] u (eqV (zs.getD i .non) v)
  rw [List.getD_eq_getElem?_getD, List.getElem?_eq_getElem hi1]
  simpa using q
end
end L2
namespace L2
open PySem
theorem TupF.same {H H' : Hp} {l : Addr} {ys : List V} (t : TupF H l ys) (k : Same H H') : TupF H' l ys := let ⟨o, e, a, b⟩ := t; ⟨o, k _ _ e, a, b⟩
end L2
namespace PT
open PySem L2 G2
structure KP (mg : Str → Option Value) : Prop where
 sorts : Kn mg "SORTS" 0
 rules : Kn mg "RULES" 1
 inputs : Kn mg "INPUTS" 2
 begin : Kn mg "BEGIN" 3
 answer : Kn mg "ANSWER" 4
 takes : Kn mg "TAKES" 0
 gives : Kn mg "GIVES" 1
structure KR (K : PySem.W.Frag) (mg : Str → Option Value) : Prop where
 fig : KnS mg "FIGURES" "0123456789"
 lets : KnS mg "LETTERS" "abcdefghijklmnopqrstuvwxyz"
 no : GTup K mg "NO_NAMES" (noNames.map V.str)
 mlet : Kn mg "MOST_LETTERS" 8
 msor : Kn mg "MOST_SORTS" 8
 mbeg : Kn mg "MOST_BEGIN" 99
 minp : Kn mg "MOST_INPUTS" 3
 mrul : Kn mg "MOST_RULES" 8
 mdro : Kn mg "MOST_DROPS" 9
 mfig : Kn mg "MOST_FIGURES" 2
 l0 : Kn mg "SORTS_LINE" 0
 l1 : Kn mg "BEGIN_LINE" 1
 l2 : Kn mg "IN_LINE" 2
 l3 : Kn mg "OUT_LINE" 3
 l4 : Kn mg "FIRST_RULE" 4
theorem w_index {to : TE} {ta : TA} {σ : St} {H : Hp} {Q : VK} (h : to σ H fun x H1 => (∃ l ys, x = .ref l ∧ TupF H1 l ys) ∧ ta σ H1 fun vs H2 => ∃ (l : Addr) (ys : List V) (v : V) (k : Nat) (hk : k < ys.length), vs = [v] ∧ x = .ref l ∧ TupF H2 l ys ∧ yV v = true ∧ (∀ y ∈ ys, yV y = true) ∧
  eqV ys[k] v = true ∧ (∀ i (hi : i < ys.length), i < k → eqV ys[i] v = false) ∧ Q (.int (k : Int)) H2) : XR to ta σ H Q := h
theorem flat_mem (nm : List Str) : ∀ y ∈ nm.map V.str, yV y = true := fun y hy => by
 obtain ⟨x, _, rfl⟩ := List.mem_map.mp hy
 rfl
theorem eqV_int {a b : Int} : eqV (.int a) (.int b) = decide (a = b) := by
 unfold eqV
 rfl
theorem Yi (x : Int) : ∀ (ws : List Int), inV (.int x) (ws.map V.int) = decide (x ∈ ws)
 | [] => rfl
 | w :: ws => by
  show (eqV (.int w) (.int x) || inV (.int x) (ws.map V.int)) = _
  rw [Yi x ws, eqV_int]
  by_cases h : w = x
  ·subst h; simp
  ·have h' : ¬ x = w := fun e => h e.symm
   simp [h, h']
theorem flat_ints (ws : List Int) : (ws.map V.int).all yV = true := by
 rw [List.all_map]
 exact List.all_eq_true.mpr fun _ _ => rfl
noncomputable def RlD (H : Hp) (r : Addr) (x : List Int × List Int) : Prop := ∃ a b, H r = some (.tup [.ref a, .ref b]) ∧ H a = some (.tup (x.1.map V.int)) ∧ H b = some (.tup (x.2.map V.int))
theorem RlD.same {H H' : Hp} {r : Addr} {x : List Int × List Int} (h : RlD H r x) (k : Same H H') : RlD H' r x := let ⟨a, b, h1, h2, h3⟩ := h; ⟨a, b, k _ _ h1, k _ _ h2, k _ _ h3⟩
noncomputable def RlsD (H : Hp) : List Addr → List (List Int × List Int) → Prop
 | [], [] => True
 | r :: rs, x :: xs => RlD H r x ∧ RlsD H rs xs
 | _, _ => False
theorem RlsD.same {H H' : Hp} (k : Same H H') : ∀ {rs : List Addr} {xs : List (List Int × List Int)}, RlsD H rs xs → RlsD H' rs xs
 | [], [], _ => trivial
 | _ :: _, _ :: _, ⟨a, b⟩ => ⟨a.same k, RlsD.same k b⟩
 | [], _ :: _, h => h.elim
 | _ :: _, [], h => h.elim
theorem RlsD.len {H : Hp} : ∀ {rs : List Addr} {xs : List (List Int × List Int)}, RlsD H rs xs → rs.length = xs.length
 | [], [], _ => rfl
 | _ :: _, _ :: _, ⟨_, b⟩ => by rw [List.length_cons, List.length_cons, RlsD.len b]
 | [], _ :: _, h => h.elim
 | _ :: _, [], h => h.elim
theorem RlsD.get {H : Hp} : ∀ {rs : List Addr} {xs : List (List Int × List Int)} {i : Nat} {r : Addr}, RlsD H rs xs → rs[i]? = some r → ∃ x, xs[i]? = some x ∧ RlD H r x
 | r' :: _, x :: _, 0, r, ⟨a, _⟩, e => by cases e; exact ⟨x, rfl, a⟩
 | _ :: _, _ :: _, i + 1, r, ⟨_, b⟩, e => RlsD.get (i := i) b e
 | [], _, _, _, _, e => nomatch e
 | _ :: _, [], _, _, h, _ => h.elim
theorem RlsD.snoc {H : Hp} : ∀ {rs : List Addr} {xs : List (List Int × List Int)} {r : Addr} {x : List Int × List Int}, RlsD H rs xs → RlD H r x → RlsD H (rs ++ [r]) (xs ++ [x])
 | [], [], _, _, _, h => ⟨h, trivial⟩
 | _ :: _, _ :: _, _, _, ⟨a, b⟩, h => ⟨a, RlsD.snoc b h⟩
 | [], _ :: _, _, _, h, _ => h.elim
 | _ :: _, [], _, _, h, _ => h.elim
theorem RlD.off {H : Hp} {D r : Addr} {ys : List V} {o : HO} {x : List Int × List Int} (hD : H D = some (.lst ys)) (h : RlD H r x) : RlD (upd H D o) r x := by
 obtain ⟨a, b, h1, h2, h3⟩ := h
 have ne : ∀ {q : Addr} {zs : List V}, H q = some (.tup zs) → q ≠ D := fun e z => by rw [z, hD] at e; cases e
 exact ⟨a, b, by rw [zg (ne h1)]; exact h1, by rw [zg (ne h2)]; exact h2, by rw [zg (ne h3)]; exact h3⟩
theorem RlsD.off {H : Hp} {D : Addr} {ys : List V} {o : HO} (hD : H D = some (.lst ys)) : ∀ {rs : List Addr} {xs : List (List Int × List Int)}, RlsD H rs xs → RlsD (upd H D o) rs xs
 | [], [], _ => trivial
 | _ :: _, _ :: _, ⟨a, b⟩ => ⟨a.off hD, RlsD.off hD b⟩
 | [], _ :: _, h => h.elim
 | _ :: _, [], h => h.elim
structure PotF (fz : Bool) (H : Hp) (p : Addr) (d : PD) : Prop where
 ex : ∃ (ps pr pin pb : Addr) (rs : List Addr), H p = some (.tup [.ref ps, .ref pr, .ref pin, .ref pb, .int d.ans]) ∧ (if fz = true then TupF H ps (d.nm.map V.str) else H ps = some (.tup (d.nm.map V.str))) ∧ H pr = some (.tup (rs.map V.ref)) ∧ RlsD H rs d.rl ∧
  H pin = some (.tup (d.ins.map V.int)) ∧ H pb = some (.tup (d.beg.map V.int))
theorem PotF.same {fz : Bool} {H H' : Hp} {p : Addr} {d : PD} (h : PotF fz H p d) (k : Same H H') : PotF fz H' p d := by
 obtain ⟨ps, pr, pin, pb, rs, h1, h2, h3, h4, h5, h6⟩ := h.ex
 refine ⟨ps, pr, pin, pb, rs, k _ _ h1, ?_, k _ _ h3, h4.same k, k _ _ h5, k _ _ h6⟩
 cases fz
 ·exact k _ _ h2
 ·exact TupF.same h2 k
theorem snoc_ln {A : List (List Str)} {α : Type} {rl : List α} {f : α → List Str} {i : Nat} {r : α} (h : rl[i]? = some r) : ((A ++ (rl.take (i + 1)).map f).map ln).map V.str = ((A ++ (rl.take i).map f).map ln).map V.str ++ [V.str (ln (f r))] := by
 rw [List.take_add_one, h]
 simp
theorem Ye : ∀ {ws : List Str}, (∀ w ∈ ws, ∀ c ∈ w.cps.toList, c < 128) → PyData.canLayAll0 (ws.map PyData.str) = true
 | [], _ => rfl
 | w :: ws, h => by
  show (PyData.canLay0 (.str w) && PyData.canLayAll0 (ws.map PyData.str)) = true
  rw [Ye fun w hw => h w (List.mem_cons_of_mem _ hw), Bool.and_true]
  show PyData.strOk w = true
  unfold PyData.strOk
  rw [Array.all_eq_true']
  intro c hc
  have := h w List.mem_cons_self c (Array.mem_toList_iff.mpr hc)
  exact decide_eq_true (Nat.lt_trans this (by decide))
theorem wf : ∀ ws : List Str, PyData.depthAll (ws.map PyData.str) = 0
 | [] => rfl
 | w :: ws => by
  show max (PyData.depth (.str w)) (PyData.depthAll (ws.map PyData.str)) = 0
  rw [wf ws]
  rfl
end PT
namespace L2
open PySem PySem.Spec PyProof.Rows
section
variable {M : Model} {A : Around} {E : Value → Shared → Prop} {s : Shared} {base : Heap} {env : Env} {outer : List Env} {L a : Addr} {T : Option Addr} {C : Value} {d : Option Addr} {H : Hp} {lo : Nat} {fl : Value} {Q : Unit → Shared → Prop}
theorem Yd (hfr : A.frames = some (env :: outer)) (hl : s.heap.FunFrames base (env :: outer)) (hf : env.frame = some L) (F : Fly lo s.heap H a T C d fl) (hlo : lo ≤ s.heap.objs.size) (hH : ∀ b, s.heap.objs.size ≤ b → H b = none)
  (h : ∀ h' T' fl', Fly lo h' H a (some T') C d fl' → (T' ∈ a :: T.toList ∨ s.heap.objs.size ≤ T') → (∀ b o, s.heap.get? b = some o → b ∉ frs (env :: outer) → b ∉ a :: T.toList → h'.get? b = some o) →
   (∀ b o, s.heap.get? b = some o → b ∉ a :: T.toList → ∃ z, h'.get? b = some { o with slots := z }) → Q () { s with heap := h' }) :
  wpAny M A (noteFrame (.ref a) env) Q E s := by
 cases T with
 | none => exact X8 hfr hl hf (⟨F.at_, F.lo⟩ : Fly lo s.heap H a none C d .none) hlo hH fun h' T' F' hT' k1 k2 => h h' T' _ F' (.inr hT') k1 k2
 | some t =>
  have F0 := F
  obtain ⟨⟨vs, sl, ha, hT⟩, hlow⟩ := F
  unfold noteFrame
  simp only [hf]
  obtain ⟨h1, hta, oT, ts, g1, g2, g3⟩ := hT
  refine wpAny_bind (wpAny_field ha rfl h1 ?_)
  rw [if_pos (show (Value.ref t != Value.none) = true from by simp)]
  refine wpAny_bind (wpAny_field g1 g2 g3 ?_)
  by_cases hq : (fl == rawInt L) = true
  ·rw [if_pos hq]
   exact wpAny_pure (h s.heap t fl F0 (.inl (by simp)) (fun b o hb _ _ => hb) fun b o hb _ => ⟨o.slots, hb⟩)
  rw [if_neg hq]
  refine wpAny_bind (wpAny_setField g1 g2 (Array.getElem?_eq_some_iff.mp g3).1 ?_)
  have other : ∀ b, b ≠ t → (s.heap.update t (Obj.mapFields (·.setIfInBounds 3 Value.none))).get? b = s.heap.get? b := fun b hb => Heap.get?_update_other _ _ (Ne.symm hb)
  have noRecord : ∀ b o, s.heap.get? b = some o → (∀ vs, o.data ≠ .fields vs) → b ≠ t := fun b o hb hnf q => by
   rw [q, g1] at hb; injection hb with hb; subst hb; exact hnf ts g2
  have szu : (s.heap.update t (Obj.mapFields (·.setIfInBounds 3 Value.none))).objs.size = s.heap.objs.size := Heap.size_after_update ..
  refine ZO (s := { s with heap := s.heap.update t (Obj.mapFields (·.setIfInBounds 3 Value.none)) }) hfr (hl.of_keeps fun b o hb hnf => ⟨o, (other b (noRecord b o hb hnf)).trans hb, rfl⟩) hf ((other a (Ne.symm hta)).trans ha) rfl (Array.getElem?_eq_some_iff.mp h1).1 fun h' T' hs hne he htb k1 k2 => ?_
  have hs' : s.heap.objs.size ≤ T' := by
   have hs : (s.heap.update t (Obj.mapFields (·.setIfInBounds 3 Value.none))).objs.size ≤ T' := hs
   rw [szu] at hs; exact hs
  obtain ⟨oT', ts', t1, t2, t3⟩ := htb
  refine h h' T' _ ⟨⟨_, sl, he, by simp [(Array.getElem?_eq_some_iff.mp h1).1], hne, oT', ts', t1, t2, t3⟩, fun b hb => ?_⟩ (.inr hs') (fun b o hb hn hc => k1 b o ((other b fun z => hc (by simp [z])).trans hb) hn fun z => hc (by simp [z])) fun b o hb hc => k2 b o ((other b fun z => hc (by simp [z])).trans hb) fun z => hc (by simp [z])
  rcases List.mem_cons.mp hb with e | hb
  ·rw [e]; exact hlow a List.mem_cons_self
  ·rcases List.mem_singleton.mp hb with rfl
   exact ⟨Nat.le_trans hlo hs', hH _ hs'⟩
theorem land_any {t : Addr} {fr : Option Addr} (F : Fly lo s.heap H a (some t) C d fl)
  (h : ∀ h' fl', Fly lo h' H a (some t) C d fl' → (∀ b o, s.heap.get? b = some o → b ≠ t → h'.get? b = some o) → Q () { s with heap := h' }) : wpAny M A (setFlight (.ref a) fr) Q E s := by
 obtain ⟨⟨vs, sl, ha, h1, hta, oT, ts, g1, g2, g3⟩, hlow⟩ := F
 have hsz3 : 3 < ts.size := (Array.getElem?_eq_some_iff.mp g3).1
 have other : ∀ b, b ≠ t → (s.heap.update t (Obj.mapFields (·.setIfInBounds 3 (fr.elim Value.none fun f => rawInt f)))).get? b = s.heap.get? b :=
  fun b hb => Heap.get?_update_other _ _ (Ne.symm hb)
 unfold setFlight
 refine wpAny_bind (wpAny_field ha rfl h1 ?_)
 rw [if_pos (show (Value.ref t != Value.none) = true from by simp)]
 refine wpAny_setField g1 g2 hsz3 (h _ (fr.elim Value.none fun f => rawInt f) ⟨⟨vs, sl, (other a (Ne.symm hta)).trans ha, h1, hta, _, _, Heap.get?_update_self _ g1 (Obj.isFreed_of_fields (Obj.data_mapFields g2 _)), Obj.data_mapFields g2 _, by simp [hsz3]⟩, hlow⟩ fun b o hb hn => (other b hn).trans hb)
theorem pass_any {α : Type} {t : Addr} {what : String} {env : Env} {Q : α → Shared → Prop} (F : Fly lo s.heap H a (some t) C d fl)
  (h : ∀ h' fl', Fly lo h' H a (some t) C d fl' → (∀ b o, s.heap.get? b = some o → b ≠ t → h'.get? b = some o) → E (.ref a) { s with heap := h' }) : wpAny M A (PySem.passOn what (.ref a) env : Sem α) Q E s := by
 have F0 := F
 obtain ⟨⟨vs, sl, ha, h1, hta, oT, ts, g1, g2, g3⟩, hlow⟩ := F
 unfold PySem.passOn
 refine wpAny_bind (wpAny_field ha rfl h1 ?_)
 rw [if_neg (show ¬ ((Value.ref t == Value.none) = true) from by simp)]
 refine wpAny_bind (land_any F0 fun h' fl' F' k => ?_)
 exact wpAny_throw (h h' fl' F' k)
theorem Fly.keeps {h h' : Heap} (F : Fly lo h H a T C d fl) (k : ∀ b ∈ a :: T.toList, ∀ o, h.get? b = some o → h'.get? b = some o) : Fly lo h' H a T C d fl := by
 obtain ⟨⟨vs, sl, ha, hT⟩, hlow⟩ := F
 refine ⟨⟨vs, sl, k a List.mem_cons_self _ ha, ?_⟩, hlow⟩
 cases T with
 | none => exact hT
 | some t =>
  obtain ⟨h1, hta, oT, ts, g1, g2, g3⟩ := hT
  exact ⟨h1, hta, oT, ts, k t (by simp) _ g1, g2, g3⟩
end
noncomputable def LandsF (X : Cx) (EX : St → XK) : Prop := ∀ (pins : List (Addr × Obj)) (σ : St) (H : Hp) (s : Shared) (a : Addr) (T : Option Addr) (C : Value) (d : Option Addr) (fl : Value), Inv X pins σ H s → Fly X.s₀.heap.objs.size s.heap H a T C d fl →
 (∀ p ∈ X.pn, p.1 ∉ a :: T.toList) → EX σ C d H → X.xe (.ref a) s
theorem LandsF.lands {X : Cx} {EX : St → XK} (L : LandsF X EX) : Lands X EX := fun pins σ H s a T C d I F hp hE => L pins σ H s a T C d _ I F hp hE
theorem landsF_cx {P : Program} {w : World} {K : PySem.W.Frag} {mg : Str → Option Value} {base : Heap} {N : List Str} {qual : Str} {scope : Scope} {f : Addr} {cd : Value} {A : Around} {outer : List Env} {s : Shared} {H : Hp} {E : XK} :
  LandsF (cxOf (CXE P w) P w K mg base N qual scope f cd A outer s H E) (fun _ => E) := by
 intro pins σ H' s' a T C d fl I F hp hE
 show wpAny (model P w) (A.deeper (envOfC qual scope s.heap.objs.size f cd)) (leaving (envOfC qual scope s.heap.objs.size f cd) (.ref a)) (fun _ s'' => CXE P w outer H s E (.ref a) s'') (fun e' s'' => CXE P w outer H s E e' s'') s'
 unfold leaving
 have hstk := I.stack
 have hfr := I.stkFree
 refine wpAny_bind (Yd I.ok.frames hstk rfl F I.sz (fun b hb => I.hok.fresh hb) fun h1 T1 fl1 F1 hT1 k1 k2 => ?_)
 refine YH (s := { s' with heap := h1 }) F1 fun h2 F2 k3 => ?_
 have low : ∀ b, b < s.heap.objs.size → b ∉ a :: T.toList := fun b hb z => absurd (Nat.lt_of_lt_of_le hb (F.lo b z).1) (Nat.lt_irrefl _)
 have hsz : s.heap.objs.size ≤ s'.heap.objs.size := I.sz
 have nT1 : ∀ b, b < s.heap.objs.size → b ≠ T1 := fun b hb z => by
  rcases hT1 with q | q
  ·exact low b hb (z ▸ q)
  ·exact absurd (Nat.lt_of_lt_of_le (Nat.lt_of_lt_of_le (z ▸ hb) hsz) q) (Nat.lt_irrefl _)
 refine ⟨a, some T1, C, d, H', rfl, I.os, I.bare, Un.more I.base (fun b o hb q hn => ?_) (fun b o hb q => ?_), ?_, F2, hE⟩
 ·refine k3 b o (k1 b o q (fun z => ?_) (low b hb)) (nT1 b hb)
  rcases List.mem_cons.mp z with z | z
  ·exact absurd (Nat.lt_of_lt_of_le hb (Nat.le_trans I.ok.above (Nat.le_of_eq z.symm))) (Nat.lt_irrefl _)
  ·exact hn z
 ·obtain ⟨z, e⟩ := k2 b o q (low b hb)
  exact ⟨z, k3 b _ e (nT1 b hb)⟩
 ·refine wP (fs := frs (envOfC qual scope s.heap.objs.size f cd :: outer)) (ch := T1 :: (a :: T.toList)) I.hok (fun b o q hn hc => ?_) hfr fun b hb => ?_
  ·exact k3 b o (k1 b o q hn fun z => hc (List.mem_cons_of_mem _ z)) fun z => hc (by simp [z])
  ·rcases List.mem_cons.mp hb with e | hb
   ·rw [e]; exact (F1.lo T1 (by simp)).2
   ·exact (F.lo b hb).2
theorem Fun.okXF {P : Program} {w : World} {K : PySem.W.Frag} {mg : Str → Option Value} {base : Heap} {x qual : Str} {st : Stmt} {f : Addr} {fd : FuncData} {N ps : List Str} {k : Nat} {sp : Sp} (F : Fun K x qual st f fd) (S : FnScope N ps (zc st)) (len : ∀ vs H Q E, sp vs H Q E → vs.length = ps.length)
  (hbody : ∀ (cdv : Value) (A : Around) (outer : List Env) (s : Shared) (H : Hp) (vs : List V) (Q : VK) (E : XK), Room k (A.deeper (envOfC qual (zc st) s.heap.objs.size f cdv)) → sp vs H Q E →
   LandsF (cxOf (CXE P w) P w K mg base N qual (zc st) f cdv A outer s H E) (fun _ => E) →
   ∃ t, PSs (cxOf (CXE P w) P w K mg base N qual (zc st) f cdv A outer s H E) (zk st) t ∧ t { nx := fun _ H' => Q .non H', rt := Q } (start N vs) H) : FnOk P w K mg base (CXE P w) (k + 1) f fd ps sp := by
 obtain ⟨oc, od, kV, doc, pm, an, cdv, ct, osl, rfl, lk, hcd⟩ := F.ex
 refine WL lk hcd S len fun A outer s H vs Q E hr hsp => ?_
 exact hbody cdv A outer s H vs Q E hr hsp landsF_cx
theorem lands_block {X : Cx} {EX : St → XK} {use : Option (Value → Sem Unit)} {Qx : Value → Shared → Prop} {acc : Value} {N : List Str} {sc : Scope} {cl : List (Str × Addr)} {fp : List Addr} {s3 : Shared} {H3 : Hp} {pins : List (Addr × Obj)} {σ : St}
  (L : LandsF X EX) (hst : X.stack = X.env :: X.outer) (hfr : X.env.frame = some X.env.locals) (I3 : Inv X pins σ H3 s3)
  (hf3 : ∀ b ∈ fp, (b ∈ X.ex ∨ X.s₀.heap.objs.size ≤ b) ∧ b ≠ X.env.locals ∧ (∀ x c, X.env.cells.lookup x = some c → c ≠ b) ∧ ∀ p ∈ X.pn ++ pins, p.1 ≠ b) :
  LandsF (cxC X N sc cl s3.heap.objs.size fp s3 H3 (notedBy (model X.prog X.w) X.A (compEnvC sc cl s3.heap.objs.size X.env) fun e s' => compPost (model X.prog X.w) X.A X.xe use Qx acc s3.heap.objs.size (.error e) s')) (fun _ => EX σ) := by
 intro pins' τ H' s' a T C d fl I1 F hp hE
 have J : Inv X pins σ H' s' := I3.call' (ch := fp) I1.os I1.base I1.hok I1.bare hf3
 have F' : Fly X.s₀.heap.objs.size s'.heap H' a T C d fl := F.mono I3.sz
 have hps : ∀ p ∈ X.pn ++ pins, p.1 ∉ a :: T.toList := fun p hp z => absurd (Nat.lt_of_lt_of_le (Heap.lt_size (I3.pin p hp).1) (F.lo _ z).1) (Nat.lt_irrefl _)
 have hstk : s'.heap.FunFrames X.base (X.env :: X.outer) := by rw [← hst]; exact J.stack
 have hfrs : ∀ b ∈ frs (X.env :: X.outer), H' b = none := by rw [← hst]; exact J.stkFree
 have aw := J.away F' (Nat.le_refl _) hps
 have I0 : Inv (cxC X N sc cl s3.heap.objs.size fp s3 H3 (notedBy (model X.prog X.w) X.A (compEnvC sc cl s3.heap.objs.size X.env) fun e s' => compPost (model X.prog X.w) X.A X.xe use Qx acc s3.heap.objs.size (.error e) s')) [] τ H' s' :=
  ⟨I1.ok, I1.os, I1.bare, I1.base, I1.loc, I1.cell, I1.free, I1.freeC, fun p hp => absurd (show p ∈ ([] : List (Addr × Obj)) from hp) (by simp), I1.hok, I1.len⟩
 have awC : ∀ b ∈ a :: T.toList, b ≠ s3.heap.objs.size := fun b hb => (I0.away F (Nat.le_refl _) (fun p hp => absurd (show p ∈ ([] : List (Addr × Obj)) from hp) (by simp)) b hb).2.1
 have ltC : s3.heap.objs.size < s'.heap.objs.size := I1.lt
 have Cfr : s3.heap.objs.size ∉ frs (X.env :: X.outer) := fun z => by
  rw [← hst] at z
  obtain ⟨_, o, ho, _⟩ := I3.stack.mem z
  exact absurd (Heap.lt_size ho) (Nat.lt_irrefl _)
 show wpAny (model X.prog X.w) X.A (noteFrame (.ref a) X.env) (fun _ s2 => compPost (model X.prog X.w) X.A X.xe use Qx acc s3.heap.objs.size (.error (.ref a)) s2) (fun e s2 => compPost (model X.prog X.w) X.A X.xe use Qx acc s3.heap.objs.size (.error e) s2) s'
 refine Yd (by rw [J.ok.frames, hst]) hstk hfr F' J.sz (fun b hb => J.hok.fresh hb) fun h1 T1 fl1 F1 hT1 k1 k2 => ?_
 have J1 : Inv X pins σ H' { s' with heap := h1 } := J.call (g' := s'.gens) (d' := s'.drawn) (t' := s'.toks) (ch := a :: T.toList) (by rw [hst]; exact Z1 k1 k2) (wP J.hok k1 hfrs fun b hb => (F.lo b hb).2) J.bare aw
 have T1C : T1 ≠ s3.heap.objs.size := by
  rcases hT1 with q | q
  ·exact awC _ q
  ·exact fun z => absurd (Nat.lt_of_lt_of_le ltC (z ▸ q)) (Nat.lt_irrefl _)
 have nw : ∀ b ∈ [T1], (b ∈ X.ex ∨ X.s₀.heap.objs.size ≤ b) ∧ b ≠ X.env.locals ∧ (∀ x c, X.env.cells.lookup x = some c → c ≠ b) ∧ ∀ p ∈ X.pn ++ pins, p.1 ≠ b := by
  rcases hT1 with q | q
  ·intro b hb
   rcases List.mem_singleton.mp hb with rfl
   exact aw _ q
  ·exact J.newer q
 obtain ⟨m, ⟨o, es, ep, ho, r⟩, _⟩ := I1.loc
 have hN : h1.Ns s3.heap.objs.size m := ⟨o, es, ep, k1 _ o ho Cfr fun z => awC _ z rfl, r⟩
 have hC4 : ∀ x c, X.env.cells.lookup x = some c → c ≠ s3.heap.objs.size := fun x c e z => by
  obtain ⟨v, o, ho, _⟩ := I3.cell x c e
  exact absurd (Heap.lt_size ho) (by rw [z]; exact Nat.lt_irrefl _)
 have hC5 : ∀ p ∈ X.pn ++ pins, p.1 ≠ s3.heap.objs.size := fun p hp z => absurd (Heap.lt_size (I3.pin p hp).1) (by rw [z]; exact Nat.lt_irrefl _)
 have main : ∃ m, h1.Ns s3.heap.objs.size m ∧ ∀ h', Heap.SameBut s3.heap.objs.size h1 h' → ∀ cenv : Env, cenv.locals = s3.heap.objs.size → wpAny (model X.prog X.w) X.A (PySem.passOn "comprehension.variables-let-go" (.ref a) cenv : Sem Value) (fun _ _ => False) X.xe { s' with heap := h' } := by
  refine ⟨m, hN, fun h' hs' cenv _ => ?_⟩
  have J2 : Inv X pins σ H' { s' with heap := h' } := Inv.turned (s := { s' with heap := h1 }) (t' := s'.toks) J1 (fun b o hb e => (hs'.2 b hb).trans e) I1.free (Nat.ne_of_gt I3.lt) (.inr I3.sz) hC4 hC5
  have F2 : Fly X.s₀.heap.objs.size h' H' a (some T1) C d fl1 := F1.keeps fun b hb o e => (hs'.2 b (by
   rcases List.mem_cons.mp hb with z | z
   ·rw [z]; exact awC a List.mem_cons_self
   ·rw [List.mem_singleton.mp z]; exact T1C)).trans e
  refine pass_any (s := { s' with heap := h' }) F2 fun h2 fl2 F3 k3 => ?_
  have J3 : Inv X pins σ H' { s' with heap := h2 } := Inv.call (s := { s' with heap := h' }) (h' := h2) (g' := s'.gens) (d' := s'.drawn) (t' := s'.toks) (ch := [T1]) J2 (Z1 (h := h') (fun b o q _ hc => k3 b o q fun z => hc (by simp [z])) fun b o q hc => ⟨o.slots, k3 b o q fun z => hc (by simp [z])⟩)
   (wP (h := h') (fs := []) (ch := [T1]) J2.hok (fun b o q _ hc => k3 b o q fun z => hc (by simp [z])) (fun b hb => nomatch hb) fun b hb => by rcases List.mem_singleton.mp hb with rfl; exact (F1.lo _ (by simp)).2) J.bare nw
  refine L pins σ H' _ a (some T1) C d fl2 J3 F3 (fun p hp z => ?_) hE
  rcases List.mem_cons.mp z with z | z
  ·exact (aw a List.mem_cons_self).2.2.2 p (List.mem_append_left _ hp) z
  ·exact (nw T1 (by simp)).2.2.2 p (List.mem_append_left _ hp) (List.mem_singleton.mp z)
 cases use <;> exact main
noncomputable def XS (wi : TI) (n : Nat) (ix : List Nat) (g : TG) (tc : (St → XK) → TT) (te : (St → XK) → TE) (EX : St → XK) : TE := fun σ H Q => wi σ H fun J H1 => ∀ D, H1 D = none → CGo J D g (tc fun _ => EX σ) (te fun _ => EX σ) Q (List.replicate n none ++ sub ix σ) H1
theorem comp_blockX {EX : St → XK} {use : Option (Value → Sem Unit)} {Qx : Value → Shared → Prop} {X : Cx} {pins : List (Addr × Obj)} {σ : St} {H : Hp} {s : Shared} {sc : Scope} {TN F : List Str} {ix : List Nat} {elt tg iter : Expr} {ifs : List Expr} {pos : Pos} {g : TG} {tc : (St → XK) → TT} {te : (St → XK) → TE} {J : It} {fp : List Addr} {it : Addr} {tn : Nat → Heap → Prop} {Q : VK}
  (L : LandsF X EX) (hst : X.stack = X.env :: X.outer) (hfr : X.env.frame = some X.env.locals)
  (S : CScope X.env.scope sc TN F) (hix : ix.map (fun i => X.N[i]?) = F.map some) (hc : X.calm = true) (I : Inv X pins σ H s) (T : Turn X.prog X.w X.K tg J fp it tn) (st : tn 0 s.heap) (hf : ∀ b ∈ fp, FpOk X pins H b)
  (hg : ∀ cl C fp s3 H3 xe, PG (cxC X (TN ++ F) sc cl C fp s3 H3 xe) tg g) (ht : ∀ EX cl C fp s3 H3 xe, LandsF (cxC X (TN ++ F) sc cl C fp s3 H3 xe) EX → PTs (cxC X (TN ++ F) sc cl C fp s3 H3 xe) ifs (tc EX)) (he : ∀ EX cl C fp s3 H3 xe, LandsF (cxC X (TN ++ F) sc cl C fp s3 H3 xe) EX → PE (cxC X (TN ++ F) sc cl C fp s3 H3 xe) elt (te EX))
  (hW : ∀ D, H D = none → CGo J D g (tc fun _ => EX σ) (te fun _ => EX σ) Q (List.replicate TN.length none ++ sub ix σ) H)
  (fin : ∀ D C H' s', Inv X pins σ H' s' → (∃ m, s'.heap.Ns C m) → H' C = none → C ≠ X.env.locals → X.s₀.heap.objs.size ≤ C → (∀ x c, X.env.cells.lookup x = some c → c ≠ C) → (∀ p ∈ X.pn ++ pins, p.1 ≠ C) → Q (.ref D) H' → compPost (model X.prog X.w) X.A X.xe use Qx (.ref D) C (.ok .next) s') :
  wpAny (model X.prog X.w) X.A (newList []) (fun acc s₃ => wpAny (model X.prog X.w) X.A (newFunctionEnv sc X.env.globals (cloF X.env sc.names []) [] X.env.qual none .none (some X.env)) (fun cenv s₄ =>
   codeAny (model X.prog X.w) X.A (.compStart (.ListComp elt [⟨tg, iter, ifs, 0⟩] sc pos) 0 (.ref it) acc { cenv with scope := relabel sc X.env }) (compPost (model X.prog X.w) X.A X.xe use Qx acc cenv.locals) s₄) X.xe s₃) X.xe s := by
 have hfo : ∀ b ∈ fp, ∃ o, s.heap.get? b = some o := fun b hb => let ⟨o, e, _⟩ := T.obj 0 _ st b hb; ⟨o, e⟩
 refine wpAny_newObj_type ?_
 obtain ⟨W, ⟨m0, w0⟩, go⟩ := hW s.heap.objs.size I.fresh
 have I3 : Inv X pins σ (upd H s.heap.objs.size (.lst [])) { s with heap := s.heap.push { cls := .type "list", data := .seq ([] : List Value).toArray } } := I.lnew (its := []) (ys := []) (t' := s.toks) .nil (Nat.zero_le _)
 generalize hs3 : ({ s with heap := s.heap.push { cls := .type "list", data := .seq ([] : List Value).toArray } } : Shared) = s3 at I3
 have hk3 : ∀ b o, s.heap.get? b = some o → s3.heap.get? b = some o := fun b o e => by
  rw [← hs3]
  exact Heap.get?_push_of_some _ e
 have hf3 : ∀ b ∈ fp, FpOk X pins (upd H s.heap.objs.size (.lst [])) b := fun b hb => by
  obtain ⟨o, e⟩ := hfo b hb
  exact ⟨by rw [zg (Nat.ne_of_lt (Heap.lt_size e))]; exact (hf b hb).1, (hf b hb).2⟩
 have st3 : tn 0 s3.heap := T.keep 0 _ _ st fun b hb o e => hk3 b o e
 show wpAny _ _ _ _ _ s3
 refine wpAny_newFunctionEnv S.nocell (by intro y hy; simp at hy) (fun h4 hn4 hsb => ?_) S.kind
 have hk4 : ∀ b o, s3.heap.get? b = some o → h4.get? b = some o := fun b o e => (hsb.2 b (Nat.ne_of_lt (Heap.lt_size e))).trans (Heap.get?_push_of_some _ e)
 generalize hR : compPost (model X.prog X.w) X.A X.xe use Qx (.ref s.heap.objs.size) s3.heap.objs.size = R
 have loop : ∀ s4 : Shared, s4 = { s3 with heap := h4, toks := s3.toks + ([] : List (Str × Value)).length } →
   codeAny (model X.prog X.w) X.A (.compLoop (.ListComp elt [⟨tg, iter, ifs, 0⟩] sc pos) 0 (.ref it) (.ref s.heap.objs.size) (compEnvC sc (cloF X.env sc.names []) s3.heap.objs.size X.env)) R s4 := by
  rintro s4 rfl
  let X' : Cx := cxC X (TN ++ F) sc (cloF X.env sc.names []) s3.heap.objs.size fp s3 (upd H s.heap.objs.size (.lst [])) (notedBy (model X.prog X.w) X.A (compEnvC sc (cloF X.env sc.names []) s3.heap.objs.size X.env) fun e s' => R (.error e) s')
  have I4 : Inv X' [] (List.replicate TN.length none ++ sub ix σ) (upd H s.heap.objs.size (.lst [])) { s3 with heap := h4, toks := s3.toks + ([] : List (Str × Value)).length } :=
   Yh S hix I3 hf3 (fun b hb => let ⟨o, e⟩ := hfo b hb; ⟨o, hk3 b o e⟩) hk4 hn4
  have LX : LandsF X' (fun _ => EX σ) := by
   have := lands_block (X := X) (use := use) (Qx := Qx) (acc := .ref s.heap.objs.size) (N := TN ++ F) (sc := sc) (cl := cloF X.env sc.names []) L hst hfr I3 fun b hb => ⟨(hf3 b hb).2.2.2.1, (hf3 b hb).2.1, (hf3 b hb).2.2.2.2.1, (hf3 b hb).2.2.2.2.2⟩
   rw [hR] at this
   exact this
  have fpx : ∀ {H' : Hp}, (∀ b ∈ fp, H' b = none) → ∀ b ∈ fp, FpOk X' [] H' b := fun {H'} hn b hb => by
   refine ⟨hn b hb, (I4.ok.exf b hb).1, fun z => I4.ok.exfs b hb z, .inl hb, fun x c e => (I4.ok.exf b hb).2 x c e, fun p hp => absurd (show p ∈ ([] : List (Addr × Obj)) from hp) (by simp)⟩
  refine Zd (fun n s' => ∃ i τ ys H', Inv X' [] τ H' s' ∧ tn i s'.heap ∧ (∀ b ∈ fp, H' b = none) ∧ W i n τ ys H') ?_ m0 ⟨0, _, [], _, I4, T.keep 0 _ _ st3 fun b hb o e => hk4 b o e, fun b hb => (hf3 b hb).1, w0⟩
  rintro n s5 ⟨i, τ, ys, H5, I5, st5, fr5, w5⟩
  obtain ⟨hD, hgo⟩ := go i n τ ys H5 w5
  rcases hgo with ⟨stop, q⟩ | ⟨hgo, step⟩
  ·refine thn (T.done X' rfl rfl rfl hc i [] s5 τ H5 X'.xe I5 (fpx fr5) st5 stop) fun r s6 ⟨hr, I6⟩ => ?_
   subst hr
   show R (.ok .next) s6
   rw [← hR]
   have J6 : Inv X pins σ H5 s6 := I3.call' (ch := fp) I6.os I6.base I6.hok I6.bare fun b hb => ⟨(hf3 b hb).2.2.2.1, (hf3 b hb).2.1, (hf3 b hb).2.2.2.2.1, (hf3 b hb).2.2.2.2.2⟩
   refine fin s.heap.objs.size s3.heap.objs.size H5 s6 J6 (let ⟨m, hn, _⟩ := I6.loc; ⟨m, hn⟩) I6.free (Nat.ne_of_gt I3.lt) I3.sz (fun x c e z => ?_) (fun p hp z => ?_) q
   ·obtain ⟨v, o, ho, _⟩ := I3.cell x c e
    exact absurd (Heap.lt_size ho) (by rw [z]; exact Nat.lt_irrefl _)
   ·exact absurd (Heap.lt_size (I3.pin p hp).1) (by rw [z]; exact Nat.lt_irrefl _)
  ·refine thn (T.item X' rfl rfl rfl hc i [] s5 τ H5 X'.xe I5 (fpx fr5) st5 hgo) fun r s6 ⟨u, hr, h6⟩ => ?_
   subst hr
   refine thn h6 fun _ s7 ⟨v, H7, I7, r7, y7, st7, fr7⟩ => ?_
   have I7' := I7.pinned (fpx fr7) (T.obj _ _ st7)
   refine thn (hg _ _ _ _ _ _ _ s7 τ H7 v u _ I7' r7 (step v H7 y7)) fun _ s8 ⟨τ8, H8, I8, q8⟩ => ?_
   refine thn (ht _ _ _ _ _ _ _ LX _ s8 τ8 H8 _ I8 q8) fun ok s9 ⟨H9, I9, q9⟩ => ?_
   have again : ∀ {ys' : List V} {H' : Hp} {s' : Shared}, Inv X' ([] ++ wI fp s7.heap) τ8 H' s' → (∃ m', m' < n ∧ W (i + 1) m' τ8 ys' H') → ∃ m, m < n ∧ ∃ i τ ys H'', Inv X' [] τ H'' s' ∧ tn i s'.heap ∧ (∀ b ∈ fp, H'' b = none) ∧ W i m τ ys H'' := fun {ys' H' s'} I' ⟨m', hm, w'⟩ => by
    refine ⟨m', hm, i + 1, τ8, ys', H', I'.unpinned, T.keep _ _ _ st7 fun b hb o e => (I'.pin (b, o) (List.mem_append_right _ (List.mem_append_right _ (yD hb e)))).1, fun b hb => ?_, w'⟩
    obtain ⟨o, e, d⟩ := T.obj _ _ st7 b hb
    exact (I'.pin (b, o) (List.mem_append_right _ (List.mem_append_right _ (yD hb e)))).2.1
   cases ok with
   | false =>
    exact again I9 q9
   | true =>
    refine thn (he _ _ _ _ _ _ _ LX _ s9 τ8 H9 _ I9 q9) fun x s10 ⟨y, H10, I10, r10, hD10, hz10, q10⟩ => ?_
    exact Zk (X := X') I10 hD10 hz10 r10 fun s11 I11 => again I11 q10
 subst hR
 exact codeAny_compStart_list (loop _ rfl) (T.self X.A 0 _ _ _ (T.keep 0 _ _ st3 fun b hb o e => hk4 b o e) (loop _ rfl))
section
variable {X : Cx} {sc : Scope} {TN F : List Str} {ix : List Nat} {elt tg iter : Expr} {ifs : List Expr} {pos : Pos} {g : TG} {tc : (St → XK) → TT} {te : (St → XK) → TE} {wi : TI}
theorem pe_compX {EX : St → XK} (L : LandsF X EX) (hst : X.stack = X.env :: X.outer) (hfr : X.env.frame = some X.env.locals) (S : CScope X.env.scope sc TN F) (hix : ix.map (fun i => X.N[i]?) = F.map some) (hc : X.calm = true) (hi : PI X tg iter wi)
  (hg : ∀ cl C fp s3 H3 xe, PG (cxC X (TN ++ F) sc cl C fp s3 H3 xe) tg g) (ht : ∀ EX cl C fp s3 H3 xe, LandsF (cxC X (TN ++ F) sc cl C fp s3 H3 xe) EX → PTs (cxC X (TN ++ F) sc cl C fp s3 H3 xe) ifs (tc EX)) (he : ∀ EX cl C fp s3 H3 xe, LandsF (cxC X (TN ++ F) sc cl C fp s3 H3 xe) EX → PE (cxC X (TN ++ F) sc cl C fp s3 H3 xe) elt (te EX))
  (hs : ∀ x, foldedSetIterable iter X.env x = pure x := by intro _; rfl) : PE X (.ListComp elt [⟨tg, iter, ifs, 0⟩] sc pos) (XS wi TN.length ix g tc te EX) := by
 intro pins s σ H Q I h
 rw [eval_ListComp]
 refine wpAny_comprehension_free (use := none) rfl hs (wk S I) S.kind S.names (thn (hi pins s σ H _ I h) fun v s1 h1 => thn h1 fun itv s2 h2 => ?_)
 obtain ⟨it, fp, tn, J, H2, e, I2, T, st2, f2, q2⟩ := h2
 subst e
 refine comp_blockX (use := none) (Qx := (EP X pins σ Q)) L hst hfr S hix hc I2 T st2 f2 hg ht he q2 fun D C H' s' I' hn hC1 hC2 hC3 hC4 hC5 q => ?_
 obtain ⟨m, hn⟩ := hn
 exact ⟨m, hn, fun h' hs' => ⟨.ref D, H', I'.turned (t' := s'.toks) (fun b o hb e => (hs'.2 b hb).trans e) hC1 hC2 (.inr hC3) hC4 hC5, rfl, q⟩⟩
end
section
variable {X : Cx} {e st : Expr} {te ts : TE} {pos p2 : Pos}
end
theorem SqT.sm {K : PySem.W.Frag} {H H' : Hp} {a : Addr} {xs : List V} (e : Same H H') (h : SqT K H a xs) : SqT K H' a xs := by
 rcases h with (h | ⟨o, h⟩) | h
 ·exact .inl (.inl (e _ _ h))
 ·exact .inl (.inr ⟨o, e _ _ h⟩)
 ·exact .inr h
theorem SqL.sm {K : PySem.W.Frag} {H H' : Hp} {a : Addr} {xs : List V} (e : Same H H') (h : SqL K H a xs) : SqL K H' a xs := by
 rcases h with (h | ⟨o, h⟩) | h
 ·exact .inl (.inl (e _ _ h))
 ·exact .inl (.inr ⟨o, e _ _ h⟩)
 ·exact .inr h
section
variable {D : Addr} {te : TE} {Q : VK} {ρ : St} {H : Hp}
theorem Wq {K : PySem.W.Frag} {a : Addr} {α : Type} {ws : List α} (c r : α → V) (hs : SqT K H a (ws.map c)) (hn : ws.length ≤ 1000) (hD : H D = none)
  (h : ∀ w ∈ ws, ∀ H', Same H H' → ∀ R : V → Hp → Prop, (∀ H'', Same H' H'' → R (r w) H'') → te (some (c w) :: ρ) H' R)
  (q : ∀ H', Same H H' → H' D = some (.lst (ws.map r)) → Q (.ref D) H') : CGo (Itt K a) D (yU 0) tAll te Q (none :: ρ) H := by
 refine ZP (xs := ws.map c) (fun i ys H' => ys = (ws.take i).map r ∧ Same H H') ⟨rfl, Same.new (Same.refl H) hD⟩ (fun i ys H' _ ⟨_, k'⟩ => SqT.sm k' hs) ?_ ?_
 ·rintro i x ys H' hx ⟨rfl, K'⟩ hDy R S kR _
  have hi : i < ws.length := by
   have := (List.getElem?_eq_some_iff.mp hx).1
   simpa using this
  have ex : x = c ws[i] := by
   rw [List.getElem?_map, List.getElem?_eq_getElem hi] at hx
   exact (Option.some.inj hx).symm
  subst ex
  refine ZY (iteT ?_)
  refine h _ (List.getElem_mem hi) H' K' _ fun H2 K2 => ?_
  refine kR _ _ (K2 _ _ hDy) (by rw [List.length_map, List.length_take]; exact zB (by lia)) ⟨?_, (K'.trans K2).put hD⟩
  rw [List.take_add_one, List.getElem?_eq_getElem hi, List.map_append]
  rfl
 ·rintro ys H1 ⟨rfl, K1⟩ e1
  rw [List.length_map, List.take_length] at e1
  exact q H1 K1 e1
theorem cg_rng {lo : Int} {n : Nat} (r : Nat → V) (hn : n ≤ 1000) (hD : H D = none)
  (h : ∀ i, i < n → ∀ H', Same H H' → ∀ R : V → Hp → Prop, (∀ H'', Same H' H'' → R (r i) H'') → te (some (.int (lo + i)) :: ρ) H' R)
  (q : ∀ H', Same H H' → H' D = some (.lst ((List.range n).map r)) → Q (.ref D) H') : CGo (Itr lo n) D (yU 0) tAll te Q (none :: ρ) H := by
 refine xj (n := n) (fun i ys H' => ys = (List.range i).map r ∧ Same H H') ⟨rfl, Same.new (Same.refl H) hD⟩ ?_ ?_
 ·rintro i ys H' hi ⟨rfl, K'⟩ hDy R S kR _
  refine ZY (iteT ?_)
  refine h i hi H' K' _ fun H2 K2 => ?_
  refine kR _ _ (K2 _ _ hDy) (by rw [List.length_map, List.length_range]; exact zB (by lia)) ⟨?_, (K'.trans K2).put hD⟩
  rw [List.range_succ, List.map_append]
  rfl
 ·rintro ys H1 ⟨rfl, K1⟩ e1
  exact q H1 K1 e1
end
end L2
namespace L2
open PySem PySem.Spec PyProof.Rows Builtin Builtin.Str
section
variable {X : Cx}
end
end L2
namespace PT
open PySem L2 G2
theorem inF1 (c : Nat) : inF ⟨#[c]⟩ = decide (48 ≤ c ∧ c ≤ 57) := by
 have h := StrLaws.found_one "0123456789" c
 have e : (Str.ofString "0123456789").cps.toList = List.range' 48 10 := by decide +kernel
 rw [e] at h
 unfold inF
 rw [show Str.length "0123456789" = (Str.ofString "0123456789").length from rfl, h, Bool.eq_iff_iff, decide_eq_true_eq, decide_eq_true_eq, List.mem_range'_1]
 exact ⟨fun z => ⟨z.1, Nat.le_of_lt_succ z.2⟩, fun z => ⟨z.1, Nat.lt_succ_of_le z.2⟩⟩
noncomputable def hdS (x : Str) : Str := match x.cps.toList with | c :: _ => ⟨#[c]⟩ | [] => ""
noncomputable def figP (x : Str) : Bool := !decide (x = "") && ((sg x).all inF && (decide (x = "0") || !decide (hdS x = "0")))
noncomputable def okB (x : Str) (i : Int) : Bool := decide (x = fT i) && decide (PySem.intText? x = some i)
theorem one_ok : ∀ a < 10, okB ⟨#[48 + a]⟩ (a : Int) = true := by decide +kernel
theorem two_ok : ∀ a < 10, ∀ b < 10, a ≠ 0 → okB ⟨#[48 + a, 48 + b]⟩ ((10 * a + b : Nat) : Int) = true := by decide +kernel
theorem three_ok : ∀ a < 10, ∀ b < 10, ∀ c < 10, a ≠ 0 → okB ⟨#[48 + a, 48 + b, 48 + c]⟩ ((100 * a + 10 * b + c : Nat) : Int) = true := by decide +kernel
theorem all_inF {x : Str} (h : (sg x).all inF = true) : ∀ c ∈ x.cps.toList, 48 ≤ c ∧ c ≤ 57 := fun c hc => by
 have := List.all_eq_true.mp h ⟨#[c]⟩ (List.mem_map.mpr ⟨c, hc, rfl⟩)
 rw [inF1] at this
 exact of_decide_eq_true this
theorem YF {x : Str} {i : Int} (h : okB x i = true) : x = fT i ∧ PySem.intText? x = some i := by
 unfold okB at h
 simpa using h
theorem hd_zero {a : Nat} {r : List Nat} {x : Str} (e : x.cps.toList = a :: r) : (hdS x = "0") ↔ a = 48 := by
 unfold hdS
 rw [e]
 constructor
 ·intro h
  have := congrArg (fun y : Str => y.cps.toList) h
  have e0 : (Str.ofString "0").cps.toList = [48] := by decide +kernel
  have this : [a] = [48] := this.trans e0
  simpa using this
 ·intro h
  subst h
  show (⟨#[48]⟩ : Str) = "0"
  decide +kernel
theorem wz {x : Str} {l : List Nat} (e : x.cps.toList = l) : x = ⟨l.toArray⟩ := Str.ext' (Array.toList_inj.mp (by rw [e]))
theorem Yo {l : List Nat} {x : Str} (e : x.cps.toList = l) (hl : l.length ≤ 3) (h1 : l ≠ []) (hd : ∀ c ∈ l, 48 ≤ c ∧ c ≤ 57) (h0 : l = [48] ∨ l.head? ≠ some 48) : ∃ n : Nat, x = fT (n : Int) ∧ PySem.intText? x = some (n : Int) ∧ n < 1000 ∧ (l.length = 1 ∨ 10 ≤ n) ∧ (l.length ≤ 2 ↔ n < 100) := by
 match l, hl, h1 with
 | [a], _, _ =>
  have ha := hd a (by simp)
  obtain ⟨e1, e2⟩ := YF (one_ok (a - 48) (by lia))
  rw [show 48 + (a - 48) = a by lia] at e1 e2
  have ex : x = ⟨#[a]⟩ := wz e
  exact ⟨a - 48, by rw [ex]; exact e1, by rw [ex]; exact e2, by lia, .inl rfl, by simp; lia⟩
 | [a, b], _, _ =>
  have ha := hd a (by simp)
  have hb := hd b (by simp)
  have hz : a ≠ 48 := by
   rcases h0 with h | h
   ·simp at h
   ·intro z; exact h (by rw [z]; rfl)
  obtain ⟨e1, e2⟩ := YF (two_ok (a - 48) (by lia) (b - 48) (by lia) (by lia))
  rw [show 48 + (a - 48) = a by lia, show 48 + (b - 48) = b by lia] at e1 e2
  have ex : x = ⟨#[a, b]⟩ := wz e
  exact ⟨_, by rw [ex]; exact e1, by rw [ex]; exact e2, by lia, .inr (by lia), by simp; lia⟩
 | [a, b, c], _, _ =>
  have ha := hd a (by simp)
  have hb := hd b (by simp)
  have hc := hd c (by simp)
  have hz : a ≠ 48 := by
   rcases h0 with h | h
   ·simp at h
   ·intro z; exact h (by rw [z]; rfl)
  obtain ⟨e1, e2⟩ := YF (three_ok (a - 48) (by lia) (b - 48) (by lia) (c - 48) (by lia) (by lia))
  rw [show 48 + (a - 48) = a by lia, show 48 + (b - 48) = b by lia, show 48 + (c - 48) = c by lia] at e1 e2
  have ex : x = ⟨#[a, b, c]⟩ := wz e
  exact ⟨_, by rw [ex]; exact e1, by rw [ex]; exact e2, by lia, .inr (by lia), by simp; lia⟩
theorem Zb {x : Str} {l : List Nat} (e : x.cps.toList = l) (h : figP x = true) : l ≠ [] ∧ (∀ c ∈ l, 48 ≤ c ∧ c ≤ 57) ∧ (l = [48] ∨ l.head? ≠ some 48) := by
 unfold figP at h
 simp only [Bool.and_eq_true, Bool.not_eq_true', decide_eq_false_iff_not, Bool.or_eq_true, decide_eq_true_eq] at h
 obtain ⟨h1, h2, h3⟩ := h
 have hne : l ≠ [] := fun z => h1 (by rw [wz (e.trans z)]; rfl)
 refine ⟨hne, by rw [← e]; exact all_inF h2, ?_⟩
 match l, hne with
 | a :: r, _ =>
  rcases h3 with h3 | h3
  ·left
   have e0 : (Str.ofString "0").cps.toList = [48] := by decide +kernel
   rw [h3] at e
   exact e.symm.trans e0
  ·right
   intro z
   have : a = 48 := by simpa using z
   exact h3 ((hd_zero e).mpr this)
noncomputable abbrev Bad := Nat × Nat
noncomputable def spl (x : Str) : List Str := Txt.split x " "
theorem wH (x : Str) : spl x ≠ [] := by unfold spl; rw [xk]; exact Z2 x 32
noncomputable def zO (x : Str) : Bool := decide (1 ≤ x.length) && (decide (x.length ≤ 8) && (!decide (x ∈ noNames) && (sg x).all inL))
noncomputable def val (x : Str) : Int := (PySem.intText? x).getD 0
noncomputable def num1 (x : Str) (lo hi : Int) : Option Int := if figP x = true ∧ x.length ≤ 2 ∧ lo ≤ val x ∧ val x ≤ hi then some (val x) else none
theorem ZM {x : Str} (h : figP x = true) (hl : x.length ≤ 2) : PySem.intText? x = some (val x) ∧ 0 ≤ val x ∧ val x ≤ 99 := by
 obtain ⟨d1, d2, d3⟩ := Zb rfl h
 have hl' : x.cps.toList.length ≤ 2 := by rw [Array.length_toList]; exact hl
 obtain ⟨n, _, e2, n1, _, n3⟩ := Yo rfl (by lia) d1 d2 d3
 have ev : val x = (n : Int) := by unfold val; rw [e2]; rfl
 rw [ev, e2]
 have := n3.mp hl'
 exact ⟨rfl, by lia, by lia⟩
noncomputable def plc (x : Str) : List Str → Option Nat
 | [] => none
 | y :: r => if y = x then some 0 else (plc x r).map (· + 1)
theorem zI {x : Str} : ∀ {ws : List Str} {k : Nat}, plc x ws = some k → ws[k]? = some x ∧ ∀ (j : Nat) (y : Str), j < k → ws[j]? = some y → y ≠ x
 | [], _, h => by cases h
 | y :: r, k, h => by
  unfold plc at h
  by_cases e : y = x
  ·rw [if_pos e] at h
   cases h
   exact ⟨by rw [e]; rfl, fun j y hj => absurd hj (Nat.not_lt_zero _)⟩
  ·rw [if_neg e] at h
   cases hp : plc x r with
   | none => rw [hp] at h; cases h
   | some k' =>
    rw [hp] at h
    cases h
    obtain ⟨h1, h2⟩ := zI hp
    refine ⟨h1, fun j z hj hz => ?_⟩
    cases j with
    | zero => cases hz; exact e
    | succ j => exact h2 j z (by have hj : j + 1 < k' + 1 := hj; lia) hz
theorem xi {x : Str} : ∀ {ws : List Str}, plc x ws = none → x ∉ ws
 | [], _ => by simp
 | y :: r, h => by
  unfold plc at h
  by_cases e : y = x
  ·rw [if_pos e] at h; cases h
  ·rw [if_neg e] at h
   cases hp : plc x r with
   | some k' => rw [hp] at h; cases h
   | none => simp only [List.mem_cons, not_or]; exact ⟨fun z => e z.symm, xi hp⟩
theorem ZB {x : Str} {ws : List Str} {k : Nat} (h : plc x ws = some k) : x ∈ ws := List.mem_of_getElem? (zI h).1
theorem xB {x : Str} {ws : List Str} {k : Nat} (h : plc x ws = some k) : k < ws.length := (List.getElem?_eq_some_iff.mp (zI h).1).1
theorem nm_first {nm : List Str} {k : Nat} {x : Str} (h : plc x nm = some k) : ∃ hk' : k < (nm.map V.str).length, eqV (nm.map V.str)[k] (.str x) = true ∧ ∀ i (hi : i < (nm.map V.str).length), i < k → eqV (nm.map V.str)[i] (.str x) = false := by
 obtain ⟨h0, h3⟩ := zI h
 obtain ⟨h1, h2⟩ := List.getElem?_eq_some_iff.mp h0
 refine ⟨by rw [List.length_map]; exact h1, ?_, fun i hi hik => ?_⟩
 ·rw [List.getElem_map, h2, ZN]
  exact decide_eq_true rfl
 ·have hi' : i < nm.length := by simpa using hi
  rw [List.getElem_map, ZN]
  exact decide_eq_false (h3 i _ hik (List.getElem?_eq_getElem hi'))
noncomputable def rW (W : List (List Str)) (i : Nat) (f : Str) : Except Bad (List Str) := match W[i]? with
 | none => .error (i, 0)
 | some ws => if ws.head? = some f then .ok ws else .error (i, 0)
noncomputable def rNum (ws : List Str) (z i : Nat) (lo hi : Int) : Except Bad Int := match num1 (ws.getD i "") lo hi with
 | some n => .ok n
 | none => .error (z, i)
noncomputable def zS (ws : List Str) (z i : Nat) (nm : List Str) : Except Bad Nat := match plc (ws.getD i "") nm with
 | some q => .ok q
 | none => .error (z, i)
noncomputable def rNm : List Str → Nat → List Str → Except Bad (List Str)
 | [], _, acc => .ok acc
 | x :: r, i, acc => if acc.length = 8 ∨ zO x = false ∨ x ∈ acc then .error (0, i) else rNm r (i + 1) (acc ++ [x])
noncomputable def yl (W : List (List Str)) : Except Bad (List Str) := match rW W 0 "sorts" with
 | .error b => .error b
 | .ok ws => match rNm ws.tail 1 [] with
  | .error b => .error b
  | .ok nm => if nm.length = 0 then .error (0, ws.length) else .ok nm
noncomputable def rBg (ws : List Str) (m : Nat) : Nat → Nat → List Int → Except Bad (List Int)
 | 0, _, acc => .ok acc
 | n + 1, i, acc => if acc.length = m then .error (1, i) else match rNum ws 1 i 0 99 with
  | .error b => .error b
  | .ok c => rBg ws m n (i + 1) (acc ++ [c])
noncomputable def yP (W : List (List Str)) (nm : List Str) : Except Bad (List Int) := match rW W 1 "begin" with
 | .error b => .error b
 | .ok ws => match rBg ws nm.length (ws.length - 1) 1 [] with
  | .error b => .error b
  | .ok cs => if cs.length < nm.length then .error (1, ws.length) else .ok cs
noncomputable def rIn (ws nm : List Str) : Nat → Nat → List Int → Except Bad (List Int)
 | 0, _, acc => .ok acc
 | n + 1, i, acc => match zS ws 2 i nm with
  | .error b => .error b
  | .ok q => if acc.length = 3 ∨ (q : Int) ∈ acc then .error (2, i) else rIn ws nm n (i + 1) (acc ++ [(q : Int)])
noncomputable def yw (W : List (List Str)) (nm : List Str) : Except Bad (List Int) := match rW W 2 "in" with
 | .error b => .error b
 | .ok ws => rIn ws nm (ws.length - 1) 1 []
noncomputable def yx (W : List (List Str)) (nm : List Str) : Except Bad Nat := match rW W 3 "out" with
 | .error b => .error b
 | .ok ws => if ws.length = 1 then .error (3, 1) else match zS ws 3 1 nm with
  | .error b => .error b
  | .ok q => if 2 < ws.length then .error (3, 2) else .ok q
noncomputable def rSd (ws nm : List Str) (z e : Nat) : Nat → Nat → Int → List Int → Except Bad (List Int)
 | 0, _, _, cs => .ok cs
 | n + 1, i, la, cs => match rNum ws z i 1 9 with
  | .error b => .error b
  | .ok c => if i + 1 = e then .error (z, e) else match zS ws z (i + 1) nm with
   | .error b => .error b
   | .ok q => if (q : Int) ≤ la then .error (z, i + 1) else rSd ws nm z e n (i + 2) q (cs.set q c)
noncomputable def wv (ws nm : List Str) (z a e : Nat) : Except Bad (List Int) := rSd ws nm z e ((e + 1 - a) / 2) a (-1) (List.replicate nm.length 0)
noncomputable def mid (ws : List Str) : Nat := (plc "to" ws).getD ws.length
noncomputable def yO (W : List (List Str)) (z : Nat) (nm : List Str) : Except Bad (List Int × List Int) := match rW W z "rule" with
 | .error b => .error b
 | .ok ws => if 12 ≤ z then .error (z, 0) else match wv ws nm z 1 (mid ws) with
  | .error b => .error b
  | .ok tk => if mid ws = 1 ∨ mid ws = ws.length then .error (z, mid ws) else match wv ws nm z (mid ws + 1) ws.length with
   | .error b => .error b
   | .ok gv => if tk = gv then .error (z, ws.length) else .ok (tk, gv)
noncomputable def rRs (W : List (List Str)) (nm : List Str) : Nat → Nat → List (List Int × List Int) → Except Bad (List (List Int × List Int))
 | 0, _, acc => .ok acc
 | n + 1, z, acc => match yO W z nm with
  | .error b => .error b
  | .ok r => rRs W nm n (z + 1) (acc ++ [r])
noncomputable def rPot (W : List (List Str)) : Except Bad PD := match yl W with
 | .error b => .error b
 | .ok nm => match yP W nm with
  | .error b => .error b
  | .ok bg => match yw W nm with
   | .error b => .error b
   | .ok ins => match yx W nm with
    | .error b => .error b
    | .ok a => match rRs W nm (W.length - 4) 4 [] with
     | .error b => .error b
     | .ok rl => .ok ⟨nm, rl, ins, bg, (a : Int)⟩
noncomputable def Res {α : Type} (r : Except Bad α) (g : α → Prop) (b : Bad → Prop) : Prop := match r with
 | .ok a => g a
 | .error e => b e
theorem zU {α : Type} {r : Except Bad α} {g : α → Prop} {b : Bad → Prop} (h1 : ∀ a, r = .ok a → g a) (h2 : ∀ e, r = .error e → b e) : Res r g b := by
 cases r with
 | ok a => exact h1 a rfl
 | error e => exact h2 e rfl
theorem Res.ok {α : Type} {r : Except Bad α} {g : α → Prop} {b : Bad → Prop} {a : α} (h : Res r g b) (e : r = .ok a) : g a := by rw [e] at h; exact h
theorem Res.bad {α : Type} {r : Except Bad α} {g : α → Prop} {b : Bad → Prop} {e' : Bad} (h : Res r g b) (e : r = .error e') : b e' := by rw [e] at h; exact h
noncomputable def Bd (cA : Addr) (H : Hp) (E : XK) (b : Bad) : Prop := ∀ dx H', Same H H' → H' dx = none → E (.ref cA) (some dx) (upd H' dx (XDct dx [("line", .int (b.1 : Int)), ("word", .int (b.2 : Int))]))
theorem Bd.up {cA : Addr} {H H1 : Hp} {E : XK} {b : Bad} (h : Bd cA H E b) (k : Same H H1) : Bd cA H1 E b := fun dx H' k' hd => h dx H' (k.trans k') hd
theorem vn {W : List (List Str)} {i : Nat} {f : Str} {ws : List Str} (h : rW W i f = .ok ws) : W[i]? = some ws ∧ ∃ r, ws = f :: r := by
 unfold rW at h
 cases hw : W[i]? with
 | none => rw [hw] at h; cases h
 | some us =>
  rw [hw] at h
  have h : (if us.head? = some f then Except.ok us else .error (i, 0) : Except Bad (List Str)) = .ok ws := h
  by_cases q : us.head? = some f
  ·rw [if_pos q] at h
   cases h
   cases ws with
   | nil => cases q
   | cons a r => cases q; exact ⟨rfl, r, rfl⟩
  ·rw [if_neg q] at h; cases h
theorem rNm_len {r : List Str} {i : Nat} {acc nm : List Str} (h : rNm r i acc = .ok nm) (hl : acc.length ≤ 8) : nm.length ≤ 8 := by
 induction r generalizing i acc with
 | nil => cases h; exact hl
 | cons x r ih =>
  unfold rNm at h
  by_cases q : acc.length = 8 ∨ zO x = false ∨ x ∈ acc
  ·rw [if_pos q] at h; cases h
  ·rw [if_neg q] at h
   refine ih h ?_
   have : acc.length ≠ 8 := fun z => q (.inl z)
   rw [List.length_append, List.length_singleton]; lia
theorem wb {W : List (List Str)} {nm : List Str} (h : yl W = .ok nm) : nm.length ≤ 8 := by
 unfold yl at h
 cases h1 : rW W 0 "sorts" with
 | error b => rw [h1] at h; cases h
 | ok ws =>
  rw [h1] at h
  dsimp only at h
  cases h2 : rNm ws.tail 1 [] with
  | error b => rw [h2] at h; cases h
  | ok us =>
   rw [h2] at h
   dsimp only at h
   by_cases q : us.length = 0
   ·rw [if_pos q] at h; cases h
   ·rw [if_neg q] at h
    cases h
    exact rNm_len h2 (Nat.zero_le _)
theorem vv {ws : List Str} {m n i : Nat} {acc : List Int} : rBg ws m (n + 1) i acc = if acc.length = m then .error (1, i) else match rNum ws 1 i 0 99 with | .error b => .error b | .ok c => rBg ws m n (i + 1) (acc ++ [c]) := rfl
theorem vt {ws nm : List Str} {n i : Nat} {acc : List Int} : rIn ws nm (n + 1) i acc = match zS ws 2 i nm with | .error b => .error b | .ok q => if acc.length = 3 ∨ (q : Int) ∈ acc then .error (2, i) else rIn ws nm n (i + 1) (acc ++ [(q : Int)]) := rfl
theorem vp {ws nm : List Str} {z e n i : Nat} {la : Int} {cs : List Int} : rSd ws nm z e (n + 1) i la cs = match rNum ws z i 1 9 with | .error b => .error b | .ok c => if i + 1 = e then .error (z, e) else match zS ws z (i + 1) nm with | .error b => .error b | .ok q => if (q : Int) ≤ la then .error (z, i + 1) else rSd ws nm z e n (i + 2) q (cs.set q c) := rfl
theorem vq {W : List (List Str)} {nm : List Str} {n z : Nat} {acc : List (List Int × List Int)} : rRs W nm (n + 1) z acc = match yO W z nm with | .error b => .error b | .ok r => rRs W nm n (z + 1) (acc ++ [r]) := rfl
theorem Z9 {ws nm : List Str} {z i q : Nat} (h : zS ws z i nm = .ok q) : q < nm.length := by
 unfold zS at h
 cases hp : plc (ws.getD i "") nm with
 | none => rw [hp] at h; cases h
 | some k => rw [hp] at h; cases h; exact xB hp
theorem vj (x : Str) : ((Txt.split x " ").map fun w => w.length + 1).sum = x.length + 1 := by
 have hj : ∀ (ls : List (List Nat)), ls ≠ [] → (jn 32 ls).length + 1 = (ls.map fun l => l.length + 1).sum := by
  intro ls
  induction ls with
  | nil => intro h; exact absurd rfl h
  | cons a r ih =>
   intro _
   cases r with
   | nil => simp [jn]
   | cons b r =>
    have := ih (List.cons_ne_nil _ _)
    show (a ++ 32 :: jn 32 (b :: r)).length + 1 = _
    rw [List.length_append, List.length_cons, List.map_cons, List.sum_cons]
    lia
 rw [xk]
 have e := StrLaws.join_split x ⟨#[32]⟩
 have e2 := hj ((Txt.split x ⟨#[32]⟩).map fun w => w.cps.toList) (by rw [Ne, List.map_eq_nil_iff]; exact Z2 x 32)
 rw [← xQ, e, Array.length_toList, List.map_map] at e2
 rw [show x.length = x.cps.size from rfl, e2]
 congr 1
theorem YY {ws : List Str} {w : Str} (h : w ∈ ws) : w.length + 1 ≤ (ws.map fun w => w.length + 1).sum := by
 induction ws with
 | nil => cases h
 | cons a r ih =>
  rw [List.map_cons, List.sum_cons]
  rcases List.mem_cons.mp h with rfl | h
  ·lia
  ·have := ih h; lia
theorem YZ (ws : List Str) : ws.length ≤ (ws.map fun w => w.length + 1).sum := by
 induction ws with
 | nil => exact Nat.le_refl _
 | cons a r ih => rw [List.map_cons, List.sum_cons, List.length_cons]; lia
theorem inL1 (c : Nat) (h : inL ⟨#[c]⟩ = true) : 97 ≤ c ∧ c ≤ 122 := by
 have h' := StrLaws.found_one "abcdefghijklmnopqrstuvwxyz" c
 have e : (Str.ofString "abcdefghijklmnopqrstuvwxyz").cps.toList = List.range' 97 26 := by decide +kernel
 rw [e] at h'
 unfold inL at h
 rw [show Str.length "abcdefghijklmnopqrstuvwxyz" = (Str.ofString "abcdefghijklmnopqrstuvwxyz").length from rfl, h'] at h
 have h := List.mem_range'_1.mp (of_decide_eq_true h)
 exact ⟨h.1, Nat.le_of_lt_succ h.2⟩
theorem nameP_B {x : Str} (h : zO x = true) : wA x = true := by
 unfold zO at h
 simp only [Bool.and_eq_true, decide_eq_true_eq, Bool.not_eq_true', decide_eq_false_iff_not] at h
 obtain ⟨h1, h2, h3, h4⟩ := h
 unfold wA
 have h5 : (x.cps.toList.all fun c => decide (97 ≤ c) && decide (c ≤ 122)) = true := List.all_eq_true.mpr fun c hc => by
  have := List.all_eq_true.mp h4 ⟨#[c]⟩ (List.mem_map.mpr ⟨c, hc, rfl⟩)
  have := inL1 c this
  simp [this.1, this.2]
 rw [decide_eq_true h1, decide_eq_true h2, decide_eq_false h3, h4, h5]
 rfl
theorem X2 {r : List Str} {i : Nat} {acc nm : List Str} (h : rNm r i acc = .ok nm) : nm = acc ++ r ∧ (acc.Nodup → nm.Nodup) ∧ ((∀ x ∈ acc, zO x = true) → ∀ x ∈ nm, zO x = true) := by
 induction r generalizing i acc with
 | nil => cases h; exact ⟨by simp, id, id⟩
 | cons x r ih =>
  unfold rNm at h
  by_cases q : acc.length = 8 ∨ zO x = false ∨ x ∈ acc
  ·rw [if_pos q] at h; cases h
  ·rw [if_neg q] at h
   obtain ⟨h1, h2, h3⟩ := ih h
   refine ⟨by rw [h1]; simp, fun nd => h2 ?_, fun ha => h3 fun y hy => ?_⟩
   ·rw [List.nodup_append]
    refine ⟨nd, by simp, fun a ha b hb z => ?_⟩
    rw [List.mem_singleton.mp hb] at z
    exact q (.inr (.inr (z ▸ ha)))
   ·rcases List.mem_append.mp hy with hy | hy
    ·exact ha y hy
    ·rw [List.mem_singleton.mp hy]
     cases hn : zO x with
     | true => rfl
     | false => exact absurd (.inr (.inl hn)) q
theorem ZG {x : Str} {lo hi n : Int} (h : num1 x lo hi = some n) : x = fT n ∧ lo ≤ n ∧ n ≤ hi ∧ 0 ≤ n ∧ n ≤ 99 := by
 unfold num1 at h
 by_cases q : figP x = true ∧ x.length ≤ 2 ∧ lo ≤ val x ∧ val x ≤ hi
 ·rw [if_pos q] at h
  cases h
  obtain ⟨q1, q2, q3, q4⟩ := q
  obtain ⟨v1, v2, v3⟩ := ZM q1 q2
  obtain ⟨d1, d2, d3⟩ := Zb rfl q1
  have hl' : x.cps.toList.length ≤ 2 := by rw [Array.length_toList]; exact q2
  obtain ⟨n, e1, e2, _⟩ := Yo rfl (by lia) d1 d2 d3
  have ev : val x = (n : Int) := by unfold val; rw [e2]; rfl
  exact ⟨by rw [ev]; exact e1, q3, q4, v2, v3⟩
 ·rw [if_neg q] at h; cases h
theorem Zw {ws : List Str} {z i : Nat} {lo hi n : Int} (h : rNum ws z i lo hi = .ok n) : ws.getD i "" = fT n ∧ lo ≤ n ∧ n ≤ hi ∧ 0 ≤ n ∧ n ≤ 99 := by
 unfold rNum at h
 cases hn : num1 (ws.getD i "") lo hi with
 | none => rw [hn] at h; cases h
 | some m => rw [hn] at h; cases h; exact ZG hn
theorem vo {ws nm : List Str} {z i q : Nat} (h : zS ws z i nm = .ok q) : q < nm.length ∧ nm.getD q "" = ws.getD i "" := by
 refine ⟨Z9 h, ?_⟩
 unfold zS at h
 cases hp : plc (ws.getD i "") nm with
 | none => rw [hp] at h; cases h
 | some k =>
  rw [hp] at h
  cases h
  rw [List.getD_eq_getElem?_getD, (zI hp).1]
  rfl
theorem xR {ws : List Str} {i n : Nat} (h : i < ws.length) : (ws.drop i).take (n + 1) = ws.getD i "" :: (ws.drop (i + 1)).take n := by
 rw [List.drop_eq_getElem_cons h, List.take_succ_cons, List.getD_eq_getElem?_getD, List.getElem?_eq_getElem h]
 rfl
theorem rBg_ok {ws : List Str} {m n i : Nat} {acc cs : List Int} (h : rBg ws m n i acc = .ok cs) (hl : i + n ≤ ws.length) : ∃ bs, cs = acc ++ bs ∧ (ws.drop i).take n = bs.map fT ∧ (∀ b ∈ bs, 0 ≤ b ∧ b ≤ 99) ∧ (acc.length ≤ m → cs.length ≤ m) := by
 induction n generalizing i acc with
 | zero => cases h; exact ⟨[], by simp, by simp, fun b hb => (nomatch hb), id⟩
 | succ n ih =>
  rw [vv] at h
  by_cases q : acc.length = m
  ·rw [if_pos q] at h; cases h
  rw [if_neg q] at h
  cases hc : rNum ws 1 i 0 99 with
  | error b => rw [hc] at h; cases h
  | ok c =>
   rw [hc] at h
   obtain ⟨bs, h1, h2, h3, h4⟩ := ih (i := i + 1) (acc := acc ++ [c]) h (by lia)
   obtain ⟨c1, c2, c3, c4, c5⟩ := Zw hc
   refine ⟨c :: bs, by rw [h1]; simp, by rw [xR (by lia), h2, c1]; rfl, fun b hb => ?_, fun hm => h4 (by rw [List.length_append, List.length_singleton]; lia)⟩
   rcases List.mem_cons.mp hb with rfl | hb
   ·exact ⟨c4, c5⟩
   ·exact h3 b hb
theorem rIn_ok {ws nm : List Str} {n i : Nat} {acc cs : List Int} (h : rIn ws nm n i acc = .ok cs) (hl : i + n ≤ ws.length) : ∃ bs, cs = acc ++ bs ∧ (ws.drop i).take n = bs.map (nmI nm) ∧ (∀ b ∈ bs, 0 ≤ b ∧ b < nm.length) ∧ (acc.length ≤ 3 → cs.length ≤ 3) ∧ (acc.Nodup → cs.Nodup) := by
 induction n generalizing i acc with
 | zero => cases h; exact ⟨[], by simp, by simp, fun b hb => (nomatch hb), id, id⟩
 | succ n ih =>
  rw [vt] at h
  cases hc : zS ws 2 i nm with
  | error b => rw [hc] at h; cases h
  | ok q =>
   rw [hc] at h
   dsimp only at h
   by_cases z : acc.length = 3 ∨ (q : Int) ∈ acc
   ·rw [if_pos z] at h; cases h
   rw [if_neg z] at h
   obtain ⟨bs, h1, h2, h3, h4, h5⟩ := ih (i := i + 1) (acc := acc ++ [(q : Int)]) h (by lia)
   obtain ⟨c1, c2⟩ := vo hc
   refine ⟨(q : Int) :: bs, by rw [h1]; simp, ?_, fun b hb => ?_, fun hm => h4 ?_, fun nd => h5 ?_⟩
   ·rw [xR (by lia), h2, List.map_cons]
    congr 1
    unfold nmI
    rw [Int.toNat_natCast]
    exact c2.symm
   ·rcases List.mem_cons.mp hb with rfl | hb
    ·lia
    ·exact h3 b hb
   ·have : acc.length ≠ 3 := fun e => z (.inl e)
    rw [List.length_append, List.length_singleton]; lia
   ·rw [List.nodup_append]
    refine ⟨nd, by simp, fun a ha b hb e => ?_⟩
    rw [List.mem_singleton.mp hb] at e
    exact z (.inr (e ▸ ha))
theorem vx : ∀ (k : Nat) (cs : List Int), (∀ j, cs.getD j 0 = 0) → prs k cs = []
 | _, [], _ => rfl
 | k, c :: cs, h => by
  have h0 : c = 0 := h 0
  show (if 0 < c then (k, c) :: prs (k + 1) cs else prs (k + 1) cs) = []
  rw [if_neg (by lia)]
  exact vx (k + 1) cs fun j => h (j + 1)
theorem Y6 : ∀ (k : Nat) (cs : List Int) (q : Nat) (c : Int), q < cs.length → 0 < c → (∀ j, q ≤ j → cs.getD j 0 = 0) → prs k (cs.set q c) = prs k cs ++ [(k + q, c)]
 | k, [], q, c, h, _, _ => absurd h (Nat.not_lt_zero _)
 | k, a :: cs, 0, c, _, hc, hz => by
  have h0 : a = 0 := hz 0 (Nat.le_refl _)
  show (if 0 < c then (k, c) :: prs (k + 1) cs else prs (k + 1) cs) = (if 0 < a then (k, a) :: prs (k + 1) cs else prs (k + 1) cs) ++ [(k, c)]
  rw [if_pos hc, if_neg (by lia), vx (k + 1) cs fun j => hz (j + 1) (Nat.zero_le _)]
  rfl
 | k, a :: cs, q + 1, c, h, hc, hz => by
  have ih := Y6 (k + 1) cs q c (by simpa using h) hc fun j hj => hz (j + 1) (by lia)
  show (if 0 < a then (k, a) :: prs (k + 1) (cs.set q c) else prs (k + 1) (cs.set q c)) = (if 0 < a then (k, a) :: prs (k + 1) cs else prs (k + 1) cs) ++ [(k + (q + 1), c)]
  rw [ih, show k + 1 + q = k + (q + 1) by lia]
  split <;> rfl
theorem rSd_ok {ws nm : List Str} {z e n i : Nat} {la : Int} {cs0 cs : List Int} (h : rSd ws nm z e n i la cs0 = .ok cs) (hl : i + 2 * n ≤ ws.length + 1) (he : e = i + 2 * n ∨ e + 1 = i + 2 * n) (hel : e ≤ ws.length) (h0 : cs0.length = nm.length) (hz : ∀ j : Nat, la < j → cs0.getD j 0 = 0) (hb : ∀ c ∈ cs0, 0 ≤ c ∧ c ≤ 9) :
  ∃ ps, prs 0 cs = prs 0 cs0 ++ ps ∧ (ws.drop i).take (2 * n) = sdW nm ps ∧ cs.length = nm.length ∧ (∀ c ∈ cs, 0 ≤ c ∧ c ≤ 9) ∧ (1 ≤ n → e = i + 2 * n) := by
 induction n generalizing i la cs0 with
 | zero => cases h; exact ⟨[], by simp, by simp [sdW], h0, hb, fun z => absurd z (by decide)⟩
 | succ n ih =>
  rw [vp] at h
  cases hc : rNum ws z i 1 9 with
  | error b => rw [hc] at h; cases h
  | ok c =>
  rw [hc] at h
  dsimp only at h
  by_cases q1 : i + 1 = e
  ·rw [if_pos q1] at h; cases h
  rw [if_neg q1] at h
  cases hs : zS ws z (i + 1) nm with
  | error b => rw [hs] at h; cases h
  | ok q =>
  rw [hs] at h
  dsimp only at h
  by_cases q2 : (q : Int) ≤ la
  ·rw [if_pos q2] at h; cases h
  rw [if_neg q2] at h
  obtain ⟨c1, c2, c3, _⟩ := Zw hc
  obtain ⟨s1, s2⟩ := vo hs
  have hz' : ∀ j : Nat, (q : Int) < j → (cs0.set q c).getD j 0 = 0 := fun j hj => by
   have hjq : q ≠ j := by lia
   have : (cs0.set q c)[j]? = cs0[j]? := List.getElem?_set_ne hjq
   rw [List.getD_eq_getElem?_getD, this, ← List.getD_eq_getElem?_getD]
   exact hz j (by lia)
  have hb' : ∀ x ∈ cs0.set q c, 0 ≤ x ∧ x ≤ 9 := fun x hx => by
   rcases List.mem_or_eq_of_mem_set hx with hx | rfl
   ·exact hb x hx
   ·lia
  obtain ⟨ps, p1, p2, p3, p4, p5⟩ := ih (i := i + 2) (la := (q : Int)) (cs0 := cs0.set q c) h (by lia) (by lia) (by rw [List.length_set]; exact h0) hz' hb'
  ·have hi2 : i + 1 < ws.length := by lia
   refine ⟨(q, c) :: ps, ?_, ?_, p3, p4, fun _ => ?_⟩
   ·rw [p1, Y6 0 cs0 q c (by lia) (by lia) fun j hj => hz j (by lia)]
    simp
   ·rw [show 2 * (n + 1) = (2 * n + 1) + 1 by lia, xR (by lia), xR (by lia), p2, c1, ← s2]
    rfl
   ·rcases he with he | he
    ·exact he
    ·cases n with
     | zero => lia
     | succ n => have := p5 (by lia); lia
theorem Yb {ws nm : List Str} {z a e : Nat} {cs : List Int} (h : wv ws nm z a e = .ok cs) (ha : a ≤ e) (he : e ≤ ws.length) : Sd nm.length cs ∧ (ws.drop a).take (e - a) = yv nm cs := by
 unfold wv at h
 have h00 : ∀ j, (List.replicate nm.length (0 : Int)).getD j 0 = 0 := fun j => by
  rw [List.getD_eq_getElem?_getD, List.getElem?_replicate]
  split <;> rfl
 obtain ⟨ps, p1, p2, p3, p4, p5⟩ := rSd_ok h (by lia) (by lia) he List.length_replicate (fun j _ => h00 j) fun c hc => by rw [List.eq_of_mem_replicate hc]; decide
 refine ⟨⟨p3, p4⟩, ?_⟩
 rw [vx 0 _ h00, List.nil_append] at p1
 unfold yv
 rw [p1, ← p2]
 congr 1
 by_cases q : 1 ≤ (e + 1 - a) / 2
 ·have := p5 q
  lia
 ·lia
theorem rRule_ok {W : List (List Str)} {z : Nat} {nm : List Str} {r : List Int × List Int} (h : yO W z nm = .ok r) : W[z]? = some (ruW nm r) ∧ Sd nm.length r.1 ∧ Sd nm.length r.2 ∧ (∃ x ∈ r.1, 0 < x) ∧ r.1 ≠ r.2 ∧ z < 12 := by
 unfold yO at h
 cases hw : rW W z "rule" with
 | error b => rw [hw] at h; cases h
 | ok ws =>
 rw [hw] at h
 dsimp only at h
 obtain ⟨w1, rr, rfl⟩ := vn hw
 by_cases z12 : 12 ≤ z
 ·rw [if_pos z12] at h; cases h
 rw [if_neg z12] at h
 cases ht : wv (("rule" : Str) :: rr) nm z 1 (mid (("rule" : Str) :: rr)) with
 | error b => rw [ht] at h; cases h
 | ok tk =>
 rw [ht] at h
 dsimp only at h
 by_cases q : mid (("rule" : Str) :: rr) = 1 ∨ mid (("rule" : Str) :: rr) = (("rule" : Str) :: rr).length
 ·rw [if_pos q] at h; cases h
 rw [if_neg q] at h
 cases hg : wv (("rule" : Str) :: rr) nm z (mid (("rule" : Str) :: rr) + 1) (("rule" : Str) :: rr).length with
 | error b => rw [hg] at h; cases h
 | ok gv =>
 rw [hg] at h
 dsimp only at h
 by_cases qe : tk = gv
 ·rw [if_pos qe] at h; cases h
 rw [if_neg qe] at h
 cases h
 cases hp : plc "to" (("rule" : Str) :: rr) with
 | none => exact absurd (.inr (by unfold mid; rw [hp]; rfl)) q
 | some M =>
 have hm : mid (("rule" : Str) :: rr) = M := by unfold mid; rw [hp]; rfl
 rw [hm] at ht hg q
 have hlt := xB hp
 obtain ⟨f1, f2⟩ := zI hp
 have hM1 : 1 ≤ M := by
  cases M with
  | zero =>
   have : ("rule" : Str) = "to" := Option.some.inj f1
   exact absurd this (by decide +kernel)
  | succ M => lia
 have hMn : M ≠ 1 := fun e => q (.inl e)
 obtain ⟨s1, e1⟩ := Yb ht hM1 (by lia)
 obtain ⟨s2, e2⟩ := Yb hg (by lia) (Nat.le_refl _)
 refine ⟨?_, s1, s2, ?_, qe, by lia⟩
 ·rw [w1]
  congr 1
  unfold ruW
  congr 1
  have e1 : rr.take (M - 1) = yv nm tk := e1
  rw [List.take_of_length_le (by rw [List.length_drop]; lia)] at e2
  rw [← e1, ← e2]
  have g : rr[M - 1]? = some "to" := by
   cases M with
   | zero => lia
   | succ M => exact f1
  have g' : M - 1 < rr.length := (List.getElem?_eq_some_iff.mp g).1
  have gd := List.drop_eq_getElem_cons g'
  have ge : rr[M - 1] = "to" := (List.getElem?_eq_some_iff.mp g).2
  rw [ge] at gd
  have : (("rule" : Str) :: rr).drop (M + 1) = rr.drop (M - 1 + 1) := by
   rw [show M - 1 + 1 = M by lia]
   rfl
  rw [this, ← gd, List.take_append_drop]
 ·have hne : prs 0 tk ≠ [] := fun e => by
   have : (yv nm tk).length = M - 1 := by
    rw [← e1, List.length_take, List.length_drop]
    lia
   unfold yv at this
   rw [e] at this
   have : 0 = M - 1 := this
   lia
  obtain ⟨p, hp'⟩ := List.exists_mem_of_ne_nil _ hne
  obtain ⟨_, p2, p3, p4⟩ := Zz hp'
  exact ⟨_, p4, by lia⟩
theorem rRs_ok {W : List (List Str)} {nm : List Str} {n z : Nat} {acc rl : List (List Int × List Int)} (h : rRs W nm n z acc = .ok rl) (hl : z + n ≤ W.length) : ∃ rs, rl = acc ++ rs ∧ (W.drop z).take n = rs.map (ruW nm) ∧ rs.length = n ∧
  (∀ r ∈ rs, Sd nm.length r.1 ∧ Sd nm.length r.2 ∧ (∃ x ∈ r.1, 0 < x) ∧ r.1 ≠ r.2) ∧ (1 ≤ n → z + n ≤ 12) := by
 induction n generalizing z acc with
 | zero => cases h; exact ⟨[], by simp, by simp, rfl, fun b hb => (nomatch hb), fun q => absurd q (by decide)⟩
 | succ n ih =>
  rw [vq] at h
  cases hc : yO W z nm with
  | error b => rw [hc] at h; cases h
  | ok r =>
   rw [hc] at h
   obtain ⟨rs, h1, h2, h3, h4, h5⟩ := ih (z := z + 1) (acc := acc ++ [r]) h (by lia)
   obtain ⟨g, g1, g2, g3, g4, g5⟩ := rRule_ok hc
   obtain ⟨gl, ge⟩ := List.getElem?_eq_some_iff.mp g
   refine ⟨r :: rs, by rw [h1]; simp, ?_, by rw [List.length_cons, h3], fun x hx => ?_, fun _ => ?_⟩
   ·rw [List.drop_eq_getElem_cons gl, List.take_succ_cons, h2, ge]
    rfl
   ·rcases List.mem_cons.mp hx with rfl | hx
    ·exact ⟨g1, g2, g3, g4⟩
    ·exact h4 x hx
   ·cases n with
    | zero => lia
    | succ n => have := h5 (by lia); lia
theorem rPot_ok {W : List (List Str)} {d : PD} (h : rPot W = .ok d) : W = ptW d ∧ d.ok d.nm.length := by
  unfold rPot at h
  cases h1 : yl W with
  | error b => rw [h1] at h; cases h
  | ok nm =>
  rw [h1] at h
  dsimp only at h
  cases h2 : yP W nm with
  | error b => rw [h2] at h; cases h
  | ok bg =>
  rw [h2] at h
  dsimp only at h
  cases h3 : yw W nm with
  | error b => rw [h3] at h; cases h
  | ok ins =>
  rw [h3] at h
  dsimp only at h
  cases h4 : yx W nm with
  | error b => rw [h4] at h; cases h
  | ok a =>
  rw [h4] at h
  dsimp only at h
  cases h5 : rRs W nm (W.length - 4) 4 [] with
  | error b => rw [h5] at h; cases h
  | ok rl =>
  rw [h5] at h
  cases h
  have n8 := wb h1
  unfold yl at h1
  cases w0 : rW W 0 "sorts" with
  | error b => rw [w0] at h1; cases h1
  | ok ws0 =>
  rw [w0] at h1
  dsimp only at h1
  obtain ⟨g0, r0, rfl⟩ := vn w0
  cases q0 : rNm r0 1 [] with
  | error b => rw [show (("sorts" : Str) :: r0).tail = r0 from rfl, q0] at h1; cases h1
  | ok nm' =>
  rw [show (("sorts" : Str) :: r0).tail = r0 from rfl, q0] at h1
  dsimp only at h1
  by_cases z0 : nm'.length = 0
  · rw [if_pos z0] at h1; cases h1
  rw [if_neg z0] at h1
  cases h1
  obtain ⟨e0, nd0, nb0⟩ := X2 q0
  rw [List.nil_append] at e0
  subst e0
  unfold yP at h2
  cases w1 : rW W 1 "begin" with
  | error b => rw [w1] at h2; cases h2
  | ok ws1 =>
  rw [w1] at h2
  dsimp only at h2
  obtain ⟨g1, r1, rfl⟩ := vn w1
  cases q1 : rBg (("begin" : Str) :: r1) nm.length ((("begin" : Str) :: r1).length - 1) 1 [] with
  | error b => rw [q1] at h2; cases h2
  | ok cs =>
  rw [q1] at h2
  dsimp only at h2
  by_cases z1 : cs.length < nm.length
  · rw [if_pos z1] at h2; cases h2
  rw [if_neg z1] at h2
  cases h2
  obtain ⟨bs, b1, b2, b3, b4⟩ := rBg_ok q1 (by rw [List.length_cons]; lia)
  rw [List.nil_append] at b1
  subst b1
  have b2 : r1 = bg.map fT := by
    have : (r1.take (r1.length)) = bg.map fT := b2
    rwa [List.take_length] at this
  have b4 := b4 (Nat.zero_le _)
  unfold yw at h3
  cases w2 : rW W 2 "in" with
  | error b => rw [w2] at h3; cases h3
  | ok ws2 =>
  rw [w2] at h3
  dsimp only at h3
  obtain ⟨g2, r2, rfl⟩ := vn w2
  obtain ⟨is, i1, i2, i3, i4, i5⟩ := rIn_ok h3 (by rw [List.length_cons]; lia)
  rw [List.nil_append] at i1
  subst i1
  have i2 : r2 = ins.map (nmI nm) := by
    have : (r2.take (r2.length)) = ins.map (nmI nm) := i2
    rwa [List.take_length] at this
  unfold yx at h4
  cases w3 : rW W 3 "out" with
  | error b => rw [w3] at h4; cases h4
  | ok ws3 =>
  rw [w3] at h4
  dsimp only at h4
  obtain ⟨g3, r3, rfl⟩ := vn w3
  by_cases z3 : (("out" : Str) :: r3).length = 1
  · rw [if_pos z3] at h4; cases h4
  rw [if_neg z3] at h4
  cases q3 : zS (("out" : Str) :: r3) 3 1 nm with
  | error b => rw [q3] at h4; cases h4
  | ok a' =>
  rw [q3] at h4
  dsimp only at h4
  by_cases z4 : 2 < (("out" : Str) :: r3).length
  · rw [if_pos z4] at h4; cases h4
  rw [if_neg z4] at h4
  cases h4
  obtain ⟨a1, a2⟩ := vo q3
  have e3 : r3 = [nmI nm (a : Int)] := by
    match r3, z3, z4, a2 with
    | [], z3, _, _ => exact absurd rfl z3
    | [y], _, _, a2 =>
      unfold nmI
      rw [Int.toNat_natCast, a2]
      rfl
    | _ :: _ :: _, _, z4, _ => exact absurd (by simp only [List.length_cons]; lia) z4
  have hl4 : 4 ≤ W.length := (List.getElem?_eq_some_iff.mp g3).1
  obtain ⟨rs, s1, s2, s3, s4, s5⟩ := rRs_ok h5 (by lia)
  rw [List.nil_append] at s1
  subst s1
  rw [List.take_of_length_le (by rw [List.length_drop]; lia)] at s2
  constructor
  · have hW : W = W.take 4 ++ W.drop 4 := (List.take_append_drop 4 W).symm
    have ht : W.take 4 = [("sorts" : Str) :: nm, ("begin" : Str) :: r1, ("in" : Str) :: r2, ("out" : Str) :: r3] := by
      match W, g0, g1, g2, g3 with
      | x0 :: x1 :: x2 :: x3 :: W', g0, g1, g2, g3 =>
        cases g0; cases g1; cases g2; cases g3
        rfl
    rw [hW, ht, s2, b2, i2, e3]
    rfl
  · exact { nl := rfl, nd := nd0 List.nodup_nil, nb := fun x hx => nameP_B (nb0 (fun y hy => nomatch hy) x hx), m0 := by show 0 < nm.length; lia, m8 := n8, r8 := by
              show rl.length ≤ 8
              by_cases q : 1 ≤ W.length - 4
              · have := s5 q; lia
              · lia,
            rs := s4, hi := i3, i3 := i4 (by decide), inn := i5 List.nodup_nil, bl := by show bg.length = nm.length; lia, hb := b3, ha := ⟨by show (0 : Int) ≤ (a : Int); lia, by show (a : Int) < (nm.length : Int); lia⟩ }
noncomputable def nums (lo n : Nat) : List Str := (List.range n).map fun k => fT ((lo + k : Nat) : Int)
theorem nums_99 : ∀ n : Nat, n < 100 → num1 (fT (n : Int)) 0 99 = some (n : Int) := by decide +kernel
theorem nums_9 : ∀ n : Nat, n < 9 → num1 (fT ((n + 1 : Nat) : Int)) 1 9 = some ((n + 1 : Nat) : Int) := by decide +kernel
theorem num_99 (x : Str) : (num1 x 0 99).isSome = decide (x ∈ nums 0 100) := by
 rw [Bool.eq_iff_iff, decide_eq_true_eq]
 constructor
 ·intro h
  obtain ⟨n, hn⟩ := Option.isSome_iff_exists.mp h
  obtain ⟨e, _, _, n0, n9⟩ := ZG hn
  exact List.mem_map.mpr ⟨n.toNat, List.mem_range.mpr (by lia), by rw [e]; congr 1; lia⟩
 ·intro h
  obtain ⟨k, hk, rfl⟩ := List.mem_map.mp h
  have := nums_99 k (List.mem_range.mp hk)
  rw [Nat.zero_add, this]
  rfl
theorem WH (x : Str) : (num1 x 1 9).isSome = decide (x ∈ nums 1 9) := by
 rw [Bool.eq_iff_iff, decide_eq_true_eq]
 constructor
 ·intro h
  obtain ⟨n, hn⟩ := Option.isSome_iff_exists.mp h
  obtain ⟨e, n1, n2, n0, n9⟩ := ZG hn
  exact List.mem_map.mpr ⟨n.toNat - 1, List.mem_range.mpr (by lia), by rw [e]; congr 1; lia⟩
 ·intro h
  obtain ⟨k, hk, rfl⟩ := List.mem_map.mp h
  have := nums_9 k (List.mem_range.mp hk)
  rw [show 1 + k = k + 1 by lia, this]
  rfl
noncomputable def gdW (h : Nat) (sorts : List Str) (x : Str) : Bool := if h = 0 then zO x else if h = 1 then decide (x ∈ nums 0 100) else decide (x ∈ sorts)
noncomputable def hfB (h most : Nat) (ws sorts : List Str) (i : Nat) : Prop := most < i ∨ gdW h sorts (ws.getD i "") = false ∨ ((h = 0 ∨ h = 2) ∧ ws.getD i "" ∈ (ws.take i).drop 1)
noncomputable instance {h most : Nat} {ws sorts : List Str} {i : Nat} : Decidable (hfB h most ws sorts i) := by unfold hfB; infer_instance
noncomputable def hfGo (h most : Nat) (ws sorts : List Str) : Nat → Nat → Option Nat
 | 0, _ => none
 | n + 1, i => if hfB h most ws sorts i then some i else hfGo h most ws sorts n (i + 1)
noncomputable def hf (h least most : Nat) (ws sorts : List Str) : Option Nat := match hfGo h most ws sorts (ws.length - 1) 1 with
 | some i => some i
 | none => if ws.length ≤ least then some ws.length else none
theorem yE {h most n i : Nat} {ws sorts : List Str} : hfGo h most ws sorts (n + 1) i = if hfB h most ws sorts i then some i else hfGo h most ws sorts n (i + 1) := rfl
theorem vi {ws : List Str} {i : Nat} (h : i < ws.length) (h1 : 1 ≤ i) : (ws.take (i + 1)).drop 1 = (ws.take i).drop 1 ++ [ws.getD i ""] := by
 rw [List.take_add_one, List.getElem?_eq_getElem h, List.drop_append_of_le_length (by rw [List.length_take]; lia), List.getD_eq_getElem?_getD, List.getElem?_eq_getElem h]
 rfl
theorem wY {ws nm : List Str} : ∀ {n i : Nat}, i + n = ws.length → 1 ≤ i → i ≤ 9 → rNm (ws.drop i) i ((ws.take i).drop 1) = match hfGo 0 8 ws nm n i with | some j => .error (0, j) | none => .ok (ws.drop 1)
 | 0, i, h, h1, h9 => by
  rw [List.drop_eq_nil_of_le (by lia), List.take_of_length_le (by lia)]
  rfl
 | n + 1, i, h, h1, h9 => by
  have hi : i < ws.length := by lia
  have hx : ws[i] = ws.getD i "" := by rw [List.getD_eq_getElem?_getD, List.getElem?_eq_getElem hi]; rfl
  have hl : ((ws.take i).drop 1).length = i - 1 := by rw [List.length_drop, List.length_take]; lia
  rw [List.drop_eq_getElem_cons hi, hx, yE]
  unfold rNm
  have eq : (((ws.take i).drop 1).length = 8 ∨ zO (ws.getD i "") = false ∨ ws.getD i "" ∈ (ws.take i).drop 1) ↔ hfB 0 8 ws nm i := by
   unfold hfB gdW
   rw [hl, if_pos rfl]
   constructor
   ·rintro (z | z | z)
    ·exact .inl (by lia)
    ·exact .inr (.inl z)
    ·exact .inr (.inr ⟨.inl rfl, z⟩)
   ·rintro (z | z | z)
    ·exact .inl (by lia)
    ·exact .inr (.inl z)
    ·exact .inr (.inr z.2)
  by_cases q : hfB 0 8 ws nm i
  ·rw [if_pos (eq.mpr q), if_pos q]
  ·rw [if_neg (fun z => q (eq.mp z)), if_neg q, ← vi hi h1]
   have : i ≠ 9 := fun z => q (.inl (by lia))
   exact wY (by lia) (by lia) (by lia)
theorem wZ {ws nm : List Str} {m : Nat} : ∀ {n i : Nat} {acc : List Int}, i + n = ws.length → 1 ≤ i → acc.length = i - 1 → i ≤ m + 1 → match hfGo 1 m ws nm n i with | some j => rBg ws m n i acc = .error (1, j) | none => ∃ bs, rBg ws m n i acc = .ok bs ∧ bs.length = ws.length - 1
 | 0, i, acc, h, h1, ha, hm => ⟨acc, rfl, by lia⟩
 | n + 1, i, acc, h, h1, ha, hm => by
  rw [yE, vv]
  have hg : gdW 1 nm (ws.getD i "") = (num1 (ws.getD i "") 0 99).isSome := by unfold gdW; rw [if_neg (by decide), if_pos rfl, num_99]
  by_cases q : hfB 1 m ws nm i
  ·rw [if_pos q]
   show _ = _
   by_cases qa : acc.length = m
   ·rw [if_pos qa]
   ·rw [if_neg qa]
    rcases q with z | z | z
    ·lia
    ·rw [hg] at z
     unfold rNum
     cases hn : num1 (ws.getD i "") 0 99 with
     | none => rfl
     | some c => rw [hn] at z; cases z
    ·exact absurd z.1 (by decide)
  ·rw [if_neg q]
   have q1 : ¬ m < i := fun z => q (.inl z)
   rw [if_neg (by lia)]
   have q2 : (num1 (ws.getD i "") 0 99).isSome = true := by
    rw [← hg]
    cases hz : gdW 1 nm (ws.getD i "") with
    | true => rfl
    | false => exact absurd (.inr (.inl hz)) q
   obtain ⟨c, hc⟩ := Option.isSome_iff_exists.mp q2
   have hr : rNum ws 1 i 0 99 = .ok c := by unfold rNum; rw [hc]
   rw [hr]
   exact wZ (n := n) (i := i + 1) (acc := acc ++ [c]) (by lia) (by lia) (by rw [List.length_append, List.length_singleton]; lia) (by lia)
theorem vy {x : Str} {nm : List Str} : (plc x nm).isSome = decide (x ∈ nm) := by
 cases h : plc x nm with
 | none => exact (decide_eq_false (xi h)).symm
 | some k => exact (decide_eq_true (ZB h)).symm
noncomputable def plI (nm : List Str) (x : Str) : Int := (((plc x nm).getD 0 : Nat) : Int)
theorem plI_mem {nm us : List Str} {x : Str} {q : Nat} (hq : plc x nm = some q) (hu : ∀ w ∈ us, w ∈ nm) : (q : Int) ∈ us.map (plI nm) ↔ x ∈ us := by
 constructor
 ·intro h
  obtain ⟨w, hw, e⟩ := List.mem_map.mp h
  have hs := vy (x := w) (nm := nm)
  rw [decide_eq_true (hu w hw)] at hs
  obtain ⟨k, hk⟩ := Option.isSome_iff_exists.mp hs
  unfold plI at e
  rw [hk] at e
  have e : ((k : Nat) : Int) = (q : Int) := e
  have : k = q := by lia
  subst this
  have : w = x := Option.some.inj ((zI hk).1.symm.trans (zI hq).1)
  rw [← this]; exact hw
 ·intro h
  refine List.mem_map.mpr ⟨x, h, ?_⟩
  unfold plI
  rw [hq]
  rfl
theorem Yn {ws nm : List Str} : ∀ {n i : Nat}, i + n = ws.length → 1 ≤ i → i ≤ 4 → (∀ w ∈ (ws.take i).drop 1, w ∈ nm) → match hfGo 2 3 ws nm n i with | some j => rIn ws nm n i (((ws.take i).drop 1).map (plI nm)) = .error (2, j) | none => ∃ bs, rIn ws nm n i (((ws.take i).drop 1).map (plI nm)) = .ok bs
 | 0, i, h, h1, h4, hu => ⟨_, rfl⟩
 | n + 1, i, h, h1, h4, hu => by
  have hi : i < ws.length := by lia
  have hl : ((ws.take i).drop 1).length = i - 1 := by rw [List.length_drop, List.length_take]; lia
  rw [yE, vt]
  have hg : gdW 2 nm (ws.getD i "") = (plc (ws.getD i "") nm).isSome := by unfold gdW; rw [if_neg (by decide), if_neg (by decide), vy]
  cases hp : plc (ws.getD i "") nm with
  | none =>
   have hr : zS ws 2 i nm = .error (2, i) := by unfold zS; rw [hp]
   rw [hr, if_pos (.inr (.inl (by rw [hg, hp]; rfl)))]
  | some q =>
   have hr : zS ws 2 i nm = .ok q := by unfold zS; rw [hp]
   rw [hr]
   dsimp only
   have eq : ((((ws.take i).drop 1).map (plI nm)).length = 3 ∨ (q : Int) ∈ ((ws.take i).drop 1).map (plI nm)) ↔ hfB 2 3 ws nm i := by
    rw [plI_mem hp hu, List.length_map, hl]
    unfold hfB
    rw [hg, hp]
    constructor
    ·rintro (z | z)
     ·exact .inl (by lia)
     ·exact .inr (.inr ⟨.inr rfl, z⟩)
    ·rintro (z | z | z)
     ·exact .inl (by lia)
     ·cases z
     ·exact .inr z.2
   by_cases z : hfB 2 3 ws nm i
   ·rw [if_pos z, if_pos (eq.mpr z)]
   ·rw [if_neg z, if_neg (fun y => z (eq.mp y))]
    have n4 : i ≠ 4 := fun y => z (.inl (by lia))
    have e : ((ws.take i).drop 1).map (plI nm) ++ [(q : Int)] = ((ws.take (i + 1)).drop 1).map (plI nm) := by
     rw [vi hi h1, List.map_append]
     congr 1
     show [(q : Int)] = [plI nm (ws.getD i "")]
     unfold plI
     rw [hp]
     rfl
    rw [e]
    refine Yn (n := n) (i := i + 1) (by lia) (by lia) (by lia) fun w hw => ?_
    rw [vi hi h1] at hw
    rcases List.mem_append.mp hw with hw | hw
    ·exact hu w hw
    ·rw [List.mem_singleton.mp hw]; exact ZB hp
noncomputable def errW {α : Type} (r : Except Bad α) : Option Nat := match r with
 | .error b => some b.2
 | .ok _ => none
theorem fault_out {ws nm : List Str} (h : 1 ≤ ws.length) : hf 3 1 1 ws nm = errW (if ws.length = 1 then .error (3, 1) else match zS ws 3 1 nm with | .error b => .error b | .ok q => if 2 < ws.length then .error (3, 2) else .ok q : Except Bad Nat) := by
 unfold errW
 unfold hf
 by_cases h1 : ws.length = 1
 ·rw [if_pos h1, h1]
  rfl
 rw [if_neg h1]
 have hg : gdW 3 nm (ws.getD 1 "") = (plc (ws.getD 1 "") nm).isSome := by unfold gdW; rw [if_neg (by decide), if_neg (by decide), vy]
 rw [show ws.length - 1 = (ws.length - 2) + 1 by lia, yE]
 cases hp : plc (ws.getD 1 "") nm with
 | none =>
  have hr : zS ws 3 1 nm = .error (3, 1) := by unfold zS; rw [hp]
  rw [hr, if_pos (.inr (.inl (by rw [hg, hp]; rfl)))]
 | some q =>
  have hr : zS ws 3 1 nm = .ok q := by unfold zS; rw [hp]
  rw [hr]
  dsimp only
  rw [if_neg (fun z => by
   rcases z with z | z | z
   ·lia
   ·rw [hg, hp] at z; cases z
   ·rcases z.1 with y | y <;> exact absurd y (by decide))]
  by_cases h2 : 2 < ws.length
  ·rw [if_pos h2, show ws.length - 2 = (ws.length - 3) + 1 by lia, yE, if_pos (.inl (by decide))]
  ·rw [if_neg h2, show ws.length - 2 = 0 by lia]
   show (if ws.length ≤ 1 then some ws.length else none) = none
   rw [if_neg (by lia)]
noncomputable def sfT (ws : List Str) (to : Bool) (m i : Nat) (cs : List Int) : Prop := i < ws.length ∧ (¬ (to = true ∧ ws.getD i "" = "to") ∨ cs = List.replicate m 0)
noncomputable instance {ws : List Str} {to : Bool} {m i : Nat} {cs : List Int} : Decidable (sfT ws to m i cs) := by unfold sfT; infer_instance
noncomputable def sfGo (ws nm : List Str) (to : Bool) : Nat → Nat → List Int → Nat → Option Nat × Nat × List Int
 | 0, _, _, _ => (none, 0, [])
 | n + 1, i, cs, k => if sfT ws to nm.length i cs then
   (if ws.getD i "" ∉ nums 1 9 then (some i, i, cs) else if i + 1 = ws.length ∨ ws.getD (i + 1) "" ∉ nm.drop k then (some (i + 1), i, cs) else
    sfGo ws nm to n (i + 2) (cs.set ((plc (ws.getD (i + 1) "") nm).getD 0) (val (ws.getD i ""))) ((plc (ws.getD (i + 1) "") nm).getD 0 + 1))
   else if i = ws.length ∧ to = true then (some i, i, cs) else (none, i + (if to = true then 1 else 0), cs)
theorem yC {ws nm : List Str} {to : Bool} {n i k : Nat} {cs : List Int} : sfGo ws nm to (n + 1) i cs k = if sfT ws to nm.length i cs then
      (if ws.getD i "" ∉ nums 1 9 then (some i, i, cs) else if i + 1 = ws.length ∨ ws.getD (i + 1) "" ∉ nm.drop k then (some (i + 1), i, cs) else
        sfGo ws nm to n (i + 2) (cs.set ((plc (ws.getD (i + 1) "") nm).getD 0) (val (ws.getD i ""))) ((plc (ws.getD (i + 1) "") nm).getD 0 + 1))
      else if i = ws.length ∧ to = true then (some i, i, cs) else (none, i + (if to = true then 1 else 0), cs) := rfl
theorem drop_mem {nm : List Str} {x : Str} {q k : Nat} (nd : nm.Nodup) (hq : plc x nm = some q) : x ∈ nm.drop k ↔ k ≤ q := by
 obtain ⟨hql, hqe⟩ := List.getElem?_eq_some_iff.mp (zI hq).1
 constructor
 ·intro h
  obtain ⟨j, hj⟩ := List.mem_iff_getElem?.mp h
  rw [List.getElem?_drop] at hj
  obtain ⟨hl, he⟩ := List.getElem?_eq_some_iff.mp hj
  have := (List.getElem_inj nd (h₀ := hl) (h₁ := hql)).mp (he.trans hqe.symm)
  lia
 ·intro h
  refine List.mem_iff_getElem?.mpr ⟨q - k, ?_⟩
  rw [List.getElem?_drop, show k + (q - k) = q by lia]
  exact (zI hq).1
theorem x8 {ws nm : List Str} {z e : Nat} {to : Bool} (nd : nm.Nodup) (hto : ("to" : Str) ∉ nm) (hel : e ≤ ws.length) (hf : to = false → e = ws.length) (hb : to = true → ∀ j, 1 ≤ j → j < e → ws.getD j "" ≠ "to") (hat : e < ws.length → ws.getD e "" = "to") :
  ∀ {n i k F : Nat} {cs : List Int}, (e = i + 2 * n ∨ e + 1 = i + 2 * n) → 1 ≤ i → i ≤ e → cs.length = nm.length → n < F →
   match rSd ws nm z e n i ((k : Int) - 1) cs with
   | .error b => (sfGo ws nm to F i cs k).1 = some b.2 ∧ b.1 = z
   | .ok cs' => ∃ k' F', sfGo ws nm to F i cs k = sfGo ws nm to (F' + 1) e cs' k' ∧ cs'.length = nm.length ∧ (((∃ j, j < k ∧ cs.getD j 0 ≠ 0) ∨ 1 ≤ n) → ∃ j, cs'.getD j 0 ≠ 0) ∧ (n = 0 → cs' = cs)
 | 0, i, k, F, cs, hn, h1, hi, hc, hF => by
  have : e = i := by lia
  subst this
  obtain ⟨F', rfl⟩ : ∃ F', F = F' + 1 := ⟨F - 1, by lia⟩
  exact ⟨k, F', rfl, hc, fun z => z.elim (fun ⟨j, _, h⟩ => ⟨j, h⟩) fun y => absurd y (by decide), fun _ => rfl⟩
 | n + 1, i, k, F, cs, hn, h1, hi, hc, hF => by
  obtain ⟨F', rfl⟩ : ∃ F', F = F' + 1 := ⟨F - 1, by lia⟩
  have hie : i < e := by lia
  have hT : sfT ws to nm.length i cs := ⟨by lia, .inl fun y => hb y.1 i h1 hie y.2⟩
  rw [yC, if_pos hT, vp]
  have hg := WH (ws.getD i "")
  cases hnum : num1 (ws.getD i "") 1 9 with
  | none =>
   have hr : rNum ws z i 1 9 = .error (z, i) := by unfold rNum; rw [hnum]
   rw [hnum] at hg
   rw [hr, if_pos (of_decide_eq_false hg.symm)]
   exact ⟨rfl, rfl⟩
  | some c =>
  have hr : rNum ws z i 1 9 = .ok c := by unfold rNum; rw [hnum]
  rw [hnum] at hg
  have hin : ws.getD i "" ∈ nums 1 9 := of_decide_eq_true hg.symm
  rw [hr, if_neg (fun y => y hin)]
  dsimp only
  have hcv : val (ws.getD i "") = c := by
   unfold num1 at hnum
   split at hnum
   ·exact Option.some.inj hnum
   ·cases hnum
  by_cases q1 : i + 1 = e
  ·rw [if_pos q1]
   have : i + 1 = ws.length ∨ ws.getD (i + 1) "" ∉ nm.drop k := by
    by_cases y : i + 1 = ws.length
    ·exact .inl y
    ·refine .inr fun hm => hto ?_
     have := hat (by lia)
     rw [← q1] at this
     rw [← this]
     exact List.mem_of_mem_drop hm
   rw [if_pos this, q1]
   exact ⟨rfl, rfl⟩
  rw [if_neg q1]
  cases hp : plc (ws.getD (i + 1) "") nm with
  | none =>
   have hs : zS ws z (i + 1) nm = .error (z, i + 1) := by unfold zS; rw [hp]
   rw [hs, if_pos (.inr fun hm => xi hp (List.mem_of_mem_drop hm))]
   exact ⟨rfl, rfl⟩
  | some q =>
  have hs : zS ws z (i + 1) nm = .ok q := by unfold zS; rw [hp]
  rw [hs]
  dsimp only
  have hd := drop_mem (k := k) nd hp
  by_cases q2 : (q : Int) ≤ (k : Int) - 1
  ·rw [if_pos q2, if_pos (.inr fun hm => by have := hd.mp hm; lia)]
   exact ⟨rfl, rfl⟩
  rw [if_neg q2, if_neg (fun y => y.elim (fun y => by lia) fun y => y (hd.mpr (by lia)))]
  have ih := x8 (z := z) nd hto hel hf hb hat (n := n) (i := i + 2) (k := q + 1) (F := F') (cs := cs.set q c) (by lia) (by lia) (by lia) (by rw [List.length_set]; exact hc) (by lia)
  rw [show (((q + 1 : Nat) : Int) - 1) = (q : Int) by lia] at ih
  rw [show (Option.getD (some q) 0) = q from rfl, hcv]
  have hc1 := (Zw hr).2.1
  have hqn : q < cs.length := by rw [hc]; exact xB hp
  cases hr2 : rSd ws nm z e n (i + 2) (q : Int) (cs.set q c) with
  | error b => rw [hr2] at ih; exact ih
  | ok cs' =>
   rw [hr2] at ih
   obtain ⟨k', F'', e1, e2, e3, e4⟩ := ih
   refine ⟨k', F'', e1, e2, fun _ => e3 (.inl ⟨q, by lia, ?_⟩), fun y => absurd y (by lia)⟩
   rw [List.getD_eq_getElem?_getD, List.getElem?_set_self hqn]
   show c ≠ 0
   lia
noncomputable def zr (nm : List Str) : List Int := List.replicate nm.length 0
noncomputable def yq (ws nm : List Str) : Option Nat := match sfGo ws nm true (ws.length + 1) 1 (zr nm) 0 with
 | (some f, _, _) => some f
 | (none, i, tk) => match sfGo ws nm false (ws.length + 1) i (zr nm) 0 with
  | (f, _, gv) => if f = none ∧ tk = gv then some ws.length else f
theorem zr_getD (nm : List Str) (j : Nat) : (zr nm).getD j 0 = 0 := by
 unfold zr
 rw [List.getD_eq_getElem?_getD, List.getElem?_replicate]
 split <;> rfl
theorem to_num : ("to" : Str) ∉ nums 1 9 := by decide +kernel
theorem rule_fault {W : List (List Str)} {z : Nat} {nm r : List Str} (hw : W[z]? = some (("rule" : Str) :: r)) (hz : z < 12) (nd : nm.Nodup) (hto : ("to" : Str) ∉ nm) :
  match yO W z nm with
  | .error b => yq (("rule" : Str) :: r) nm = some b.2 ∧ b.1 = z
  | .ok _ => yq (("rule" : Str) :: r) nm = none := by
 have hrw : rW W z "rule" = .ok (("rule" : Str) :: r) := by unfold rW; rw [hw]; exact if_pos rfl
 have hl1 : 1 ≤ (("rule" : Str) :: r).length := by rw [List.length_cons]; lia
 have h0 : ("rule" : Str) ≠ "to" := by decide +kernel
 generalize hws : ("rule" : Str) :: r = ws at hw hrw hl1
 have hw0 : ws.getD 0 "" = "rule" := by rw [← hws]; rfl
 -- where 'to' stands
 obtain ⟨M, hM, hM1, hMl, hMb, hMa⟩ : ∃ M, mid ws = M ∧ 1 ≤ M ∧ M ≤ ws.length ∧ (∀ j, 1 ≤ j → j < M → ws.getD j "" ≠ "to") ∧ (M < ws.length → ws.getD M "" = "to") := by
  cases hp : plc "to" ws with
  | none =>
   refine ⟨ws.length, by unfold mid; rw [hp]; rfl, hl1, Nat.le_refl _, fun j _ hj e => xi hp ?_, fun y => absurd y (Nat.lt_irrefl _)⟩
   rw [← e, List.getD_eq_getElem?_getD, List.getElem?_eq_getElem hj]
   exact List.getElem_mem hj
  | some M =>
   obtain ⟨f1, f2⟩ := zI hp
   refine ⟨M, by unfold mid; rw [hp]; rfl, ?_, Nat.le_of_lt (xB hp), fun j _ hj e => ?_, fun _ => by rw [List.getD_eq_getElem?_getD, f1]; rfl⟩
   ·cases M with
    | zero => rw [List.getD_eq_getElem?_getD, f1] at hw0; exact absurd hw0.symm h0
    | succ M => lia
   ·have hjl : j < ws.length := Nat.lt_trans hj (xB hp)
    rw [List.getD_eq_getElem?_getD, List.getElem?_eq_getElem hjl] at e
    exact f2 j _ hj (List.getElem?_eq_getElem hjl) e
 unfold yO
 rw [hrw]
 dsimp only
 rw [if_neg (by lia), hM]
 unfold wv yq
 have s1 := x8 (z := z) (e := M) (to := true) nd hto hMl (fun y => by cases y) (fun _ => hMb) hMa (n := (M + 1 - 1) / 2) (i := 1) (k := 0) (F := ws.length + 1) (cs := zr nm) (by lia) (Nat.le_refl _) hM1 List.length_replicate (by lia)
 rw [show (((0 : Nat) : Int) - 1) = -1 from rfl] at s1
 cases h1 : rSd ws nm z M ((M + 1 - 1) / 2) 1 (-1) (List.replicate nm.length 0) with
 | error b =>
  rw [show zr nm = List.replicate nm.length 0 from rfl, h1] at s1
  obtain ⟨a, b'⟩ := s1
  dsimp only
  match hq : sfGo ws nm true (ws.length + 1) 1 (zr nm) 0, a with
  | (some f, _, _), a => exact ⟨a, b'⟩
 | ok tk =>
 rw [show zr nm = List.replicate nm.length 0 from rfl, h1] at s1
 obtain ⟨k', F', e1, e2, e3, e4⟩ := s1
 dsimp only
 by_cases q1 : M = 1 ∨ M = ws.length
 ·rw [if_pos q1]
  have E1 : sfGo ws nm true (F' + 1) M tk k' = (some M, M, tk) := by
   rw [yC]
   by_cases y : M = ws.length
   ·rw [if_neg (fun t => by have := t.1; lia), if_pos ⟨y, rfl⟩]
   ·have m1 : M = 1 := q1.resolve_right y
    have hz' : tk = List.replicate nm.length 0 := e4 (by lia)
    rw [if_pos ⟨by lia, .inr hz'⟩, if_pos (by rw [hMa (by lia)]; exact to_num)]
  rw [show zr nm = List.replicate nm.length 0 from rfl, e1, E1]
  exact ⟨rfl, rfl⟩
 rw [if_neg q1]
 have m1 : M ≠ 1 := fun y => q1 (.inl y)
 have m2 : M ≠ ws.length := fun y => q1 (.inr y)
 obtain ⟨j, hj⟩ := e3 (.inr (by lia))
 have E1 : sfGo ws nm true (F' + 1) M tk k' = (none, M + 1, tk) := by
  rw [yC, if_neg (fun t => t.2.elim (fun y => y ⟨rfl, hMa (by lia)⟩) fun y => hj (by rw [y]; exact zr_getD nm j)), if_neg (fun y => m2 y.1)]
  rfl
 rw [show zr nm = List.replicate nm.length 0 from rfl, e1, E1]
 dsimp only
 have s2 := x8 (z := z) (e := ws.length) (to := false) nd hto (Nat.le_refl _) (fun _ => rfl) (fun y => by cases y) (fun y => absurd y (Nat.lt_irrefl _)) (n := (ws.length + 1 - (M + 1)) / 2) (i := M + 1) (k := 0) (F := ws.length + 1) (cs := zr nm) (by lia) (by lia) (by lia) List.length_replicate (by lia)
 rw [show (((0 : Nat) : Int) - 1) = -1 from rfl] at s2
 cases h2 : rSd ws nm z ws.length ((ws.length + 1 - (M + 1)) / 2) (M + 1) (-1) (List.replicate nm.length 0) with
 | error b =>
  rw [show zr nm = List.replicate nm.length 0 from rfl, h2] at s2
  obtain ⟨a, b'⟩ := s2
  dsimp only
  match hq : sfGo ws nm false (ws.length + 1) (M + 1) (List.replicate nm.length 0) 0, a with
  | (some f, _, _), a =>
   refine ⟨?_, b'⟩
   dsimp only
   rw [if_neg (fun y => by cases y.1)]
   exact a
 | ok gv =>
 rw [show zr nm = List.replicate nm.length 0 from rfl, h2] at s2
 obtain ⟨k2, F2, g1, g2, g3, g4⟩ := s2
 have E2 : sfGo ws nm false (F2 + 1) ws.length gv k2 = (none, ws.length, gv) := by
  rw [yC, if_neg (fun t => absurd t.1 (Nat.lt_irrefl _)), if_neg (fun y => by cases y.2)]
  rfl
 dsimp only
 rw [g1, E2]
 dsimp only
 by_cases qe : tk = gv
 ·rw [if_pos qe, if_pos ⟨rfl, qe⟩]
  exact ⟨rfl, rfl⟩
 ·rw [if_neg qe, if_neg (fun y => qe y.2)]
noncomputable def hdW (z : Nat) : Str := (["sorts", "begin", "in", "out"] : List Str).getD z ""
noncomputable def yn (z m : Nat) : Nat := ([1, m, 0, 1] : List Nat).getD z 0
noncomputable def yg (z m : Nat) : Nat := ([8, m, 3, 1] : List Nat).getD z 0
noncomputable def xy (z : Nat) (ws nm : List Str) : Option Nat := if ws.head? = some (hdW z) then hf z (yn z nm.length) (yg z nm.length) ws nm else some 0
noncomputable def zE (nm : List Str) (z : Nat) (ws : List Str) : Option Nat := if z < 4 then xy z ws nm else if ws.head? = some "rule" ∧ z < 12 then yq ws nm else some 0
noncomputable def Fits {α : Type} (z : Nat) (o : Option Nat) (r : Except Bad α) : Prop := match r with
 | .error b => o = some b.2 ∧ b.1 = z
 | .ok _ => o = none
theorem fits_of {α : Type} {z : Nat} {r : Except Bad α} (h : ∀ b, r = .error b → b.1 = z) : Fits z (errW r) r := by
 cases r with
 | error b => exact ⟨rfl, h b rfl⟩
 | ok a => exact rfl
theorem vD {W : List (List Str)} {ws nm : List Str} (hw : W[0]? = some ws) : Fits 0 (zE nm 0 ws) (yl W) := by
 unfold yl rW zE xy
 rw [hw, if_pos (by decide)]
 dsimp only
 rw [show hdW 0 = ("sorts" : Str) from rfl]
 by_cases h : ws.head? = some ("sorts" : Str)
 ·rw [if_pos h, if_pos h]
  dsimp only
  match ws, h with
  | w :: r, h =>
  have f := wY (ws := w :: r) (nm := nm) (n := r.length) (i := 1) (by simp only [List.length_cons]; lia) (Nat.le_refl _) (by decide)
  have f : rNm r 1 [] = match hfGo 0 8 (w :: r) nm r.length 1 with | some j => .error (0, j) | none => .ok r := f
  rw [show (w :: r).tail = r from rfl, f]
  unfold hf
  rw [show (w :: r).length - 1 = r.length from rfl, show yg 0 nm.length = 8 from rfl, show yn 0 nm.length = 1 from rfl]
  cases hfGo 0 8 (w :: r) nm r.length 1 with
  | some j => exact ⟨rfl, rfl⟩
  | none =>
   dsimp only
   by_cases z : r.length = 0
   ·rw [if_pos z, if_pos (by rw [List.length_cons]; lia)]
    exact ⟨rfl, rfl⟩
   ·rw [if_neg z, if_neg (by rw [List.length_cons]; lia)]
    exact rfl
 ·rw [if_neg h, if_neg h]
  exact ⟨rfl, rfl⟩
theorem fits_begin {W : List (List Str)} {ws nm : List Str} (hw : W[1]? = some ws) : Fits 1 (zE nm 1 ws) (yP W nm) := by
 unfold yP rW zE xy
 rw [hw, if_pos (by decide)]
 dsimp only
 rw [show hdW 1 = ("begin" : Str) from rfl]
 by_cases h : ws.head? = some ("begin" : Str)
 ·rw [if_pos h, if_pos h]
  dsimp only
  have hl : 1 ≤ ws.length := by
   cases ws with
   | nil => cases h
   | cons _ _ => rw [List.length_cons]; lia
  have f := wZ (ws := ws) (nm := nm) (m := nm.length) (n := ws.length - 1) (i := 1) (acc := []) (by lia) (Nat.le_refl _) rfl (by lia)
  unfold hf
  rw [show yg 1 nm.length = nm.length from rfl, show yn 1 nm.length = nm.length from rfl]
  cases hg : hfGo 1 nm.length ws nm (ws.length - 1) 1 with
  | some j =>
   rw [hg] at f
   rw [f]
   exact ⟨rfl, rfl⟩
  | none =>
   rw [hg] at f
   obtain ⟨bs, f1, f2⟩ := f
   rw [f1]
   dsimp only
   by_cases z : bs.length < nm.length
   ·rw [if_pos z, if_pos (by lia)]
    exact ⟨rfl, rfl⟩
   ·rw [if_neg z, if_neg (by lia)]
    exact rfl
 ·rw [if_neg h, if_neg h]
  exact ⟨rfl, rfl⟩
theorem fits_in {W : List (List Str)} {ws nm : List Str} (hw : W[2]? = some ws) : Fits 2 (zE nm 2 ws) (yw W nm) := by
 unfold yw rW zE xy
 rw [hw, if_pos (by decide)]
 dsimp only
 rw [show hdW 2 = ("in" : Str) from rfl]
 by_cases h : ws.head? = some ("in" : Str)
 ·rw [if_pos h, if_pos h]
  dsimp only
  match ws, h with
  | w :: r, h =>
  have f := Yn (ws := w :: r) (nm := nm) (n := r.length) (i := 1) (by simp only [List.length_cons]; lia) (Nat.le_refl _) (by decide) (fun y hy => nomatch hy)
  unfold hf
  rw [show (w :: r).length - 1 = r.length from rfl, show yg 2 nm.length = 3 from rfl, show yn 2 nm.length = 0 from rfl]
  cases hg : hfGo 2 3 (w :: r) nm r.length 1 with
  | some j =>
   rw [hg] at f
   have f : rIn (w :: r) nm r.length 1 [] = .error (2, j) := f
   rw [f]
   exact ⟨rfl, rfl⟩
  | none =>
   rw [hg] at f
   obtain ⟨bs, f1⟩ := f
   have f1 : rIn (w :: r) nm r.length 1 [] = .ok bs := f1
   rw [f1]
   dsimp only
   rw [if_neg (by rw [List.length_cons]; lia)]
   exact rfl
 ·rw [if_neg h, if_neg h]
  exact ⟨rfl, rfl⟩
theorem fits_out {W : List (List Str)} {ws nm : List Str} (hw : W[3]? = some ws) : Fits 3 (zE nm 3 ws) (yx W nm) := by
 unfold yx rW zE xy
 rw [hw, if_pos (by decide)]
 dsimp only
 rw [show hdW 3 = ("out" : Str) from rfl]
 by_cases h : ws.head? = some ("out" : Str)
 ·rw [if_pos h, if_pos h]
  dsimp only
  have hl : 1 ≤ ws.length := by
   cases ws with
   | nil => cases h
   | cons _ _ => rw [List.length_cons]; lia
  rw [show yg 3 nm.length = 1 from rfl, show yn 3 nm.length = 1 from rfl, fault_out (nm := nm) hl]
  refine fits_of fun b hb => ?_
  by_cases z1 : ws.length = 1
  ·rw [if_pos z1] at hb; cases hb; rfl
  rw [if_neg z1] at hb
  cases hs : zS ws 3 1 nm with
  | error b' =>
   rw [hs] at hb
   cases hb
   unfold zS at hs
   split at hs
   ·cases hs
   ·cases hs; rfl
  | ok q =>
   rw [hs] at hb
   dsimp only at hb
   by_cases z2 : 2 < ws.length
   ·rw [if_pos z2] at hb; cases hb; rfl
   ·rw [if_neg z2] at hb; cases hb
 ·rw [if_neg h, if_neg h]
  exact ⟨rfl, rfl⟩
noncomputable def eo {α : Type} (r : Except Bad α) (k : Option Bad) : Option Bad := match r with
 | .error b => some b
 | .ok _ => k
theorem fits_rule {W : List (List Str)} {z : Nat} {ws nm : List Str} (hw : W[z]? = some ws) (h4 : 4 ≤ z) (nd : nm.Nodup) (hto : ("to" : Str) ∉ nm) : Fits z (zE nm z ws) (yO W z nm) := by
 unfold zE
 rw [if_neg (by lia)]
 by_cases h : ws.head? = some ("rule" : Str)
 ·match ws, h with
  | w :: r, h =>
   have hw' : w = "rule" := Option.some.inj h
   rw [hw'] at hw ⊢
   by_cases h12 : z < 12
   ·rw [if_pos ⟨rfl, h12⟩]
    have f := rule_fault hw h12 nd hto
    cases e : yO W z nm with
    | error b => rw [e] at f; exact f
    | ok a => rw [e] at f; exact f
   ·rw [if_neg (fun y => h12 y.2)]
    have hrw : rW W z "rule" = .ok (("rule" : Str) :: r) := by unfold rW; rw [hw]; exact if_pos rfl
    unfold yO
    rw [hrw]
    dsimp only
    rw [if_pos (by lia)]
    exact ⟨rfl, rfl⟩
 ·rw [if_neg (fun y => h y.1)]
  unfold yO rW
  rw [hw]
  dsimp only
  rw [if_neg h]
  exact ⟨rfl, rfl⟩
noncomputable def nmAt (W : List (List Str)) (z : Nat) : List Str := if z = 0 then [] else (W.getD 0 []).tail
noncomputable def ffGo (W : List (List Str)) : Nat → Nat → Option Bad
 | 0, z => if z < 4 then some (z, 0) else none
 | n + 1, z => match zE (nmAt W z) z (W.getD z []) with
  | some k => some (z, k)
  | none => ffGo W n (z + 1)
noncomputable def yT (W : List (List Str)) : Option Bad := ffGo W W.length 0
theorem wQ {W : List (List Str)} {n z : Nat} : ffGo W (n + 1) z = match zE (nmAt W z) z (W.getD z []) with | some k => some (z, k) | none => ffGo W n (z + 1) := rfl
theorem wB {α : Type} {W : List (List Str)} {n z : Nat} {ws : List Str} {r : Except Bad α} (hw : W[z]? = some ws) (f : Fits z (zE (nmAt W z) z ws) r) : ffGo W (n + 1) z = eo r (ffGo W n (z + 1)) := by
 have hg : W.getD z [] = ws := by rw [List.getD_eq_getElem?_getD, hw]; rfl
 rw [wQ, hg]
 cases r with
 | error b =>
  obtain ⟨h1, h2⟩ : zE (nmAt W z) z ws = some b.2 ∧ b.1 = z := f
  rw [h1]
  show some (z, b.2) = some b
  rw [← h2]
 | ok a =>
  have h1 : zE (nmAt W z) z ws = none := f
  rw [h1]
  rfl
theorem Ym {W : List (List Str)} {nm : List Str} (hn : (W.getD 0 []).tail = nm) (nd : nm.Nodup) (hto : ("to" : Str) ∉ nm) : ∀ (n z : Nat) (acc : List (List Int × List Int)), z + n = W.length → 4 ≤ z → ffGo W n z = eo (rRs W nm n z acc) none
 | 0, z, acc, _, h4 => by
  show (if z < 4 then some (z, 0) else none : Option Bad) = none
  exact if_neg (by lia)
 | n + 1, z, acc, hz, h4 => by
  have hw : W[z]? = some (W[z]'(by lia)) := List.getElem?_eq_getElem _
  have hm : nmAt W z = nm := by unfold nmAt; rw [if_neg (by lia), hn]
  rw [wB hw (by rw [hm]; exact fits_rule hw h4 nd hto), vq]
  cases yO W z nm with
  | error b => rfl
  | ok r => exact Ym hn nd hto n (z + 1) _ (by lia) (by lia)
theorem vO {W : List (List Str)} {nm : List Str} (h : yl W = .ok nm) : (W.getD 0 []).tail = nm ∧ nm.Nodup ∧ ("to" : Str) ∉ nm := by
 unfold yl at h
 cases h1 : rW W 0 "sorts" with
 | error b => rw [h1] at h; cases h
 | ok ws =>
  rw [h1] at h
  dsimp only at h
  cases h2 : rNm ws.tail 1 [] with
  | error b => rw [h2] at h; cases h
  | ok us =>
   rw [h2] at h
   dsimp only at h
   by_cases q : us.length = 0
   ·rw [if_pos q] at h; cases h
   ·rw [if_neg q] at h
    cases h
    obtain ⟨e1, e2, e3⟩ := X2 h2
    obtain ⟨w1, _⟩ := vn h1
    refine ⟨?_, e2 List.nodup_nil, fun t => ?_⟩
    ·rw [List.getD_eq_getElem?_getD, w1]
     exact e1.symm
    ·have := e3 (fun x hx => nomatch hx) _ t
     exact absurd this (by decide +kernel)
theorem w8 {W : List (List Str)} {i : Nat} {f : Str} (h : W.length ≤ i) : rW W i f = .error (i, 0) := by
 unfold rW
 rw [List.getElem?_eq_none h]
theorem xI (W : List (List Str)) : yT W = eo (rPot W) none := by
 unfold yT rPot
 rcases Nat.eq_zero_or_pos W.length with l0 | l0
 ·rw [show yl W = .error (0, 0) by unfold yl; rw [w8 (by lia)], l0]
  rfl
 have w0 : W[0]? = some (W[0]'l0) := List.getElem?_eq_getElem _
 obtain ⟨n, hn⟩ : ∃ n, W.length = n + 1 := ⟨W.length - 1, by lia⟩
 rw [hn, wB w0 (vD w0)]
 cases hs : yl W with
 | error b => rfl
 | ok nm =>
 obtain ⟨hm, nd, hto⟩ := vO hs
 dsimp only
 have ha : ∀ z, z ≠ 0 → nmAt W z = nm := fun z hz => by unfold nmAt; rw [if_neg hz, hm]
 cases n with
 | zero =>
  rw [show yP W nm = .error (1, 0) by unfold yP; rw [w8 (by lia)]]
  rfl
 | succ n =>
 have w1 : W[1]? = some (W[1]'(by lia)) := List.getElem?_eq_getElem _
 rw [wB (z := 0 + 1) w1 (by rw [ha _ (by decide)]; exact fits_begin w1)]
 cases hb : yP W nm with
 | error b => rfl
 | ok bg =>
 dsimp only
 cases n with
 | zero =>
  rw [show yw W nm = .error (2, 0) by unfold yw; rw [w8 (by lia)]]
  rfl
 | succ n =>
 have w2 : W[2]? = some (W[2]'(by lia)) := List.getElem?_eq_getElem _
 rw [wB (z := 0 + 1 + 1) w2 (by rw [ha _ (by decide)]; exact fits_in w2)]
 cases hi : yw W nm with
 | error b => rfl
 | ok ins =>
 dsimp only
 cases n with
 | zero =>
  rw [show yx W nm = .error (3, 0) by unfold yx; rw [w8 (by lia)]]
  rfl
 | succ n =>
 have w3 : W[3]? = some (W[3]'(by lia)) := List.getElem?_eq_getElem _
 rw [wB (z := 0 + 1 + 1 + 1) w3 (by rw [ha _ (by decide)]; exact fits_out w3)]
 cases hc : yx W nm with
 | error b => rfl
 | ok a =>
 dsimp only
 rw [Ym hm nd hto n (0 + 1 + 1 + 1 + 1) [] (by lia) (by lia), show n + 1 + 1 + 1 + 1 - 4 = n by lia]
 cases rRs W nm n 4 [] with
 | error b => rfl
 | ok rl => rfl
end PT
namespace L2
open PySem PySem.Spec PyProof.Rows Builtin Builtin.Str
section
variable {X : Cx}
theorem Rd.sm {H H' : Hp} {a : Addr} {u : HO} (h : Rd H a u) (k : Same H H') : Rd H' a u := h.imp (fun e => k _ _ e) fun ⟨o, e⟩ => ⟨o, k _ _ e⟩
noncomputable def rIxR : R2 := fun x y H Q => ∃ p xs i v, x = .ref p ∧ y = .int i ∧ Rd H p (.tup xs) ∧ atI xs i = some v ∧ Q v H
theorem ix_R : IxR X rIxR := by
 intro value slice pins s σ H x y v u Q I rx ry h hs
 obtain ⟨p, xs, i, z, e1, e2, e3, e4, q⟩ := h
 exact ix_tup value slice pins s σ H x y v u Q I rx ry ⟨p, xs, i, z, e1, e2, .inl e3, e4, q⟩ hs
theorem XD {H : Hp} {Q : VK} {p : Addr} {xs : List V} {i : Int} {v : V} (hp : Rd H p (.tup xs)) (e : atI xs i = some v) (h : Q v H) : rIxR (.ref p) (.int i) H Q := ⟨p, xs, i, v, rfl, rfl, hp, e, h⟩
theorem zX {n : Nat} (h : n ≤ 10000) : n < sizeLine := Nat.lt_of_le_of_lt h (by decide)
noncomputable def rSplitG : V → List V → Hp → VK → Prop := fun x vs H Q => ∃ a b, x = .str a ∧ vs = [.str b] ∧ (b.length == 0) = false ∧ a.length ≤ 10000 ∧ ∀ l, H l = none → Q (.ref l) (upd H l (.lst ((Txt.split a b).map V.str)))
theorem xO : MtM X "str.split" rSplitG := by
 intro pins s σ H x vs v us Q I rx rv h
 obtain ⟨a, b, rfl, rfl, hb, ha, q⟩ := h
 obtain ⟨t, rfl⟩ := rx
 obtain ⟨w, rfl, rw⟩ := rv.one
 obtain ⟨u, rfl⟩ := rw
 have hx : a.length ≤ sizeLine := by rw [sizeLine_eq]; lia
 have hl : (Txt.split a b).length ≤ sizeLine := by
  have := PyProof.Rows.split_le a b
  rw [sizeLine_eq]; lia
 have fin : ∀ (l : List (Str × Tok)) (k : Nat), l.map (·.1) = Txt.split a b → EP X pins σ Q (.ref s.heap.objs.size) { s with heap := s.heap.push { cls := .type "list", data := .seq (strValues l).toArray }, toks := k } := fun l k e => by
  have hv := vg l
  rw [e] at hv
  exact ⟨.ref _, _, I.lnew (t' := k) hv (by rw [List.length_map]; exact hl), rfl, q _ I.fresh⟩
 cases h1 : (decide (a.length < b.length) || decide (Builtin.Str.strKind a < Builtin.Str.strKind b))
 ·cases hf : (occurrences a b 0 a.length (a.length + 1)).isEmpty
  ·have e : Txt.split a b = partsBetween a (occurrences a b 0 a.length (a.length + 1)) b.length := (if_neg (ne_true_of_eq_false h1)).trans (if_neg (ne_true_of_eq_false hf))
   refine call_meets F.slot_str_split (typeIs_str _ _ _) F.entry_str_split (F.args_str_split_2 _ _) (meets_str_split_sep a b t u h1 hb hf hx (by rw [← e]; exact hl)) ?_
   rw [strsFrom_eq]
   exact fin _ _ ((numbered_texts _ _).trans e.symm)
  ·refine call_meets F.slot_str_split (typeIs_str _ _ _) F.entry_str_split (F.args_str_split_2 _ _) (meets_str_split_not_found a b t u h1 hb hf) ?_
   exact fin [(a, t)] _ ((if_neg (ne_true_of_eq_false h1)).trans (if_pos hf)).symm
 ·refine call_meets F.slot_str_split (typeIs_str _ _ _) F.entry_str_split (F.args_str_split_2 _ _) (meets_str_split_cannot_occur a b t u h1) ?_
  exact fin [(a, t)] _ (if_pos h1).symm
theorem gives_repl1 (x y z : Str) (t u v w : Tok) (hu : (u == 0 || v == 0) = false) (huv : (u == v) = false) (hyz : (y == z) = false) (hne : (y.length == 0 && z.length == 0) = false)
    (hl : tooLong (x.length + (occurrences x y 0 x.length 1).length * z.length) = false) :
    Gives («str.replace» ⟨[.str x t, .str y u, .str z v, .int 1 w], []⟩) (if (occurrences x y 0 x.length 1).isEmpty = true then .val (.str x t) else .str (glued z (partsBetween x (occurrences x y 0 x.length 1) y.length))) := by
  show Gives (do let limit ← countLimit "str.replace" (some (.int 1 w)) (x.length + 1); _) _
  rw [countLimit_int "str.replace" 1 w (x.length + 1) (by decide)]
  show Gives (if ((occurrences x y 0 x.length 1).isEmpty || (y.length == 0 && z.length == 0)) = true then (do rule "str.replace.nothing"; ret (.str x t)) else
          (do let same ← isSame (.str y u) (.str z v)
              if same = true then (do rule "str.replace.old-is-new"; ret (.str x t)) else
              if tooLong (x.length + (occurrences x y 0 x.length 1).length * z.length) = true then unsupported "str.replace:memory" else
              retStr (glued z (partsBetween x (occurrences x y 0 x.length 1) y.length)))) _
  rw [hne, Bool.or_false]
  cases hc : (occurrences x y 0 x.length 1).isEmpty
  · rw [isSame_str_other y z u v hu huv hyz, hl]
    exact .of_eq rfl
  · exact .rule (.of_eq rfl)
noncomputable def repT (x y z : Str) : Str := if (occurrences x y 0 x.length 1).isEmpty = true then x else glued z (partsBetween x (occurrences x y 0 x.length 1) y.length)
theorem Z7 (x y z : Str) : repT x y z = x ∨ ∃ i j : Nat, (repT x y z).cps = x.cps.extract 0 i ++ z.cps ++ x.cps.extract j x.length := by
 unfold repT
 have hl := StrLaws.occ_length_le x y 0 x.length 1
 match he : occurrences x y 0 x.length 1, hl with
 | [], _ => exact .inl (if_pos rfl)
 | [c], _ =>
  rw [if_neg (fun e => nomatch e)]
  exact .inr ⟨c, c + y.length, rfl⟩
theorem Z6 (x y z : Str) : (repT x y z).length ≤ 2 * x.length + z.length := by
 rcases Z7 x y z with e | ⟨i, j, e⟩
 ·rw [e]; lia
 ·have : (repT x y z).length = (x.cps.extract 0 i ++ z.cps ++ x.cps.extract j x.length).size := congrArg Array.size e
  rw [this, Array.size_append, Array.size_append, Array.size_extract, Array.size_extract]
  show _ + z.length + _ ≤ 2 * x.cps.size + z.length
  have h1 : x.length = x.cps.size := rfl
  lia
theorem repT_mem {x y z : Str} {c : Nat} (h : c ∈ (repT x y z).cps.toList) : c ∈ x.cps.toList ∨ c ∈ z.cps.toList := by
 rcases Z7 x y z with e | ⟨i, j, e⟩
 ·rw [e] at h; exact .inl h
 ·rw [e] at h
  simp only [Array.toList_append, Array.toList_extract, List.mem_append] at h
  rcases h with (h | h) | h
  ·exact .inl (List.mem_of_mem_drop (List.mem_of_mem_take h))
  ·exact .inr h
  ·exact .inl (List.mem_of_mem_drop (List.mem_of_mem_take h))
theorem Xm {i : Nat} {x : Str} {pos : Pos} {pins : List (Addr × Obj)} {s : Shared} {σ : St} {H : Hp} {v : V} {E : Value → Shared → Prop} {R : Value → Shared → Prop} (I : Inv X pins σ H s) (hN : X.N[i]? = some x) (hv : Vis X.env.scope x) (e : σ[i]? = some (some v)) (h : ∀ u, RelV v u → R u s)
  (hd : (x == ("__debug__" : Str)) = false := by decide) (hcd : (x == ("__classdict__" : Str)) = false := by decide) : wpAny (model X.prog X.w) X.A (eval (.Name x pos) X.env) R E s := by
 obtain ⟨m, hn, hl⟩ := I.loc
 obtain ⟨u, r, l⟩ := hl i x v hN e hv
 have fin := h u r
 rcases l with ⟨hk, hm⟩ | ⟨hk, c, hc, hcell⟩
 ·exact wpAny_Name (wpAny_loadName_local I.ok.kind hk hn hm fin) hd
 ·rcases hk with hk | hk
  ·exact wpAny_Name (wpAny_loadName_cell I.ok.kind hk hc hcell fin) hd
  ·exact wpAny_Name (wpAny_loadName_free I.ok.kind hk hc hcell fin hcd) hd
noncomputable def tRep (i : Nat) (b y z : Str) (t : TA) : TA := fun σ H Q => ∃ a : Str, σ[i]? = some (some (.str a)) ∧ a.length ≤ 10000 ∧ t σ H fun vs H1 => Q (.str (a ++ b) :: .str (repT a y z) :: vs) H1
theorem pa_rep {x : Str} {b y z : Str} {es : List Expr} {t : TA} {p1 p2 p3 p4 p5 p6 p7 p8 p9 : Pos} {j1 j2 j3 j4 : Nat} (M : Nm X.N X.env.scope) (i : Nat) (ha : PA X es t)
  (hN : X.N[i]? = some x := by rfl) (hb : (b.length == 0) = false := by decide +kernel) (hb2 : b.length ≤ 100 := by decide +kernel) (hz2 : z.length ≤ 100 := by decide +kernel) (hyz : (y == z) = false := by decide +kernel) (hne : (y.length == 0 && z.length == 0) = false := by decide +kernel)
  (hline : (p5.endLine == p9.line) = true := by rfl) (hd : (x == ("__debug__" : Str)) = false := by decide) (hcd : (x == ("__classdict__" : Str)) = false := by decide)
  (hbase : attributeBase (.Name x p4) "replace" X.env (eval (.Name x p4) X.env) = eval (.Name x p4) X.env := by rfl)
  (hs : starEach (.BinOp (.Name x p1) .Add (.Constant (.str b) j1 p2) p3 :: .Call (.Attribute (.Name x p4) "replace" p5) [.Constant (.str y) j2 p6, .Constant (.str z) j3 p7, .Constant (.int 1) j4 p8] [] p9 :: es) X.env = (false, eval (.BinOp (.Name x p1) .Add (.Constant (.str b) j1 p2) p3) X.env) :: (false, eval (.Call (.Attribute (.Name x p4) "replace" p5) [.Constant (.str y) j2 p6, .Constant (.str z) j3 p7, .Constant (.int 1) j4 p8] [] p9) X.env) :: starEach es X.env := by rfl) :
  PA X (.BinOp (.Name x p1) .Add (.Constant (.str b) j1 p2) p3 :: .Call (.Attribute (.Name x p4) "replace" p5) [.Constant (.str y) j2 p6, .Constant (.str z) j3 p7, .Constant (.int 1) j4 p8] [] p9 :: es) (tRep i b y z t) := by
 intro pos pins s σ H Q I h
 obtain ⟨a, ea, hal, h⟩ := h
 have hv := (M.loc x (List.mem_of_getElem? hN)).vis
 rw [hs]
 show wpAny _ _ (spliced ((false, eval (.BinOp (.Name x p1) .Add (.Constant (.str b) j1 p2) p3) X.env) :: (false, eval (.Call (.Attribute (.Name x p4) "replace" p5) [.Constant (.str y) j2 p6, .Constant (.str z) j3 p7, .Constant (.int 1) j4 p8] [] p9) X.env) :: backTo pos (starEach es X.env))) _ _ s
 -- behind the first: the texts written so far are some
 have second : ∀ (v1 : Value) (s1 : Shared), 1 ≤ s1.toks → Inv X pins σ H s1 → RelV (.str (a ++ b)) v1 → wpAny (model X.prog X.w) X.A (spliced ((false, eval (.Call (.Attribute (.Name x p4) "replace" p5) [.Constant (.str y) j2 p6, .Constant (.str z) j3 p7, .Constant (.int 1) j4 p8] [] p9) X.env) :: backTo pos (starEach es X.env))) (fun vs s₂ => AP X pins σ Q (v1 :: vs) s₂) X.xe s1 := fun v1 s1 ht I1 r1 => by
  refine Calls.spliced_cons (wpAny_Call_method_late hbase rfl hline rfl (Xm I1 hN hv ea (fun u r => ?_) hd hcd))
  obtain ⟨t0, rfl⟩ := r
  obtain ⟨h1, h2⟩ := XM (T := "str") I1 (show RelV (.str a) (.str a t0) from ⟨t0, rfl⟩) rfl
  refine ⟨"str", "str.replace", F.plainAttrs_str, F.slot_str_replace, F.type_str_replace, h1, h2, ?_⟩
  refine Calls.callWith_builtin rfl (Calls.evalArgs_plain ?_)
  refine Calls.spliced_cons (Calls.Constant_str (k := j2) (pos := p6) ?_)
  refine Calls.spliced_cons (Calls.Constant_str (k := j3) (pos := p7) ?_)
  refine Calls.spliced_cons (wpAny_Constant_int (k := j4) (pos := p8) ?_)
  refine Calls.spliced_nil ?_
  have h5 : s1.toks ≠ 0 := by lia
  have hocc := StrLaws.occ_length_le a y 0 a.length 1
  have hmul : (occurrences a y 0 a.length 1).length * z.length ≤ 1 * z.length := Nat.mul_le_mul_right _ hocc
  have g := gives_repl1 a y z t0 s1.toks (s1.toks + 1) (s1.toks + 1 + 1) (by simp [h5]) (by simp) hyz hne (by unfold tooLong; apply decide_eq_false; rw [sizeLine_eq]; lia)
  have hlen := Z6 a y z
  refine call_gives F.slot_str_replace (typeIs_str _ _ _) F.entry_str_replace (F.args_str_replace_4 _ _ _ _) g ?_
  have goOn : ∀ (tk : Tok) (k : Nat), wpAny (model X.prog X.w) X.A (spliced (backTo pos (starEach es X.env))) (fun vs s₂ => AP X pins σ Q (v1 :: .str (repT a y z) tk :: vs) s₂) X.xe { s1 with toks := k } := fun tk k => by
   exact thn (ha pos pins _ σ H _ (I1.tok k) h) fun us s2 ⟨xs, H2, I2, r2, q2⟩ => ⟨.str (a ++ b) :: .str (repT a y z) :: xs, H2, I2, .cons r1 (.cons ⟨_, rfl⟩ r2), q2⟩
  unfold repT at goOn hlen
  cases hc : (occurrences a y 0 a.length 1).isEmpty
  ·rw [hc] at goOn hlen
   simp only [Bool.false_eq_true, if_false] at goOn hlen ⊢
   exact ⟨by rw [sizeLine_eq]; lia, goOn _ _⟩
  ·rw [hc] at goOn hlen
   simp only [if_true] at goOn hlen ⊢
   exact goOn _ _
 refine Calls.spliced_cons (wpAny_BinOp (Xm I hN hv ea (fun u r => ?_) hd hcd))
 obtain ⟨t0, rfl⟩ := r
 refine Calls.Constant_str ?_
 refine P.add_str ?_
 have I1 := I.tok (s.toks + 1)
 by_cases h0 : (a.length == 0) = true
 ·rw [if_pos h0]
  have e0 : a ++ b = b := by
   apply Str.ext'
   show a.cps ++ b.cps = b.cps
   have h00 : a.length = 0 := by simpa using h0
   have : a.cps = #[] := Array.eq_empty_of_size_eq_zero h00
   rw [this]; simp
  exact second _ _ (Nat.le_add_left _ _) I1 (by rw [e0]; exact ⟨_, rfl⟩)
 ·rw [if_neg h0, if_neg (by rw [hb]; exact Bool.false_ne_true)]
  refine ⟨?_, second _ _ (Nat.le_add_left _ _) (I.tok _) ⟨_, rfl⟩⟩
  show (a.cps ++ b.cps).size ≤ sizeLine
  rw [Array.size_append, sizeLine_eq]
  have h1 : a.length = a.cps.size := rfl
  have h2 : b.length = b.cps.size := rfl
  lia
end
end L2
namespace PT
open PySem L2 G2
theorem wu {ls : List Str} (hx : ∀ x ∈ ls, x.length ≤ 10000) {i : Nat} {f : Str} {ws : List Str} (h : rW (ls.map spl) i f = .ok ws) : (∀ w ∈ ws, w.length ≤ 10000) ∧ ws.length ≤ 10001 ∧ ∃ r, ws = f :: r := by
 obtain ⟨h1, r, hr⟩ := vn h
 rw [List.getElem?_map] at h1
 cases e : ls[i]? with
 | none => rw [e] at h1; cases h1
 | some x =>
  rw [e] at h1
  have h1 : spl x = ws := Option.some.inj h1
  have hl := hx x (List.mem_of_getElem? e)
  have s := vj x
  rw [show Txt.split x " " = ws from h1] at s
  refine ⟨fun w hw => ?_, ?_, r, hr⟩
  ·have := YY hw
   lia
  ·have := YZ ws
   lia
noncomputable def wl (ws : List Str) : Nat := (ws.map fun w => w.length + 1).sum
theorem x4 (x : Str) : wl (spl x) = x.length + 1 := vj x
theorem Xs : wl [] = 0 := rfl
theorem yo (w : Str) (ws : List Str) : wl (w :: ws) = w.length + 1 + wl ws := by unfold wl; rw [List.map_cons, List.sum_cons]
theorem x5 (us ws : List Str) : wl (us ++ ws) = wl us + wl ws := by unfold wl; rw [List.map_append, List.sum_append]
theorem YN (ws : List Str) (n : Nat) : wl (ws.take n) ≤ wl ws := by
 have := x5 (ws.take n) (ws.drop n)
 rw [List.take_append_drop] at this
 lia
theorem Xu {w : Str} {ws : List Str} (h : w ∈ ws) : w.length + 1 ≤ wl ws := YY h
theorem vd (ws : List Str) : ws.length ≤ wl ws := YZ ws
theorem ZT : ∀ (ws : List Str) (k : Nat), wl (ws.eraseIdx k) ≤ wl ws
 | [], _ => Nat.le_refl _
 | w :: ws, 0 => by rw [List.eraseIdx_zero, List.tail_cons, yo]; lia
 | w :: ws, k + 1 => by rw [List.eraseIdx_cons_succ, yo, yo]; have := ZT ws k; lia
theorem Xr : ∀ (ws : List Str) (k : Nat) (x : Str), wl (ws.set k x) ≤ wl ws + x.length + 1
 | [], _, _ => Nat.zero_le _
 | w :: ws, 0, x => by rw [List.set_cons_zero, yo, yo]; lia
 | w :: ws, k + 1, x => by rw [List.set_cons_succ, yo, yo]; have := Xr ws k x; lia
theorem Wi (c : Nat) : ∀ ls : List (List Nat), (jn c ls).length ≤ (ls.map fun l => l.length + 1).sum
 | [] => Nat.zero_le _
 | [a] => by simp [jn]
 | a :: b :: r => by
  have := Wi c (b :: r)
  show (a ++ c :: jn c (b :: r)).length ≤ _
  rw [List.length_append, List.length_cons, List.map_cons, List.sum_cons]
  lia
theorem Yg (ws : List Str) : (Txt.join " " ws).length ≤ wl ws := by
 rw [vX]
 show (ln ws).cps.size ≤ _
 rw [← Array.length_toList, we]
 refine Nat.le_trans (Wi _ _) ?_
 rw [List.map_map]
 exact Nat.le_refl _
theorem Xk : ∀ (ws : List Str) (n : Nat), ws.foldl (fun a w => a + w.length + (Str.length " ")) n = n + wl ws
 | [], n => rfl
 | w :: ws, n => by
  rw [List.foldl_cons, Xk ws, yo, show (Str.length " ") = 1 from by decide +kernel]
  lia
theorem join_ok {ws : List Str} (h : wl ws ≤ 100000) : JoinOk " " ws = true ∧ (Txt.join " " ws).length ≤ sizeLine := by
 refine ⟨?_, Nat.le_trans (Yg ws) (Nat.le_trans h (by decide))⟩
 unfold JoinOk
 rw [List.foldl_toArray', Xk]
 ·unfold Builtin.Str.tooLong
  rw [decide_eq_false]
  ·rfl
  ·have : sizeLine > 100000 := by decide
   lia
 ·simp
noncomputable def Asc (x : Str) : Prop := ∀ c ∈ x.cps.toList, c < 128
theorem We (d : Nat) : ∀ {ls : List (List Nat)} {l : List Nat} {c : Nat}, l ∈ ls → c ∈ l → c ∈ jn d ls
 | [], _, _, h, _ => nomatch h
 | [a], l, c, h, hc => by
  rcases List.mem_cons.mp h with rfl | h
  ·exact hc
  ·exact nomatch h
 | a :: b :: r, l, c, h, hc => by
  show c ∈ a ++ d :: jn d (b :: r)
  rcases List.mem_cons.mp h with rfl | h
  ·exact List.mem_append_left _ hc
  ·exact List.mem_append_right _ (List.mem_cons_of_mem _ (We d h hc))
theorem asc_join {ws : List Str} (h : ∀ w ∈ ws, Asc w) : Asc (Txt.join " " ws) := fun c hc => by
 rw [vX, we] at hc
 rcases ZJ _ hc with rfl | ⟨l, hl, hc⟩
 ·decide
 ·obtain ⟨w, hw, rfl⟩ := List.mem_map.mp hl
  exact h w hw c hc
theorem asc_spl {x : Str} (h : Asc x) : ∀ w ∈ spl x, Asc w := fun w hw c hc => by
 refine h c ?_
 have e := StrLaws.join_split x ⟨#[32]⟩
 unfold spl at hw
 rw [xk] at hw
 rw [← e, xQ]
 exact We 32 (List.mem_map.mpr ⟨w, hw, rfl⟩) hc
theorem xU {x y : Str} (hx : Asc x) (hy : Asc y) : Asc (x ++ y) := fun c hc => by
 rw [ZR] at hc
 rcases List.mem_append.mp hc with h | h
 ·exact hx c h
 ·exact hy c h
theorem xr (x y : Str) : (x ++ y).length = x.length + y.length := by
 show (x.cps ++ y.cps).size = _
 rw [Array.size_append]; rfl
theorem asc_rep {x y z : Str} (hx : Asc x) (hz : Asc z) : Asc (repT x y z) := fun c hc => (repT_mem hc).elim (hx c) (hz c)
theorem vb {x : Str} (h : (x.cps.toList.all fun c => decide (c < 128)) = true) : Asc x := fun c hc => by simpa using List.all_eq_true.mp h c hc
end PT
namespace L2
open PySem PySem.Spec PyProof.Rows
theorem sqL0 {K : PySem.W.Frag} {H : Hp} {a : Addr} {xs : List V} (h : SqL [] H a xs) : SqL K H a xs := h.elim .inl fun ⟨_, _, _, e, _⟩ => nomatch e
theorem sqT0 {K : PySem.W.Frag} {H : Hp} {a : Addr} {xs : List V} (h : SqT [] H a xs) : SqT K H a xs := h.elim .inl fun ⟨_, _, _, e, _⟩ => nomatch e
theorem tyV0 {K : PySem.W.Frag} {T : String} {x : V} {H : Hp} (h : tyV [] T x H) : tyV K T x H := by
 cases x with
 | ref p =>
  rcases h with ⟨a, xs, h⟩ | ⟨_, o, e, _⟩ | h | h
  ·exact .inl ⟨a, xs, sqL0 h⟩
  ·cases e
  ·exact .inr (.inr (.inl h))
  ·exact .inr (.inr (.inr h))
 | _ => exact h
section
variable {X : Cx}
noncomputable def rLn0 : List V → Hp → VK → Prop := fun xs H Q => ∃ p ys, xs = [.ref p] ∧ (SqL [] H p ys ∨ SqT [] H p ys) ∧ Q (.int ys.length) H
theorem zf : yb X (.builtin "len") rLn0 := fun pins s σ H xs us Q I r h => yK pins s σ H xs us Q I r (let ⟨p, ys, e, hp, q⟩ := h; ⟨p, ys, e, hp.imp sqL0 sqT0, q⟩)
theorem yd : OpR X (compareOp .In) (rIn [] false) := fun pins s σ H x y v u Q I rx ry h => op_in_seq pins s σ H x y v u Q I rx ry (let ⟨p, xs, e, hp, q⟩ := h; ⟨p, xs, e, hp.imp sqL0 sqT0, q⟩)
theorem op_notIn_seq0 : OpR X (compareOp .NotIn) (rIn [] true) := fun pins s σ H x y v u Q I rx ry h => xp pins s σ H x y v u Q I rx ry (let ⟨p, xs, e, hp, q⟩ := h; ⟨p, xs, e, hp.imp sqL0 sqT0, q⟩)
theorem yu : SlR X (rSlL []) := fun pins s σ H x v vl vu lo hi sl Q I rx hs h1 h2 h => sl_list pins s σ H x v vl vu lo hi sl Q I rx hs h1 h2 (let ⟨a, xs, e, ha, q⟩ := h; ⟨a, xs, e, sqL0 ha, q⟩)
theorem zD {o e : Expr} {es : List Expr} {to : TE} {t : TA} {name : Str} {apos cpos : Pos} {T id : String} {r : V → List V → Hp → VK → Prop} (pa : PlainAttrs T) (slot : Slot T name id) (hty : typeOf (.builtin id) = pure (.type "method_descriptor")) (hm : MtR X id r) (ho : PE X o to) (ha : PA X (e :: es) t)
  (hbase : attributeBase o name X.env (eval o X.env) = eval o X.env := by rfl)
  (hfew : ((backTo cpos (starEach (e :: es) X.env)).all (fun x => !x.1) && (backToKw cpos (keywordEach [] X.env)).all (fun x => x.1.isSome)
   && decide ((e :: es).length + ([] : List Keyword).length + (if ([] : List Keyword).isEmpty then 0 else 1) < 30)) = true := by rfl)
  (hline : (apos.endLine == cpos.line) = true := by rfl) (hs : starEach (e :: es) X.env = (false, eval e X.env) :: starEach es X.env := by rfl) (hplain : (backTo cpos (starEach es X.env)).any (·.1) = false := by rfl) :
  PE X (.Call (.Attribute o name apos) (e :: es) [] cpos) (tBM [] T r to t) := by
 intro pins s σ H Q I h
 refine wpAny_Call_method_late hbase hfew hline rfl (thn (ho pins s σ H _ I h) fun v s1 ⟨x, H1, I1, r1, ty, q1⟩ => ?_)
 obtain ⟨h1, h2⟩ := XM I1 r1 (tyV0 ty)
 refine ⟨T, id, pa, slot, hty, h1, h2, ?_⟩
 have hA := ha cpos pins s1 σ H1 _ I1 q1
 rw [hs] at hA ⊢
 refine Calls.callWith_builtin (by show (false || (backTo cpos (starEach es X.env)).any (·.1)) = false; rw [hplain] <;> rfl) (Calls.evalArgs_plain ?_)
 exact thn hA fun us s2 ⟨vs, H2, I2, r2, q2⟩ => hm pins s2 σ H2 x vs v us Q I2 r1 r2 q2
theorem xC {es : List Expr} {k : Nat} {t : TGs} {n : Nat} {pos : Pos} (hc : X.calm = true) (h : PGs X es t)
  (hn : (assignEach es X.env).length = n := by rfl) (hst : (assignEach es X.env).findIdx? (·.1) = none := by rfl) : PG X (.Tuple es k pos) (gTup [] n t) := fun pins s σ H v u Q I r hw => pg_tup hc h hn hst pins s σ H v u Q I r (let ⟨a, xs, e, hq, q⟩ := hw; ⟨a, xs, e, sqT0 hq, q⟩)
noncomputable def rTupOf0 : List V → Hp → VK → Prop := fun xs H Q => ∃ p ys, xs = [.ref p] ∧ ((SqL [] H p ys ∧ ∀ l, H l = none → Q (.ref l) (upd H l (.tup ys))) ∨ (SqT [] H p ys ∧ Q (.ref p) H))
theorem zV : yb X (.type "tuple") rTupOf0 := fun pins s σ H xs us Q I r h => xY pins s σ H xs us Q I r (let ⟨p, ys, e, h⟩ := h; ⟨p, ys, e, h.imp (fun z => ⟨sqL0 z.1, z.2⟩) fun z => ⟨sqT0 z.1, z.2⟩⟩)
noncomputable def rLstOf0 : List V → Hp → VK → Prop := fun xs H Q => ∃ p ys, xs = [.ref p] ∧ (SqL [] H p ys ∨ SqT [] H p ys) ∧ ∀ l, H l = none → Q (.ref l) (upd H l (.lst ys))
theorem xZ : yb X (.type "list") rLstOf0 := fun pins s σ H xs us Q I r h => call_list_of pins s σ H xs us Q I r (let ⟨p, ys, e, hp, q⟩ := h; ⟨p, ys, e, hp.imp sqL0 sqT0, q⟩)
theorem ln1 {us : List Value} (hl : us.length = 1) : ∃ a, us = [a] := by
 match us, hl with | [a], _ => exact ⟨a, rfl⟩
theorem ln2 {us : List Value} (hl : us.length = 2) : ∃ a b, us = [a, b] := by
 match us, hl with | [a, b], _ => exact ⟨a, b, rfl⟩
theorem ln3 {us : List Value} (hl : us.length = 3) : ∃ a b c, us = [a, b, c] := by
 match us, hl with | [a, b, c], _ => exact ⟨a, b, c, rfl⟩
theorem ln4 {us : List Value} (hl : us.length = 4) : ∃ a b c d, us = [a, b, c, d] := by
 match us, hl with | [a, b, c, d], _ => exact ⟨a, b, c, d, rfl⟩
theorem ln5 {us : List Value} (hl : us.length = 5) : ∃ a b c d e, us = [a, b, c, d, e] := by
 match us, hl with | [a, b, c, d, e], _ => exact ⟨a, b, c, d, e, rfl⟩
end
end L2
namespace K04
open PySem L2
local macro_rules | `(tactic| walk_at "v") => `(tactic| repeat (with_reducible first
  | refine YR ?_ | refine ZX ?_ | refine zJ ?_ | refine w_op ?_ | refine ve rfl ?_ | refine w_c ?_ | refine Xx ?_ | refine ZW ?_ | refine XE ?_ | refine Yt ?_ | refine w_tb ?_ | refine w_bl ?_ | refine w_not ?_ | refine Xw ?_ | refine w_retN ?_
  | refine Xz ?_ | refine Yx ?_ | refine XB ?_ | refine Xv ?_ | refine w_cb ?_ | refine Yy ?_ | refine wG ?_ | refine XJ ?_ | refine w_or ?_ | refine wF ?_ | refine ZY ?_ | refine Ys ?_ | refine Zp ?_ | refine Zo ?_ | refine Yv ?_ | refine Yu ?_ | refine w_forL ?_ | refine Yw ?_ | refine w_bm ?_ | refine iteT ?_ | refine iteF ?_))
noncomputable def top (i : Nat) : Stmt := PySem.Challenge.pw_dropsums_k04_pot_lines_spoilt.main.body.getD i (.Pass ⟨0, 0, 0, 0⟩)
noncomputable abbrev vM : Stmt := top 34
noncomputable abbrev vN : Stmt := top 35
noncomputable def FeedAt (H : Hp) (p : Addr) : Prop := ∃ a b c : Int, H p = some (.lst [.int a, .int b, .int c])
theorem FeedAt.here {H : Hp} {p : Addr} {x y z : Int} : FeedAt (upd H p (.lst [.int x, .int y, .int z])) p := ⟨x, y, z, zb⟩
noncomputable def YA (K : PySem.W.Frag) : Sp := fun vs H Q _ => ∃ (a : Addr) (ns : List Int) (k : Nat), vs = [.ref a, .int k] ∧ SqL K H a (ns.map V.int) ∧ ns.length ≤ 63 ∧ ∀ p x y z, H p = none → Q (.ref p) (upd H p (.lst [.int x, .int y, .int z]))
noncomputable def xl : Sp := fun vs H Q _ => ∃ (p : Addr) (m : Int), vs = [.ref p, .int m] ∧ FeedAt H p ∧ 0 < m ∧ m < 1000000 ∧ ∀ (r x y z : Int), 0 ≤ r → r < m → Q (.int r) (upd H p (.lst [.int x, .int y, .int z]))
theorem md {i j : Int} (h : 0 < j) : 0 ≤ i % j ∧ i % j < j := ⟨Int.emod_nonneg _ (Int.ne_of_gt h), Int.emod_lt_of_pos _ h⟩
theorem mulL {i j : Int} (h1 : 0 ≤ i) (h2 : i < 4000000000) : CMul i j := .inl ⟨by lia, by lia⟩
section
variable {P : Program} {w : World} {K : PySem.W.Frag} {mg : Str → Option Value} {base : Heap}
theorem scDraw : FnScope ["_law_feed_here", "_law_many", "_law_found", "_law_mixed"] ["_law_feed_here", "_law_many"] (zc vN) := ⟨rfl, rfl, rfl, by decide +kernel, rfl, by decide +kernel, by decide +kernel⟩
theorem ok_draw {f : Addr} {fd : FuncData} (F : Fun K "_law_draw" "_law_draw" vN f fd) : FnOk P w K mg base CX0 1 f fd ["_law_feed_here", "_law_many"] xl := by
 refine F.ok scDraw (fun vs H Q E h => ?_) (fun cdv A outer s H vs Q E hr h => ?_)
 ·obtain ⟨p, m, rfl, _⟩ := h
  rfl
 ·obtain ⟨p, m, rfl, ⟨a, b, c, hp⟩, hm, hm2, k⟩ := h
  refine ⟨_, za (ym (zo zA (zw ix_d (pv 0) zd (fun _ _ => rfl)) zd) (yy (pv 0) zd yZ))
   (za (zx (zj wV (zw ix_d (pv 0) zd (fun _ _ => rfl)) zd (zm _))
    (za (wd (i := 2) scDraw.nd rfl (Or.inl rfl) (zo xq (zw ix_d (pv 0) zd (fun _ _ => rfl)) (pv 1)))
    (za (ym (zo ZE (zw ix_d (pv 0) zd (fun _ _ => rfl)) (pv 1)) (yy (pv 0) zd yZ))
    (ze (zt (pv 2))))) zp)
   (za (wd (i := 3) scDraw.nd rfl (Or.inl rfl) (zo xq (zo xF (zo xq (zo zA (zw ix_d (pv 0) zd (fun _ _ => rfl)) (zo xF zd (zw ix_d (pv 0) zd (fun _ _ => rfl)))) zd) zd) zd))
   (za (wd (i := 3) scDraw.nd rfl (Or.inl rfl) (zo xq (zo xF (pv 3) (zo zA (pv 3) zd)) zd))
   (ze (zt (zo xq (zo ZE (zo xq (zo xF (pv 3) zd) zd) zd) (pv 1))))))), ?_⟩
  walk_at "v"
  refine zy hp rfl ?_
  walk_at "v"
  refine yW hp rfl ?_
  walk_at "v"
  refine zy zb rfl ?_
  walk_at "v"
  refine iteD (fun _ => ?_) (fun _ => ?_)
  ·walk_at "v"
   refine zy zb rfl ?_
   walk_at "v"
   refine w_rI hm ?_
   walk_at "v"
   refine zy zb rfl ?_
   walk_at "v"
   refine w_rI ⟨hm, by lia⟩ ?_
   walk_at "v"
   refine yW zb rfl ?_
   walk_at "v"
   rw [Zq]
   exact k _ _ _ _ (md hm).1 (md hm).2
  ·walk_at "v"
   refine zy zb rfl ?_
   walk_at "v"
   refine zy zb rfl ?_
   refine w_rI (mulL (by decide) (by decide)) ?_
   walk_at "v"
   refine w_rI (by decide) ?_
   walk_at "v"
   refine w_rI (mulL (md (by decide)).1 (by have := (md (i := b + 40692 * (c + 1)) (j := 2147483399) (by decide)).2; lia)) ?_
   walk_at "v"
   refine w_rI (by decide) ?_
   generalize hx : (b + 40692 * (c + 1)) % 2147483399 * 48271 % 2147483647 = x
   have h1 := md (i := (b + 40692 * (c + 1)) % 2147483399 * 48271) (j := 2147483647) (by decide)
   rw [hx] at h1
   walk_at "v"
   refine w_rI (mulL h1.1 (by lia)) ?_
   walk_at "v"
   refine w_rI (by decide) ?_
   generalize hy : x * (x + 7919) % 2147483587 = y
   have h2 := md (i := x * (x + 7919)) (j := 2147483587) (by decide)
   rw [hy] at h2
   walk_at "v"
   refine w_rI (mulL h2.1 (by lia)) ?_
   walk_at "v"
   refine w_rI (by decide) ?_
   walk_at "v"
   refine w_rI ⟨by decide, by decide⟩ ?_
   walk_at "v"
   refine w_rI hm ?_
   exact k _ _ _ _ (md hm).1 (md hm).2
theorem scFeed : FnScope ["_law_script", "_law_k", "_law_cell", "_law_left"] ["_law_script", "_law_k"] (zc vM) := ⟨rfl, rfl, rfl, by decide +kernel, rfl, by decide +kernel, by decide +kernel⟩
theorem ok_feed {f : Addr} {fd : FuncData} (hlen : mg "len" = none) (F : Fun K "_law_feed" "_law_feed" vM f fd) : FnOk P w K mg base CX0 1 f fd ["_law_script", "_law_k"] (YA K) := by
 refine F.ok scFeed (fun vs H Q E h => ?_) (fun cdv A outer s H vs Q E hr h => ?_)
 ·obtain ⟨a, ns, k, rfl, _⟩ := h
  rfl
 ·obtain ⟨a, ns, k, rfl, hS, hl, q⟩ := h
  refine ⟨_, za (wd (i := 2) scFeed.nd rfl (Or.inl rfl) (zo zA (zo xF zd (pv 1)) zd))
   (za (zx (zj wV (wx yK (by rfl) hlen PySem.boot_len (zq (pv 0) zz)) zd (zm _))
    (ze (wd (i := 2) scFeed.nd rfl (Or.inl rfl) (zo zA (zw ix_list (pv 0) (zo xq (pv 1) (wx yK (by rfl) hlen PySem.boot_len (zq (pv 0) zz))) (fun _ _ => rfl))
     (zo xF zd (zo ZE (pv 1) (wx yK (by rfl) hlen PySem.boot_len (zq (pv 0) zz)))))))
    zp)
   (za (wd (i := 3) scFeed.nd rfl (Or.inl rfl) (xD (zj X7 (pv 2) (zo op_pow zd zd) (zm _)) (pv 2) zd))
   (ze (zt (zM (zq (pv 3) (zq (zo zA (zo zA (zo xq (pv 2) zd) (zo xF zd (pv 1))) zd) (zq zd zz)))))))), ?_⟩
  walk_at "v"
  refine w_rI (mulL (by decide) (by decide)) ?_
  walk_at "v"
  refine ⟨a, _, rfl, .inl hS, ?_⟩
  walk_at "v"
  refine iteD (fun h0 => ?_) (fun _ => ?_)
  ·walk_at "v"
   refine ⟨a, _, rfl, .inl hS, ?_⟩
   rw [List.length_map] at h0 ⊢
   have h0' : 0 < ns.length := by lia
   refine w_rI h0 ?_
   obtain ⟨j, hj⟩ : ∃ j : Nat, (k : Int) % (ns.length : Int) = (j : Int) := ⟨k % ns.length, by lia⟩
   have hjl : j < ns.length := by
    have := (md (i := (k : Int)) h0).2
    lia
   refine ⟨a, _, _, .int ns[j], rfl, rfl, hS, ?_, ?_⟩
   ·rw [hj]
    exact zG (by simp [hjl])
   ·walk_at "v"
    refine ⟨a, _, rfl, .inl hS, ?_⟩
    rw [List.length_map]
    refine w_rI ⟨h0, by lia⟩ ?_
    refine w_rI (mulL (by decide) (by decide)) ?_
    walk_at "v"
    refine w_rI ⟨by decide, by decide, by decide⟩ ?_
    walk_at "v"
    refine iteD (fun _ => ?_) (fun _ => ?_)
    all_goals
     walk_at "v"
     refine w_rI (by decide) ?_
     walk_at "v"
     refine w_rI (mulL (by decide) (by decide)) ?_
     walk_at "v"
     exact ⟨sz3, fun p hp => q p _ _ _ hp⟩
  ·walk_at "v"
   refine w_rI ⟨by decide, by decide, by decide⟩ ?_
   walk_at "v"
   refine iteD (fun _ => ?_) (fun _ => ?_)
   all_goals
    walk_at "v"
    refine w_rI (by decide) ?_
    walk_at "v"
    refine w_rI (mulL (by decide) (by decide)) ?_
    walk_at "v"
    exact ⟨sz3, fun p hp => q p _ _ _ hp⟩
end
noncomputable abbrev xm : Stmt := top 36
noncomputable def names12 : List Str := ["a", "ab", "abc", "insort", "outer", "ruler", "tone", "begins", "sort", "b", "zzzzzzzz", "x"]
noncomputable def nmOf (st sp k : Nat) : Str := names12.getD ((st + sp * k) % 12) ""
noncomputable def But (p : Addr) (H H' : Hp) : Prop := ∀ q o, H q = some o → q ≠ p → H' q = some o
theorem But.refl {p : Addr} {H : Hp} : But p H H := fun _ _ h _ => h
theorem But.new {p a : Addr} {H H' : Hp} {o : HO} (b : But p H H') (h : H' a = none) : But p H (upd H' a o) := fun q u e hq => by
 have e' := b q u e hq
 rw [zg (zi e' h)]
 exact e'
theorem But.at {p : Addr} {H H' : Hp} {o : HO} (b : But p H H') : But p H (upd H' p o) := fun q u e hq => by
 rw [zg hq]
 exact b q u e hq
theorem But.put {p a : Addr} {H H' : Hp} {o : HO} (b : But p H H') (h : H a = none) : But p H (upd H' a o) := fun q u e hq => by
 rw [zg (zi e h)]
 exact b q u e hq
theorem But.trans {p : Addr} {H H1 H2 : Hp} (a : But p H H1) (b : But p H1 H2) : But p H H2 := fun q o e hq => b q o (a q o e hq) hq
theorem But.free {p a : Addr} {H H' : Hp} (b : But p H H') (hp : p ≠ a) (h : H' a = none) : H a = none := by
 cases e : H a with
 | none => rfl
 | some o => rw [b a o e (Ne.symm hp)] at h; cases h
theorem FeedAt.ne {H : Hp} {p a : Addr} (F : FeedAt H p) (h : H a = none) : p ≠ a := by
 obtain ⟨x, y, z, e⟩ := F
 exact zi e h
theorem FeedAt.new {H : Hp} {p a : Addr} {o : HO} (F : FeedAt H p) (h : p ≠ a) : FeedAt (upd H a o) p := by
 obtain ⟨x, y, z, e⟩ := F
 exact ⟨x, y, z, by rw [zg h]; exact e⟩
theorem Nat.ofI {r : Int} (h : 0 ≤ r) : ∃ n : Nat, r = (n : Int) := ⟨r.toNat, by lia⟩
noncomputable def WP (m : Nat) (nm : List Str) : Prop := nm.length = m ∧ nm.Nodup ∧ ∀ x ∈ nm, x ∈ names12
theorem ix_ok : ∀ st < 12, ∀ sp ∈ [1, 5, 7, 11], ∀ m < 13, ((List.range m).map fun k => (st + sp * k) % 12).Nodup := by decide +kernel
theorem names12_nd : names12.Nodup := by decide +kernel
theorem names_ok {st sp m : Nat} (h1 : st < 12) (h2 : sp ∈ [1, 5, 7, 11]) (h3 : m < 13) : ((List.range m).map (nmOf st sp)).Nodup := by
 have h := ix_ok st h1 sp h2 m h3
 have e : (List.range m).map (nmOf st sp) = ((List.range m).map fun k => (st + sp * k) % 12).map fun j => names12.getD j "" := by
  rw [List.map_map]
  rfl
 rw [e]
 refine List.Pairwise.map _ (R := fun a b => a ≠ b ∧ a < 12 ∧ b < 12) (fun a b ⟨hab, ha, hb⟩ hc => ?_) ?_
 ·have hl : names12.length = 12 := rfl
  simp only [List.getD_eq_getElem?_getD, List.getElem?_eq_getElem (show a < names12.length by lia), List.getElem?_eq_getElem (show b < names12.length by lia), Option.getD_some] at hc
  exact hab ((List.getElem_inj names12_nd).mp hc)
 ·refine List.Pairwise.imp_of_mem (R := fun a b => a ≠ b) (fun {a b} ha hb hab => ⟨hab, ?_, ?_⟩) h
  ·obtain ⟨k, _, rfl⟩ := List.mem_map.mp ha
   lia
  ·obtain ⟨k, _, rfl⟩ := List.mem_map.mp hb
   lia
theorem names_in {st sp m : Nat} : ∀ x ∈ (List.range m).map (nmOf st sp), x ∈ names12 := fun x hx => by
 obtain ⟨k, _, rfl⟩ := List.mem_map.mp hx
 show names12.getD ((st + sp * k) % 12) "" ∈ names12
 have hl : names12.length = 12 := rfl
 have hk : (st + sp * k) % 12 < names12.length := by lia
 rw [List.getD_eq_getElem?_getD, List.getElem?_eq_getElem hk]
 exact List.getElem_mem hk
noncomputable def Zs : Sp := fun vs H Q _ => ∃ (p : Addr) (m : Nat), vs = [.ref p, .int m] ∧ FeedAt H p ∧ 0 < m ∧ m ≤ 12 ∧ ∀ (l : Addr) (nm : List Str) (H' : Hp), H l = none → WP m nm → FeedAt H' p → But p H H' → H' l = some (.lst (nm.map V.str)) → Q (.ref l) H'
section
variable {P : Program} {w : World} {K : PySem.W.Frag} {mg : Str → Option Value} {base : Heap}
noncomputable abbrev Wb : List Str := ["_law_feed_here", "_law_many", "_law_some", "_law_start", "_law_step"]
theorem xN : Nm Wb (zc xm) := ⟨by decide +kernel, by decide +kernel⟩
theorem scNames : FnScope Wb ["_law_feed_here", "_law_many"] (zc xm) := ⟨rfl, rfl, rfl, by decide +kernel, rfl, by decide +kernel, by decide +kernel⟩
noncomputable def retComp (s : Stmt) : Scope := match s with
 | .Return (some (.ListComp _ _ sc _)) _ => sc
 | _ => { kind := .function, names := [], isGenerator := false, isCoroutine := false }
noncomputable abbrev cNames : Scope := retComp ((zk xm).getD 3 (.Pass ⟨0, 0, 0, 0⟩))
theorem bsNames : BScope (zc xm) cNames ["_law_k"] ["_law_some", "_law_start", "_law_step"] [] := { okind := by decide +kernel, kind := by decide +kernel, nocell := by decide +kernel, names := by decide +kernel, fr := by decide +kernel, ff := by decide +kernel, nd := by decide +kernel, vis := by decide +kernel, loc := by decide +kernel, gl := by decide +kernel }
set_option maxHeartbeats 200000 in
theorem ok_names {f : Addr} {fd : FuncData} (hrange : mg "range" = none) (D : Has P w K mg base 1 "_law_draw" ["_law_feed_here", "_law_many"] xl) (F : Fun K "_law_names" "_law_names" xm f fd) : FnOk P w K mg base CX0 2 f fd ["_law_feed_here", "_law_many"] Zs := by
 refine F.ok scNames (fun vs H Q E h => ?_) (fun cdv A outer s H vs Q E hr h => ?_)
 ·obtain ⟨p, m, rfl, _⟩ := h
  rfl
 ·obtain ⟨p, m, rfl, hF, h1, h8, k⟩ := h
  refine' ⟨_, ?hb, ?rd⟩
  case hb =>
   refine' za ?s1 ?r1
   case' r1 => refine' za ?s2 ?r2
   case' r2 => refine' za ?s3 ?r3
   case' r3 => refine' ze ?s4
   case s1 =>
    refine' zh xN 2 ?p1
    case p1 =>
     refine xo (vs := names12.map V.str) ?_
     decide +kernel
   case s2 =>
    refine' zh xN 3 ?p2
    case p2 => exact xE D hr (by decide) (zq (pvd xN 0) (zq zd zz))
   case s3 =>
    refine' zh xN 4 ?p3
    case p3 =>
     refine' zw ix_d ?a3 (xE D hr (by decide) (zq (pvd xN 0) (zq zd zz))) (fun _ _ => rfl)
     case a3 =>
      refine xo (vs := [.int 1, .int 5, .int 7, .int 11]) ?_
      decide +kernel
   case s4 =>
    refine' zt ?p4
    case p4 =>
     refine' yJ (ix := [2, 3, 4]) bsNames.toCScope rfl rfl ?h3 ?h4 ?h5 ?h6
     case h3 => exact yL rfl hrange (zq (pvd xN 1) zz)
     case h4 => exact fun _ _ _ _ _ _ => pgb bsNames 0
     case h5 => exact fun _ _ _ _ _ _ => yp
     case h6 => exact fun _ _ _ _ _ _ => zw ix_d (pvb bsNames 1) (zo xq (zo zA (pvb bsNames 2) (zo xF (pvb bsNames 3) (pvb bsNames 0))) zd) (fun _ _ => rfl)
  case rd =>
   walk_at "v"
   refine ⟨by show 12 ≤ sizeLine; decide, fun a1 ha1 => ?_⟩
   walk_at "v"
   refine ⟨p, 12, rfl, hF.new (hF.ne ha1), by decide, by decide, fun r x y z r0 r1 => ?_⟩
   walk_at "v"
   refine ⟨sz4, fun a2 ha2 => ?_⟩
   walk_at "v"
   have np1 : p ≠ a1 := hF.ne ha1
   have np2 : p ≠ a2 := by
    intro e
    rw [← e, zb] at ha2
    cases ha2
   refine ⟨p, 4, rfl, FeedAt.here.new np2, by decide, by decide, fun r' x' y' z' r0' r1' => ?_⟩
   obtain ⟨st, rfl⟩ := Nat.ofI r0
   obtain ⟨j, rfl⟩ := Nat.ofI r0'
   obtain ⟨sp, hsp, hat⟩ : ∃ sp : Nat, sp ∈ [1, 5, 7, 11] ∧ atI ([.int 1, .int 5, .int 7, .int 11] : List V) (j : Int) = some (.int sp) := by
    have : j = 0 ∨ j = 1 ∨ j = 2 ∨ j = 3 := by lia
    rcases this with rfl | rfl | rfl | rfl
    ·exact ⟨1, by decide, rfl⟩
    ·exact ⟨5, by decide, rfl⟩
    ·exact ⟨7, by decide, rfl⟩
    ·exact ⟨11, by decide, rfl⟩
   refine zy (by rw [zg (Ne.symm np2), zb]) hat ?_
   walk_at "v"
   refine ⟨m, rfl, by lia, by lia, fun l hl => ?_⟩
   generalize hH3 : upd (upd (upd (upd H a1 (HO.lst (List.map V.str names12))) p (HO.lst [V.int x, V.int y, V.int z])) a2 (HO.lst [V.int 1, V.int 5, V.int 7, V.int 11])) p (HO.lst [V.int x', V.int y', V.int z']) = H3 at hl ⊢
   have hlp : l ≠ p := by
    intro e
    rw [e, ← hH3, zb] at hl
    cases hl
   have ha12 : a1 ≠ a2 := by
    intro e
    rw [← e, zg (Ne.symm np1), zb] at ha2
    cases ha2
   have hl1 : l ≠ a1 := by
    intro e
    rw [e, ← hH3, zg (Ne.symm np1), zg ha12, zg (Ne.symm np1), zb] at hl
    cases hl
   have hl2 : l ≠ a2 := by
    intro e
    rw [e, ← hH3, zg (Ne.symm np2), zb] at hl
    cases hl
   have h3s : H3 a1 = some (.lst (names12.map V.str)) := by
    rw [← hH3, zg (Ne.symm np1), zg ha12, zg (Ne.symm np1), zb]
   refine xj (ρ := [some (.ref a1), some (.int st), some (.int sp)]) (fun i ys H' => ys = ((List.range i).map (nmOf st sp)).map V.str ∧ H' = upd H3 l (.lst ys)) ⟨rfl, rfl⟩ ?_ ?_
   ·rintro i ys H' hi ⟨rfl, rfl⟩ hD R S kR _
    walk_at "v"
    refine w_rI (mulL (by lia) (by simp only [List.mem_cons, List.not_mem_nil, or_false] at hsp; lia)) ?_
    walk_at "v"
    refine w_rI (by decide) ?_
    have e1 : ((st : Int) + (sp : Int) * (0 + (i : Int))) % 12 = (((st + sp * i) % 12 : Nat) : Int) := by
     rw [Int.zero_add]
     norm_cast
    rw [e1]
    refine zy (v := .str (nmOf st sp i)) (by rw [zg (Ne.symm hl1)]; exact h3s) (zG ?_) ?_
    ·rw [List.getElem?_map]
     unfold nmOf
     have hlt : (st + sp * i) % 12 < names12.length := Nat.mod_lt _ (by decide)
     rw [List.getD_eq_getElem?_getD, List.getElem?_eq_getElem hlt]
     rfl
    ·refine kR _ _ hD (by simp only [List.length_map, List.length_range]; exact zB (by lia)) ⟨?_, Zq⟩
     rw [List.range_succ, List.map_append, List.map_append]
     rfl
   ·rintro ys H' ⟨rfl, rfl⟩ hD
    refine k l ((List.range m).map (nmOf st sp)) _ ?_ ⟨by simp, names_ok (by lia) hsp (by lia), names_in⟩ ?_ ?_ zb
    ·cases e : H l with
     | none => rfl
     | some o =>
      rw [← hH3, zg hlp, zg hl2, zg hlp, zg hl1, e] at hl
      cases hl
    ·rw [← hH3]
     exact FeedAt.here.new (Ne.symm hlp)
    ·intro q o e hq
     have hq1 : q ≠ a1 := zi e ha1
     have hq2 : q ≠ a2 := by
      intro z
      rw [← z, zg hq, zg hq1, e] at ha2
      cases ha2
     have hql : q ≠ l := by
      intro z
      rw [← z, ← hH3, zg hq, zg hq2, zg hq, zg hq1, e] at hl
      cases hl
     rw [zg hql, ← hH3, zg hq, zg hq2, zg hq, zg hq1]
     exact e
end
noncomputable abbrev xw : Stmt := top 37
noncomputable abbrev WI : List Str := ["_law_feed_here", "_law_many", "_law_takes", "_law_gives", "_law_j", "_law_sort", "_law_way"]
theorem nmRule : Nm WI (zc xw) := ⟨by decide +kernel, by decide +kernel⟩
theorem scRule : FnScope WI ["_law_feed_here", "_law_many"] (zc xw) := ⟨rfl, rfl, rfl, by decide +kernel, rfl, by decide +kernel, by decide +kernel⟩
noncomputable def asgComp (s : Stmt) : Scope := match s with
 | .Assign _ (.ListComp _ _ sc _) _ => sc
 | _ => { kind := .function, names := [], isGenerator := false, isCoroutine := false }
noncomputable abbrev WO (i : Nat) : Scope := asgComp ((zk xw).getD i (.Pass ⟨0, 0, 0, 0⟩))
theorem bsRule0 : BScope (zc xw) (WO 0) ["_law_sort"] [] [] := { okind := by decide +kernel, kind := by decide +kernel, nocell := by decide +kernel, names := by decide +kernel, fr := by decide +kernel, ff := by decide +kernel, nd := by decide +kernel, vis := by decide +kernel, loc := by decide +kernel, gl := by decide +kernel }
theorem bsRule1 : BScope (zc xw) (WO 1) ["_law_sort"] [] [] := { okind := by decide +kernel, kind := by decide +kernel, nocell := by decide +kernel, names := by decide +kernel, fr := by decide +kernel, ff := by decide +kernel, nd := by decide +kernel, vis := by decide +kernel, loc := by decide +kernel, gl := by decide +kernel }
theorem locRule : (zc xw).names.lookup ("_law_takes" : Str) = some .local ∧ (zc xw).names.lookup ("_law_gives" : Str) = some .local := by decide +kernel
noncomputable def Ns (lo hi : Int) (m : Nat) (ns : List Int) : Prop := ns.length = m ∧ ∀ n ∈ ns, lo ≤ n ∧ n ≤ hi
structure RuOk (m : Nat) (ts gs : List Int) : Prop where
 a : Ns 0 9 m ts
 b : Ns 0 9 m gs
 pos : ∃ x ∈ ts, 0 < x
 ne : ts ≠ gs
noncomputable def RuleAt (m : Nat) (H : Hp) (r : Addr) : Prop := ∃ (a b : Addr) (ts gs : List Int), H r = some (.tup [.ref a, .ref b]) ∧ H a = some (.tup (ts.map V.int)) ∧ H b = some (.tup (gs.map V.int)) ∧ RuOk m ts gs
noncomputable def Yz : Sp := fun vs H Q _ => ∃ (p : Addr) (m : Nat), vs = [.ref p, .int m] ∧ FeedAt H p ∧ 0 < m ∧ m ≤ 8 ∧ ∀ (r : Addr) (H' : Hp), H r = none → RuleAt m H' r → FeedAt H' p → But p H H' → Q (.ref r) H'
theorem YO {m : Nat} {H : Hp} {Q : VK} (hm : m ≤ 1000) (h : ∀ l, H l = none → Q (.ref l) (upd H l (.lst ((List.replicate m (0 : Int)).map V.int)))) :
  ∃ j : Int, [V.int (m : Int)] = [.int j] ∧ -(2 ^ 62) ≤ j ∧ j < 2 ^ 62 ∧ ∀ D, H D = none → CGo (Itr 0 j.toNat) D (yU 0) tAll (tC (V.int 0)) Q [none] H := by
 refine ⟨m, rfl, by lia, by lia, fun l hl => ?_⟩
 refine xj (ρ := []) (fun i ys H' => ys = (List.replicate i (0 : Int)).map V.int ∧ H' = upd H l (.lst ys)) ⟨rfl, rfl⟩ ?_ ?_
 ·rintro i ys H' hi ⟨rfl, rfl⟩ hD R S kR _
  walk_at "v"
  have hi' : i < m := by
   rw [Int.toNat_natCast] at hi
   exact hi
  refine kR _ _ hD (by rw [List.length_map, List.length_replicate]; exact zB (by lia)) ⟨?_, Zq⟩
  rw [List.replicate_succ', List.map_append]
  rfl
 ·rintro ys H' ⟨rfl, rfl⟩ hD
  rw [Int.toNat_natCast]
  exact h l hl
structure RS (p a b : Addr) (H0 H : Hp) (ts gs : List Int) : Prop where
 fd : FeedAt H p
 ea : H a = some (.lst (ts.map V.int))
 eb : H b = some (.lst (gs.map V.int))
 pa : p ≠ a
 pb : p ≠ b
 ab : a ≠ b
 bt : But p H0 H
 na : H0 a = none
 nb : H0 b = none
section
variable {p a b : Addr} {H0 H : Hp} {ts gs : List Int}
theorem RS.draw (r : RS p a b H0 H ts gs) {x y z : Int} : RS p a b H0 (upd H p (.lst [.int x, .int y, .int z])) ts gs :=
 ⟨FeedAt.here, by rw [zg (Ne.symm r.pa)]; exact r.ea, by rw [zg (Ne.symm r.pb)]; exact r.eb, r.pa, r.pb, r.ab, r.bt.at, r.na, r.nb⟩
theorem RS.new (r : RS p a b H0 H ts gs) {l : Addr} {o : HO} (h : H l = none) : RS p a b H0 (upd H l o) ts gs :=
 ⟨r.fd.new (r.fd.ne h), by rw [zg (zi r.ea h)]; exact r.ea, by rw [zg (zi r.eb h)]; exact r.eb, r.pa, r.pb, r.ab, r.bt.new h, r.na, r.nb⟩
theorem RS.setA (r : RS p a b H0 H ts gs) {j : Nat} {v : Int} : RS p a b H0 (upd H a (.lst ((ts.map V.int).set j (.int v)))) (ts.set j v) gs :=
 ⟨r.fd.new r.pa, by rw [zb, List.map_set], by rw [zg (Ne.symm r.ab)]; exact r.eb, r.pa, r.pb, r.ab, r.bt.put r.na, r.na, r.nb⟩
theorem RS.setB (r : RS p a b H0 H ts gs) {j : Nat} {v : Int} : RS p a b H0 (upd H b (.lst ((gs.map V.int).set j (.int v)))) ts (gs.set j v) :=
 ⟨r.fd.new r.pb, by rw [zg r.ab]; exact r.ea, by rw [zb, List.map_set], r.pa, r.pb, r.ab, r.bt.put r.nb, r.na, r.nb⟩
theorem Ns.set {lo hi : Int} {m j : Nat} {ns : List Int} {v : Int} (h : Ns lo hi m ns) (hv : lo ≤ v ∧ v ≤ hi) : Ns lo hi m (ns.set j v) := ⟨by rw [List.length_set]; exact h.1, fun n hn => by
 rcases List.mem_or_eq_of_mem_set hn with z | z
 ·exact h.2 n z
 ·rw [z]; exact hv⟩
theorem Ns.up {lo hi hi' : Int} {m : Nat} {ns : List Int} (h : Ns lo hi m ns) (hh : hi ≤ hi') : Ns lo hi' m ns := ⟨h.1, fun n hn => ⟨(h.2 n hn).1, Int.le_trans (h.2 n hn).2 hh⟩⟩
theorem place {ns : List Int} {m : Nat} {r : Int} (hl : ns.length = m) (h0 : 0 ≤ r) (h1 : r < m) : ∃ (j : Nat) (hj : j < ns.length), r = (j : Int) ∧ atI (ns.map V.int) r = some (.int ns[j]) ∧ ixN (ns.map V.int).length r = some j := by
 obtain ⟨j, rfl⟩ := Nat.ofI h0
 have hj : j < ns.length := by lia
 refine ⟨j, hj, rfl, zG (by simp [hj]), ?_⟩
 rw [List.length_map]
 unfold ixN
 rw [if_pos h0, if_pos (by lia)]
 rfl
theorem Y9 {ns : List Int} {j : Nat} {v : Int} (hj : j < ns.length) (hv : 0 < v) : ∃ x ∈ ns.set j v, 0 < x := ⟨v, List.mem_iff_getElem.mpr ⟨j, by rw [List.length_set]; exact hj, by simp⟩, hv⟩
theorem ne_at {xs ys : List Int} {j : Nat} (h1 : j < xs.length) (h2 : j < ys.length) (h : xs[j] ≠ ys[j]) : xs ≠ ys := fun e => h (by subst e; rfl)
end
section
variable {P : Program} {w : World} {K : PySem.W.Frag} {mg : Str → Option Value} {base : Heap}
structure Blt (mg : Str → Option Value) : Prop where
 len : mg "len" = none
 range : mg "range" = none
 tuple : mg "tuple" = none
 int : mg "int" = none
noncomputable abbrev ivP4c1 (H : Hp) (p : Addr) (m : Nat) (a : Addr) (b : Addr) : Nat → St → Hp → Prop := fun i σ H' => ∃ u v ts, σ = [some (.ref p), some (.int m), some (.ref a), some (.ref b), u, v, none] ∧ RS p a b H H' ts (List.replicate m 0) ∧ Ns 0 (2 * (i : Int)) m ts ∧ (0 < i → ∃ x ∈ ts, 0 < x)
noncomputable abbrev ivP4c2 (H : Hp) (p : Addr) (m : Nat) (a : Addr) (b : Addr) (ts : List Int) : Nat → St → Hp → Prop := fun i σ H' => ∃ u v gs, σ = [some (.ref p), some (.int m), some (.ref a), some (.ref b), u, v, none] ∧ RS p a b H H' ts gs ∧ Ns 0 (3 * (i : Int)) m gs
theorem ok_rule {f : Addr} {fd : FuncData} (B : Blt mg) (D : Has P w K mg base 1 "_law_draw" ["_law_feed_here", "_law_many"] xl) (F : Fun K "_law_rule" "_law_rule" xw f fd) : FnOk P w K mg base CX0 2 f fd ["_law_feed_here", "_law_many"] Yz := by
 refine F.ok scRule (fun vs H Q E h => ?_) (fun cdv A outer s H vs Q E hr h => ?_)
 ·obtain ⟨p, m, rfl, _⟩ := h
  rfl
 ·obtain ⟨p, m, rfl, hF, h1, h8, k⟩ := h
  refine' ⟨_, ?hb, ?rd⟩
  case hb =>
   refine' za ?s1 ?r1
   case' r1 => refine' za ?s2 ?r2
   case' r2 => refine' za ?s3 ?r3
   case' r3 => refine' za ?s4 ?r4
   case' r4 => refine' za ?s5 ?r5
   case' r5 => refine' za ?s6 ?r6
   case' r6 => refine' za ?s7 ?r7
   case' r7 => refine' za ?s8 ?r8
   case' r8 => refine' za ?s9 ?r9
   case' r9 => refine' ze ?s10
   case s1 =>
    refine' Zy (i := 2) (ix := []) nmRule.nd rfl locRule.1 bsRule0.toCScope rfl rfl ?h3 ?h4 ?h5 ?h6
    case h3 => exact yL rfl B.range (zq (pvd nmRule 1) zz)
    case h4 => exact fun _ _ _ _ _ _ => pgb bsRule0 0
    case h5 => exact fun _ _ _ _ _ _ => yp
    case h6 => exact fun _ _ _ _ _ _ => zd
   case s2 =>
    refine' Zy (i := 3) (ix := []) nmRule.nd rfl locRule.2 bsRule1.toCScope rfl rfl ?h3 ?h4 ?h5 ?h6
    case h3 => exact yL rfl B.range (zq (pvd nmRule 1) zz)
    case h4 => exact fun _ _ _ _ _ _ => pgb bsRule1 0
    case h5 => exact fun _ _ _ _ _ _ => yp
    case h6 => exact fun _ _ _ _ _ _ => zd
   case s3 =>
    refine' yr PassesOwn.never rfl (yL rfl B.range (zq (zo zA zd (xE D hr (by decide) (zq (pvd nmRule 0) (zq zd zz)))) zz)) (pgd nmRule 4) ?b3
    case b3 =>
     refine' za ?t1 ?u1
     case t1 => exact zh nmRule 5 (xE D hr (by decide) (zq (pvd nmRule 0) (zq (pvd nmRule 1) zz)))
     case u1 =>
      refine' ze ?t2
      case t2 => exact ym (zo zA (zo zA (zw ix_d (pvd nmRule 2) (pvd nmRule 5) (fun _ _ => rfl)) zd) (xE D hr (by decide) (zq (pvd nmRule 0) (zq zd zz)))) (yy (pvd nmRule 2) (pvd nmRule 5) yZ)
   case s4 =>
    refine' yr PassesOwn.never rfl (yL rfl B.range (zq (xE D hr (by decide) (zq (pvd nmRule 0) (zq zd zz))) zz)) (pgd nmRule 4) ?b4
    case b4 =>
     refine' za ?t1 ?u1
     case t1 => exact zh nmRule 5 (xE D hr (by decide) (zq (pvd nmRule 0) (zq (pvd nmRule 1) zz)))
     case u1 =>
      refine' ze ?t2
      case t2 => exact ym (zo zA (zo zA (zw ix_d (pvd nmRule 3) (pvd nmRule 5) (fun _ _ => rfl)) zd) (xE D hr (by decide) (zq (pvd nmRule 0) (zq zd zz)))) (yy (pvd nmRule 3) (pvd nmRule 5) yZ)
   case s5 => exact zh nmRule 6 (xE D hr (by decide) (zq (pvd nmRule 0) (zq zd zz)))
   case s6 => exact zh nmRule 5 (xE D hr (by decide) (zq (pvd nmRule 0) (zq (pvd nmRule 1) zz)))
   case s7 => exact zx (zj wy (pvd nmRule 6) zd (zm _)) (ze (ym (zw ix_d (pvd nmRule 2) (pvd nmRule 5) (fun _ _ => rfl)) (yy (pvd nmRule 3) (pvd nmRule 5) yZ))) zp
   case s8 => exact zx (zj zR (pvd nmRule 6) zd (zm _)) (ze (ym zd (yy (pvd nmRule 2) (pvd nmRule 5) yZ))) zp
   case s9 => exact zx (zj (ZF hr) (pvd nmRule 2) (pvd nmRule 3) (zm _)) (ze (ym (zw ix_d (zM (zq (zo zA (zw ix_d (pvd nmRule 3) (pvd nmRule 5) (fun _ _ => rfl)) zd) (zq zd zz)))
     (xM Zf rfl B.int PyProof.Rows.boot_int (zq (yj zR (zw ix_d (pvd nmRule 2) (pvd nmRule 5) (fun _ _ => rfl)) zd (zm _)) zz)) (fun _ _ => rfl)) (yy (pvd nmRule 3) (pvd nmRule 5) yZ))) zp
   case s10 => exact zt (yt (zq (xM zV rfl B.tuple PyProof.Rows.boot_tuple (zq (pvd nmRule 2) zz)) (zq (xM zV rfl B.tuple PyProof.Rows.boot_tuple (zq (pvd nmRule 3) zz)) zz)))
  case rd =>
   have hm : ((m : Nat) : Int) < 1000000 := by lia
   have hm0 : (0 : Int) < (m : Int) := by lia
   walk_at "v"
   refine YO (m := m) (by lia) fun a ha => ?_
   walk_at "v"
   refine YO (m := m) (by lia) fun b hb => ?_
   have hpa : p ≠ a := hF.ne ha
   have hpb : p ≠ b := (hF.new hpa).ne hb
   have hab : a ≠ b := zi zb hb
   have R0 : RS p a b H (upd (upd H a (.lst ((List.replicate m (0 : Int)).map V.int))) b (.lst ((List.replicate m (0 : Int)).map V.int))) (List.replicate m 0) (List.replicate m 0) :=
    ⟨(hF.new hpa).new hpb, by rw [zg hab, zb], zb, hpa, hpb, hab, (But.refl.new ha).new hb, ha, by rw [zg (Ne.symm hab)] at hb; exact hb⟩
   have z0 : Ns 0 0 m (List.replicate m 0) := ⟨List.length_replicate, fun n h => by rw [List.eq_of_mem_replicate h]; exact ⟨by decide, by decide⟩⟩
   generalize upd (upd H a (.lst ((List.replicate m (0 : Int)).map V.int))) b (.lst ((List.replicate m (0 : Int)).map V.int)) = H1 at R0 ⊢
   walk_at "v"
   refine ⟨p, 3, rfl, R0.fd, by decide, by decide, fun r x y z r0 r1 => ?_⟩
   have R1 := R0.draw (x := x) (y := y) (z := z)
   generalize upd H1 p (.lst [.int x, .int y, .int z]) = H2 at R1 ⊢
   walk_at "v"
   refine ⟨_, rfl, by lia, by lia, ?_⟩
   refine zP (ivP4c1 H p m a b) ⟨none, none, _, rfl, R1, z0.up (by lia), fun h => absurd h (by lia)⟩ ?_ ?_
   ·rintro i σ H' hi ⟨u, v, ts, rfl, R, hN, hP⟩
    walk_at "v"
    refine ⟨p, m, rfl, R.fd, hm0, hm, fun r x y z r0 r1 => ?_⟩
    have R' := R.draw (x := x) (y := y) (z := z)
    generalize upd H' p (.lst [.int x, .int y, .int z]) = H2 at R' ⊢
    walk_at "v"
    obtain ⟨j, hj, _, ea, ei⟩ := place hN.1 r0 r1
    have hb := hN.2 _ (List.getElem_mem hj)
    refine zy R'.ea ea ?_
    walk_at "v"
    refine ⟨p, 2, rfl, R'.fd, by decide, by decide, fun r2 x2 y2 z2 r20 r21 => ?_⟩
    have R2 := R'.draw (x := x2) (y := y2) (z := z2)
    generalize upd H2 p (.lst [.int x2, .int y2, .int z2]) = H3 at R2 ⊢
    walk_at "v"
    refine yW R2.ea ei ?_
    exact ⟨_, _, _, rfl, R2.setA, (hN.up (hi' := 2 * ((i + 1 : Nat) : Int)) (by lia)).set ⟨by lia, by lia⟩, fun _ => Y9 hj (by lia)⟩
   ·rintro σ H' ⟨u, v, ts, rfl, R, hN, hP⟩
    clear R0 R1
    have hP' := hP (by lia)
    replace hN := hN.up (hi' := 6) (by lia)
    clear hP
    walk_at "v"
    refine ⟨p, 4, rfl, R.fd, by decide, by decide, fun r x y z r0 r1 => ?_⟩
    have R1 := R.draw (x := x) (y := y) (z := z)
    generalize upd H' p (.lst [.int x, .int y, .int z]) = H2 at R1 ⊢
    walk_at "v"
    refine ⟨_, rfl, by lia, by lia, ?_⟩
    refine zP (ivP4c2 H p m a b ts) ⟨u, v, _, rfl, R1, z0.up (by lia)⟩ ?_ ?_
    ·rintro i σ H' hi ⟨u, v, gs, rfl, R, hG⟩
     walk_at "v"
     refine ⟨p, m, rfl, R.fd, hm0, hm, fun r x y z r0 r1 => ?_⟩
     have R' := R.draw (x := x) (y := y) (z := z)
     generalize upd H' p (.lst [.int x, .int y, .int z]) = H2 at R' ⊢
     walk_at "v"
     obtain ⟨j, hj, _, ea, ei⟩ := place hG.1 r0 r1
     have hb := hG.2 _ (List.getElem_mem hj)
     refine zy R'.eb ea ?_
     walk_at "v"
     refine ⟨p, 3, rfl, R'.fd, by decide, by decide, fun r2 x2 y2 z2 r20 r21 => ?_⟩
     have R2 := R'.draw (x := x2) (y := y2) (z := z2)
     generalize upd H2 p (.lst [.int x2, .int y2, .int z2]) = H3 at R2 ⊢
     walk_at "v"
     refine yW R2.eb ei ?_
     exact ⟨_, _, _, rfl, R2.setB, (hG.up (hi' := 3 * ((i + 1 : Nat) : Int)) (by lia)).set ⟨by lia, by lia⟩⟩
    ·rintro σ H' ⟨u, v, gs, rfl, R, hG⟩
     clear R1
     replace hG := hG.up (hi' := 9) (by lia)
     replace hN := hN.up (hi' := 9) (by lia)
     walk_at "v"
     refine ⟨p, 8, rfl, R.fd, by decide, by decide, fun way x y z w0 w1 => ?_⟩
     have R1 := R.draw (x := x) (y := y) (z := z)
     generalize upd H' p (.lst [.int x, .int y, .int z]) = H2 at R1 ⊢
     walk_at "v"
     refine ⟨p, m, rfl, R1.fd, hm0, hm, fun r x y z r0 r1 => ?_⟩
     have R2 := R1.draw (x := x) (y := y) (z := z)
     generalize upd H2 p (.lst [.int x, .int y, .int z]) = H3 at R2 ⊢
     refine zJ ?_
     with_reducible refine yc (fun σ' H4 => ∃ gs, σ' = [some (.ref p), some (.int m), some (.ref a), some (.ref b), u, some (.int r), some (.int way)] ∧ RS p a b H H4 ts gs ∧ Ns 0 9 m gs) ?_ fun rest => ?_
     rotate_left
     ·walk_at "v"
      refine iteD (fun _ => ?_) (fun _ => ?_)
      ·walk_at "v"
       obtain ⟨j, hj, _, ea, ei⟩ := place hN.1 r0 r1
       refine zy R2.ea ea ?_
       walk_at "v"
       obtain ⟨j', hj', _, ea', ei'⟩ := place hG.1 r0 r1
       refine yW R2.eb ei' ?_
       exact rest _ _ ⟨_, rfl, R2.setB, hG.set (hN.2 _ (List.getElem_mem hj))⟩
      ·exact rest _ _ ⟨_, rfl, R2, hG⟩
     rintro σ' H4 ⟨gs, rfl, R3, hG⟩
     with_reducible refine yc (fun σ' H5 => ∃ ts, σ' = [some (.ref p), some (.int m), some (.ref a), some (.ref b), u, some (.int r), some (.int way)] ∧ RS p a b H H5 ts gs ∧ Ns 0 9 m ts ∧ ∃ x ∈ ts, 0 < x) ?_ fun rest => ?_
     rotate_left
     ·walk_at "v"
      refine ⟨rfl, ?_⟩
      walk_at "v"
      refine iteD (fun _ => ?_) (fun _ => ?_)
      ·walk_at "v"
       obtain ⟨j, hj, _, ea, ei⟩ := place hN.1 r0 r1
       refine yW R3.ea ei ?_
       exact rest _ _ ⟨_, rfl, R3.setA, hN.set ⟨by decide, by decide⟩, Y9 hj (by decide)⟩
      ·exact rest _ _ ⟨_, rfl, R3, hN, hP'⟩
     rintro σ' H5 ⟨ts, rfl, R4, hN, hP⟩
     with_reducible refine yc (fun σ' H7 => ∃ gs, σ' = [some (.ref p), some (.int m), some (.ref a), some (.ref b), u, some (.int r), some (.int way)] ∧ RS p a b H H7 ts gs ∧ RuOk m ts gs) ?_ fun rest => ?_
     rotate_left
     ·walk_at "v"
      refine XF R4.ea R4.eb ?_
      walk_at "v"
      refine iteD (fun heq => ?_) (fun hne => ?_)
      rotate_left
      ·exact rest _ _ ⟨_, rfl, R4, hN, hG, hP, hne⟩
      walk_at "v"
      obtain ⟨j, hj, ej, ea, ei⟩ := place hG.1 r0 r1
      refine zy R4.eb ea ?_
      walk_at "v"
      refine ⟨sz2, fun c hc => ?_⟩
      have R5 := R4.new (o := .lst [.int (gs[j] + 1), .int 0]) hc
      have hcc : upd H5 c (.lst [.int (gs[j] + 1), .int 0]) c = some (.lst [.int (gs[j] + 1), .int 0]) := zb
      generalize upd H5 c (.lst [.int (gs[j] + 1), .int 0]) = H6 at R5 hcc ⊢
      walk_at "v"
      obtain ⟨j2, hj2, ej2, ea2, ei2⟩ := place hN.1 r0 r1
      refine zy R5.ea ea2 ?_
      have hjj : j2 = j := by lia
      subst hjj
      walk_at "v"
      refine ⟨rfl, ?_⟩
      walk_at "v"
      refine .inr ⟨_, rfl, ?_⟩
      have hb := hG.2 _ (List.getElem_mem hj)
      have hsame : ts[j2] = gs[j2] := by simp only [heq]
      obtain ⟨q, hq0, hqn, hq⟩ : ∃ q : Int, (0 ≤ q ∧ q ≤ 9) ∧ q ≠ ts[j2] ∧ atI ([.int (gs[j2] + 1), .int 0] : List V) (if decide (V.int ts[j2] = V.int 9) = true then 1 else 0) = some (.int q) := by
       by_cases h9 : decide (V.int ts[j2] = V.int 9) = true
       ·have := V.int.inj (of_decide_eq_true h9)
        rw [if_pos h9]
        exact ⟨0, ⟨by decide, by decide⟩, by lia, rfl⟩
       ·have h9' : ts[j2] ≠ 9 := fun z => h9 (by rw [z]; exact decide_eq_true rfl)
        rw [if_neg h9]
        exact ⟨gs[j2] + 1, ⟨by lia, by lia⟩, by lia, rfl⟩
      refine zy hcc hq ?_
      walk_at "v"
      refine yW R5.eb ei ?_
      refine rest _ _ ⟨_, rfl, R5.setB, hN, hG.set hq0, hP, ne_at hj2 (by rw [List.length_set]; exact hj) ?_⟩
      rw [List.getElem_set_self]
      exact Ne.symm hqn
     rintro σ' H7 ⟨gs, rfl, R6, hR⟩
     walk_at "v"
     refine ⟨a, _, rfl, .inl ⟨SqL.of R6.ea, fun ta hta => ?_⟩⟩
     walk_at "v"
     have nb : b ≠ ta := zi R6.eb hta
     refine ⟨b, _, rfl, .inl ⟨SqL.of (by rw [zg nb]; exact R6.eb), fun tb htb => ?_⟩⟩
     walk_at "v"
     refine ⟨sz2, fun rr hrr => ?_⟩
     have nt : ta ≠ tb := by
      intro z
      rw [← z, zb] at htb
      cases htb
     have nrb : tb ≠ rr := by
      intro z
      rw [← z, zb] at hrr
      cases hrr
     have nra : ta ≠ rr := by
      intro z
      rw [← z, zg nt, zb] at hrr
      cases hrr
     have R7 := (R6.new (o := .tup (ts.map V.int)) hta).new (o := .tup (gs.map V.int)) htb
     have R8 := R7.new (o := .tup [.ref ta, .ref tb]) hrr
     refine k rr _ ?_ ⟨ta, tb, ts, gs, zb, ?_, ?_, hR⟩ R8.fd R8.bt
     ·cases e : H rr with
      | none => rfl
      | some o =>
       have hrp : rr ≠ p := by
        intro z
        exact R7.fd.ne hrr z.symm
       rw [R7.bt rr o e hrp] at hrr
       cases hrr
     ·rw [zg nra, zg nt, zb]
     ·rw [zg nrb, zb]
end
noncomputable abbrev sPot : Stmt := top 38
noncomputable abbrev nPot : List Str := ["_law_feed_here", "_law_many", "_law_sorts", "_law_rules", "_law_left", "_law_inputs", "_law_k", "_law_begin"]
theorem zY : Nm nPot (zc sPot) := ⟨by decide +kernel, by decide +kernel⟩
theorem scPot : FnScope nPot ["_law_feed_here"] (zc sPot) := ⟨rfl, rfl, rfl, by decide +kernel, rfl, by decide +kernel, by decide +kernel⟩
noncomputable def callComp (s : Stmt) : Scope := match s with
 | .Assign _ (.Call _ [.ListComp _ _ sc _] _ _) _ => sc
 | _ => { kind := .function, names := [], isGenerator := false, isCoroutine := false }
noncomputable abbrev cPot (i : Nat) : Scope := callComp ((zk sPot).getD i (.Pass ⟨0, 0, 0, 0⟩))
theorem bsPot2 : BScope (zc sPot) (cPot 2) ["_law_k"] ["_law_feed_here", "_law_many"] ["_law_rule"] := { okind := by decide +kernel, kind := by decide +kernel, nocell := by decide +kernel, names := by decide +kernel, fr := by decide +kernel, ff := by decide +kernel, nd := by decide +kernel, vis := by decide +kernel, loc := by decide +kernel, gl := by decide +kernel }
theorem bsPot6 : BScope (zc sPot) (cPot 6) ["_law_sort"] ["_law_feed_here"] ["_law_draw"] := { okind := by decide +kernel, kind := by decide +kernel, nocell := by decide +kernel, names := by decide +kernel, fr := by decide +kernel, ff := by decide +kernel, nd := by decide +kernel, vis := by decide +kernel, loc := by decide +kernel, gl := by decide +kernel }
structure TK (H H' : Hp) : Prop where
 t : ∀ q xs, H q = some (.tup xs) → H' q = some (.tup xs)
 f : ∀ q o u, H q = some (.frz o u) → H' q = some (.frz o u)
structure SS (p : Addr) (H0 H : Hp) : Prop where
 fd : FeedAt H p
 bt : But p H0 H
section
variable {p l : Addr} {H0 H H' H'' : Hp} {o : HO}
theorem TK.trans (a : TK H H') (b : TK H' H'') : TK H H'' := ⟨fun q xs e => b.t q xs (a.t q xs e), fun q o u e => b.f q o u (a.f q o u e)⟩
theorem TK.new (h : H l = none) : TK H (upd H l o) := ⟨fun q xs e => by rw [zg (zi e h)]; exact e, fun q ob u e => by rw [zg (zi e h)]; exact e⟩
theorem TK.lst {ys : List V} (h : H l = some (.lst ys)) : TK H (upd H l o) := ⟨fun q xs e => by rw [zg (vU e h (by intro z; cases z))]; exact e, fun q ob u e => by rw [zg (vU e h (by intro z; cases z))]; exact e⟩
theorem TK.feed (F : FeedAt H p) : TK H (upd H p o) := by
 obtain ⟨x, y, z, e⟩ := F
 exact TK.lst e
theorem TK.but (F : FeedAt H p) (b : But p H H') : TK H H' := by
 obtain ⟨x, y, z, ep⟩ := F
 exact ⟨fun q xs e => b q _ e (vU e ep (by intro z; cases z)), fun q ob u e => b q _ e (vU e ep (by intro z; cases z))⟩
theorem SS.draw (r : SS p H0 H) {x y z : Int} : SS p H0 (upd H p (.lst [.int x, .int y, .int z])) := ⟨FeedAt.here, r.bt.at⟩
theorem SS.new (r : SS p H0 H) (h : H l = none) : SS p H0 (upd H l o) := ⟨r.fd.new (r.fd.ne h), r.bt.new h⟩
theorem SS.put (r : SS p H0 H) (h : H0 l = none) (hl : p ≠ l) : SS p H0 (upd H l o) := ⟨r.fd.new hl, r.bt.put h⟩
theorem SS.call (r : SS p H0 H) (f : FeedAt H' p) (b : But p H H') : SS p H0 H' := ⟨f, r.bt.trans b⟩
theorem SS.none (r : SS p H0 H) (h : H l = none) : H0 l = none := r.bt.free (r.fd.ne h) h
theorem RuleAt.tk {m : Nat} {r : Addr} (k : TK H H') (R : RuleAt m H r) : RuleAt m H' r := by
 obtain ⟨a, b, ts, gs, e, et, eg, h⟩ := R
 exact ⟨a, b, ts, gs, k.t _ _ e, k.t _ _ et, k.t _ _ eg, h⟩
end
theorem wL {α β : Type} (f : α → β) : ∀ (xs : List α) (j : Nat), (xs.map f).eraseIdx j = (xs.eraseIdx j).map f
 | [], _ => rfl
 | _ :: _, 0 => rfl
 | x :: xs, j + 1 => by
  show f x :: (xs.map f).eraseIdx j = f x :: (xs.eraseIdx j).map f
  rw [wL f xs j]
theorem nd_rng (m : Nat) : (((List.range m).map fun (i : Nat) => (i : Int)) ++ []).Nodup := by
 rw [List.append_nil]
 exact List.Pairwise.map _ (fun a b h z => h (by lia)) List.nodup_range
theorem Yc : ∀ (lf : List Int) (j : Nat) (hj : j < lf.length), (lf[j] :: lf.eraseIdx j).Perm lf
 | x :: xs, 0, _ => List.Perm.refl _
 | x :: xs, j + 1, hj => (List.Perm.swap x _ _).trans ((Yc xs j (by simpa using hj)).cons x)
theorem nd_pop {lf is : List Int} {j : Nat} (hj : j < lf.length) (h : (lf ++ is).Nodup) : (lf.eraseIdx j ++ (is ++ [lf[j]])).Nodup := by
 have p1 : (lf[j] :: lf.eraseIdx j).Perm lf := Yc lf j hj
 have p2 : (lf.eraseIdx j ++ (is ++ [lf[j]])).Perm (lf ++ is) := by
  rw [← List.append_assoc]
  exact List.perm_append_comm.trans (p1.append_right is)
 exact p2.nodup_iff.mpr h
theorem pick8 {r : Int} (h0 : 0 ≤ r) (h1 : r < 8) : ∃ m : Nat, 0 < m ∧ m ≤ 8 ∧ atI ([.int 1, .int 2, .int 3, .int 3, .int 4, .int 5, .int 6, .int 8] : List V) r = some (.int (m : Int)) := by
 obtain ⟨j, rfl⟩ := Nat.ofI h0
 have : j = 0 ∨ j = 1 ∨ j = 2 ∨ j = 3 ∨ j = 4 ∨ j = 5 ∨ j = 6 ∨ j = 7 := by lia
 rcases this with rfl | rfl | rfl | rfl | rfl | rfl | rfl | rfl
 ·exact ⟨1, by decide, by decide, rfl⟩
 ·exact ⟨2, by decide, by decide, rfl⟩
 ·exact ⟨3, by decide, by decide, rfl⟩
 ·exact ⟨3, by decide, by decide, rfl⟩
 ·exact ⟨4, by decide, by decide, rfl⟩
 ·exact ⟨5, by decide, by decide, rfl⟩
 ·exact ⟨6, by decide, by decide, rfl⟩
 ·exact ⟨8, by decide, by decide, rfl⟩
theorem pickR {r : Int} (h0 : 0 ≤ r) (h1 : r < 8) : ∃ m : Nat, m ≤ 8 ∧ atI ([.int 0, .int 1, .int 2, .int 2, .int 3, .int 4, .int 5, .int 8] : List V) r = some (.int (m : Int)) := by
 obtain ⟨j, rfl⟩ := Nat.ofI h0
 have : j = 0 ∨ j = 1 ∨ j = 2 ∨ j = 3 ∨ j = 4 ∨ j = 5 ∨ j = 6 ∨ j = 7 := by lia
 rcases this with rfl | rfl | rfl | rfl | rfl | rfl | rfl | rfl
 ·exact ⟨0, by decide, rfl⟩
 ·exact ⟨1, by decide, rfl⟩
 ·exact ⟨2, by decide, rfl⟩
 ·exact ⟨2, by decide, rfl⟩
 ·exact ⟨3, by decide, rfl⟩
 ·exact ⟨4, by decide, rfl⟩
 ·exact ⟨5, by decide, rfl⟩
 ·exact ⟨8, by decide, rfl⟩
theorem pickI {r : Int} (h0 : 0 ≤ r) (h1 : r < 5) : ∃ m : Nat, m ≤ 3 ∧ atI ([.int 0, .int 1, .int 2, .int 2, .int 3] : List V) r = some (.int (m : Int)) := by
 obtain ⟨j, rfl⟩ := Nat.ofI h0
 have : j = 0 ∨ j = 1 ∨ j = 2 ∨ j = 3 ∨ j = 4 := by lia
 rcases this with rfl | rfl | rfl | rfl | rfl
 ·exact ⟨0, by decide, rfl⟩
 ·exact ⟨1, by decide, rfl⟩
 ·exact ⟨2, by decide, rfl⟩
 ·exact ⟨2, by decide, rfl⟩
 ·exact ⟨3, by decide, rfl⟩
theorem pickB {r b : Int} (h0 : 0 ≤ r) (h1 : r < 6) (b0 : 0 ≤ b) (b1 : b < 100) : ∃ m : Int, 0 ≤ m ∧ m ≤ 99 ∧ atI ([.int 0, .int 0, .int 1, .int 2, .int 99, .int b] : List V) r = some (.int m) := by
 obtain ⟨j, rfl⟩ := Nat.ofI h0
 have : j = 0 ∨ j = 1 ∨ j = 2 ∨ j = 3 ∨ j = 4 ∨ j = 5 := by lia
 rcases this with rfl | rfl | rfl | rfl | rfl | rfl
 ·exact ⟨0, by decide, by decide, rfl⟩
 ·exact ⟨0, by decide, by decide, rfl⟩
 ·exact ⟨1, by decide, by decide, rfl⟩
 ·exact ⟨2, by decide, by decide, rfl⟩
 ·exact ⟨99, by decide, by decide, rfl⟩
 ·exact ⟨b, by lia, by lia, rfl⟩
structure PotAt (H : Hp) (p : Addr) (nm : List Str) (ins beg : List Int) (ans : Int) (m : Nat) : Prop where
 ex : ∃ (ps pr pin pb : Addr) (rs : List Addr), H p = some (.tup [.ref ps, .ref pr, .ref pin, .ref pb, .int ans]) ∧ H ps = some (.tup (nm.map V.str)) ∧ H pr = some (.tup (rs.map V.ref)) ∧ (∀ r ∈ rs, RuleAt m H r) ∧ rs.length ≤ 8 ∧
  H pin = some (.tup (ins.map V.int)) ∧ H pb = some (.tup (beg.map V.int))
 hn : WP m nm
 m0 : 0 < m
 m8 : m ≤ 8
 hi : ∀ i ∈ ins, 0 ≤ i ∧ i < m
 i3 : ins.length ≤ 3
 nd : ins.Nodup
 bl : beg.length = m
 hb : ∀ b ∈ beg, 0 ≤ b ∧ b ≤ 99
 ha : 0 ≤ ans ∧ ans < m
noncomputable def XY : Sp := fun vs H Q _ => ∃ (p : Addr), vs = [.ref p] ∧ FeedAt H p ∧ ∀ (l : Addr) (H' : Hp) (nm : List Str) (ins beg : List Int) (ans : Int) (m : Nat), H l = none → PotAt H' l nm ins beg ans m → FeedAt H' p → But p H H' → Q (.ref l) H'
section
variable {P : Program} {w : World} {K : PySem.W.Frag} {mg : Str → Option Value} {base : Heap}
structure Blt2 (mg : Str → Option Value) : Prop extends Blt mg where
 list : mg "list" = none
 min : mg "min" = none
noncomputable abbrev ivP4d1 (H : Hp) (p : Addr) (m : Nat) (ps : Addr) (pr : Addr) (H8 : Hp) (pl : Addr) (pi : Addr) : Nat → St → Hp → Prop := fun i σ H' => ∃ (u : Option V) (lf is : List Int), σ = [some (.ref p), some (.int m), some (.ref ps), some (.ref pr), some (.ref pl), some (.ref pi), u, none] ∧ H' pl = some (.lst (lf.map V.int)) ∧ H' pi = some (.lst (is.map V.int)) ∧ lf.length + i = m ∧ is.length = i ∧ (∀ j ∈ lf, 0 ≤ j ∧ j < (m : Int)) ∧ (∀ j ∈ is, 0 ≤ j ∧ j < (m : Int)) ∧ SS p H H' ∧ TK H8 H' ∧ (lf ++ is).Nodup
set_option maxHeartbeats 2000000 in
theorem ok_pot {f : Addr} {fd : FuncData} (B : Blt2 mg) (D : Has P w K mg base 1 "_law_draw" ["_law_feed_here", "_law_many"] xl) (N : Has P w K mg base 2 "_law_names" ["_law_feed_here", "_law_many"] Zs)
  (R : Has P w K mg base 2 "_law_rule" ["_law_feed_here", "_law_many"] Yz) (F : Fun K "_law_pot" "_law_pot" sPot f fd) : FnOk P w K mg base CX0 3 f fd ["_law_feed_here"] XY := by
 refine F.ok scPot (fun vs H Q E h => ?_) (fun cdv A outer s H vs Q E hr h => ?_)
 ·obtain ⟨p, rfl, _⟩ := h
  rfl
 ·obtain ⟨p, rfl, hF, k⟩ := h
  refine' ⟨_, ?hb, ?rd⟩
  case hb =>
   refine' za ?s1 ?r1
   case' r1 => refine' za ?s2 ?r2
   case' r2 => refine' za ?s3 ?r3
   case' r3 => refine' za ?s4 ?r4
   case' r4 => refine' za ?s5 ?r5
   case' r5 => refine' za ?s6 ?r6
   case' r6 => refine' za ?s7 ?r7
   case' r7 => refine' ze ?s8
   case s1 =>
    refine' zh zY 1 ?p1
    case p1 =>
     refine' zw ix_d ?a1 (pe_f D hr (by decide) (pa_2 (pvd zY 0) zd)) (fun _ _ => rfl)
     case a1 =>
      refine xo (vs := [.int 1, .int 2, .int 3, .int 3, .int 4, .int 5, .int 6, .int 8]) ?_
      decide +kernel
   case s2 => exact zh zY 2 (yA zV B.tuple PyProof.Rows.boot_tuple (pa_1 (pe_f N hr (by decide) (pa_2 (pvd zY 0) (pvd zY 1)))))
   case s3 =>
    refine' zh zY 3 ?p3
    case p3 =>
     refine' yA zV B.tuple PyProof.Rows.boot_tuple ?qc3
     case' qc3 => refine' pa_1 ?c3
     case c3 =>
      refine' yJ (ix := [0, 1]) bsPot2.toCScope rfl rfl ?h3 ?h4 ?h5 ?h6
      case h3 =>
       refine' wT B.range ?pa3
       case' pa3 => refine' pa_1 ?i3
       case i3 =>
        refine' zw ix_d ?l3 (pe_f D hr (by decide) (pa_2 (pvd zY 0) zd)) (fun _ _ => rfl)
        case l3 =>
         refine xo (vs := [.int 0, .int 1, .int 2, .int 2, .int 3, .int 4, .int 5, .int 8]) ?_
         decide +kernel
      case h4 => exact fun _ _ _ _ _ _ => pgb bsPot2 0
      case h5 => exact fun _ _ _ _ _ _ => yp
      case h6 => exact fun _ _ _ _ _ _ => pe_f R hr (by decide) (pa_2 (pvb bsPot2 1) (pvb bsPot2 2)) (bsPot2.g 0)
   case s4 =>
    refine' zh zY 4 ?p4
    case' p4 => refine' yA (call_listRng rfl) B.list PyProof.Rows.boot_list ?q4
    case' q4 => refine' pa_1 ?u4
    case u4 => exact yA call_rangeV B.range PyProof.Rows.boot_range (pa_1 (pvd zY 1))
   case s5 => exact zh zY 5 (zM zz)
   case s6 =>
    refine' yr PassesOwn.never rfl ?i6 (pgd zY 6) ?b6
    case i6 =>
     refine' wT B.range ?pa6
     case' pa6 => refine' pa_1 ?j6
     case j6 =>
      refine' zv (call_min2 rfl) B.min PyProof.Rows.boot_min ?q6
      case' q6 => refine' pa_2 ?m6a ?m6
      case m6a => exact pvd zY 1
      case m6 =>
       refine' zw ix_d ?l6 (pe_f D hr (by decide) (pa_2 (pvd zY 0) zd)) (fun _ _ => rfl)
       case l6 =>
        refine xo (vs := [.int 0, .int 1, .int 2, .int 2, .int 3]) ?_
        decide +kernel
    case b6 =>
     refine' ze ?b6a
     case' b6a => refine' yi ?b6b
     case' b6b => refine' zD PySem.F.plainAttrs_list PySem.F.slot_list_append PySem.F.type_list_append yk (pvd zY 5) ?b6c
     case' b6c => refine' pa_1 ?b6d
     case' b6d => refine' zD PySem.F.plainAttrs_list PySem.F.slot_list_pop PySem.F.type_list_pop vB (pvd zY 4) ?b6e
     case' b6e => refine' pa_1 ?b6f
     case' b6f => refine' pe_f D hr (by decide) ?b6g
     case' b6g => refine' pa_2 (pvd zY 0) ?b6h
     case b6h => exact zv zf B.len PySem.boot_len (pa_1 (pvd zY 4))
   case s7 =>
    refine' zh zY 7 ?p7
    case p7 =>
     refine' yA zV B.tuple PyProof.Rows.boot_tuple ?qc7
     case' qc7 => refine' pa_1 ?c7
     case c7 =>
      refine' yJ (ix := [0]) bsPot6.toCScope rfl rfl ?h3 ?h4 ?h5 ?h6
      case h3 => exact vz (pvd zY 2)
      case h4 => exact fun _ _ _ _ _ _ => pgb bsPot6 0
      case h5 => exact fun _ _ _ _ _ _ => yp
      case h6 =>
       intro _ _ _ _ _ _
       refine' zw ix_d ?e7 ?g7 (fun _ _ => rfl)
       case g7 => exact pe_f D hr (by decide) (pa_2 (pvb bsPot6 1) zd) (bsPot6.g 0)
       case e7 =>
        refine' zM ?e7a
        case' e7a => refine' pa_c zd ?e7b
        case' e7b => refine' pa_c zd ?e7c
        case' e7c => refine' pa_c zd ?e7d
        case' e7d => refine' pa_c zd ?e7e
        case' e7e => refine' pa_c zd ?e7f
        case' e7f => refine' pa_1 ?e7g
        case e7g => exact pe_f D hr (by decide) (pa_2 (pvb bsPot6 1) zd) (bsPot6.g 0)
   case s8 => exact zt (yt (pa_c (pvd zY 2) (pa_c (pvd zY 3) (pa_c (yA zV B.tuple PyProof.Rows.boot_tuple (pa_1 (pvd zY 5))) (pa_c (pvd zY 7) (pa_c (pe_f D hr (by decide) (pa_2 (pvd zY 0) (pvd zY 1))) zz))))))
  case rd =>
   have S0 : SS p H H := ⟨hF, But.refl⟩
   walk_at "v"
   refine ⟨sz8, fun a1 ha1 => ?_⟩
   have S1 := S0.new (o := .lst [.int 1, .int 2, .int 3, .int 3, .int 4, .int 5, .int 6, .int 8]) ha1
   have np1 := S0.fd.ne ha1
   walk_at "v"
   refine ⟨p, 8, rfl, S1.fd, by decide, by decide, fun r x y z r0 r1 => ?_⟩
   obtain ⟨m, m0, m8, hat⟩ := pick8 r0 r1
   refine zy (by rw [zg (Ne.symm np1), zb]) hat ?_
   have S2 := S1.draw (x := x) (y := y) (z := z)
   generalize upd (upd H a1 (.lst [.int 1, .int 2, .int 3, .int 3, .int 4, .int 5, .int 6, .int 8])) p (.lst [.int x, .int y, .int z]) = H2 at S2 ⊢
   clear S1 hat r0 r1
   have hm : ((m : Nat) : Int) < 1000000 := by lia
   have hm0 : (0 : Int) < (m : Int) := by lia
   walk_at "v"
   refine ⟨p, m, rfl, S2.fd, m0, by lia, fun l nm H3 hl hN hF3 hB3 hl3 => ?_⟩
   have S3 := S2.call hF3 hB3
   walk_at "v"
   refine ⟨l, _, rfl, .inl ⟨SqL.of hl3, fun ps hps => ?_⟩⟩
   have S4 := S3.new (o := .tup (nm.map V.str)) hps
   have ep : upd H3 ps (.tup (nm.map V.str)) ps = some (.tup (nm.map V.str)) := zb
   generalize upd H3 ps (.tup (nm.map V.str)) = H4 at S4 ep ⊢
   clear S3 S2 hl hF3 hB3 hl3 hps
   walk_at "v"
   refine ⟨sz8, fun a3 ha3 => ?_⟩
   have S5 := S4.new (o := .lst [.int 0, .int 1, .int 2, .int 2, .int 3, .int 4, .int 5, .int 8]) ha3
   have np3 := S4.fd.ne ha3
   walk_at "v"
   refine ⟨p, 8, rfl, S5.fd, by decide, by decide, fun r x y z r0 r1 => ?_⟩
   obtain ⟨n, n8, hat⟩ := pickR r0 r1
   refine zy (by rw [zg (Ne.symm np3), zb]) hat ?_
   have S6 := S5.draw (x := x) (y := y) (z := z)
   have ep6 := ((TK.new (o := .lst [.int 0, .int 1, .int 2, .int 2, .int 3, .int 4, .int 5, .int 8]) ha3).trans (TK.feed (o := .lst [.int x, .int y, .int z]) S5.fd)).t _ _ ep
   generalize upd (upd H4 a3 (.lst [.int 0, .int 1, .int 2, .int 2, .int 3, .int 4, .int 5, .int 8])) p (.lst [.int x, .int y, .int z]) = H6 at S6 ep6 ⊢
   clear S5 hat r0 r1 ep S4 ha3 np3 np1 ha1
   walk_at "v"
   refine ⟨n, rfl, by lia, by lia, fun dr hdr => ?_⟩
   have ndr := S6.none hdr
   have pdr := S6.fd.ne hdr
   refine xj (ρ := [some (.ref p), some (.int m)]) (fun i ys H' => ∃ rs : List Addr, ys = rs.map V.ref ∧ rs.length = i ∧ (∀ r ∈ rs, RuleAt m H' r) ∧ SS p H H' ∧ TK H6 H') ⟨[], rfl, rfl, (fun r h => by cases h), S6.new hdr, TK.new hdr⟩ ?_ ?_
   ·rintro i ys H' hi ⟨rs, rfl, hlen, hrs, S, T⟩ hD R' S' kR _
    walk_at "v"
    refine ⟨p, m, rfl, S.fd, m0, m8, fun r H'' hr0 hR hF' hB => ?_⟩
    have S7 := S.call hF' hB
    have hD' := hB dr _ hD (Ne.symm pdr)
    have T7 := TK.but S.fd hB
    have T8 : TK H'' (upd H'' dr (.lst (rs.map V.ref ++ [.ref r]))) := TK.lst hD'
    refine kR _ _ hD' (by rw [List.length_map]; exact zB (by rw [Int.toNat_natCast] at hi; lia)) ⟨rs ++ [r], by rw [List.map_append]; rfl, by simp [hlen], fun q hq => ?_, S7.put ndr pdr, (T.trans T7).trans T8⟩
    rcases List.mem_append.mp hq with old | new
    ·exact ((hrs q old).tk T7).tk T8
    ·rw [List.mem_singleton.mp new]
     exact hR.tk T8
   ·rintro ys H' ⟨rs, rfl, hlen, hrs, S, T⟩ hD
    rw [Int.toNat_natCast] at hlen
    have ep7 := T.t _ _ ep6
    clear ep6 T S6
    walk_at "v"
    refine ⟨dr, _, rfl, .inl ⟨SqL.of hD, fun pr hpr => ?_⟩⟩
    have S8 := S.new (o := .tup (rs.map V.ref)) hpr
    have T8 : TK H' (upd H' pr (.tup (rs.map V.ref))) := TK.new hpr
    have ep8 := T8.t _ _ ep7
    have hrs8 : ∀ r ∈ rs, RuleAt m (upd H' pr (.tup (rs.map V.ref))) r := fun r h => (hrs r h).tk T8
    have er8 : upd H' pr (.tup (rs.map V.ref)) pr = some (.tup (rs.map V.ref)) := zb
    generalize upd H' pr (.tup (rs.map V.ref)) = H8 at S8 ep8 er8 hrs8 ⊢
    clear S T8 ep7 hD hrs hpr
    walk_at "v"
    refine ⟨m, rfl, fun rg hrg => ?_⟩
    have S9 := S8.new (o := .rng 0 m) hrg
    have T9 : TK H8 (upd H8 rg (.rng 0 m)) := TK.new hrg
    have erg : upd H8 rg (.rng 0 m) rg = some (.rng 0 m) := zb
    generalize upd H8 rg (.rng 0 m) = H9 at S9 T9 erg ⊢
    walk_at "v"
    refine ⟨rg, m, rfl, erg, by lia, fun pl hpl => ?_⟩
    have S10 := S9.new (o := .lst ((List.range m).map fun (i : Nat) => V.int (i : Int))) hpl
    have T10 := T9.trans (TK.new (o := .lst ((List.range m).map fun (i : Nat) => V.int (i : Int))) hpl)
    have npl := S9.none hpl
    have ppl := S9.fd.ne hpl
    have el : upd H9 pl (.lst ((List.range m).map fun (i : Nat) => V.int (i : Int))) pl = some (.lst (((List.range m).map fun (i : Nat) => (i : Int)).map V.int)) := by rw [zb, List.map_map]; rfl
    generalize upd H9 pl (.lst ((List.range m).map fun (i : Nat) => V.int (i : Int))) = H10 at S10 T10 el ⊢
    clear S9 T9 erg hpl hrg S8
    walk_at "v"
    refine ⟨Nat.zero_le _, fun pi hpi => ?_⟩
    have S11 := S10.new (o := .lst []) hpi
    have T11 := T10.trans (TK.new (o := .lst []) hpi)
    have npi := S10.none hpi
    have ppi := S10.fd.ne hpi
    have nli : pl ≠ pi := zi el hpi
    have el11 : upd H10 pi (.lst []) pl = some (.lst (((List.range m).map fun (i : Nat) => (i : Int)).map V.int)) := by rw [zg nli]; exact el
    have ei11 : upd H10 pi (.lst []) pi = some (.lst (([] : List Int).map V.int)) := zb
    generalize upd H10 pi (.lst []) = H11 at S11 T11 el11 ei11 ⊢
    clear S10 T10 el hpi
    walk_at "v"
    refine ⟨sz5, fun a5 ha5 => ?_⟩
    have S12 := S11.new (o := .lst [.int 0, .int 1, .int 2, .int 2, .int 3]) ha5
    have np5 := S11.fd.ne ha5
    walk_at "v"
    refine ⟨p, 5, rfl, S12.fd, by decide, by decide, fun r x y z r0 r1 => ?_⟩
    obtain ⟨c, c3, hat⟩ := pickI r0 r1
    refine zy (by rw [zg (Ne.symm np5), zb]) hat ?_
    have S13 := S12.draw (x := x) (y := y) (z := z)
    have T13 := (T11.trans (TK.new (o := .lst [.int 0, .int 1, .int 2, .int 2, .int 3]) ha5)).trans (TK.feed (o := .lst [.int x, .int y, .int z]) S12.fd)
    have el13 : upd (upd H11 a5 (.lst [.int 0, .int 1, .int 2, .int 2, .int 3])) p (.lst [.int x, .int y, .int z]) pl = some (.lst (((List.range m).map fun (i : Nat) => (i : Int)).map V.int)) := by rw [zg (Ne.symm ppl), zg (zi el11 ha5)]; exact el11
    have ei13 : upd (upd H11 a5 (.lst [.int 0, .int 1, .int 2, .int 2, .int 3])) p (.lst [.int x, .int y, .int z]) pi = some (.lst (([] : List Int).map V.int)) := by rw [zg (Ne.symm ppi), zg (zi ei11 ha5)]; exact ei11
    generalize upd (upd H11 a5 (.lst [.int 0, .int 1, .int 2, .int 2, .int 3])) p (.lst [.int x, .int y, .int z]) = H13 at S13 T13 el13 ei13 ⊢
    clear S12 S11 T11 el11 ei11 ha5 np5 hat r0 r1
    walk_at "v"
    refine ⟨m, c, rfl, ?_⟩
    have ec : (if (c : Int) < (m : Int) then (c : Int) else (m : Int)) = ((min c m : Nat) : Int) := by
     by_cases h : (c : Int) < (m : Int)
     ·rw [if_pos h]; lia
     ·rw [if_neg h]; lia
    rw [ec]
    walk_at "v"
    refine ⟨_, rfl, by lia, by lia, ?_⟩
    rw [Int.toNat_natCast]
    refine zP (ivP4d1 H p m ps pr H8 pl pi)
     ⟨none, _, [], rfl, el13, ei13, by simp, rfl, fun j hj => by
      obtain ⟨q, hq, rfl⟩ := List.mem_map.mp hj
      have := List.mem_range.mp hq
      lia, (fun j hj => by cases hj), S13, T13, nd_rng m⟩ ?_ ?_
    ·rintro i σ H' hi ⟨u, lf, is, rfl, el, ei, hlen1, hlen2, hlf, his, S, T, hnd⟩
     walk_at "v"
     refine ⟨.inl ⟨rfl, _, SqL.of ei⟩, ?_⟩
     walk_at "v"
     refine ⟨.inl ⟨rfl, _, SqL.of el⟩, ?_⟩
     walk_at "v"
     refine ⟨pl, _, rfl, .inl (SqL.of el), ?_⟩
     rw [List.length_map]
     refine ⟨p, lf.length, rfl, S.fd, by lia, by lia, fun r x y z r0 r1 => ?_⟩
     have S' := S.draw (x := x) (y := y) (z := z)
     have T' := T.trans (TK.feed (o := .lst [.int x, .int y, .int z]) S.fd)
     have el' : upd H' p (.lst [.int x, .int y, .int z]) pl = some (.lst (lf.map V.int)) := by rw [zg (Ne.symm ppl)]; exact el
     have ei' : upd H' p (.lst [.int x, .int y, .int z]) pi = some (.lst (is.map V.int)) := by rw [zg (Ne.symm ppi)]; exact ei
     generalize upd H' p (.lst [.int x, .int y, .int z]) = H2 at S' T' el' ei' ⊢
     obtain ⟨j, rfl⟩ := Nat.ofI r0
     have hj : j < lf.length := by lia
     have hix : ixN (lf.map V.int).length (j : Int) = some j := by
      rw [List.length_map]
      unfold ixN
      rw [if_pos r0, if_pos r1]
      rfl
     walk_at "v"
     refine ⟨pl, _, _, j, .int lf[j], rfl, rfl, el', by lia, by lia, (ZK hix).1, by simp [hj], ?_⟩
     have S'' := S'.put (o := .lst ((lf.map V.int).eraseIdx j)) npl ppl
     have T'' := T'.trans (TK.lst (o := .lst ((lf.map V.int).eraseIdx j)) el')
     have el'' : upd H2 pl (.lst ((lf.map V.int).eraseIdx j)) pl = some (.lst ((lf.eraseIdx j).map V.int)) := by rw [zb, wL]
     have ei'' : upd H2 pl (.lst ((lf.map V.int).eraseIdx j)) pi = some (.lst (is.map V.int)) := by rw [zg (Ne.symm nli)]; exact ei'
     generalize upd H2 pl (.lst ((lf.map V.int).eraseIdx j)) = H3' at S'' T'' el'' ei'' ⊢
     walk_at "v"
     refine ⟨pi, _, _, rfl, rfl, ei'', by rw [List.length_map]; exact zB (by lia), ?_⟩
     refine ⟨_, lf.eraseIdx j, is ++ [lf[j]], rfl, by rw [zg nli]; exact el'', by rw [zb, List.map_append]; rfl, ?_, by simp [hlen2], ?_, ?_, S''.put npi ppi, T''.trans (TK.lst ei''), nd_pop hj hnd⟩
     ·rw [List.length_eraseIdx_of_lt hj]
      lia
     ·exact fun q hq => hlf q (List.mem_of_mem_eraseIdx hq)
     ·intro q hq
      rcases List.mem_append.mp hq with old | new
      ·exact his q old
      ·rw [List.mem_singleton.mp new]
       exact hlf _ (List.getElem_mem hj)
    ·rintro σ H14 ⟨u, lf, is, rfl, el, ei, hlen1, hlen2, hlf, his, S14, T14, hnd⟩
     have ep14 := T14.t _ _ ep8
     have hi3 : is.length ≤ 3 := by lia
     clear S13 T13 el13 ei13 el hlf hlen1
     walk_at "v"
     refine ⟨ps, rfl, ⟨_, SqT.of ep14⟩, fun db hdb => ?_⟩
     have ndb := S14.none hdb
     have pdb := S14.fd.ne hdb
     have idb : pi ≠ db := zi ei hdb
     refine ZP (xs := nm.map V.str) (ρ := [some (.ref p)]) (fun i ys H' => ∃ bs : List Int, ys = bs.map V.int ∧ bs.length = i ∧ (∀ b ∈ bs, 0 ≤ b ∧ b ≤ 99) ∧ SS p H H' ∧ TK H14 H' ∧ H' pi = some (.lst (is.map V.int)))
      ⟨[], rfl, rfl, (fun b hb => by cases hb), S14.new hdb, TK.new hdb, by rw [zg idb]; exact ei⟩ (fun i ys H' _ ⟨_, _, _, _, _, T, _⟩ => SqT.of (T.t _ _ ep14)) ?_ ?_
     ·rintro i xv ys H' hxi ⟨bs, rfl, hbl, hbs, S, T, eI⟩ hD R' S' kR _
      have hi8 : i < 8 := by
       have := (List.getElem?_eq_some_iff.mp hxi).1
       rw [List.length_map, hN.1] at this
       lia
      walk_at "v"
      refine ⟨p, 100, rfl, S.fd, by decide, by decide, fun r x y z r0 r1 => ?_⟩
      have S2 := S.draw (x := x) (y := y) (z := z)
      have T2 := T.trans (TK.feed (o := .lst [.int x, .int y, .int z]) S.fd)
      have eI2 : upd H' p (.lst [.int x, .int y, .int z]) pi = some (.lst (is.map V.int)) := by rw [zg (Ne.symm ppi)]; exact eI
      have hD2 : upd H' p (.lst [.int x, .int y, .int z]) db = some (.lst (bs.map V.int)) := by rw [zg (Ne.symm pdb)]; exact hD
      generalize upd H' p (.lst [.int x, .int y, .int z]) = H2 at S2 T2 eI2 hD2 ⊢
      walk_at "v"
      refine ⟨sz6, fun a6 ha6 => ?_⟩
      have S3 := S2.new (o := .lst [.int 0, .int 0, .int 1, .int 2, .int 99, .int r]) ha6
      have T3 := T2.trans (TK.new (o := .lst [.int 0, .int 0, .int 1, .int 2, .int 99, .int r]) ha6)
      have p6 := S2.fd.ne ha6
      have eI3 : upd H2 a6 (.lst [.int 0, .int 0, .int 1, .int 2, .int 99, .int r]) pi = some (.lst (is.map V.int)) := by rw [zg (zi eI2 ha6)]; exact eI2
      have hD3 : upd H2 a6 (.lst [.int 0, .int 0, .int 1, .int 2, .int 99, .int r]) db = some (.lst (bs.map V.int)) := by rw [zg (zi hD2 ha6)]; exact hD2
      have e6 : upd H2 a6 (.lst [.int 0, .int 0, .int 1, .int 2, .int 99, .int r]) a6 = some (.lst [.int 0, .int 0, .int 1, .int 2, .int 99, .int r]) := zb
      generalize upd H2 a6 (.lst [.int 0, .int 0, .int 1, .int 2, .int 99, .int r]) = H3' at S3 T3 eI3 hD3 e6 ⊢
      walk_at "v"
      refine ⟨p, 6, rfl, S3.fd, by decide, by decide, fun r' x' y' z' r0' r1' => ?_⟩
      obtain ⟨bv, b0, b1, hat⟩ := pickB r0' r1' r0 r1
      refine zy (by rw [zg (Ne.symm p6)]; exact e6) hat ?_
      have hD4 : upd H3' p (.lst [.int x', .int y', .int z']) db = some (.lst (bs.map V.int)) := by rw [zg (Ne.symm pdb)]; exact hD3
      refine kR _ _ hD4 (by rw [List.length_map]; exact zB (by lia)) ⟨bs ++ [bv], by rw [List.map_append]; rfl, by simp [hbl], fun b hb => ?_, S3.draw.put ndb pdb, (T3.trans (TK.feed S3.fd)).trans (TK.lst hD4), by rw [zg idb, zg (Ne.symm ppi)]; exact eI3⟩
      rcases List.mem_append.mp hb with old | new
      ·exact hbs b old
      ·rw [List.mem_singleton.mp new]
       exact ⟨b0, b1⟩
     ·rintro ys H15 ⟨bs, rfl, hbl, hbs, S15, T15, eI⟩ hD
      rw [List.length_map, hN.1] at hbl
      walk_at "v"
      refine ⟨db, _, rfl, .inl ⟨SqL.of hD, fun pb hpb => ?_⟩⟩
      have S16 := S15.new (o := .tup (bs.map V.int)) hpb
      have T16 := (T14.trans T15).trans (TK.new (o := .tup (bs.map V.int)) hpb)
      have eI16 : upd H15 pb (.tup (bs.map V.int)) pi = some (.lst (is.map V.int)) := by rw [zg (zi eI hpb)]; exact eI
      have eb16 : upd H15 pb (.tup (bs.map V.int)) pb = some (.tup (bs.map V.int)) := zb
      generalize upd H15 pb (.tup (bs.map V.int)) = H16 at S16 T16 eI16 eb16 ⊢
      clear S15 T15 eI hD hpb
      walk_at "v"
      refine ⟨pi, _, rfl, .inl ⟨SqL.of eI16, fun pin hpin => ?_⟩⟩
      have S17 := S16.new (o := .tup (is.map V.int)) hpin
      have T17 : TK H16 (upd H16 pin (.tup (is.map V.int))) := TK.new hpin
      have ein : upd H16 pin (.tup (is.map V.int)) pin = some (.tup (is.map V.int)) := zb
      generalize upd H16 pin (.tup (is.map V.int)) = H17 at S17 T17 ein ⊢
      walk_at "v"
      refine ⟨p, m, rfl, S17.fd, hm0, hm, fun ans x y z a0 a1 => ?_⟩
      have S18 := S17.draw (x := x) (y := y) (z := z)
      have T18 : TK H17 (upd H17 p (.lst [.int x, .int y, .int z])) := TK.feed S17.fd
      generalize upd H17 p (.lst [.int x, .int y, .int z]) = H18 at S18 T18 ⊢
      walk_at "v"
      refine ⟨sz5, fun l hl => ?_⟩
      have T19 : TK H18 (upd H18 l (.tup [.ref ps, .ref pr, .ref pin, .ref pb, .int ans])) := TK.new hl
      have S19 := S18.new (o := .tup [.ref ps, .ref pr, .ref pin, .ref pb, .int ans]) hl
      have TA : TK H8 (upd H18 l (.tup [.ref ps, .ref pr, .ref pin, .ref pb, .int ans])) := ((T16.trans T17).trans T18).trans T19
      refine k l _ nm is bs ans m (S18.none hl) ⟨⟨ps, pr, pin, pb, rs, zb, TA.t _ _ ep8, TA.t _ _ er8, fun r h => (hrs8 r h).tk TA, by lia, (T18.trans T19).t _ _ ein, ((T17.trans T18).trans T19).t _ _ eb16⟩, hN, m0, m8, his, hi3, (List.nodup_append.mp hnd).2.1, hbl, hbs, a0, a1⟩ S19.fd S19.bt
end
end K04
namespace K04
open PySem L2 G2 PT
local macro_rules | `(tactic| walk_at "v") => `(tactic| repeat (with_reducible first
  | refine YR ?_ | refine ZX ?_ | refine zJ ?_ | refine w_op ?_ | refine ve rfl ?_ | refine w_c ?_ | refine Xx ?_ | refine ZW ?_ | refine XE ?_ | refine Yt ?_ | refine w_tb ?_ | refine w_bl ?_ | refine w_not ?_ | refine Xw ?_ | refine w_retN ?_
  | refine Xz ?_ | refine Yx ?_ | refine XB ?_ | refine Xv ?_ | refine w_cb ?_ | refine Yy ?_ | refine wG ?_ | refine XJ ?_ | refine w_or ?_ | refine wF ?_ | refine ZY ?_ | refine Ys ?_ | refine Zp ?_ | refine Zo ?_ | refine Yv ?_ | refine Yu ?_ | refine w_forL ?_ | refine Yw ?_ | refine w_bm ?_ | refine w_compZ ?_ | refine w_compL ?_ | refine YT ?_ | refine w_sl ?_ | refine ZV ?_ | refine Xy ?_ | refine Wr ?_ | refine iteT ?_ | refine iteF ?_))
theorem w_compR2X {ta : TA} {n : Nat} {ix : List Nat} {g : TG} {tc : (St → XK) → TT} {te : (St → XK) → TE} {EX : St → XK} {σ : St} {H : Hp} {Q : VK} (h : ta σ H fun vs H1 => ∃ i j : Int, vs = [.int i, .int j] ∧ (-(2 ^ 62) ≤ i ∧ i < 2 ^ 62 ∧ -(2 ^ 62) ≤ j ∧ j < 2 ^ 62) ∧ ∀ D, H1 D = none → CGo (Itr i (j - i).toNat) D g (tc fun _ => EX σ) (te fun _ => EX σ) Q (List.replicate n none ++ sub ix σ) H1) : XS (Yj ta) n ix g tc te EX σ H Q := h
noncomputable abbrev sFig : Stmt := top 5
noncomputable abbrev nFig : List Str := ["word"]
theorem Xh : Nm nFig (zc sFig) := ⟨by decide +kernel, by decide +kernel⟩
theorem scFig : FnScope nFig ["word"] (zc sFig) := ⟨rfl, rfl, rfl, by decide +kernel, rfl, by decide +kernel, by decide +kernel⟩
noncomputable def qFiga (s : Stmt) : Scope := match s with
 | .If (.BoolOp _ [_, (.UnaryOp _ (.Call _ [(.ListComp _ _ sc _)] _ _) _)] _) _ _ _ => sc
 | _ => { kind := .function, names := [], isGenerator := false, isCoroutine := false }
noncomputable abbrev cFiga : Scope := qFiga ((zk sFig).getD 0 (.Pass ⟨0, 0, 0, 0⟩))
theorem bsFiga : BScope (zc sFig) cFiga ["sign"] [] ["FIGURES"] := { okind := by decide +kernel, kind := by decide +kernel, nocell := by decide +kernel, names := by decide +kernel, fr := by decide +kernel, ff := by decide +kernel, nd := by decide +kernel, vis := by decide +kernel, loc := by decide +kernel, gl := by decide +kernel }
noncomputable def X1 : Sp := fun vs H Q _ => ∃ x : Str, vs = [.str x] ∧ x.length ≤ 10000 ∧ ∀ H', Same H H' → Q (.bl (figP x)) H'
section
variable {P : Program} {w : World} {K : PySem.W.Frag} {mg : Str → Option Value} {base : Heap}
set_option maxHeartbeats 4000000 in
theorem ok_Fig {f : Addr} {fd : FuncData} (B : Bl mg) (C : KR K mg) (F : Fun K "is_figures" "is_figures" sFig f fd) : FnOk P w K mg base CX0 1 f fd ["word"] X1 := by
 refine F.ok scFig (fun vs H Q E h => ?_) (fun cdv A outer s H vs Q E hr h => ?_)
 ·obtain ⟨x, rfl, _⟩ := h
  rfl
 ·obtain ⟨x, rfl, hl, k⟩ := h
  refine' ⟨_, ?hb, ?rd⟩
  case' hb => skip
  case' hb => refine' za ?g1 ?g2
  case' g2 => refine' ze ?g3
  case' g1 => refine' zx ?g4 ?g5 zp
  case' g4 => refine' PW.pt ?g7
  case' g7 => refine' xh (zj zR (pvd Xh 0) zn (zm _)) ?g8
  case' g8 => refine' yQ ?g9
  case' g9 => refine' yR ?g10
  case' g10 => refine' xg ?g11
  case' g11 => refine' zv (Yq rfl) B.all PyProof.Rows.boot_all ?g12
  case' g12 => refine' pa_1 ?g13
  case' g13 => refine' yJ (ix := []) bsFiga.toCScope rfl rfl ?g14 ?g15 ?g16 ?g17
  case g14 => exact X3 (pvd Xh 0)
  case g15 => exact fun _ _ _ _ _ _ => pgb bsFiga 0
  case g16 => exact fun _ _ _ _ _ _ => yp
  case g17 => exact fun _ _ _ _ _ _ => yj vT (pvb bsFiga 0) (WG C.fig (bsFiga.g 0)) (by with_unfolding_all rfl)
  case' g5 => refine' ze ?g18
  case g18 => exact zt wU
  case g3 => exact zt (pe_or (yj zR (pvd Xh 0) zn (zm _)) (YE (yj vR (zw Wk (pvd Xh 0) zd (fun _ _ => rfl)) zn (zm _))))
  case rd =>
   walk_at "v"
   refine ⟨rfl, ?_⟩
   walk_at "v"
   refine iteD (fun z => ?_) (fun z => ?_)
   ·have z := V.str.inj z
    walk_at "v"
    have e : figP x = false := by rw [z]; decide +kernel
    rw [← e]
    exact k _ (Same.refl _)
   have hne : x ≠ "" := fun e => z (by rw [e])
   walk_at "v"
   refine Zn ?_
   walk_at "v"
   refine ⟨x, rfl, fun D hD => ?_⟩
   have hgl : (sg x).length ≤ 10000 := by rw [Zt]; exact hl
   refine YK (ρ := []) (fun i ys H' => ys = (((sg x).take i).map inF).map V.bl ∧ Same H H') ⟨rfl, Same.new (Same.refl H) hD⟩ ?_ ?_
   ·rintro i y ys H' hy ⟨rfl, K'⟩ hDy R S kR _
    walk_at "v"
    refine ⟨y, _, rfl, rfl, ?_⟩
    refine kR _ _ hDy (by rw [List.length_map, List.length_map, List.length_take]; exact zX (by lia)) ⟨?_, K'.put hD⟩
    rw [List.take_add_one, hy, List.map_append, List.map_append]
    rfl
   rintro ys H1 ⟨rfl, K1⟩ e1
   rw [List.take_of_length_le (by lia)] at e1
   walk_at "v"
   refine ⟨D, (sg x).map inF, rfl, e1, ?_⟩
   rw [show ((sg x).map inF).all id = (sg x).all inF by rw [List.all_map]; rfl]
   walk_at "v"
   cases ha : (sg x).all inF with
   | false =>
    refine iteT ?_
    walk_at "v"
    have e : figP x = false := by unfold figP; rw [ha, Bool.false_and, Bool.and_false]
    rw [← e]
    exact k _ K1
   | true =>
    refine iteF ?_
    walk_at "v"
    refine w_orV ?_
    walk_at "v"
    refine ⟨rfl, ?_⟩
    refine ⟨_, rfl, ?_⟩
    refine iteD (fun z => ?_) (fun z => ?_)
    ·have z := V.str.inj z
     have e : figP x = true := by rw [z]; decide +kernel
     rw [← e]
     exact k _ K1
    ·have z' : ¬ x = "0" := fun e => z (by rw [e])
     match hc : x.cps.toList with
     | [] => exact absurd (wz hc) hne
     | c :: cs =>
      walk_at "v"
      refine ⟨x, 0, c, rfl, rfl, Nat.le_of_lt (zX hl), (by rw [hc]; exact zG (show (c :: cs)[0]? = some c from rfl)), ?_⟩
      walk_at "v"
      refine ⟨rfl, ?_⟩
      have e : figP x = !decide (V.str (⟨#[c]⟩ : Str) = V.str "0") := by
       unfold figP hdS
       rw [hc, ha, decide_eq_false hne, decide_eq_false z']
       show (true && (true && (false || !decide ((⟨#[c]⟩ : Str) = "0")))) = _
       by_cases q : (⟨#[c]⟩ : Str) = "0"
       ·rw [decide_eq_true q, q, decide_eq_true rfl]; rfl
       ·rw [decide_eq_false q, decide_eq_false (fun w => q (V.str.inj w))]; rfl
      rw [← e]
      exact k _ K1
end
noncomputable abbrev sNam : Stmt := top 15
noncomputable abbrev nNam : List Str := ["thing"]
theorem Xe : Nm nNam (zc sNam) := ⟨by decide +kernel, by decide +kernel⟩
theorem scNam : FnScope nNam ["thing"] (zc sNam) := ⟨rfl, rfl, rfl, by decide +kernel, rfl, by decide +kernel, by decide +kernel⟩
noncomputable def qNama (s : Stmt) : Scope := match s with
 | .Return (some (.BoolOp _ [_, (.Call _ [(.ListComp _ _ sc _)] _ _)] _)) _ => sc
 | _ => { kind := .function, names := [], isGenerator := false, isCoroutine := false }
noncomputable abbrev cNama : Scope := qNama ((zk sNam).getD 1 (.Pass ⟨0, 0, 0, 0⟩))
theorem bsNama : BScope (zc sNam) cNama ["sign"] [] ["LETTERS"] := { okind := by decide +kernel, kind := by decide +kernel, nocell := by decide +kernel, names := by decide +kernel, fr := by decide +kernel, ff := by decide +kernel, nd := by decide +kernel, vis := by decide +kernel, loc := by decide +kernel, gl := by decide +kernel }
noncomputable def XZ : Sp := fun vs H Q _ => ∃ x : Str, vs = [.str x] ∧ x.length ≤ 10000 ∧ ∀ H', Same H H' → Q (.bl (zO x)) H'
section
variable {P : Program} {w : World} {K : PySem.W.Frag} {mg : Str → Option Value} {base : Heap}
set_option maxHeartbeats 4000000 in
theorem ok_Nam {f : Addr} {fd : FuncData} (B : Bl mg) (C : KR K mg) (F : Fun K "is_name" "is_name" sNam f fd) : FnOk P w K mg base CX0 1 f fd ["thing"] XZ := by
 refine F.ok scNam (fun vs H Q E h => ?_) (fun cdv A outer s H vs Q E hr h => ?_)
 ·obtain ⟨x, rfl, _⟩ := h
  rfl
 ·obtain ⟨x, rfl, hl, k⟩ := h
  refine' ⟨_, ?hb, ?rd⟩
  case' hb => skip
  case' hb => refine' za ?g1 ?g2
  case' g2 => refine' ze ?g3
  case' g1 => refine' zx ?g4 ?g5 zp
  case g4 => exact PW.pt (xh (yR (xg (zv call_isI B.isi PyProof.Rows.boot_isinstance (pa_2 (pvd Xe 0) (Xd (v := .ty "str") rfl B.str PyProof.Rows.boot_str rfl))))) (yQ (yR (vw vS vS zd (zv xu B.len PySem.boot_len (pa_1 (pvd Xe 0))) (pe_k C.mlet)))))
  case' g5 => refine' ze ?g7
  case g7 => exact zt wU
  case' g3 => refine' zt ?g8
  case' g8 => refine' X5 (yj xp (pvd Xe 0) (pe_gt C.no) (by with_unfolding_all rfl)) ?g9
  case' g9 => refine' YE ?g10
  case' g10 => refine' zv (Yq rfl) B.all PyProof.Rows.boot_all ?g11
  case' g11 => refine' pa_1 ?g12
  case' g12 => refine' yJ (ix := []) bsNama.toCScope rfl rfl ?g13 ?g14 ?g15 ?g16
  case g13 => exact X3 (pvd Xe 0)
  case g14 => exact fun _ _ _ _ _ _ => pgb bsNama 0
  case g15 => exact fun _ _ _ _ _ _ => yp
  case g16 => exact fun _ _ _ _ _ _ => yj vT (pvb bsNama 0) (WG C.lets (bsNama.g 0)) (by with_unfolding_all rfl)
  case rd =>
   walk_at "v"
   refine ⟨_, "str", _, true, rfl, .str _, rfl, ?_⟩
   walk_at "v"
   refine iteF ?_
   walk_at "v"
   refine ⟨_, rfl, Nat.le_of_lt (zX hl), ?_⟩
   walk_at "v"
   by_cases l1 : 1 ≤ x.length
   case neg =>
    refine iteQ (by lia) ?_
    walk_at "v"
    refine iteT ?_
    walk_at "v"
    have e : zO x = false := by unfold zO; rw [decide_eq_false l1, Bool.false_and]
    rw [← e]
    exact k _ (Same.refl _)
   refine iteP (by lia) ?_
   walk_at "v"
   by_cases l8 : x.length ≤ 8
   case neg =>
    refine v9 (by lia) ?_
    walk_at "v"
    have e : zO x = false := by unfold zO; rw [decide_eq_false l8, Bool.false_and, Bool.and_false]
    rw [← e]
    exact k _ (Same.refl _)
   refine v8 (by lia) ?_
   walk_at "v"
   refine XI ?_
   walk_at "v"
   refine w_gt fun aw hw => ?_
   refine ⟨aw, _, rfl, .inr hw, rfl, zZ _, ?_⟩
   refine ⟨_, rfl, ?_⟩
   rw [yh]
   by_cases no : x ∈ noNames
   ·rw [decide_eq_true no]
    refine iteF ?_
    have e : zO x = false := by unfold zO; rw [decide_eq_true no]; simp
    rw [← e]
    exact k _ (Same.refl _)
   rw [decide_eq_false no]
   refine iteT ?_
   walk_at "v"
   refine Zn ?_
   walk_at "v"
   refine ⟨x, rfl, fun D hD => ?_⟩
   have hgl : (sg x).length ≤ 10000 := by rw [Zt]; exact hl
   refine YK (ρ := []) (fun i ys H' => ys = (((sg x).take i).map inL).map V.bl ∧ Same H H') ⟨rfl, Same.new (Same.refl H) hD⟩ ?_ ?_
   ·rintro i y ys H' hy ⟨rfl, K'⟩ hDy R S kR _
    walk_at "v"
    refine ⟨y, _, rfl, rfl, ?_⟩
    refine kR _ _ hDy (by rw [List.length_map, List.length_map, List.length_take]; exact zX (by lia)) ⟨?_, K'.put hD⟩
    rw [List.take_add_one, hy, List.map_append, List.map_append]
    rfl
   rintro ys H1 ⟨rfl, K1⟩ e1
   rw [List.take_of_length_le (by lia)] at e1
   walk_at "v"
   refine ⟨D, (sg x).map inL, rfl, e1, ?_⟩
   rw [show ((sg x).map inL).all id = (sg x).all inL by rw [List.all_map]; rfl]
   have e : zO x = (sg x).all inL := by unfold zO; rw [decide_eq_true l1, decide_eq_true l8, decide_eq_false no]; simp
   rw [← e]
   exact k _ K1
end
noncomputable abbrev sWof : Stmt := top 24
noncomputable abbrev nWof : List Str := ["lines", "line", "first", "words"]
theorem xW : Nm nWof (zc sWof) := ⟨by decide +kernel, by decide +kernel⟩
theorem scWof : FnScope nWof ["lines", "line", "first"] (zc sWof) := ⟨rfl, rfl, rfl, by decide +kernel, rfl, by decide +kernel, by decide +kernel⟩
noncomputable def vk (cA : Addr) : Sp := fun vs H Q E => ∃ (l : Addr) (ls : List Str) (i : Nat) (f : Str), vs = [.ref l, .int (i : Int), .str f] ∧ H l = some (.lst (ls.map V.str)) ∧ (∀ x ∈ ls, x.length ≤ 10000) ∧ ls.length ≤ 100 ∧ Res (rW (ls.map spl) i f) (fun ws => ∀ p H', Same H H' → H p = none → H' p = some (.lst (ws.map V.str)) → Q (.ref p) H') (Bd cA H E)
section
variable {P : Program} {w : World} {K : PySem.W.Frag} {mg : Str → Option Value} {base : Heap}
set_option maxHeartbeats 4000000 in
theorem ok_Wof {f : Addr} {fd : FuncData} (B : Bl mg) (C : KR K mg) {cA : Addr} (N : HasC P w K mg base 1 "NoPot" cA ["self", "line", "word"] (spXi K ["line", "word"])) (xa : XA K cA) (hna : ∀ f ∈ (["line", "word"] : List Str), zW K cA f) (F : Fun K "words_of" "words_of" sWof f fd) : FnOk P w K mg base (CXE P w) 3 f fd ["lines", "line", "first"] (vk cA) := by
 refine F.okXF scWof (fun vs H Q E h => ?_) (fun cdv A outer s H vs Q E hr h LF => ?_)
 ·obtain ⟨l, ls, i, f, rfl, _⟩ := h
  rfl
 ·obtain ⟨l, ls, i, f, rfl, hl, hx, h100, k⟩ := h
  have L := LF.lands
  refine' ⟨_, ?hb, ?rd⟩
  case' hb => skip
  case' hb => refine' za ?g1 ?g2
  case' g2 => refine' za ?g3 ?g4
  case' g4 => refine' za ?g5 ?g6
  case' g6 => refine' ze ?g7
  case' g1 => refine' zx ?g8 ?g9 zp
  case g8 => exact zj X7 (pvd xW 1) (zv zf B.len PySem.boot_len (pa_1 (pvd xW 0))) (zm _)
  case' g9 => refine' ze ?g11
  case g11 => exact zK N L rfl hr (by decide) (pa_2 (pvd xW 1) zd)
  case g3 => exact zh xW 3 (zD PySem.F.plainAttrs_str PySem.F.slot_str_split PySem.F.type_str_split xO (zw ix_d (pvd xW 0) (pvd xW 1) (fun _ _ => rfl)) (pa_1 zn))
  case' g5 => refine' zx ?g12 ?g13 zp
  case g12 => exact zj vR (zw ix_d (pvd xW 3) zd (fun _ _ => rfl)) (pvd xW 2) (zm _)
  case' g13 => refine' ze ?g15
  case g15 => exact zK N L rfl hr (by decide) (pa_2 (pvd xW 1) zd)
  case g7 => exact zt (pvd xW 3)
  case rd =>
   walk_at "v"
   refine ⟨l, _, rfl, .inl (SqL.of hl), ?_⟩
   walk_at "v"
   by_cases hil : i < ls.length
   case neg =>
    refine iteP (by rw [List.length_map]; lia) ?_
    refine zC xa hna ?_ (fun Q1 Q2 hQ h => by first | exact hQ _ _ h | (obtain ⟨v, e, h⟩ := h; first | exact ⟨v, e, hQ _ _ h⟩ | (obtain ⟨v', e', h⟩ := h; first | exact ⟨v, e, v', e', hQ _ _ h⟩ | (obtain ⟨q1, q2, h⟩ := h; first | exact ⟨v, e, v', e', q1, q2, hQ _ _ h⟩ | (obtain ⟨q3, q4, h⟩ := h; exact ⟨v, e, v', e', q1, q2, q3, q4, hQ _ _ h⟩)))))
    walk_at "v"
    have e : rW (ls.map spl) i f = .error (i, 0) := by unfold rW; rw [List.getElem?_eq_none (by rw [List.length_map]; lia)]
    exact ⟨rfl, by decide, fun dx hd => k.bad e dx _ (Same.refl _) hd⟩
   have gi : ls[i]? = some ls[i] := List.getElem?_eq_getElem hil
   have gw : (ls.map spl)[i]? = some (spl ls[i]) := by rw [List.getElem?_map, gi]; rfl
   refine iteQ (by rw [List.length_map]; lia) ?_
   walk_at "v"
   refine zy (v := .str ls[i]) hl (zG (by rw [List.getElem?_map, gi]; rfl)) ?_
   walk_at "v"
   refine ⟨rfl, ?_⟩
   walk_at "v"
   refine ⟨_, _, rfl, rfl, by decide +kernel, hx _ (List.getElem_mem hil), fun p hp => ?_⟩
   have hne := wH ls[i]
   rw [show Txt.split ls[i] " " = spl ls[i] from rfl]
   generalize spl ls[i] = ws at gw hne
   match ws, hne, gw with
   | w0 :: r, _, gw =>
   have K1 : Same H (upd H p (.lst ((w0 :: r).map V.str))) := Same.new (Same.refl H) hp
   have e1 : upd H p (.lst ((w0 :: r).map V.str)) p = some (.lst ((w0 :: r).map V.str)) := zb
   generalize upd H p (.lst ((w0 :: r).map V.str)) = H1 at K1 e1 ⊢
   walk_at "v"
   refine zy (v := .str w0) e1 at0 ?_
   walk_at "v"
   refine ⟨rfl, ?_⟩
   walk_at "v"
   by_cases hf : w0 = f
   ·refine v8 (by rw [hf]) ?_
    walk_at "v"
    have e : rW (ls.map spl) i f = .ok (w0 :: r) := by unfold rW; rw [gw]; exact if_pos (by rw [hf]; rfl)
    exact k.ok e p H1 K1 hp e1
   ·refine v9 (fun z => hf (V.str.inj z)) ?_
    refine zC xa hna ?_ (fun Q1 Q2 hQ h => by first | exact hQ _ _ h | (obtain ⟨v, e, h⟩ := h; first | exact ⟨v, e, hQ _ _ h⟩ | (obtain ⟨v', e', h⟩ := h; first | exact ⟨v, e, v', e', hQ _ _ h⟩ | (obtain ⟨q1, q2, h⟩ := h; first | exact ⟨v, e, v', e', q1, q2, hQ _ _ h⟩ | (obtain ⟨q3, q4, h⟩ := h; exact ⟨v, e, v', e', q1, q2, q3, q4, hQ _ _ h⟩)))))
    walk_at "v"
    have e : rW (ls.map spl) i f = .error (i, 0) := by unfold rW; rw [gw]; exact if_neg (fun z => hf (Option.some.inj z))
    exact ⟨rfl, by decide, fun dx hd => k.bad e dx _ K1 hd⟩
end
noncomputable abbrev sNu : Stmt := top 32
noncomputable abbrev nNu : List Str := ["words", "line", "place", "low", "high", "word", "number"]
theorem nmNu : Nm nNu (zc sNu) := ⟨by decide +kernel, by decide +kernel⟩
theorem scNu : FnScope nNu ["words", "line", "place", "low", "high"] (zc sNu) := ⟨rfl, rfl, rfl, by decide +kernel, rfl, by decide +kernel, by decide +kernel⟩
noncomputable def spNu (cA : Addr) : Sp := fun vs H Q E => ∃ (l : Addr) (ws : List Str) (z i : Nat) (lo hi : Int), vs = [.ref l, .int (z : Int), .int (i : Int), .int lo, .int hi] ∧ H l = some (.lst (ws.map V.str)) ∧ i < ws.length ∧ (∀ x ∈ ws, x.length ≤ 10000) ∧ Res (rNum ws z i lo hi) (fun n => ∀ H', Same H H' → Q (.int n) H') (Bd cA H E)
section
variable {P : Program} {w : World} {K : PySem.W.Frag} {mg : Str → Option Value} {base : Heap}
set_option maxHeartbeats 4000000 in
theorem ok_Nu {f : Addr} {fd : FuncData} (B : Bl mg) (C : KR K mg) {cA : Addr} (N : HasC P w K mg base 1 "NoPot" cA ["self", "line", "word"] (spXi K ["line", "word"])) (xa : XA K cA) (hna : ∀ f ∈ (["line", "word"] : List Str), zW K cA f) (G : Has P w K mg base 1 "is_figures" ["word"] X1) (F : Fun K "read_number" "read_number" sNu f fd) : FnOk P w K mg base (CXE P w) 3 f fd ["words", "line", "place", "low", "high"] (spNu cA) := by
 refine F.okXF scNu (fun vs H Q E h => ?_) (fun cdv A outer s H vs Q E hr h LF => ?_)
 ·obtain ⟨l, ws, z, i, lo, hi, rfl, _⟩ := h
  rfl
 ·obtain ⟨l, ws, z, i, lo, hi, rfl, hl, hi', hx, k⟩ := h
  have L := LF.lands
  refine' ⟨_, ?hb, ?rd⟩
  case' hb => skip
  case' hb => refine' za ?g1 ?g2
  case' g2 => refine' za ?g3 ?g4
  case' g4 => refine' za ?g5 ?g6
  case' g6 => refine' za ?g7 ?g8
  case' g8 => refine' ze ?g9
  case g1 => exact zh nmNu 5 (zw ix_d (pvd nmNu 0) (pvd nmNu 2) (fun _ _ => rfl))
  case' g3 => refine' zx ?g10 ?g11 zp
  case g10 => exact PW.pt (xh (yR (xg (pe_f G hr (by decide) (pa_1 (pvd nmNu 5))))) (yQ (zj wV (zv xu B.len PySem.boot_len (pa_1 (pvd nmNu 5))) (pe_k C.mfig) (zm _))))
  case' g11 => refine' ze ?g13
  case g13 => exact zK N L rfl hr (by decide) (pa_2 (pvd nmNu 1) (pvd nmNu 2))
  case g5 => exact zh nmNu 6 (yA Ze B.int PyProof.Rows.boot_int (pa_1 (pvd nmNu 5)))
  case' g7 => refine' zx ?g14 ?g15 zp
  case g14 => exact yR (vw vS vS (pvd nmNu 3) (pvd nmNu 6) (pvd nmNu 4))
  case' g15 => refine' ze ?g17
  case g17 => exact zK N L rfl hr (by decide) (pa_2 (pvd nmNu 1) (pvd nmNu 2))
  case g9 => exact zt (pvd nmNu 6)
  case rd =>
   have gi : ws[i]? = some ws[i] := List.getElem?_eq_getElem hi'
   have gd : ws.getD i "" = ws[i] := by rw [List.getD_eq_getElem?_getD, gi]; rfl
   have hxl := hx _ (List.getElem_mem hi')
   unfold rNum at k
   rw [gd] at k
   generalize ws[i] = x at gi hxl k
   walk_at "v"
   refine zy (v := .str x) hl (zG (by rw [List.getElem?_map, gi]; rfl)) ?_
   walk_at "v"
   refine ⟨_, rfl, hxl, fun H1 K1 => ?_⟩
   walk_at "v"
   have bad : num1 x lo hi = none → Bd cA H E (z, i) := fun e => by rw [e] at k; exact k
   cases hf : figP x with
   | false =>
    refine iteT (iteT ?_)
    refine zC xa hna ?_ (fun Q1 Q2 hQ h => by first | exact hQ _ _ h | (obtain ⟨v, e, h⟩ := h; first | exact ⟨v, e, hQ _ _ h⟩ | (obtain ⟨v', e', h⟩ := h; first | exact ⟨v, e, v', e', hQ _ _ h⟩ | (obtain ⟨q1, q2, h⟩ := h; first | exact ⟨v, e, v', e', q1, q2, hQ _ _ h⟩ | (obtain ⟨q3, q4, h⟩ := h; exact ⟨v, e, v', e', q1, q2, q3, q4, hQ _ _ h⟩)))))
    walk_at "v"
    exact ⟨rfl, by decide, fun dx hd => bad (if_neg fun q => by rw [hf] at q; cases q.1) dx _ K1 hd⟩
   | true =>
   refine iteF ?_
   walk_at "v"
   refine ⟨_, rfl, Nat.le_of_lt (zX hxl), ?_⟩
   walk_at "v"
   by_cases h2 : x.length ≤ 2
   case neg =>
    refine iteP (by lia) ?_
    refine zC xa hna ?_ (fun Q1 Q2 hQ h => by first | exact hQ _ _ h | (obtain ⟨v, e, h⟩ := h; first | exact ⟨v, e, hQ _ _ h⟩ | (obtain ⟨v', e', h⟩ := h; first | exact ⟨v, e, v', e', hQ _ _ h⟩ | (obtain ⟨q1, q2, h⟩ := h; first | exact ⟨v, e, v', e', q1, q2, hQ _ _ h⟩ | (obtain ⟨q3, q4, h⟩ := h; exact ⟨v, e, v', e', q1, q2, q3, q4, hQ _ _ h⟩)))))
    walk_at "v"
    exact ⟨rfl, by decide, fun dx hd => bad (if_neg fun q => h2 q.2.1) dx _ K1 hd⟩
   obtain ⟨v1, v2, v3⟩ := ZM hf h2
   refine iteQ (by lia) ?_
   walk_at "v"
   refine ⟨_, _, rfl, v1, Nat.le_trans h2 (by decide), ?_⟩
   walk_at "v"
   by_cases hlo : lo ≤ val x
   case neg =>
    refine iteQ hlo ?_
    walk_at "v"
    refine iteT ?_
    refine zC xa hna ?_ (fun Q1 Q2 hQ h => by first | exact hQ _ _ h | (obtain ⟨v, e, h⟩ := h; first | exact ⟨v, e, hQ _ _ h⟩ | (obtain ⟨v', e', h⟩ := h; first | exact ⟨v, e, v', e', hQ _ _ h⟩ | (obtain ⟨q1, q2, h⟩ := h; first | exact ⟨v, e, v', e', q1, q2, hQ _ _ h⟩ | (obtain ⟨q3, q4, h⟩ := h; exact ⟨v, e, v', e', q1, q2, q3, q4, hQ _ _ h⟩)))))
    walk_at "v"
    exact ⟨rfl, by decide, fun dx hd => bad (if_neg fun q => hlo q.2.2.1) dx _ K1 hd⟩
   refine iteP hlo ?_
   walk_at "v"
   by_cases hhi : val x ≤ hi
   case neg =>
    refine v9 hhi ?_
    refine zC xa hna ?_ (fun Q1 Q2 hQ h => by first | exact hQ _ _ h | (obtain ⟨v, e, h⟩ := h; first | exact ⟨v, e, hQ _ _ h⟩ | (obtain ⟨v', e', h⟩ := h; first | exact ⟨v, e, v', e', hQ _ _ h⟩ | (obtain ⟨q1, q2, h⟩ := h; first | exact ⟨v, e, v', e', q1, q2, hQ _ _ h⟩ | (obtain ⟨q3, q4, h⟩ := h; exact ⟨v, e, v', e', q1, q2, q3, q4, hQ _ _ h⟩)))))
    walk_at "v"
    exact ⟨rfl, by decide, fun dx hd => bad (if_neg fun q => hhi q.2.2.2) dx _ K1 hd⟩
   refine v8 hhi ?_
   walk_at "v"
   have e : num1 x lo hi = some (val x) := if_pos ⟨hf, h2, hlo, hhi⟩
   rw [e] at k
   exact k _ K1
end
noncomputable abbrev sSo : Stmt := top 31
noncomputable abbrev nSo : List Str := ["words", "line", "place", "sorts"]
theorem nmSo : Nm nSo (zc sSo) := ⟨by decide +kernel, by decide +kernel⟩
theorem scSo : FnScope nSo ["words", "line", "place", "sorts"] (zc sSo) := ⟨rfl, rfl, rfl, by decide +kernel, rfl, by decide +kernel, by decide +kernel⟩
noncomputable def spSo (cA : Addr) : Sp := fun vs H Q E => ∃ (l : Addr) (ws : List Str) (z i : Nat) (ps : Addr) (nm : List Str), vs = [.ref l, .int (z : Int), .int (i : Int), .ref ps] ∧ H l = some (.lst (ws.map V.str)) ∧ i < ws.length ∧ TupF H ps (nm.map V.str) ∧ Res (zS ws z i nm) (fun q => ∀ H', Same H H' → Q (.int (q : Int)) H') (Bd cA H E)
section
variable {P : Program} {w : World} {K : PySem.W.Frag} {mg : Str → Option Value} {base : Heap}
set_option maxHeartbeats 4000000 in
theorem ok_So {f : Addr} {fd : FuncData} (B : Bl mg) (C : KR K mg) {cA : Addr} (N : HasC P w K mg base 1 "NoPot" cA ["self", "line", "word"] (spXi K ["line", "word"])) (xa : XA K cA) (hna : ∀ f ∈ (["line", "word"] : List Str), zW K cA f) (F : Fun K "read_sort" "read_sort" sSo f fd) : FnOk P w K mg base (CXE P w) 3 f fd ["words", "line", "place", "sorts"] (spSo cA) := by
 refine F.okXF scSo (fun vs H Q E h => ?_) (fun cdv A outer s H vs Q E hr h LF => ?_)
 ·obtain ⟨l, ws, z, i, ps, nm, rfl, _⟩ := h
  rfl
 ·obtain ⟨l, ws, z, i, ps, nm, rfl, hl, hi', hp, k⟩ := h
  have L := LF.lands
  refine' ⟨_, ?hb, ?rd⟩
  case' hb => skip
  case' hb => refine' za ?g1 ?g2
  case' g2 => refine' ze ?g3
  case' g1 => refine' zx ?g4 ?g5 zp
  case g4 => exact zj xp (zw ix_d (pvd nmSo 0) (pvd nmSo 2) (fun _ _ => rfl)) (pvd nmSo 3) (by with_unfolding_all rfl)
  case' g5 => refine' ze ?g7
  case g7 => exact zK N L rfl hr (by decide) (pa_2 (pvd nmSo 1) (pvd nmSo 2))
  case g3 => exact zt (pe_index (pvd nmSo 3) (pa_1 (zw ix_d (pvd nmSo 0) (pvd nmSo 2) (fun _ _ => rfl))))
  case rd =>
   have gi : ws[i]? = some ws[i] := List.getElem?_eq_getElem hi'
   have gd : ws.getD i "" = ws[i] := by rw [List.getD_eq_getElem?_getD, gi]; rfl
   unfold zS at k
   rw [gd] at k
   generalize ws[i] = x at gi k
   have at' : atI (ws.map V.str) (i : Int) = some (.str x) := zG (by rw [List.getElem?_map, gi]; rfl)
   walk_at "v"
   refine zy (v := .str x) hl at' ?_
   walk_at "v"
   refine ⟨ps, _, rfl, .inr hp.sq, rfl, zZ _, ?_⟩
   rw [yh]
   cases hq : plc x nm with
   | none =>
    rw [decide_eq_false (xi hq)]
    walk_at "v"
    refine iteT ?_
    refine zC xa hna ?_ (fun Q1 Q2 hQ h => by first | exact hQ _ _ h | (obtain ⟨v, e, h⟩ := h; first | exact ⟨v, e, hQ _ _ h⟩ | (obtain ⟨v', e', h⟩ := h; first | exact ⟨v, e, v', e', hQ _ _ h⟩ | (obtain ⟨q1, q2, h⟩ := h; first | exact ⟨v, e, v', e', q1, q2, hQ _ _ h⟩ | (obtain ⟨q3, q4, h⟩ := h; exact ⟨v, e, v', e', q1, q2, q3, q4, hQ _ _ h⟩)))))
    walk_at "v"
    rw [hq] at k
    exact ⟨rfl, by decide, fun dx hd => k dx _ (Same.refl _) hd⟩
   | some q =>
    obtain ⟨hk, hit, hno⟩ := nm_first hq
    rw [hq] at k
    rw [decide_eq_true (ZB hq)]
    walk_at "v"
    refine iteF ?_
    walk_at "v"
    refine w_index ?_
    walk_at "v"
    refine ⟨⟨ps, _, rfl, hp⟩, ?_⟩
    walk_at "v"
    refine zy (v := .str x) hl at' ?_
    walk_at "v"
    exact ⟨ps, _, .str x, q, hk, rfl, rfl, hp, rfl, flat_mem _, hit, hno, k _ (Same.refl _)⟩
end
end K04
namespace EL
open PySem L2
theorem w_while {c : TT} {tb : TS} {D : Ends} {σ : St} {H : Hp} (h : ∃ W : Nat → St → Hp → Prop, (∃ m, W m σ H) ∧ ∀ m σ H, W m σ H → c σ H fun b H1 => if b = true then ∃ N : St → Hp → Prop, (∀ σ' H', N σ' H' → ∃ m', m' < m ∧ W m' σ' H') ∧ tb { D with nx := N, ct := N, bk := D.nx } σ H1 else D.nx σ H1) : XN c tb D σ H := h
theorem w_isN {ta : TE} {σ : St} {H : Hp} {Q : VK} (h : ta σ H fun x H1 => Q (.bl (decide (x = .non))) H1) : tIsN ta σ H Q := h
theorem seqIndex_nat {p n : Nat} (h : p < n) : seqIndex? (p : Int) n = some p := by
 have := PySem.StrLaws.seqIndex_nonneg (i := (p : Int)) (n := n) (by lia) (by lia)
 rw [Int.toNat_natCast] at this
 exact this
theorem cut_to {xs : List V} {k : Nat} (h : k ≤ xs.length) : cutV xs none (some (k : Int)) = xs.take k := by
 unfold cutV
 rw [HT.sIx_none, HT.sIx_nat, List.drop_zero, Nat.sub_zero, Nat.min_eq_left h]
theorem cut_from {xs : List V} {k : Nat} (h : k ≤ xs.length) : cutV xs (some (k : Int)) none = xs.drop k := by
 unfold cutV
 rw [HT.sIx_none, HT.sIx_nat, Nat.min_eq_left h]
 exact List.take_of_length_le (by rw [List.length_drop]; exact Nat.le_refl _)
end EL
namespace K04
open PySem L2 G2 PT
theorem nob {H : Hp} {a : Addr} (o : HO) (h : H a = none) : ∃ H2, upd H a o = H2 ∧ Same H H2 ∧ H2 a = some o := ⟨_, rfl, Same.new (Same.refl _) h, zb⟩
theorem nop {H G : Hp} {a : Addr} (o : HO) (M : Same H G) (h : H a = none) : ∃ H2, upd G a o = H2 ∧ Same H H2 ∧ H2 a = some o := ⟨_, rfl, M.put h, zb⟩
local macro_rules | `(tactic| walk_at "v") => `(tactic| repeat (with_reducible first
  | refine YR ?_ | refine ZX ?_ | refine zJ ?_ | refine w_op ?_ | refine ve rfl ?_ | refine w_c ?_ | refine Xx ?_ | refine ZW ?_ | refine XE ?_ | refine Yt ?_ | refine w_tb ?_ | refine w_bl ?_ | refine w_not ?_ | refine Xw ?_ | refine w_retN ?_
  | refine Xz ?_ | refine Yx ?_ | refine XB ?_ | refine Xv ?_ | refine w_cb ?_ | refine Yy ?_ | refine wG ?_ | refine XJ ?_ | refine w_or ?_ | refine wF ?_ | refine ZY ?_ | refine Ys ?_ | refine Zp ?_ | refine Zo ?_ | refine Yv ?_ | refine Yu ?_ | refine w_forL ?_ | refine Yw ?_ | refine w_bm ?_ | refine w_compZ ?_ | refine w_compL ?_ | refine YT ?_ | refine w_sl ?_ | refine ZV ?_ | refine Xy ?_ | refine Wr ?_ | refine iteT ?_ | refine iteF ?_))
noncomputable abbrev sLin : Stmt := top 41
noncomputable abbrev nLin : List Str := ["_law_word_here"]
theorem Wa : Nm nLin (zc sLin) := ⟨by decide +kernel, by decide +kernel⟩
theorem scLin : FnScope nLin ["_law_word_here"] (zc sLin) := ⟨rfl, rfl, rfl, by decide +kernel, rfl, by decide +kernel, by decide +kernel⟩
noncomputable def qLina (s : Stmt) : Scope := match s with
 | .Return (some (.Compare (.ListComp _ _ sc _) _ _ _)) _ => sc
 | _ => { kind := .function, names := [], isGenerator := false, isCoroutine := false }
noncomputable abbrev cLina : Scope := qLina ((zk sLin).getD 1 (.Pass ⟨0, 0, 0, 0⟩))
theorem bsLina : BScope (zc sLin) cLina ["_law_sign"] [] [] := { okind := by decide +kernel, kind := by decide +kernel, nocell := by decide +kernel, names := by decide +kernel, fr := by decide +kernel, ff := by decide +kernel, nd := by decide +kernel, vis := by decide +kernel, loc := by decide +kernel, gl := by decide +kernel }
theorem filt_let {ys : List Str} : ((ys.filter fun y => !inL y).map V.str).isEmpty = ys.all inL := by
 induction ys with
 | nil => rfl
 | cons y ys ih =>
  rw [List.filter_cons, List.all_cons]
  cases h : inL y with
  | true => simpa using ih
  | false => rfl
noncomputable def X0 : Sp := fun vs H Q _ => ∃ x : Str, vs = [.str x] ∧ x.length ≤ 10000 ∧ ∀ H', Same H H' → Q (.bl (zO x)) H'
section
variable {P : Program} {w : World} {K : PySem.W.Frag} {mg : Str → Option Value} {base : Heap}
set_option maxHeartbeats 4000000 in
theorem ok_Lin {f : Addr} {fd : FuncData} (B : Bl mg) (F : Fun K "_law_is_name" "_law_is_name" sLin f fd) : FnOk P w K mg base CX0 1 f fd ["_law_word_here"] X0 := by
 refine F.ok scLin (fun vs H Q E h => ?_) (fun cdv A outer s H vs Q E hr h => ?_)
 ·obtain ⟨x, rfl, _⟩ := h
  rfl
 ·obtain ⟨x, rfl, hl, k⟩ := h
  refine' ⟨_, ?hb, ?rd⟩
  case' hb => skip
  case' hb => refine' za ?g1 ?g2
  case' g2 => refine' ze ?g3
  case' g1 => refine' zx ?g4 ?g5 zp
  case g4 => exact PW.pt (xh (zj yd (pvd Wa 0) (zM (pa_c zn (pa_c zn (pa_c zn (pa_c zn (pa_2 zn zn)))))) (by with_unfolding_all rfl)) (yQ (yR (vw wy wy zd (zv xu B.len PySem.boot_len (pa_1 (pvd Wa 0))) zd))))
  case' g5 => refine' ze ?g7
  case g7 => exact zt wU
  case' g3 => refine' zt ?g8
  case' g8 => refine' yj (op_eqE hr) ?g9 (zM zz) (zm _)
  case' g9 => refine' yJ (ix := []) bsLina.toCScope rfl rfl ?g10 ?g11 ?g12 ?g13
  case g10 => exact X3 (pvd Wa 0)
  case g11 => exact fun _ _ _ _ _ _ => pgb bsLina 0
  case g12 => exact fun _ _ _ _ _ _ => pts_one (zj op_notIn_str (pvb bsLina 0) zn (by with_unfolding_all rfl))
  case g13 => exact fun _ _ _ _ _ _ => pvb bsLina 0
  case rd =>
   walk_at "v"
   refine ⟨sz6, fun p hp => ?_⟩
   have K1 : Same H (upd H p (.lst [.str "sorts", .str "begin", .str "in", .str "out", .str "rule", .str "to"])) := Same.new (Same.refl _) hp
   have e1 : upd H p (.lst [.str "sorts", .str "begin", .str "in", .str "out", .str "rule", .str "to"]) p = some (.lst (noNames.map V.str)) := zb
   generalize upd H p (.lst [.str "sorts", .str "begin", .str "in", .str "out", .str "rule", .str "to"]) = H1 at K1 e1 ⊢
   refine ⟨p, _, rfl, .inl (SqL.of e1), rfl, zZ _, ?_⟩
   walk_at "v"
   rw [yh]
   by_cases no : x ∈ noNames
   ·rw [decide_eq_true no]
    refine iteT ?_
    walk_at "v"
    have e : zO x = false := by unfold zO; rw [decide_eq_true no]; simp
    rw [← e]
    exact k _ K1
   rw [decide_eq_false no]
   refine iteF ?_
   walk_at "v"
   refine ⟨_, rfl, Nat.le_of_lt (zX hl), ?_⟩
   walk_at "v"
   by_cases l1 : 1 ≤ x.length
   case neg =>
    refine iteQ (by lia) ?_
    walk_at "v"
    refine iteT ?_
    walk_at "v"
    have e : zO x = false := by unfold zO; rw [decide_eq_false l1, Bool.false_and]
    rw [← e]
    exact k _ K1
   refine iteP (by lia) ?_
   walk_at "v"
   by_cases l8 : x.length ≤ 8
   case neg =>
    refine v9 (by lia) ?_
    walk_at "v"
    have e : zO x = false := by unfold zO; rw [decide_eq_false l8, Bool.false_and, Bool.and_false]
    rw [← e]
    exact k _ K1
   refine v8 (by lia) ?_
   walk_at "v"
   refine Zn ?_
   walk_at "v"
   refine ⟨x, rfl, fun D hD => ?_⟩
   have hgl : (sg x).length ≤ 10000 := by rw [Zt]; exact hl
   refine YK (ρ := []) (fun i ys H' => ys = (((sg x).take i).filter fun y => !inL y).map V.str ∧ Same H1 H') ⟨rfl, Same.new (Same.refl H1) hD⟩ ?_ ?_
   ·rintro i y ys H' hy ⟨rfl, K'⟩ hDy R S kR kS
    walk_at "v"
    refine ⟨y, _, rfl, rfl, ?_⟩
    refine ⟨_, rfl, ?_⟩
    show if (!inL y) = true then _ else _
    cases hf : inL y with
    | false =>
     refine iteT ?_
     walk_at "v"
     refine kR _ _ hDy (by rw [List.length_map]; exact zX (Nat.le_trans (List.length_filter_le _ _) (by rw [List.length_take]; lia))) ⟨?_, K'.put hD⟩
     rw [List.take_add_one, hy, List.filter_append, List.map_append]
     show _ = _ ++ List.map V.str (List.filter _ [y])
     rw [List.filter_cons, hf]
     rfl
    | true =>
     refine iteF ?_
     refine kS _ hDy ⟨?_, K'⟩
     rw [List.take_add_one, hy, List.filter_append, List.map_append]
     show _ = _ ++ List.map V.str (List.filter _ [y])
     rw [List.filter_cons, hf]
     simp
   rintro ys H2 ⟨rfl, K2⟩ e2
   rw [List.take_of_length_le (by lia)] at e2
   walk_at "v"
   refine ⟨sz0, fun z hz => ?_⟩
   have K3 : Same H2 (upd H2 z (.lst [])) := Same.new (Same.refl H2) hz
   have e3 : upd H2 z (.lst []) z = some (.lst []) := zb
   generalize upd H2 z (.lst []) = H3 at K3 e3 ⊢
   refine ⟨D, z, _, rfl, rfl, K3 _ _ e2, e3, ?_⟩
   rw [filt_let]
   have e : zO x = (sg x).all inL := by unfold zO; rw [decide_eq_true l1, decide_eq_true l8, decide_eq_false no]; simp
   rw [← e]
   exact k _ ((K1.trans K2).trans K3)
end
noncomputable abbrev sLnu : Stmt := top 42
noncomputable abbrev nLnu : List Str := ["_law_word_here", "_law_least", "_law_most"]
theorem X9 : Nm nLnu (zc sLnu) := ⟨by decide +kernel, by decide +kernel⟩
theorem scLnu : FnScope nLnu ["_law_word_here", "_law_least", "_law_most"] (zc sLnu) := ⟨rfl, rfl, rfl, by decide +kernel, rfl, by decide +kernel, by decide +kernel⟩
noncomputable def qLnua (s : Stmt) : Scope := match s with
 | .Return (some (.Compare _ _ [(.ListComp _ _ sc _)] _)) _ => sc
 | _ => { kind := .function, names := [], isGenerator := false, isCoroutine := false }
noncomputable abbrev cLnua : Scope := qLnua ((zk sLnu).getD 0 (.Pass ⟨0, 0, 0, 0⟩))
theorem bsLnua : BScope (zc sLnu) cLnua ["_law_number_here"] [] ["str"] := { okind := by decide +kernel, kind := by decide +kernel, nocell := by decide +kernel, names := by decide +kernel, fr := by decide +kernel, ff := by decide +kernel, nd := by decide +kernel, vis := by decide +kernel, loc := by decide +kernel, gl := by decide +kernel }
noncomputable def Y2 : Sp := fun vs H Q _ => ∃ (x : Str) (lo n : Nat), vs = [.str x, .int (lo : Int), .int (((lo + n : Nat) : Int) - 1)] ∧ lo + n ≤ 100 ∧ ∀ H', Same H H' → Q (.bl (decide (x ∈ nums lo n))) H'
section
variable {P : Program} {w : World} {K : PySem.W.Frag} {mg : Str → Option Value} {base : Heap}
set_option maxHeartbeats 4000000 in
theorem ok_Lnu {f : Addr} {fd : FuncData} (B : Bl mg) (F : Fun K "_law_number" "_law_number" sLnu f fd) : FnOk P w K mg base CX0 1 f fd ["_law_word_here", "_law_least", "_law_most"] Y2 := by
 refine F.ok scLnu (fun vs H Q E h => ?_) (fun cdv A outer s H vs Q E hr h => ?_)
 ·obtain ⟨x, lo, n, rfl, _⟩ := h
  rfl
 ·obtain ⟨x, lo, n, rfl, hn, k⟩ := h
  refine' ⟨_, ?hb, ?rd⟩
  case' hb => skip
  case' hb => refine' ze ?g1
  case' g1 => refine' zt ?g2
  case' g2 => refine' yj yd (pvd X9 0) ?g3 (by with_unfolding_all rfl)
  case' g3 => refine' yJ (ix := []) bsLnua.toCScope rfl rfl ?g4 ?g5 ?g6 ?g7
  case g4 => exact vP B.range (pa_2 (pvd X9 1) (zo zA (pvd X9 2) zd))
  case g5 => exact fun _ _ _ _ _ _ => pgb bsLnua 0
  case g6 => exact fun _ _ _ _ _ _ => yp
  case g7 => exact fun _ _ _ _ _ _ => yA wR B.str PyProof.Rows.boot_str (pa_1 (pvb bsLnua 0)) (bsLnua.g 0)
  case rd =>
   walk_at "v"
   refine w_compR2 ?_
   walk_at "v"
   refine ⟨_, _, rfl, by constructor <;> lia, fun D hD => ?_⟩
   rw [show ((((lo + n : Nat) : Int) - 1 + 1) - (lo : Int)).toNat = n by lia]
   refine cg_rng (lo := (lo : Int)) (n := n) (fun j => V.str (fT ((lo + j : Nat) : Int))) (by lia) hD (fun j hj H' K' R kR => ?_) (fun H2 K2 e2 => ?_)
   ·walk_at "v"
    rw [show ((lo : Int) + (j : Int)) = ((lo + j : Nat) : Int) by lia]
    exact ⟨_, rfl, (vF (by lia) (by lia)).lg, kR _ (Same.refl _)⟩
   have e2' : H2 D = some (.lst ((nums lo n).map V.str)) := by rw [e2]; unfold nums; rw [List.map_map]; rfl
   walk_at "v"
   refine ⟨D, _, rfl, .inl (SqL.of e2'), rfl, zZ _, ?_⟩
   rw [yh]
   exact k _ K2
end
noncomputable abbrev sSf : Stmt := top 43
noncomputable abbrev nSf : List Str := ["_law_words", "_law_at", "_law_sorts", "_law_last_word", "_law_side_here", "_law_left"]
theorem nmSf : Nm nSf (zc sSf) := ⟨by decide +kernel, by decide +kernel⟩
theorem scSf : FnScope nSf ["_law_words", "_law_at", "_law_sorts", "_law_last_word"] (zc sSf) := ⟨rfl, rfl, rfl, by decide +kernel, rfl, by decide +kernel, by decide +kernel⟩
noncomputable def oV : Option Nat → V
 | none => .non
 | some n => .int (n : Int)
noncomputable def vZ (to : Bool) : V := if to = true then .str "to" else .non
theorem scal_last (x : Str) (to : Bool) : scal (.str x) (vZ to) = true := by cases to <;> rfl
theorem vm (to : Bool) : scal (vZ to) (.str "to") = true := by cases to <;> rfl
theorem dec_last (x : Str) (to : Bool) : decide (V.str x = vZ to) = decide (to = true ∧ x = "to") := by
 cases to
 ·exact (decide_eq_false (fun h => nomatch h)).trans (decide_eq_false (fun h => nomatch h.1)).symm
 ·rw [Bool.eq_iff_iff, decide_eq_true_eq, decide_eq_true_eq]
  exact ⟨fun h => ⟨rfl, V.str.inj h⟩, fun h => by rw [h.2]; rfl⟩
theorem Zc (to : Bool) : decide (vZ to = V.str "to") = to := by
 cases to
 ·exact decide_eq_false (fun h => nomatch h)
 ·exact decide_eq_true rfl
theorem Zm {ta : TE} {σ : St} {H : Hp} {Q : VK} (h : ta σ H fun x H1 => Q (.bl (!decide (x = .non))) H1) : Wv ta σ H Q := h
theorem or_dup {c d : TT} {σ : St} {H : Hp} {QB : Bool → Hp → Prop} (b : Bool) (G : Hp → Prop) (h1 : ∀ H2, G H2 → QB b H2) (h2 : (∀ H2, G H2 → QB b H2) → tOr c d σ H QB) : tOr c d σ H QB := h2 h1
theorem ZS {c d : TT} {σ : St} {H : Hp} {QB : Bool → Hp → Prop} (b : Bool) (G : Hp → Prop) (h1 : ∀ H2, G H2 → QB b H2) (h2 : (∀ H2, G H2 → QB b H2) → tAnd c d σ H QB) : tAnd c d σ H QB := h2 h1
theorem WM (n : Nat) : (List.replicate n [V.int 0]).flatten = (List.replicate n (0 : Int)).map V.int := by
 rw [flat_rep, List.map_replicate]
theorem xJ {c A B : Prop} [Decidable c] (hc : c) (h : A) : if decide c = true then A else B := by rw [if_pos (decide_eq_true hc)]; exact h
theorem xK {c A B : Prop} [Decidable c] (hc : ¬ c) (h : B) : if decide c = true then A else B := by rw [if_neg (by rw [decide_eq_false hc]; exact Bool.false_ne_true)]; exact h
theorem plc_drop {nm : List Str} {x : Str} {k q q' : Nat} (nd : nm.Nodup) (hq : plc x nm = some q) (hq' : plc x (nm.drop k) = some q') : k + q' = q := by
 have h1 := (zI hq').1
 rw [List.getElem?_drop] at h1
 obtain ⟨a, b⟩ := List.getElem?_eq_some_iff.mp h1
 obtain ⟨c, d⟩ := List.getElem?_eq_some_iff.mp (zI hq).1
 exact (List.getElem_inj nd (h₀ := a) (h₁ := c)).mp (b.trans d.symm)
theorem num1_val {x : Str} {lo hi c : Int} (h : num1 x lo hi = some c) : PySem.intText? x = some (val x) ∧ x.length ≤ 2 ∧ val x = c := by
 unfold num1 at h
 by_cases q : figP x = true ∧ x.length ≤ 2 ∧ lo ≤ val x ∧ val x ≤ hi
 ·rw [if_pos q] at h
  exact ⟨(ZM q.1 q.2.1).1, q.2.1, Option.some.inj h⟩
 ·rw [if_neg q] at h; cases h
noncomputable abbrev SfN (H : Hp) (l ls : Addr) (to : Bool) (ws nm : List Str) (r0 : Option Nat × Nat × List Int) (m : Nat) : St → Hp → Prop := fun σ H' => ∃ (fu i : Nat) (cs : List Int) (kk : Nat) (sd lf : Addr), m = fu ∧ σ = [some (.ref l), some (.int (i : Int)), some (.ref ls), some (vZ to), some (.ref sd), some (.ref lf)] ∧ Same H H' ∧ H sd = none ∧ H' sd = some (.lst (cs.map V.int)) ∧ H' lf = some (.lst ((nm.drop kk).map V.str)) ∧ lf ≠ sd ∧ cs.length = nm.length ∧ 1 ≤ fu ∧ ws.length + 1 ≤ i + fu ∧ sfGo ws nm to fu i cs kk = r0
noncomputable def spSf : Sp := fun vs H Q _ => ∃ (l ls : Addr) (ws nm : List Str) (i : Nat) (to : Bool), vs = [.ref l, .int (i : Int), .ref ls, vZ to] ∧ H l = some (.lst (ws.map V.str)) ∧ H ls = some (.lst (nm.map V.str)) ∧ (∀ x ∈ ws, x.length ≤ 10000) ∧ ws.length ≤ 10001 ∧ nm.Nodup ∧ nm.length ≤ 8 ∧
 ∀ p q H', Same H H' → H' p = some (.tup [oV (sfGo ws nm to (ws.length + 1) i (zr nm) 0).1, .int ((sfGo ws nm to (ws.length + 1) i (zr nm) 0).2.1 : Int), .ref q]) → H' q = some (.lst ((sfGo ws nm to (ws.length + 1) i (zr nm) 0).2.2.map V.int)) → Q (.ref p) H'
section
variable {P : Program} {w : World} {K : PySem.W.Frag} {mg : Str → Option Value} {base : Heap}
set_option maxHeartbeats 4000000 in
theorem ok_Sf {f : Addr} {fd : FuncData} (B : Bl mg) (N : Has P w K mg base 1 "_law_number" ["_law_word_here", "_law_least", "_law_most"] Y2) (F : Fun K "_law_side_fault" "_law_side_fault" sSf f fd) : FnOk P w K mg base CX0 2 f fd ["_law_words", "_law_at", "_law_sorts", "_law_last_word"] spSf := by
 refine F.ok scSf (fun vs H Q E h => ?_) (fun cdv A outer s H vs Q E hr h => ?_)
 ·obtain ⟨l, ls, ws, nm, i0, to, rfl, _⟩ := h
  rfl
 ·obtain ⟨l, ls, ws, nm, i0, to, rfl, hl, hls, hx, hwl, nd, n8, k⟩ := h
  refine' ⟨_, ?hb, ?rd⟩
  case' hb => skip
  case' hb => refine' za ?g1 ?g2
  case' g2 => refine' za ?g3 ?g4
  case' g4 => refine' za ?g5 ?g6
  case' g6 => refine' za ?g7 ?g8
  case' g8 => refine' ze ?g9
  case g1 => exact zh nmSf 4 (zo X6 (zM (pa_1 zd)) (zv zf B.len PySem.boot_len (pa_1 (pvd nmSf 2))))
  case g3 => exact zh nmSf 5 (pvd nmSf 2)
  case' g5 => refine' ps_while PassesOwn.never ?g10 ?g11
  case g10 => exact PW.pt (wc (zj wy (pvd nmSf 1) (zv zf B.len PySem.boot_len (pa_1 (pvd nmSf 0))) (zm _)) (xn (PW.pt (xh (zj vR (zw ix_d (pvd nmSf 0) (pvd nmSf 1) (fun _ _ => rfl)) (pvd nmSf 3) (zm _)) (yQ (zj (ZF hr) (pvd nmSf 4) (zo X6 (zM (pa_1 zd)) (zv zf B.len PySem.boot_len (pa_1 (pvd nmSf 2)))) (zm _)))))))
  case' g11 => refine' za ?g12 ?g13
  case' g13 => refine' za ?g14 ?g15
  case' g15 => refine' za ?g16 ?g17
  case' g17 => refine' za ?g18 ?g19
  case' g19 => refine' ze ?g20
  case' g12 => refine' zx ?g21 ?g22 zp
  case g21 => exact yR (xg (pe_f N hr (by decide) (pa_c (zw ix_d (pvd nmSf 0) (pvd nmSf 1) (fun _ _ => rfl)) (pa_2 zd zd))))
  case' g22 => refine' ze ?g24
  case g24 => exact zt (yt (pa_c (pvd nmSf 1) (pa_2 (pvd nmSf 1) (pvd nmSf 4))))
  case' g14 => refine' zx ?g25 ?g26 zp
  case g25 => exact PW.pt (xh (zj zR (zo zA (pvd nmSf 1) zd) (zv zf B.len PySem.boot_len (pa_1 (pvd nmSf 0))) (zm _)) (yQ (zj op_notIn_seq0 (zw ix_d (pvd nmSf 0) (zo zA (pvd nmSf 1) zd) (fun _ _ => rfl)) (pvd nmSf 5) (by with_unfolding_all rfl))))
  case' g26 => refine' ze ?g28
  case g28 => exact zt (yt (pa_c (zo zA (pvd nmSf 1) zd) (pa_2 (pvd nmSf 1) (pvd nmSf 4))))
  case g16 => exact ym (yA Ze B.int PyProof.Rows.boot_int (pa_1 (zw ix_d (pvd nmSf 0) (pvd nmSf 1) (fun _ _ => rfl)))) (yy (pvd nmSf 4) (zD PySem.F.plainAttrs_list PySem.F.slot_list_index PySem.F.type_list_index wK (pvd nmSf 2) (pa_1 (zw ix_d (pvd nmSf 0) (zo zA (pvd nmSf 1) zd) (fun _ _ => rfl)))) yZ)
  case g18 => exact zh nmSf 5 (yz yu (pvd nmSf 5) (yF (zo zA (zD PySem.F.plainAttrs_list PySem.F.slot_list_index PySem.F.type_list_index wK (pvd nmSf 5) (pa_1 (zw ix_d (pvd nmSf 0) (zo zA (pvd nmSf 1) zd) (fun _ _ => rfl)))) zd)) y0)
  case g20 => exact zh nmSf 1 (zo zA (pvd nmSf 1) zd)
  case' g7 => refine' zx ?g29 ?g30 zp
  case g29 => exact PW.pt (wc (zj zR (pvd nmSf 1) (zv zf B.len PySem.boot_len (pa_1 (pvd nmSf 0))) (zm _)) (xn (zj zR (pvd nmSf 3) zn (zm _))))
  case' g30 => refine' ze ?g32
  case g32 => exact zt (yt (pa_c (pvd nmSf 1) (pa_2 (pvd nmSf 1) (pvd nmSf 4))))
  case g9 => exact zt (yt (pa_c wJ (pa_2 (zo zA (pvd nmSf 1) (yA Zf B.int PyProof.Rows.boot_int (pa_1 (yj zR (pvd nmSf 3) zn (zm _))))) (pvd nmSf 4))))
  case rd =>
   generalize hr0 : sfGo ws nm to (ws.length + 1) i0 (zr nm) 0 = r0 at k
   walk_at "v"
   refine ⟨sz1, fun q0 hq0 => ?_⟩
   obtain ⟨H1, q, K1, eq0⟩ := nob (.lst [.int 0]) hq0; rw [q]; clear q
   walk_at "v"
   refine ⟨ls, _, rfl, .inl (SqL.of (K1 _ _ hls)), ?_⟩
   rw [List.length_map]
   refine ⟨q0, _, _, rfl, rfl, eq0, by lia, by lia, Nat.le_of_lt (zB (by rw [Int.toNat_natCast]; simp only [List.length_cons, List.length_nil]; lia)), fun sd0 hsd0 => ?_⟩
   rw [Int.toNat_natCast, WM]
   have K2 : Same H (upd H1 sd0 (.lst ((List.replicate nm.length (0 : Int)).map V.int))) := K1.new hsd0
   have nsd0 : H sd0 = none := K1.free hsd0
   have esd0 : upd H1 sd0 (.lst ((List.replicate nm.length (0 : Int)).map V.int)) sd0 = some (.lst ((zr nm).map V.int)) := zb
   generalize upd H1 sd0 (.lst ((List.replicate nm.length (0 : Int)).map V.int)) = H2 at K2 esd0 ⊢
   walk_at "v"
   refine EL.w_while ⟨SfN H l ls to ws nm r0, ⟨_, ws.length + 1, i0, zr nm, 0, sd0, ls, rfl, rfl, K2, nsd0, esd0, K2 _ _ hls, (fun z => by rw [z, nsd0] at hls; cases hls), List.length_replicate, by lia, by lia, hr0⟩, ?_⟩
   rintro m σ H1' ⟨fu, i, cs, kk, sd, lf, hmu, rfl, K1, nsd, esd, elf, nlf, hcl, hF, hFi, hgo⟩
   subst hmu
   obtain ⟨fv, rfl⟩ : ∃ fv, m = fv + 1 := ⟨m - 1, by lia⟩
   with_reducible refine ZS false (fun H2 => Same H1' H2 ∧ ¬ sfT ws to nm.length i cs) (fun H2' hG => ?_) (fun he => ?_)
   case _ =>
    obtain ⟨K2, hT⟩ := hG
    rw [yC, if_neg hT] at hgo
    refine iteF ?_
    walk_at "v"
    refine ⟨l, _, rfl, .inl (SqL.of (K2 _ _ (K1 _ _ hl))), ?_⟩
    walk_at "v"
    refine ⟨rfl, ?_⟩
    walk_at "v"
    rw [List.length_map]
    have sd3 := K2 _ _ esd
    by_cases heq : i = ws.length
    ·refine xJ (by rw [heq]) ?_
     walk_at "v"
     refine ⟨vm _, ?_⟩
     walk_at "v"
     rw [Zc]
     cases hto2 : to with
     | true =>
      rw [if_pos ⟨heq, hto2⟩] at hgo
      refine iteT ?_
      walk_at "v"
      refine ⟨sz3, fun p hp => ?_⟩
      refine k p sd _ ((K1.trans K2).new hp) ?_ ?_
      ·rw [← hgo]; exact zb
      ·rw [← hgo, zg (zi sd3 hp)]; exact sd3
     | false =>
      rw [if_neg (fun y => by rw [hto2] at y; cases y.2), if_neg (by rw [hto2]; exact Bool.false_ne_true)] at hgo
      refine iteF ?_
      walk_at "v"
      refine ⟨rfl, ?_⟩
      refine .inr ⟨_, rfl, ?_⟩
      walk_at "v"
      refine ⟨sz3, fun p hp => ?_⟩
      refine k p sd _ ((K1.trans K2).new hp) ?_ ?_
      ·rw [← hgo]; exact zb
      ·rw [← hgo, zg (zi sd3 hp)]; exact sd3
    ·refine xK (fun z => heq (by have z := V.int.inj z; lia)) ?_
     rw [if_neg (fun y => heq y.1)] at hgo
     walk_at "v"
     refine ⟨vm _, ?_⟩
     walk_at "v"
     rw [Zc]
     refine .inr ⟨_, rfl, ?_⟩
     walk_at "v"
     refine ⟨sz3, fun p hp => ?_⟩
     refine k p sd _ ((K1.trans K2).new hp) ?_ ?_
     ·rw [← hgo, zb]
      cases to <;> rfl
     ·rw [← hgo, zg (zi sd3 hp)]; exact sd3
   walk_at "v"
   refine ⟨l, _, rfl, .inl (SqL.of (K1 _ _ hl)), ?_⟩
   walk_at "v"
   rw [List.length_map]
   by_cases hi : i < ws.length
   case neg =>
    refine iteQ (by lia) ?_
    exact he _ ⟨Same.refl _, fun z => hi z.1⟩
   have gi : ws[i]? = some (ws.getD i "") := by rw [List.getD_eq_getElem?_getD, List.getElem?_eq_getElem hi]; rfl
   have ai : atI (ws.map V.str) (i : Int) = some (.str (ws.getD i "")) := zG (by rw [List.getElem?_map, gi]; rfl)
   refine iteP (by lia) ?_
   with_reducible refine or_dup true (fun H2 => Same H1' H2 ∧ sfT ws to nm.length i cs) (fun H2' hG => ?_) (fun hb => ?_)
   case _ =>
    obtain ⟨K2, hT⟩ := hG
    refine iteT ?_
    refine ⟨SfN H l ls to ws nm r0 fv, fun σ' H'' h => ⟨fv, by lia, h⟩, ?_⟩
    walk_at "v"
    refine zy (v := .str (ws.getD i "")) (K2 _ _ (K1 _ _ hl)) ai ?_
    walk_at "v"
    refine ⟨ws.getD i "", 1, 9, rfl, by decide, fun H3 K3 => ?_⟩
    have K03 : Same H H3 := (K1.trans K2).trans K3
    have sd3 := K3 _ _ (K2 _ _ esd)
    have lf3 := K3 _ _ (K2 _ _ elf)
    rw [yC, if_pos hT] at hgo
    walk_at "v"
    by_cases hnu : ws.getD i "" ∈ nums 1 9
    case neg =>
     rw [if_pos hnu] at hgo
     rw [decide_eq_false hnu]
     refine iteT ?_
     walk_at "v"
     refine ⟨sz3, fun p hp => ?_⟩
     refine k p sd _ (K03.new hp) ?_ ?_
     ·rw [← hgo]; exact zb
     ·rw [← hgo, zg (zi sd3 hp)]; exact sd3
    rw [if_neg (fun z => z hnu)] at hgo
    rw [decide_eq_true hnu]
    refine iteF ?_
    walk_at "v"
    refine ⟨l, _, rfl, .inl (SqL.of (K03 _ _ hl)), ?_⟩
    walk_at "v"
    refine ⟨rfl, ?_⟩
    walk_at "v"
    rw [List.length_map]
    by_cases hend : i + 1 = ws.length
    case pos =>
     rw [if_pos (.inl hend)] at hgo
     refine xJ (by rw [← hend]; rfl) ?_
     walk_at "v"
     refine ⟨sz3, fun p hp => ?_⟩
     refine k p sd _ (K03.new hp) ?_ ?_
     ·rw [← hgo]; exact zb
     ·rw [← hgo, zg (zi sd3 hp)]; exact sd3
    refine xK (fun z => hend (by have z := V.int.inj z; lia)) ?_
    have hi1 : i + 1 < ws.length := by lia
    have g1 : ws[i + 1]? = some (ws.getD (i + 1) "") := by rw [List.getD_eq_getElem?_getD, List.getElem?_eq_getElem hi1]; rfl
    have ai1 : atI (ws.map V.str) ((i : Int) + 1) = some (.str (ws.getD (i + 1) "")) := by
     rw [show ((i : Int) + 1) = ((i + 1 : Nat) : Int) by lia]
     exact zG (by rw [List.getElem?_map, g1]; rfl)
    walk_at "v"
    refine zy (v := .str (ws.getD (i + 1) "")) (K03 _ _ hl) ai1 ?_
    walk_at "v"
    refine ⟨lf, _, rfl, .inl (SqL.of lf3), rfl, zZ _, ?_⟩
    walk_at "v"
    rw [yh]
    by_cases hm : ws.getD (i + 1) "" ∈ nm.drop kk
    case neg =>
     rw [if_pos (.inr hm)] at hgo
     rw [decide_eq_false hm]
     refine iteT ?_
     walk_at "v"
     refine ⟨sz3, fun p hp => ?_⟩
     refine k p sd _ (K03.new hp) ?_ ?_
     ·rw [← hgo]; exact zb
     ·rw [← hgo, zg (zi sd3 hp)]; exact sd3
    rw [if_neg (fun z => z.elim hend fun y => y hm)] at hgo
    rw [decide_eq_true hm]
    refine iteF ?_
    obtain ⟨q, hq⟩ : ∃ q, plc (ws.getD (i + 1) "") nm = some q := Option.isSome_iff_exists.mp (by rw [vy]; exact decide_eq_true (List.mem_of_mem_drop hm))
    obtain ⟨q', hq'⟩ : ∃ q, plc (ws.getD (i + 1) "") (nm.drop kk) = some q := Option.isSome_iff_exists.mp (by rw [vy]; exact decide_eq_true hm)
    have eqq : kk + q' = q := plc_drop nd hq hq'
    have hql := xB hq
    rw [hq] at hgo
    have hv := WH (ws.getD i "")
    rw [decide_eq_true hnu] at hv
    obtain ⟨c, hc⟩ := Option.isSome_iff_exists.mp hv
    obtain ⟨c1, c2, c3⟩ := num1_val hc
    walk_at "v"
    refine zy (v := .str (ws.getD i "")) (K03 _ _ hl) ai ?_
    walk_at "v"
    refine ⟨_, _, rfl, c1, by lia, ?_⟩
    walk_at "v"
    refine ⟨.inl ⟨rfl, _, SqL.of (K03 _ _ hls)⟩, ?_⟩
    walk_at "v"
    refine zy (v := .str (ws.getD (i + 1) "")) (K03 _ _ hl) ai1 ?_
    walk_at "v"
    refine ⟨ls, nm, _, q, rfl, rfl, K03 _ _ hls, (zI hq).1, (zI hq).2, ?_⟩
    refine yW (j := q) sd3 (by rw [List.length_map, hcl]; unfold ixN; rw [if_pos (by lia), if_pos (by lia)]; simp) ?_
    rw [← List.map_set]
    have n3 : H sd = none := nsd
    have K4 : Same H (upd H3 sd (.lst ((cs.set q (val (ws.getD i ""))).map V.int))) := K03.put n3
    have e4 : upd H3 sd (.lst ((cs.set q (val (ws.getD i ""))).map V.int)) sd = some (.lst ((cs.set q (val (ws.getD i ""))).map V.int)) := zb
    have lf4 : upd H3 sd (.lst ((cs.set q (val (ws.getD i ""))).map V.int)) lf = some (.lst ((nm.drop kk).map V.str)) := by rw [zg nlf]; exact lf3
    generalize upd H3 sd (.lst ((cs.set q (val (ws.getD i ""))).map V.int)) = H4 at K4 e4 lf4 ⊢
    walk_at "v"
    refine ⟨.inl ⟨rfl, _, SqL.of lf4⟩, ?_⟩
    walk_at "v"
    refine zy (v := .str (ws.getD (i + 1) "")) (K4 _ _ hl) ai1 ?_
    walk_at "v"
    refine ⟨lf, nm.drop kk, _, q', rfl, rfl, lf4, (zI hq').1, (zI hq').2, ?_⟩
    walk_at "v"
    refine ⟨_, rfl, ?_⟩
    walk_at "v"
    refine ⟨lf, _, rfl, SqL.of lf4, fun lg hlg => ?_⟩
    have ecut : cutV ((nm.drop kk).map V.str) (some ((q' : Int) + 1)) none = (nm.drop (q + 1)).map V.str := by
     rw [show ((q' : Int) + 1) = ((q' + 1 : Nat) : Int) by lia, EL.cut_from (by rw [List.length_map]; have := xB hq'; lia), ← List.map_drop, List.drop_drop, show kk + (q' + 1) = q + 1 by lia]
    rw [ecut]
    walk_at "v"
    refine ⟨fv, i + 2, cs.set q (val (ws.getD i "")), q + 1, sd, lg, rfl, by rw [show ((i + 2 : Nat) : Int) = (i : Int) + 2 by lia]; rfl, K4.new hlg, nsd, by rw [zg (zi e4 hlg)]; exact e4, zb, (fun z => by rw [z] at hlg; rw [hlg] at e4; cases e4), by rw [List.length_set]; exact hcl, by lia, by lia, hgo⟩
   walk_at "v"
   refine zy (v := .str (ws.getD i "")) (K1 _ _ hl) ai ?_
   walk_at "v"
   refine ⟨scal_last _ _, ?_⟩
   walk_at "v"
   rw [dec_last]
   by_cases hto : to = true ∧ ws.getD i "" = "to"
   case neg =>
    rw [decide_eq_false hto]
    refine iteT ?_
    exact hb _ ⟨Same.refl _, hi, .inl hto⟩
   rw [decide_eq_true hto]
   refine iteF ?_
   walk_at "v"
   refine ⟨sz1, fun q0 hq0 => ?_⟩
   have Kz : Same H1' (upd H1' q0 (.lst [.int 0])) := Same.new (Same.refl _) hq0
   have eq0 : upd H1' q0 (.lst [.int 0]) q0 = some (.lst [.int 0]) := zb
   generalize upd H1' q0 (.lst [.int 0]) = Hz at Kz eq0 ⊢
   walk_at "v"
   refine ⟨ls, _, rfl, .inl (SqL.of (Kz _ _ (K1 _ _ hls))), ?_⟩
   rw [List.length_map]
   refine ⟨q0, _, _, rfl, rfl, eq0, by lia, by lia, Nat.le_of_lt (zB (by rw [Int.toNat_natCast]; simp only [List.length_cons, List.length_nil]; lia)), fun q1 hq1 => ?_⟩
   rw [Int.toNat_natCast, WM]
   have K2 : Same H1' (upd Hz q1 (.lst ((List.replicate nm.length (0 : Int)).map V.int))) := Kz.new hq1
   have eq1 : upd Hz q1 (.lst ((List.replicate nm.length (0 : Int)).map V.int)) q1 = some (.lst ((List.replicate nm.length (0 : Int)).map V.int)) := zb
   generalize upd Hz q1 (.lst ((List.replicate nm.length (0 : Int)).map V.int)) = H2' at K2 eq1 ⊢
   refine XF (K2 _ _ esd) eq1 ?_
   walk_at "v"
   by_cases hzr : cs = List.replicate nm.length 0
   ·rw [decide_eq_true hzr]
    exact hb _ ⟨K2, hi, .inr hzr⟩
   rw [decide_eq_false hzr]
   exact he _ ⟨K2, fun z => z.2.elim (fun y => y hto) hzr⟩
end
noncomputable abbrev sRf : Stmt := top 44
noncomputable abbrev nRf : List Str := ["_law_words", "_law_sorts", "_law_fault_here", "_law_at", "_law_takes", "_law_gives"]
theorem nmRf : Nm nRf (zc sRf) := ⟨by decide +kernel, by decide +kernel⟩
theorem scRf : FnScope nRf ["_law_words", "_law_sorts"] (zc sRf) := ⟨rfl, rfl, rfl, by decide +kernel, rfl, by decide +kernel, by decide +kernel⟩
noncomputable def spRf : Sp := fun vs H Q _ => ∃ (l ls : Addr) (ws nm : List Str), vs = [.ref l, .ref ls] ∧ H l = some (.lst (ws.map V.str)) ∧ H ls = some (.lst (nm.map V.str)) ∧ (∀ x ∈ ws, x.length ≤ 10000) ∧ ws.length ≤ 10001 ∧ nm.Nodup ∧ nm.length ≤ 8 ∧ ∀ H', Same H H' → Q (oV (yq ws nm)) H'
section
variable {P : Program} {w : World} {K : PySem.W.Frag} {mg : Str → Option Value} {base : Heap}
set_option maxHeartbeats 4000000 in
theorem ok_Rf {f : Addr} {fd : FuncData} (B : Bl mg) (S : Has P w K mg base 2 "_law_side_fault" ["_law_words", "_law_at", "_law_sorts", "_law_last_word"] spSf) (F : Fun K "_law_rule_fault" "_law_rule_fault" sRf f fd) : FnOk P w K mg base CX0 3 f fd ["_law_words", "_law_sorts"] spRf := by
 refine F.ok scRf (fun vs H Q E h => ?_) (fun cdv A outer s H vs Q E hr h => ?_)
 ·obtain ⟨l, ls, ws, nm, rfl, _⟩ := h
  rfl
 ·obtain ⟨l, ls, ws, nm, rfl, hl, hls, hx, hwl, nd, n8, k⟩ := h
  refine' ⟨_, ?hb, ?rd⟩
  case' hb => skip
  case' hb => refine' za ?g1 ?g2
  case' g2 => refine' za ?g3 ?g4
  case' g4 => refine' za ?g5 ?g6
  case' g6 => refine' za ?g7 ?g8
  case' g8 => refine' ze ?g9
  case g1 => exact ym (pe_f S hr (by decide) (pa_c (pvd nmRf 0) (pa_c zd (pa_2 (pvd nmRf 1) zn)))) (xC rfl (zQ (pgd nmRf 2) (zQ (pgd nmRf 3) (zQ (pgd nmRf 4) ww))))
  case' g3 => refine' zx ?g10 ?g11 zp
  case g10 => exact Zx (ZD (pvd nmRf 2))
  case' g11 => refine' ze ?g13
  case g13 => exact zt (pvd nmRf 2)
  case g5 => exact ym (pe_f S hr (by decide) (pa_c (pvd nmRf 0) (pa_c (pvd nmRf 3) (pa_2 (pvd nmRf 1) wJ)))) (xC rfl (zQ (pgd nmRf 2) (zQ (pgd nmRf 3) (zQ (pgd nmRf 5) ww))))
  case' g7 => refine' zx ?g14 ?g15 zp
  case g14 => exact PW.pt (wc (Zx (pc_isN (pvd nmRf 2))) (xn (zj (ZF hr) (pvd nmRf 4) (pvd nmRf 5) (zm _))))
  case' g15 => refine' ze ?g17
  case g17 => exact zt (zv zf B.len PySem.boot_len (pa_1 (pvd nmRf 0)))
  case g9 => exact zt (pvd nmRf 2)
  case rd =>
   walk_at "v"
   refine ⟨l, ls, ws, nm, 1, true, rfl, hl, hls, hx, hwl, nd, n8, fun p q H1 K1 ep eq => ?_⟩
   generalize hr1 : sfGo ws nm true (ws.length + 1) 1 (zr nm) 0 = r1 at ep eq
   obtain ⟨o1, i1, tk⟩ := r1
   refine vf ep rfl ?_
   refine ⟨_, _, rfl, ?_⟩
   walk_at "v"
   refine ⟨_, _, rfl, ?_⟩
   walk_at "v"
   refine ⟨_, _, rfl, ?_⟩
   walk_at "v"
   refine ⟨rfl, ?_⟩
   walk_at "v"
   refine Zm ?_
   walk_at "v"
   cases o1 with
   | some f1 =>
    have e : yq ws nm = some f1 := by unfold yq; rw [hr1]
    rw [e] at k
    refine iteT ?_
    walk_at "v"
    exact k _ K1
   | none =>
   refine iteF ?_
   walk_at "v"
   refine ⟨l, ls, ws, nm, i1, false, rfl, K1 _ _ hl, K1 _ _ hls, hx, hwl, nd, n8, fun p2 q2 H2 K2 ep2 eq2 => ?_⟩
   generalize hr2 : sfGo ws nm false (ws.length + 1) i1 (zr nm) 0 = r2 at ep2 eq2
   obtain ⟨o2, i2, gv⟩ := r2
   have e : yq ws nm = if o2 = none ∧ tk = gv then some ws.length else o2 := by unfold yq; rw [hr1]; dsimp only; rw [hr2]
   rw [e] at k
   refine vf ep2 rfl ?_
   refine ⟨_, _, rfl, ?_⟩
   walk_at "v"
   refine ⟨_, _, rfl, ?_⟩
   walk_at "v"
   refine ⟨_, _, rfl, ?_⟩
   walk_at "v"
   refine ⟨rfl, ?_⟩
   walk_at "v"
   refine EL.w_isN ?_
   walk_at "v"
   cases o2 with
   | some f2 =>
    rw [if_neg (fun y => nomatch y.1)] at k
    refine iteF ?_
    walk_at "v"
    exact k _ (K1.trans K2)
   | none =>
   refine iteT ?_
   walk_at "v"
   refine XF (K2 _ _ eq) eq2 ?_
   walk_at "v"
   by_cases ht : tk = gv
   ·rw [if_pos ⟨rfl, ht⟩] at k
    rw [decide_eq_true ht]
    refine iteT ?_
    walk_at "v"
    refine ⟨l, _, rfl, .inl (SqL.of (K2 _ _ (K1 _ _ hl))), ?_⟩
    rw [List.length_map]
    exact k _ (K1.trans K2)
   ·rw [if_neg (fun y => ht y.2)] at k
    rw [decide_eq_false ht]
    refine iteF ?_
    walk_at "v"
    exact k _ (K1.trans K2)
end
theorem XG {trs : List (TE × TE)} {σ : St} {H : Hp} {Q : VK} (h : ∀ p, H p = none → x6 trs σ (upd H p (.dK [])) fun ps H2 => H2 p = some (.dK []) ∧ ∃ kvs : List (Key × V), ps = kvs.map (fun kv => (kV kv.1, kv.2)) ∧ kvs.length ≤ 15 ∧ Q (.ref p) (upd H2 p (.dK (yH [] kvs)))) : Wy trs σ H Q := h
theorem yX {tk tv : TE} {r : List (TE × TE)} {σ : St} {H : Hp} {Q : List (V × V) → Hp → Prop} (h : tk σ H fun x H1 => tv σ H1 fun y H2 => x6 r σ H2 fun ps H3 => Q ((x, y) :: ps) H3) : x6 ((tk, tv) :: r) σ H Q := h
theorem ZU {σ : St} {H : Hp} {Q : List (V × V) → Hp → Prop} (h : Q [] H) : x6 [] σ H Q := h
theorem XH {td ty : TE} {σ : St} {H : Hp} {Q : VK} (h : td σ H fun x H1 => ty σ H1 fun y H2 => ∃ a v, x = .ref a ∧ DGet H2 a y (some v) ∧ Q v H2) : Wz td ty σ H Q := h
noncomputable abbrev kS (x : Str) : Key := Sum.inr x
theorem z4 {P : Nat → Prop} (h0 : P 0) (h1 : P 1) (h2 : P 2) (h3 : P 3) {z : Nat} (h : z < 4) : P z := by
 match z, h with
 | 0, _ => exact h0
 | 1, _ => exact h1
 | 2, _ => exact h2
 | 3, _ => exact h3
theorem hd_at {z : Nat} (h : z < 4) : ([V.str "sorts", V.str "begin", V.str "in", V.str "out"] : List V)[z]? = some (.str (hdW z)) := z4 (P := fun z => ([V.str "sorts", V.str "begin", V.str "in", V.str "out"] : List V)[z]? = some (.str (hdW z))) rfl rfl rfl rfl h
theorem hd_0 {z : Nat} (h : z < 4) : decide (V.str (hdW z) = V.str "sorts") = decide (z = 0) := z4 (P := fun z => decide (V.str (hdW z) = V.str "sorts") = decide (z = 0)) (by decide +kernel) (by decide +kernel) (by decide +kernel) (by decide +kernel) h
theorem hd_1 {z : Nat} (h : z < 4) : decide (V.str (hdW z) = V.str "begin") = decide (z = 1) := z4 (P := fun z => decide (V.str (hdW z) = V.str "begin") = decide (z = 1)) (by decide +kernel) (by decide +kernel) (by decide +kernel) (by decide +kernel) h
theorem hd_in {z : Nat} (h : z < 4) : decide (hdW z ∈ (["sorts", "in"] : List Str)) = decide (z = 0 ∨ z = 2) := z4 (P := fun z => decide (hdW z ∈ (["sorts", "in"] : List Str)) = decide (z = 0 ∨ z = 2)) (by decide +kernel) (by decide +kernel) (by decide +kernel) (by decide +kernel) h
theorem dc_0 {H0 : Hp} {p : Addr} {z m : Nat} (h : z < 4) : DGet (upd H0 p (.dK (yH [] [(kS "sorts", V.int 1), (kS "begin", V.int (m : Int)), (kS "in", V.int 0), (kS "out", V.int 1)]))) p (.str (hdW z)) (some (.int (yn z m : Int))) := by
 refine .inl ⟨_, kS (hdW z), .inl zb, rfl, ?_⟩
 match z, h with
 | 0, _ => rfl
 | 1, _ => rfl
 | 2, _ => rfl
 | 3, _ => rfl
theorem dc_1 {H0 : Hp} {p : Addr} {z m : Nat} (h : z < 4) : DGet (upd H0 p (.dK (yH [] [(kS "sorts", V.int 8), (kS "begin", V.int (m : Int)), (kS "in", V.int 3), (kS "out", V.int 1)]))) p (.str (hdW z)) (some (.int (yg z m : Int))) := by
 refine .inl ⟨_, kS (hdW z), .inl zb, rfl, ?_⟩
 match z, h with
 | 0, _ => rfl
 | 1, _ => rfl
 | 2, _ => rfl
 | 3, _ => rfl
theorem cut_mid {xs : List V} {i : Nat} (h1 : 1 ≤ i) (h : i ≤ xs.length) : cutV xs (some 1) (some (i : Int)) = (xs.take i).drop 1 := by
 unfold cutV
 rw [show (some (1 : Int)) = some ((1 : Nat) : Int) from rfl, HT.sIx_nat, HT.sIx_nat, Nat.min_eq_left h, Nat.min_eq_left (by lia), List.drop_take]
noncomputable def spHf : Sp := fun vs H Q _ => ∃ (l tl : Addr) (as : List Addr) (ws nm : List Str), vs = [.ref l, .ref tl] ∧ H l = some (.lst (ws.map V.str)) ∧ H tl = some (.lst (as.map V.ref)) ∧ as.length < 4 ∧ (as = [] → nm = []) ∧ (∀ a, as[0]? = some a → ∃ w, H a = some (.lst ((w :: nm).map V.str))) ∧ ws ≠ [] ∧ (∀ x ∈ ws, x.length ≤ 10000) ∧ ws.length ≤ 10001 ∧ nm.length ≤ 10001 ∧
 ∀ H', Same H H' → Q (oV (xy as.length ws nm)) H'
noncomputable abbrev sHf : Stmt := top 45
noncomputable abbrev nHf : List Str := ["_law_words", "_law_told", "_law_head", "_law_sorts", "_law_least", "_law_most", "_law_at", "_law_good"]
theorem nmHf : Nm nHf (zc sHf) := ⟨by decide +kernel, by decide +kernel⟩
theorem scHf : FnScope nHf ["_law_words", "_law_told"] (zc sHf) := ⟨rfl, rfl, rfl, by decide +kernel, rfl, by decide +kernel, by decide +kernel⟩
section
variable {P : Program} {w : World} {K : PySem.W.Frag} {mg : Str → Option Value} {base : Heap}
noncomputable abbrev ivP4k1 (l : Addr) (tl : Addr) (nm : List Str) (z : Nat) (ws : List Str) (sv : Addr) (H4 : Hp) : Nat → St → Hp → Prop := fun i σ H' => ∃ (u6 u7 : Option V), σ = [some (.ref l), some (.ref tl), some (.str (hdW z)), some (.ref sv), some (.int (yn z nm.length : Int)), some (.int (yg z nm.length : Int)), u6, u7] ∧ Same H4 H' ∧ hfGo z (yg z nm.length) ws nm (ws.length - 1 - i) (1 + i) = hfGo z (yg z nm.length) ws nm (ws.length - 1) 1
set_option maxHeartbeats 4000000 in
theorem ok_Hf {f : Addr} {fd : FuncData} (B : Bl mg) (I : Has P w K mg base 1 "_law_is_name" ["_law_word_here"] X0) (N : Has P w K mg base 1 "_law_number" ["_law_word_here", "_law_least", "_law_most"] Y2) (F : Fun K "_law_head_fault" "_law_head_fault" sHf f fd) : FnOk P w K mg base CX0 2 f fd ["_law_words", "_law_told"] spHf := by
 refine F.ok scHf (fun vs H Q E h => ?_) (fun cdv A outer s H vs Q E hr h => ?_)
 ·obtain ⟨l, tl, as, ws, nm, rfl, _⟩ := h
  rfl
 ·obtain ⟨l, tl, as, ws, nm, rfl, hl, htl, hz, hn0, hn1, hne, hx, hwl, hnl, k⟩ := h
  have hu := hu_of hr
  refine' ⟨_, ?hb, ?rd⟩
  case' hb => skip
  case' hb => refine' za ?g1 ?g2
  case' g2 => refine' za ?g3 ?g4
  case' g4 => refine' za ?g5 ?g6
  case' g6 => refine' za ?g7 ?g8
  case' g8 => refine' za ?g9 ?g10
  case' g10 => refine' za ?g11 ?g12
  case' g12 => refine' ze ?g13
  case g1 => exact zh nmHf 2 (zw ix_d (zM (pa_c zn (pa_c zn (pa_2 zn zn)))) (zv zf B.len PySem.boot_len (pa_1 (pvd nmHf 1))) (fun _ _ => rfl))
  case' g3 => refine' zx ?g14 ?g15 zp
  case g14 => exact zj vR (zw ix_d (pvd nmHf 0) zd (fun _ _ => rfl)) (pvd nmHf 2) (zm _)
  case' g15 => refine' ze ?g17
  case g17 => exact zt zd
  case g5 => exact zh nmHf 3 (xD (zj (op_neE hr) (pvd nmHf 1) (zM zz) (zm _)) (yz yu (zw ix_d (pvd nmHf 1) zd (fun _ _ => rfl)) (yF zd) y0) (zM zz))
  case g7 => exact zh nmHf 4 (Xc hu (Xb (yG zn zd (yG zn (zv zf B.len PySem.boot_len (pa_1 (pvd nmHf 3))) (yG zn zd (yG zn zd Y8)))) rfl rfl (by simp) (by decide)) (pvd nmHf 2) (fun _ _ => rfl))
  case g9 => exact zh nmHf 5 (Xc hu (Xb (yG zn zd (yG zn (zv zf B.len PySem.boot_len (pa_1 (pvd nmHf 3))) (yG zn zd (yG zn zd Y8)))) rfl rfl (by simp) (by decide)) (pvd nmHf 2) (fun _ _ => rfl))
  case' g11 => refine' yr PassesOwn.never rfl ?g18 (pgd nmHf 6) ?g19
  case g18 => exact vP B.range (pa_2 zd (zv zf B.len PySem.boot_len (pa_1 (pvd nmHf 0))))
  case' g19 => refine' za ?g20 ?g21
  case' g21 => refine' za ?g22 ?g23
  case' g23 => refine' za ?g24 ?g25
  case' g25 => refine' ze ?g26
  case g20 => exact zh nmHf 7 (yj yd (zw ix_d (pvd nmHf 0) (pvd nmHf 6) (fun _ _ => rfl)) (pvd nmHf 3) (by with_unfolding_all rfl))
  case' g22 => refine' zx ?g27 ?g28 zp
  case g27 => exact zj zR (pvd nmHf 2) zn (zm _)
  case' g28 => refine' ze ?g30
  case g30 => exact zh nmHf 7 (pe_f I hr (by decide) (pa_1 (zw ix_d (pvd nmHf 0) (pvd nmHf 6) (fun _ _ => rfl))))
  case' g24 => refine' zx ?g31 ?g32 zp
  case g31 => exact zj zR (pvd nmHf 2) zn (zm _)
  case' g32 => refine' ze ?g34
  case g34 => exact zh nmHf 7 (pe_f N hr (by decide) (pa_c (zw ix_d (pvd nmHf 0) (pvd nmHf 6) (fun _ _ => rfl)) (pa_2 zd zd)))
  case' g26 => refine' zx ?g35 ?g36 zp
  case g35 => exact PW.pt (xh (zj wV (pvd nmHf 6) (pvd nmHf 5) (zm _)) (xh (yR (xg (pvd nmHf 7))) (yQ (PW.pt (wc (zj yd (pvd nmHf 2) (zM (pa_2 zn zn)) (by with_unfolding_all rfl)) (xn (zj yd (zw ix_d (pvd nmHf 0) (pvd nmHf 6) (fun _ _ => rfl)) (yz yu (pvd nmHf 0) (yF zd) (yF (pvd nmHf 6))) (by with_unfolding_all rfl))))))))
  case' g36 => refine' ze ?g38
  case g38 => exact zt (pvd nmHf 6)
  case g13 => exact zt (xD (zj vS (zv zf B.len PySem.boot_len (pa_1 (pvd nmHf 0))) (pvd nmHf 4) (zm _)) (zv zf B.len PySem.boot_len (pa_1 (pvd nmHf 0))) wJ)
  case rd =>
   generalize hzz : as.length = z at hz k
   walk_at "v"
   refine ⟨sz4, fun q0 hq0 => ?_⟩
   obtain ⟨H1, q, K1, eq0⟩ := nob (.lst [.str "sorts", .str "begin", .str "in", .str "out"]) hq0; rw [q]; clear q
   walk_at "v"
   refine ⟨tl, _, rfl, .inl (SqL.of (K1 _ _ htl)), ?_⟩
   rw [List.length_map, hzz]
   refine zy (v := .str (hdW z)) eq0 (zG (hd_at hz)) ?_
   walk_at "v"
   match ws, hne with
   | w0 :: r, _ =>
   refine zy (v := .str w0) (K1 _ _ hl) at0 ?_
   walk_at "v"
   refine ⟨rfl, ?_⟩
   walk_at "v"
   by_cases hw0 : w0 = hdW z
   case neg =>
    have e : xy z (w0 :: r) nm = some 0 := by unfold xy; exact if_neg (fun y => hw0 (Option.some.inj y))
    rw [e] at k
    refine v9 (fun y => hw0 (V.str.inj y)) ?_
    walk_at "v"
    exact k _ K1
   have e : xy z (w0 :: r) nm = hf z (yn z nm.length) (yg z nm.length) (w0 :: r) nm := by unfold xy; exact if_pos (congrArg some hw0)
   rw [e] at k
   generalize hws : w0 :: r = ws at hl hx hwl k
   have hw1 : 1 ≤ ws.length := by rw [← hws, List.length_cons]; lia
   refine v8 (by rw [hw0]) ?_
   refine wF ?_
   with_reducible refine yc (fun σ' H' => ∃ sv, σ' = [some (.ref l), some (.ref tl), some (.str (hdW z)), some (.ref sv), none, none, none, none] ∧ Same H H' ∧ H' sv = some (.lst (nm.map V.str))) ?_ fun rest => ?_
   case _ =>
    rintro σ' H2 ⟨sv, rfl, K2, esv⟩
    walk_at "v"
    refine XH ?_
    refine XG fun d1 hd1 => ?_
    refine yX ?_
    walk_at "v"
    refine yX ?_
    walk_at "v"
    refine ⟨sv, _, rfl, .inl (SqL.of (by rw [zg (zi esv hd1)]; exact esv)), ?_⟩
    rw [List.length_map]
    refine yX ?_
    walk_at "v"
    refine yX ?_
    walk_at "v"
    refine ZU ?_
    refine ⟨zb, [(kS "sorts", V.int 1), (kS "begin", V.int (nm.length : Int)), (kS "in", V.int 0), (kS "out", V.int 1)], rfl, by show 4 ≤ 15; decide, ?_⟩
    walk_at "v"
    refine ⟨d1, _, rfl, dc_0 hz, ?_⟩
    have K3 : Same H2 (upd (upd H2 d1 (.dK [])) d1 (.dK (yH [] [(kS "sorts", V.int 1), (kS "begin", V.int (nm.length : Int)), (kS "in", V.int 0), (kS "out", V.int 1)]))) := (Same.new (Same.refl _) hd1).put hd1
    generalize upd (upd H2 d1 (.dK [])) d1 (.dK (yH [] [(kS "sorts", V.int 1), (kS "begin", V.int (nm.length : Int)), (kS "in", V.int 0), (kS "out", V.int 1)])) = H3 at K3 ⊢
    have esv := K3 _ _ esv
    walk_at "v"
    refine XH ?_
    refine XG fun d2 hd2 => ?_
    refine yX ?_
    walk_at "v"
    refine yX ?_
    walk_at "v"
    refine ⟨sv, _, rfl, .inl (SqL.of (by rw [zg (zi esv hd2)]; exact esv)), ?_⟩
    rw [List.length_map]
    refine yX ?_
    walk_at "v"
    refine yX ?_
    walk_at "v"
    refine ZU ?_
    refine ⟨zb, [(kS "sorts", V.int 8), (kS "begin", V.int (nm.length : Int)), (kS "in", V.int 3), (kS "out", V.int 1)], rfl, by show 4 ≤ 15; decide, ?_⟩
    walk_at "v"
    refine ⟨d2, _, rfl, dc_1 hz, ?_⟩
    have K4 : Same H3 (upd (upd H3 d2 (.dK [])) d2 (.dK (yH [] [(kS "sorts", V.int 8), (kS "begin", V.int (nm.length : Int)), (kS "in", V.int 3), (kS "out", V.int 1)]))) := (Same.new (Same.refl _) hd2).put hd2
    generalize upd (upd H3 d2 (.dK [])) d2 (.dK (yH [] [(kS "sorts", V.int 8), (kS "begin", V.int (nm.length : Int)), (kS "in", V.int 3), (kS "out", V.int 1)])) = H4 at K4 ⊢
    have esv := K4 _ _ esv
    have K04 := (K2.trans K3).trans K4
    walk_at "v"
    refine w6 ?_
    walk_at "v"
    refine ⟨l, _, rfl, .inl (SqL.of (K04 _ _ hl)), ?_⟩
    rw [List.length_map]
    refine ⟨_, _, rfl, by constructor <;> lia, ?_⟩
    rw [show (((ws.length : Nat) : Int) - 1).toNat = ws.length - 1 by lia]
    have K0s : ∀ {H'}, Same H4 H' → Same H H' := fun k' => K04.trans k'
    refine zP (n := ws.length - 1) (ivP4k1 l tl nm z ws sv H4) ⟨none, none, rfl, Same.refl _, rfl⟩ ?_ ?_
    ·rintro i σ H5 hi ⟨u6, u7, rfl, K5, hgo⟩
     have hi1 : 1 + i < ws.length := by lia
     rw [show (1 : Int) + (i : Int) = ((1 + i : Nat) : Int) by lia]
     rw [show ws.length - 1 - i = (ws.length - 1 - (i + 1)) + 1 by lia, yE] at hgo
     generalize hj : 1 + i = j at hi1 hgo
     have gj : ws[j]? = some (ws.getD j "") := by rw [List.getD_eq_getElem?_getD, List.getElem?_eq_getElem hi1]; rfl
     have aj : atI (ws.map V.str) (j : Int) = some (.str (ws.getD j "")) := zG (by rw [List.getElem?_map, gj]; rfl)
     have hxj := hx _ (List.mem_of_getElem? gj)
     generalize hwj : ws.getD j "" = wj at gj aj hxj
     refine zJ ?_
     have hl5 := K5 _ _ (K04 _ _ hl)
     have sv5 := K5 _ _ esv
     have ret : hfB z (yg z nm.length) ws nm j → ∀ H', Same H5 H' → Q (.int (j : Int)) H' := fun hb H' k' => by
      rw [if_pos hb] at hgo
      have e3 : hf z (yn z nm.length) (yg z nm.length) ws nm = some j := by unfold hf; rw [← hgo]
      rw [e3] at k
      exact k _ ((K04.trans K5).trans k')
     with_reducible refine yc (fun σ' H' => σ' = [some (.ref l), some (.ref tl), some (.str (hdW z)), some (.ref sv), some (.int (yn z nm.length : Int)), some (.int (yg z nm.length : Int)), some (.int (j : Int)), some (.bl (decide (wj ∈ nm)))] ∧ H5 = H') ?_ fun rest => ?_
     case _ =>
      rintro σ' H' ⟨rfl, rfl⟩
      with_reducible refine yc (fun σ' H' => σ' = [some (.ref l), some (.ref tl), some (.str (hdW z)), some (.ref sv), some (.int (yn z nm.length : Int)), some (.int (yg z nm.length : Int)), some (.int (j : Int)), some (.bl (if z = 0 then zO wj else decide (wj ∈ nm)))] ∧ Same H5 H') ?_ fun rest => ?_
      case _ =>
       rintro σ' H6 ⟨rfl, K6⟩
       with_reducible refine yc (fun σ' H' => σ' = [some (.ref l), some (.ref tl), some (.str (hdW z)), some (.ref sv), some (.int (yn z nm.length : Int)), some (.int (yg z nm.length : Int)), some (.int (j : Int)), some (.bl (gdW z nm wj))] ∧ Same H5 H') ?_ fun rest => ?_
       case _ =>
        rintro σ' H7 ⟨rfl, K7⟩
        walk_at "v"
        by_cases q1 : yg z nm.length < j
        ·refine iteP (by lia) ?_
         walk_at "v"
         exact ret (.inl q1) _ K7
        refine iteQ (by lia) ?_
        walk_at "v"
        cases hg : gdW z nm wj with
        | false =>
         refine iteT ?_
         walk_at "v"
         exact ret (.inr (.inl (by rw [hwj]; exact hg))) _ K7
        | true =>
        refine iteF ?_
        walk_at "v"
        refine ⟨sz2, fun q2 hq2 => ?_⟩
        have K8 : Same H7 (upd H7 q2 (.lst [.str "sorts", .str "in"])) := Same.new (Same.refl _) hq2
        have e8 : upd H7 q2 (.lst [.str "sorts", .str "in"]) q2 = some (.lst ((["sorts", "in"] : List Str).map V.str)) := zb
        generalize upd H7 q2 (.lst [.str "sorts", .str "in"]) = H8 at K8 e8 ⊢
        refine ⟨q2, _, rfl, .inl (SqL.of e8), rfl, zZ _, ?_⟩
        walk_at "v"
        rw [yh, hd_in hz]
        have K58 := K7.trans K8
        have no : ¬ ((z = 0 ∨ z = 2) ∧ wj ∈ (ws.take j).drop 1) → ¬ hfB z (yg z nm.length) ws nm j := fun h hb => by
         rcases hb with y | y | y
         ·exact q1 y
         ·rw [hwj, hg] at y; cases y
         ·rw [hwj] at y; exact h y
        have go : ¬ hfB z (yg z nm.length) ws nm j → hfGo z (yg z nm.length) ws nm (ws.length - 1 - (i + 1)) (1 + (i + 1)) = hfGo z (yg z nm.length) ws nm (ws.length - 1) 1 := fun h => by
         rw [if_neg h] at hgo
         rw [show 1 + (i + 1) = j + 1 by lia]
         exact hgo
        by_cases q2 : z = 0 ∨ z = 2
        ·rw [decide_eq_true q2]
         refine iteT ?_
         walk_at "v"
         refine zy (v := .str wj) (K58 _ _ hl5) aj ?_
         walk_at "v"
         refine ⟨_, rfl, ?_⟩
         walk_at "v"
         refine ⟨_, rfl, ?_⟩
         walk_at "v"
         refine ⟨l, _, rfl, SqL.of (K58 _ _ hl5), fun q3 hq3 => ?_⟩
         rw [cut_mid (by lia) (by rw [List.length_map]; lia), ← List.map_take, ← List.map_drop]
         obtain ⟨H9, q, K9, e9⟩ := nob (.lst (((ws.take j).drop 1).map V.str)) hq3; rw [q]; clear q
         refine ⟨q3, _, rfl, .inl (SqL.of e9), rfl, zZ _, ?_⟩
         walk_at "v"
         rw [yh]
         by_cases q3 : wj ∈ (ws.take j).drop 1
         ·rw [decide_eq_true q3]
          refine iteT ?_
          walk_at "v"
          exact ret (.inr (.inr ⟨q2, by rw [hwj]; exact q3⟩)) _ (K58.trans K9)
         ·rw [decide_eq_false q3]
          refine iteF ?_
          walk_at "v"
          exact ⟨_, _, rfl, K5.trans (K58.trans K9), go (no fun y => q3 y.2)⟩
        ·rw [decide_eq_false q2]
         refine iteF ?_
         walk_at "v"
         exact ⟨_, _, rfl, K5.trans K58, go (no fun y => q2 y.1)⟩
       case _ =>
        walk_at "v"
        refine ⟨rfl, ?_⟩
        refine ⟨_, rfl, ?_⟩
        rw [hd_1 hz]
        by_cases z1 : z = 1
        ·rw [decide_eq_true z1]
         refine iteT ?_
         walk_at "v"
         refine zy (v := .str wj) (K6 _ _ hl5) aj ?_
         walk_at "v"
         refine ⟨wj, 0, 100, rfl, by decide, fun H' K' => ?_⟩
         refine zJ ?_
         refine rest _ _ ⟨?_, K6.trans K'⟩
         have e : gdW z nm wj = decide (wj ∈ nums 0 100) := by unfold gdW; rw [if_neg (by lia), if_pos z1]
         rw [e]
         rfl
        ·rw [decide_eq_false z1]
         refine iteF ?_
         refine wF ?_
         refine rest _ _ ⟨?_, K6⟩
         have e : gdW z nm wj = if z = 0 then zO wj else decide (wj ∈ nm) := by unfold gdW; rw [if_neg z1]
         rw [e]
      case _ =>
       walk_at "v"
       refine ⟨rfl, ?_⟩
       refine ⟨_, rfl, ?_⟩
       rw [hd_0 hz]
       by_cases z0 : z = 0
       ·rw [decide_eq_true z0]
        refine iteT ?_
        walk_at "v"
        refine zy (v := .str wj) hl5 aj ?_
        walk_at "v"
        refine ⟨wj, rfl, hxj, fun H' K' => ?_⟩
        refine zJ ?_
        refine rest _ _ ⟨?_, K'⟩
        rw [if_pos z0]
        rfl
       ·rw [decide_eq_false z0]
        refine iteF ?_
        refine wF ?_
        refine rest _ _ ⟨?_, Same.refl _⟩
        rw [if_neg z0]
     case _ =>
      walk_at "v"
      refine zy (v := .str wj) hl5 aj ?_
      walk_at "v"
      refine ⟨sv, _, rfl, .inl (SqL.of sv5), rfl, zZ _, ?_⟩
      rw [yh]
      refine zJ ?_
      exact rest _ _ ⟨rfl, rfl⟩
    ·rintro σ H5 ⟨u6, u7, rfl, K5, hgo⟩
     rw [Nat.sub_self] at hgo
     have hgo : none = hfGo z (yg z nm.length) ws nm (ws.length - 1) 1 := hgo
     have e3 : hf z (yn z nm.length) (yg z nm.length) ws nm = if ws.length ≤ yn z nm.length then some ws.length else none := by unfold hf; rw [← hgo]
     rw [e3] at k
     walk_at "v"
     refine ⟨l, _, rfl, .inl (SqL.of (K5 _ _ (K04 _ _ hl))), ?_⟩
     walk_at "v"
     rw [List.length_map]
     by_cases hle : ws.length ≤ yn z nm.length
     ·rw [if_pos hle] at k
      refine iteP (by lia) ?_
      walk_at "v"
      refine ⟨l, _, rfl, .inl (SqL.of (K5 _ _ (K04 _ _ hl))), ?_⟩
      rw [List.length_map]
      exact k _ (K04.trans K5)
     ·rw [if_neg hle] at k
      refine iteQ (by lia) ?_
      walk_at "v"
      exact k _ (K04.trans K5)
   case _ =>
    walk_at "v"
    refine ⟨sz0, fun q1 hq1 => ?_⟩
    obtain ⟨H2, q, K2, eq1⟩ := nob (.lst []) hq1; rw [q]; clear q
    refine ⟨tl, q1, _, rfl, rfl, K2 _ _ (K1 _ _ htl), eq1, ?_⟩
    walk_at "v"
    cases as with
    | nil =>
     have hnm := hn0 rfl
     subst hnm
     refine iteF ?_
     walk_at "v"
     refine ⟨sz0, fun sv hsv => ?_⟩
     refine zJ ?_
     exact rest _ _ ⟨sv, rfl, (K1.trans K2).new hsv, zb⟩
    | cons a as =>
     obtain ⟨w, ea⟩ := hn1 a rfl
     refine iteT ?_
     walk_at "v"
     refine zy (v := .ref a) (K2 _ _ (K1 _ _ htl)) at0 ?_
     walk_at "v"
     refine ⟨_, rfl, ?_⟩
     walk_at "v"
     refine ⟨a, _, rfl, SqL.of (K2 _ _ (K1 _ _ ea)), fun sv hsv => ?_⟩
     rw [show cutV ((w :: nm).map V.str) (some 1) none = nm.map V.str from EL.cut_from (k := 1) (by simp)]
     refine zJ ?_
     exact rest _ _ ⟨sv, rfl, (K1.trans K2).new hsv, zb⟩
end
noncomputable abbrev sLf : Stmt := top 46
noncomputable abbrev nLf : List Str := ["_law_lines_here", "_law_told", "_law_number_here", "_law_words", "_law_fault_here"]
theorem nmLf : Nm nLf (zc sLf) := ⟨by decide +kernel, by decide +kernel⟩
theorem scLf : FnScope nLf ["_law_lines_here"] (zc sLf) := ⟨rfl, rfl, rfl, by decide +kernel, rfl, by decide +kernel, by decide +kernel⟩
noncomputable def DuV (H : Hp) (v : V) : Option Bad → Prop
 | none => v = .non
 | some b => ∃ q, v = .ref q ∧ H q = some (.tup [.int (b.1 : Int), .int (b.2 : Int)])
theorem sorts_nd {W : List (List Str)} {nm ws : List Str} (hw : W[0]? = some ws) (h : zE nm 0 ws = none) : ws.tail.Nodup ∧ ws.tail.length ≤ 8 := by
 have f := vD (nm := nm) hw
 cases hr : yl W with
 | error b =>
  rw [hr] at f
  rw [f.1] at h
  cases h
 | ok us =>
  obtain ⟨e1, e2, _⟩ := vO hr
  have e3 := wb hr
  have hg : W.getD 0 [] = ws := by rw [List.getD_eq_getElem?_getD, hw]; rfl
  rw [hg] at e1
  rw [e1]
  exact ⟨e2, e3⟩
noncomputable def spLf : Sp := fun vs H Q _ => ∃ (l : Addr) (ls : List Str), vs = [.ref l] ∧ H l = some (.lst (ls.map V.str)) ∧ (∀ x ∈ ls, x.length ≤ 10000) ∧ ls.length ≤ 100 ∧ ∀ v H', Same H H' → DuV H' v (yT (ls.map spl)) → Q v H'
section
variable {P : Program} {w : World} {K : PySem.W.Frag} {mg : Str → Option Value} {base : Heap}
noncomputable abbrev ivP4l1 (H : Hp) (l : Addr) (ls : List Str) (W : List (List Str)) (tl : Addr) : Nat → St → Hp → Prop := fun i σ H' => ∃ (as : List Addr) (u2 u3 u4 : Option V), σ = [some (.ref l), some (.ref tl), u2, u3, u4] ∧ Same H H' ∧ H' tl = some (.lst (as.map V.ref)) ∧ as.length = min i 4 ∧ (∀ a, as[0]? = some a → a ≠ tl ∧ H' a = some (.lst ((W.getD 0 []).map V.str))) ∧ (0 < i → zE (nmAt W 0) 0 (W.getD 0 []) = none) ∧ ffGo W (ls.length - i) i = yT W
set_option maxHeartbeats 4000000 in
theorem ok_Lf {f : Addr} {fd : FuncData} (B : Bl mg) (HF : Has P w K mg base 2 "_law_head_fault" ["_law_words", "_law_told"] spHf) (RF : Has P w K mg base 3 "_law_rule_fault" ["_law_words", "_law_sorts"] spRf) (F : Fun K "_law_fault" "_law_fault" sLf f fd) : FnOk P w K mg base CX0 4 f fd ["_law_lines_here"] spLf := by
 refine F.ok scLf (fun vs H Q E h => ?_) (fun cdv A outer s H vs Q E hr h => ?_)
 ·obtain ⟨l, ls, rfl, _⟩ := h
  rfl
 ·obtain ⟨l, ls, rfl, hl, hx, h100, k⟩ := h
  refine' ⟨_, ?hb, ?rd⟩
  case' hb => skip
  case' hb => refine' za ?g1 ?g2
  case' g2 => refine' za ?g3 ?g4
  case' g4 => refine' ze ?g5
  case g1 => exact zh nmLf 1 (zM zz)
  case' g3 => refine' yr PassesOwn.never rfl ?g6 (pgd nmLf 2) ?g7
  case g6 => exact wT B.range (pa_1 (zv zf B.len PySem.boot_len (pa_1 (pvd nmLf 0))))
  case' g7 => refine' za ?g8 ?g9
  case' g9 => refine' za ?g10 ?g11
  case' g11 => refine' ze ?g12
  case g8 => exact zh nmLf 3 (zD PySem.F.plainAttrs_str PySem.F.slot_str_split PySem.F.type_str_split xO (zw ix_d (pvd nmLf 0) (pvd nmLf 2) (fun _ _ => rfl)) (pa_1 zn))
  case' g10 => refine' zx ?g13 ?g14 ?g15
  case g13 => exact zj wy (zv zf B.len PySem.boot_len (pa_1 (pvd nmLf 1))) zd (zm _)
  case' g14 => refine' za ?g16 ?g17
  case' g17 => refine' ze ?g18
  case g16 => exact zh nmLf 4 (pe_f HF hr (by decide) (pa_2 (pvd nmLf 3) (pvd nmLf 1)))
  case g18 => exact yi (zD PySem.F.plainAttrs_list PySem.F.slot_list_append PySem.F.type_list_append yk (pvd nmLf 1) (pa_1 (pvd nmLf 3)))
  case' g15 => refine' ze ?g19
  case' g19 => refine' zx ?g20 ?g21 ?g22
  case g20 => exact PW.pt (xh (zj vR (zw ix_d (pvd nmLf 3) zd (fun _ _ => rfl)) zn (zm _)) (yQ (zj wV (pvd nmLf 2) zd (zm _))))
  case' g21 => refine' ze ?g23
  case g23 => exact zh nmLf 4 zd
  case' g22 => refine' ze ?g24
  case g24 => exact zh nmLf 4 (pe_f RF hr (by decide) (pa_2 (pvd nmLf 3) (yz yu (zw ix_d (pvd nmLf 1) zd (fun _ _ => rfl)) (yF zd) y0)))
  case' g12 => refine' zx ?g25 ?g26 zp
  case g25 => exact Zx (ZD (pvd nmLf 4))
  case' g26 => refine' ze ?g28
  case g28 => exact zt (yt (pa_2 (pvd nmLf 2) (pvd nmLf 4)))
  case g5 => exact zt (xD (zj wy (zv zf B.len PySem.boot_len (pa_1 (pvd nmLf 1))) zd (zm _)) (yt (pa_2 (zv zf B.len PySem.boot_len (pa_1 (pvd nmLf 0))) zd)) wJ)
  case rd =>
   generalize hW : ls.map spl = W at k
   have hWl : W.length = ls.length := by rw [← hW, List.length_map]
   have hWg : ∀ i (h : i < ls.length), W[i]? = some (spl ls[i]) ∧ W.getD i [] = spl ls[i] := fun i h => by
    have e : W[i]? = some (spl ls[i]) := by rw [← hW, List.getElem?_map, List.getElem?_eq_getElem h]; rfl
    exact ⟨e, by rw [List.getD_eq_getElem?_getD, e]; rfl⟩
   walk_at "v"
   refine ⟨sz0, fun tl htl => ?_⟩
   obtain ⟨H1, q, K1, etl⟩ := nob (.lst []) htl; rw [q]; clear q
   walk_at "v"
   refine ⟨l, _, rfl, .inl (SqL.of (K1 _ _ hl)), ?_⟩
   refine ⟨_, rfl, by lia, by rw [List.length_map]; lia, ?_⟩
   rw [show (((ls.map V.str).length : Nat) : Int).toNat = ls.length by rw [List.length_map]; lia]
   refine zP (n := ls.length) (ivP4l1 H l ls W tl) ⟨[], none, none, none, rfl, K1, etl, by rw [Nat.zero_min]; rfl, fun a h => (nomatch h), fun h => absurd h (Nat.lt_irrefl _), by unfold yT; rw [hWl]; rfl⟩ ?_ ?_
   ·rintro i σ H2 hi ⟨as, u2, u3, u4, rfl, K2, etl2, hal, ha0, h0, hgo⟩
    obtain ⟨wi, wg⟩ := hWg i hi
    have gi : ls[i]? = some ls[i] := List.getElem?_eq_getElem hi
    rw [Int.zero_add]
    rw [show ls.length - i = (ls.length - (i + 1)) + 1 by lia, wQ] at hgo
    have hxi := hx _ (List.getElem_mem hi)
    have hne := wH ls[i]
    have hwl : (spl ls[i]).length ≤ 10001 := by have := vd (spl ls[i]); rw [x4] at this; lia
    have hww : ∀ w ∈ spl ls[i], w.length ≤ 10000 := fun w hw => by have := Xu hw; rw [x4] at this; lia
    refine zJ ?_
    with_reducible refine yc (fun σ' H' => ∃ p, σ' = [some (.ref l), some (.ref tl), some (.int (i : Int)), some (.ref p), u4] ∧ Same H2 H' ∧ p ≠ tl ∧ H' p = some (.lst ((spl ls[i]).map V.str))) ?_ fun rest => ?_
    case _ =>
     rintro σ' H3 ⟨p, rfl, K3, hptl, ep⟩
     have K03 := K2.trans K3
     have etl3 := K3 _ _ etl2
     generalize spl ls[i] = ws at *
     with_reducible refine yc (fun σ' H' => ∃ as : List Addr, σ' = [some (.ref l), some (.ref tl), some (.int (i : Int)), some (.ref p), some (oV (zE (nmAt W i) i ws))] ∧ Same H H' ∧ H' tl = some (.lst (as.map V.ref)) ∧ as.length = min (i + 1) 4 ∧ (∀ a, as[0]? = some a → a ≠ tl ∧ H' a = some (.lst ((W.getD 0 []).map V.str)))) ?_ fun rest => ?_
     case _ =>
      rintro σ' H4 ⟨as', rfl, K4, etl4, hal4, ha4⟩
      rw [wg] at hgo
      walk_at "v"
      refine Zm ?_
      walk_at "v"
      cases hll : zE (nmAt W i) i ws with
      | some kf =>
       rw [hll] at hgo
       refine iteT ?_
       walk_at "v"
       refine ⟨sz2, fun q hq => ?_⟩
       refine k _ _ (K4.new hq) ?_
       rw [← hgo]
       exact ⟨q, rfl, zb⟩
      | none =>
       rw [hll] at hgo
       refine iteF ?_
       walk_at "v"
       refine ⟨as', _, _, _, rfl, K4, etl4, hal4, ha4, fun _ => ?_, hgo⟩
       by_cases i0 : i = 0
       ·subst i0
        rw [wg]; exact hll
       ·exact h0 (by lia)
     case _ =>
      walk_at "v"
      refine ⟨tl, _, rfl, .inl (SqL.of etl3), ?_⟩
      walk_at "v"
      rw [List.length_map, hal]
      by_cases i4 : i < 4
      ·refine iteP (by lia) ?_
       have hai : as.length = i := by lia
       have eL : zE (nmAt W i) i ws = xy as.length ws (nmAt W i) := by unfold zE; rw [if_pos i4, hai]
       walk_at "v"
       refine ⟨p, tl, as, ws, nmAt W i, rfl, ep, etl3, by lia, fun z => ?_, fun a e => ?_, hne, hww, hwl, ?_, fun H4 K4 => ?_⟩
       ·unfold nmAt
        rw [if_pos (by rw [z] at hai; exact hai.symm)]
       ·have i0 : i ≠ 0 := fun z => by
         have : as = [] := List.eq_nil_of_length_eq_zero (by lia)
         rw [this] at e; cases e
        have hl0 : 0 < ls.length := by lia
        obtain ⟨w0i, w0g⟩ := hWg 0 hl0
        have ea := (ha0 a e).2
        unfold nmAt
        rw [if_neg i0]
        rw [w0g] at ea ⊢
        have hne0 := wH ls[0]
        generalize spl ls[0] = us at ea hne0 ⊢
        match us, hne0, ea with
        | w0 :: r0, _, ea => exact ⟨w0, K3 _ _ ea⟩
       ·unfold nmAt
        split
        ·exact Nat.zero_le _
        ·have hl0 : 0 < ls.length := by lia
         rw [(hWg 0 hl0).2, List.length_tail]
         have := vd (spl ls[0])
         rw [x4] at this
         have := hx _ (List.getElem_mem hl0)
         lia
       rw [← eL]
       walk_at "v"
       refine ⟨.inl ⟨rfl, _, SqL.of (K4 _ _ etl3)⟩, ?_⟩
       walk_at "v"
       refine ⟨tl, _, _, rfl, rfl, K4 _ _ etl3, by rw [List.length_map]; exact zB (by lia), ?_⟩
       refine rest _ _ ⟨as ++ [p], rfl, (K03.trans K4).put htl, by rw [zb, List.map_append]; rfl, by rw [List.length_append, List.length_singleton]; lia, fun a e => ?_⟩
       by_cases as0 : as = []
       ·subst as0
        have : p = a := Option.some.inj e
        subst this
        refine ⟨hptl, ?_⟩
        have i0 : i = 0 := hai.symm
        subst i0
        rw [zg hptl, wg]
        exact K4 _ _ ep
       ·rw [List.getElem?_append_left (List.length_pos_iff.mpr as0)] at e
        obtain ⟨n1, n2⟩ := ha0 a e
        exact ⟨n1, by rw [zg n1]; exact K4 _ _ (K3 _ _ n2)⟩
      refine iteQ (by lia) ?_
      have hai : as.length = 4 := by lia
      have eL : zE (nmAt W i) i ws = if ws.head? = some "rule" ∧ i < 12 then yq ws (nmAt W i) else some 0 := by unfold zE; rw [if_neg i4]
      have hl0 : 0 < ls.length := by lia
      obtain ⟨w0i, w0g⟩ := hWg 0 hl0
      have fin : ∀ {H4}, Same H3 H4 → Same H H4 ∧ H4 tl = some (.lst (as.map V.ref)) ∧ as.length = min (i + 1) 4 ∧ (∀ a, as[0]? = some a → a ≠ tl ∧ H4 a = some (.lst ((W.getD 0 []).map V.str))) := fun {H4} K4 => ⟨K03.trans K4, K4 _ _ etl3, by lia, fun a e => ⟨(ha0 a e).1, K4 _ _ (K3 _ _ (ha0 a e).2)⟩⟩
      match ws, hne with
      | w0 :: r, _ =>
      walk_at "v"
      refine zy (v := .str w0) ep at0 ?_
      walk_at "v"
      refine ⟨rfl, ?_⟩
      walk_at "v"
      by_cases hr0 : w0 = "rule"
      case neg =>
       rw [if_neg (fun y => hr0 (Option.some.inj y.1))] at eL
       refine v9 (fun y => hr0 (V.str.inj y)) ?_
       try with_reducible refine iteT ?_
       refine ZX ?_
       refine w_c ?_
       refine zJ ?_
       rw [eL] at rest
       exact rest _ _ ⟨as, rfl, fin (Same.refl _)⟩
      refine v8 (by rw [hr0]) ?_
      walk_at "v"
      by_cases i12 : i < 12
      case neg =>
       rw [if_neg (fun y => i12 y.2)] at eL
       refine iteP (by lia) ?_
       try with_reducible refine iteT ?_
       refine ZX ?_
       refine w_c ?_
       refine zJ ?_
       rw [eL] at rest
       exact rest _ _ ⟨as, rfl, fin (Same.refl _)⟩
      refine iteQ (by lia) ?_
      rw [if_pos ⟨congrArg some hr0, i12⟩] at eL
      obtain ⟨nd, n8⟩ := sorts_nd w0i (by rw [← w0g]; exact h0 (by lia))
      have hnm : nmAt W i = (spl ls[0]).tail := by unfold nmAt; rw [if_neg (by lia), w0g]
      match as, hai with
      | a :: as', hai =>
      have ea := (ha0 a rfl).2
      rw [w0g] at ea
      have hne0 := wH ls[0]
      generalize spl ls[0] = us at ea hne0 nd n8 hnm
      match us, hne0, ea with
      | v0 :: nm, _, ea =>
      have ea3 := K3 _ _ ea
      have hnm : nmAt W i = nm := hnm
      walk_at "v"
      refine zy (v := .ref a) etl3 at0 ?_
      walk_at "v"
      refine ⟨_, rfl, ?_⟩
      walk_at "v"
      refine ⟨a, _, rfl, SqL.of ea3, fun sv hsv => ?_⟩
      rw [show cutV ((v0 :: nm).map V.str) (some 1) none = nm.map V.str from EL.cut_from (k := 1) (by simp)]
      obtain ⟨H4, q, K4, esv⟩ := nob (.lst (nm.map V.str)) hsv; rw [q]; clear q
      refine ⟨p, sv, w0 :: r, nm, rfl, K4 _ _ ep, esv, hww, hwl, nd, n8, fun H5 K5 => ?_⟩
      refine zJ ?_
      rw [eL, hnm] at rest
      exact rest _ _ ⟨a :: as', rfl, fin (K4.trans K5)⟩
    case _ =>
     walk_at "v"
     refine zy (v := .str ls[i]) (K2 _ _ hl) (zG (by rw [List.getElem?_map, gi]; rfl)) ?_
     walk_at "v"
     refine ⟨rfl, ?_⟩
     walk_at "v"
     refine ⟨_, _, rfl, rfl, by decide +kernel, hxi, fun p hp => ?_⟩
     refine zJ ?_
     exact rest _ _ ⟨p, rfl, Same.new (Same.refl _) hp, Ne.symm (zi etl2 hp), zb⟩
   ·rintro σ H2 ⟨as, u2, u3, u4, rfl, K2, etl2, hal, ha0, h0, hgo⟩
    rw [Nat.sub_self] at hgo
    have hgo : (if ls.length < 4 then some (ls.length, 0) else none : Option Bad) = yT W := hgo
    walk_at "v"
    refine ⟨tl, _, rfl, .inl (SqL.of etl2), ?_⟩
    walk_at "v"
    rw [List.length_map, hal]
    by_cases l4 : ls.length < 4
    ·rw [if_pos l4] at hgo
     refine iteP (by lia) ?_
     walk_at "v"
     refine ⟨l, _, rfl, .inl (SqL.of (K2 _ _ hl)), ?_⟩
     walk_at "v"
     refine ⟨sz2, fun q hq => ?_⟩
     refine k _ _ (K2.new hq) ?_
     rw [← hgo]
     refine ⟨q, rfl, ?_⟩
     rw [zb, List.length_map]
     rfl
    ·rw [if_neg l4] at hgo
     refine iteQ (by lia) ?_
     walk_at "v"
     refine k _ _ K2 ?_
     rw [← hgo]
     rfl
end
noncomputable abbrev sRs : Stmt := top 25
noncomputable abbrev nRs : List Str := ["lines", "words", "names", "place", "name"]
theorem nmRs : Nm nRs (zc sRs) := ⟨by decide +kernel, by decide +kernel⟩
theorem scRs : FnScope nRs ["lines"] (zc sRs) := ⟨rfl, rfl, rfl, by decide +kernel, rfl, by decide +kernel, by decide +kernel⟩
noncomputable def spRs (cA : Addr) : Sp := fun vs H Q E => ∃ (l : Addr) (ls : List Str), vs = [.ref l] ∧ H l = some (.lst (ls.map V.str)) ∧ (∀ x ∈ ls, x.length ≤ 10000) ∧ ls.length ≤ 100 ∧ Res (yl (ls.map spl)) (fun nm => ∀ p H', Same H H' → TupF H' p (nm.map V.str) → Q (.ref p) H') (Bd cA H E)
section
variable {P : Program} {w : World} {K : PySem.W.Frag} {mg : Str → Option Value} {base : Heap}
noncomputable abbrev ivP4f1 (H : Hp) (l : Addr) (lw : Addr) (r : List Str) (l2 : Addr) : Nat → St → Hp → Prop := fun i σ H' => ∃ u3 u4 acc, σ = [some (.ref l), some (.ref lw), some (.ref l2), u3, u4] ∧ Same H H' ∧ H' lw = some (.lst ((("sorts" : Str) :: r).map V.str)) ∧ H' l2 = some (.lst ((acc : List Str).map V.str)) ∧ acc.length ≤ 8 ∧ rNm r 1 [] = rNm (r.drop i) (i + 1) acc
set_option maxHeartbeats 4000000 in
theorem ok_Rs {f : Addr} {fd : FuncData} (B : Bl mg) (C : KR K mg) {cA : Addr} (N : HasC P w K mg base 1 "NoPot" cA ["self", "line", "word"] (spXi K ["line", "word"])) (xa : XA K cA) (hna : ∀ f ∈ (["line", "word"] : List Str), zW K cA f) (G : HasX P w K mg base 3 "words_of" ["lines", "line", "first"] (vk cA)) (M : Has P w K mg base 1 "is_name" ["thing"] XZ) (F : Fun K "read_sorts" "read_sorts" sRs f fd) : FnOk P w K mg base (CXE P w) 4 f fd ["lines"] (spRs cA) := by
 refine F.okXF scRs (fun vs H Q E h => ?_) (fun cdv A outer s H vs Q E hr h LF => ?_)
 ·obtain ⟨l, ls, rfl, _⟩ := h
  rfl
 ·obtain ⟨l, ls, rfl, hl, hx, h100, k⟩ := h
  have L := LF.lands
  refine' ⟨_, ?hb, ?rd⟩
  case' hb => skip
  case' hb => refine' za ?g1 ?g2
  case' g2 => refine' za ?g3 ?g4
  case' g4 => refine' za ?g5 ?g6
  case' g6 => refine' za ?g7 ?g8
  case' g8 => refine' ze ?g9
  case g1 => exact zh nmRs 1 (yB G L hr (by decide) (pa_c (pvd nmRs 0) (pa_2 (pe_k C.l0) zn)))
  case g3 => exact zh nmRs 2 (zM zz)
  case' g5 => refine' yr PassesOwn.leaving rfl ?g10 (pgd nmRs 3) ?g11
  case g10 => exact vP B.range (pa_2 zd (zv zf B.len PySem.boot_len (pa_1 (pvd nmRs 1))))
  case' g11 => refine' za ?g12 ?g13
  case' g13 => refine' za ?g14 ?g15
  case' g15 => refine' ze ?g16
  case g12 => exact zh nmRs 4 (zw ix_d (pvd nmRs 1) (pvd nmRs 3) (fun _ _ => rfl))
  case' g14 => refine' zx ?g17 ?g18 zp
  case g17 => exact PW.pt (xh (zj zR (zv zf B.len PySem.boot_len (pa_1 (pvd nmRs 2))) (pe_k C.msor) (zm _)) (xh (yR (xg (pe_f M hr (by decide) (pa_1 (pvd nmRs 4))))) (yQ (zj yd (pvd nmRs 4) (pvd nmRs 2) (by with_unfolding_all rfl)))))
  case' g18 => refine' ze ?g20
  case g20 => exact zK N L rfl hr (by decide) (pa_2 (pe_k C.l0) (pvd nmRs 3))
  case g16 => exact yi (zD PySem.F.plainAttrs_list PySem.F.slot_list_append PySem.F.type_list_append yk (pvd nmRs 2) (pa_1 (pvd nmRs 4)))
  case' g7 => refine' zx ?g21 ?g22 zp
  case g21 => exact zj zR (zv zf B.len PySem.boot_len (pa_1 (pvd nmRs 2))) zd (zm _)
  case' g22 => refine' ze ?g24
  case g24 => exact zK N L rfl hr (by decide) (pa_2 (pe_k C.l0) (zv zf B.len PySem.boot_len (pa_1 (pvd nmRs 1))))
  case g9 => exact zt (yA call_tupleF B.tuple PyProof.Rows.boot_tuple (pa_1 (pvd nmRs 2)))
  case rd =>
   walk_at "v"
   refine zL ?_
   walk_at "v"
   refine ⟨l, ls, 0, "sorts", rfl, hl, hx, h100, zU (fun ws hw lw H1 K1 hlw e1 => ?_) (fun b hb => k.bad (by unfold yl; rw [hb]))⟩
   obtain ⟨hwx, hwl, r, rfl⟩ := wu hx hw
   unfold yl at k
   rw [hw] at k
   dsimp only at k
   have hrl : r.length ≤ 10000 := by rw [List.length_cons] at hwl; lia
   have k' : Res (match rNm r 1 [] with | .error b => .error b | .ok nm => if nm.length = 0 then .error (0, r.length + 1) else .ok nm : Except Bad (List Str)) (fun nm => ∀ p H', Same H H' → TupF H' p (nm.map V.str) → Q (.ref p) H') (Bd cA H E) := k
   clear k
   walk_at "v"
   refine ⟨sz0, fun l2 hl2 => ?_⟩
   have K2 : Same H1 (upd H1 l2 (.lst [])) := Same.new (Same.refl H1) hl2
   have e2 : upd H1 l2 (.lst []) l2 = some (.lst []) := zb
   have ew := K2 _ _ e1
   have n2 : H l2 = none := K1.free hl2
   have ne : lw ≠ l2 := zi e1 hl2
   have K02 := K1.trans K2
   generalize upd H1 l2 (.lst []) = H2 at K2 e2 ew K02 ⊢
   walk_at "v"
   refine w6 ?_
   walk_at "v"
   refine ⟨lw, _, rfl, .inl (SqL.of ew), ?_⟩
   refine ⟨1, _, rfl, ⟨by decide, by decide, by rw [List.length_map, List.length_cons]; lia, by rw [List.length_map, List.length_cons]; lia⟩, ?_⟩
   rw [show ((((("sorts" : Str) :: r).map V.str).length : Nat) : Int) - 1 = ((r.length : Nat) : Int) by rw [List.length_map, List.length_cons]; lia, Int.toNat_natCast]
   refine zP (n := r.length) (ivP4f1 H l lw r l2) ⟨none, none, [], rfl, K02, ew, e2, by decide, rfl⟩ ?_ ?_
   ·rintro i σ H3 hi ⟨u3, u4, acc, rfl, K3, ew3, e3, ha, hb⟩
    have gx : r[i]? = some r[i] := List.getElem?_eq_getElem hi
    have dr : r.drop i = r[i] :: r.drop (i + 1) := List.drop_eq_getElem_cons hi
    have hxl := hwx r[i] (List.mem_cons_of_mem _ (List.getElem_mem hi))
    rw [dr] at hb
    generalize r[i] = x at gx hb hxl
    have bad : (acc.length = 8 ∨ zO x = false ∨ x ∈ acc) → Bd cA H E (0, i + 1) := fun q => k'.bad (by rw [hb]; unfold rNm; rw [if_pos q])
    walk_at "v"
    rw [show (1 + (i : Int)) = ((i + 1 : Nat) : Int) by lia]
    refine zy (v := .str x) ew3 (zG (j := i + 1) (by rw [List.map_cons, List.getElem?_cons_succ, List.getElem?_map, gx]; rfl)) ?_
    walk_at "v"
    refine ⟨l2, _, rfl, .inl (SqL.of e3), ?_⟩
    walk_at "v"
    refine ⟨rfl, ?_⟩
    refine ⟨_, rfl, ?_⟩
    refine iteD (fun z => ?_) (fun z8 => ?_)
    ·have z := V.int.inj z
     rw [List.length_map] at z
     first | refine iteT ?_ | skip
     refine zC xa hna ?_ (fun Q1 Q2 hQ h => by first | exact hQ _ _ h | (obtain ⟨v, e, h⟩ := h; first | exact ⟨v, e, hQ _ _ h⟩ | (obtain ⟨v', e', h⟩ := h; first | exact ⟨v, e, v', e', hQ _ _ h⟩ | (obtain ⟨q1, q2, h⟩ := h; first | exact ⟨v, e, v', e', q1, q2, hQ _ _ h⟩ | (obtain ⟨q3, q4, h⟩ := h; exact ⟨v, e, v', e', q1, q2, q3, q4, hQ _ _ h⟩)))))
     walk_at "v"
     exact ⟨rfl, by decide, fun dx hd => bad (.inl (by lia)) dx _ K3 hd⟩
    have a8 : ¬ acc.length = 8 := fun z => z8 (by rw [List.length_map, z]; rfl)
    walk_at "v"
    refine ⟨_, rfl, hxl, fun H4 K4 => ?_⟩
    walk_at "v"
    cases hn : zO x with
    | false =>
     refine iteT ?_
     first | refine iteT ?_ | skip
     refine zC xa hna ?_ (fun Q1 Q2 hQ h => by first | exact hQ _ _ h | (obtain ⟨v, e, h⟩ := h; first | exact ⟨v, e, hQ _ _ h⟩ | (obtain ⟨v', e', h⟩ := h; first | exact ⟨v, e, v', e', hQ _ _ h⟩ | (obtain ⟨q1, q2, h⟩ := h; first | exact ⟨v, e, v', e', q1, q2, hQ _ _ h⟩ | (obtain ⟨q3, q4, h⟩ := h; exact ⟨v, e, v', e', q1, q2, q3, q4, hQ _ _ h⟩)))))
     walk_at "v"
     exact ⟨rfl, by decide, fun dx hd => bad (.inr (.inl hn)) dx _ (K3.trans K4) hd⟩
    | true =>
    refine iteF ?_
    walk_at "v"
    refine ⟨l2, _, rfl, .inl (SqL.of (K4 _ _ e3)), rfl, zZ _, ?_⟩
    rw [yh]
    by_cases hm : x ∈ acc
    ·rw [decide_eq_true hm]
     walk_at "v"
     refine iteT ?_
     refine zC xa hna ?_ (fun Q1 Q2 hQ h => by first | exact hQ _ _ h | (obtain ⟨v, e, h⟩ := h; first | exact ⟨v, e, hQ _ _ h⟩ | (obtain ⟨v', e', h⟩ := h; first | exact ⟨v, e, v', e', hQ _ _ h⟩ | (obtain ⟨q1, q2, h⟩ := h; first | exact ⟨v, e, v', e', q1, q2, hQ _ _ h⟩ | (obtain ⟨q3, q4, h⟩ := h; exact ⟨v, e, v', e', q1, q2, q3, q4, hQ _ _ h⟩)))))
     walk_at "v"
     exact ⟨rfl, by decide, fun dx hd => bad (.inr (.inr hm)) dx _ (K3.trans K4) hd⟩
    rw [decide_eq_false hm]
    walk_at "v"
    refine iteF ?_
    walk_at "v"
    refine ⟨.inl ⟨rfl, _, SqL.of (K4 _ _ e3)⟩, ?_⟩
    walk_at "v"
    refine ⟨l2, _, _, rfl, rfl, K4 _ _ e3, by rw [List.length_map]; exact zX (by lia), ?_⟩
    refine ⟨_, _, acc ++ [x], rfl, (K3.trans K4).put n2, by rw [zg ne]; exact K4 _ _ ew3, by rw [zb, List.map_append]; rfl, by rw [List.length_append, List.length_singleton]; lia, ?_⟩
    rw [hb]
    conv => lhs; unfold rNm
    rw [if_neg]
    rintro (z | z | z)
    ·exact a8 z
    ·rw [hn] at z; cases z
    ·exact hm z
   rintro σ H3 ⟨u3, u4, acc, rfl, K3, ew3, e3, ha, hb⟩
   rw [List.drop_length] at hb
   have hb : rNm r 1 [] = .ok acc := hb
   rw [hb] at k'
   have k' : Res (if acc.length = 0 then .error (0, r.length + 1) else .ok acc : Except Bad (List Str)) (fun nm => ∀ p H', Same H H' → TupF H' p (nm.map V.str) → Q (.ref p) H') (Bd cA H E) := k'
   walk_at "v"
   refine ⟨l2, _, rfl, .inl (SqL.of e3), ?_⟩
   walk_at "v"
   refine ⟨rfl, ?_⟩
   refine ⟨_, rfl, ?_⟩
   refine iteD (fun z => ?_) (fun z => ?_)
   ·have z := V.int.inj z
    rw [List.length_map] at z
    rw [if_pos (by lia)] at k'
    refine zC xa hna ?_ (fun Q1 Q2 hQ h => by first | exact hQ _ _ h | (obtain ⟨v, e, h⟩ := h; first | exact ⟨v, e, hQ _ _ h⟩ | (obtain ⟨v', e', h⟩ := h; first | exact ⟨v, e, v', e', hQ _ _ h⟩ | (obtain ⟨q1, q2, h⟩ := h; first | exact ⟨v, e, v', e', q1, q2, hQ _ _ h⟩ | (obtain ⟨q3, q4, h⟩ := h; exact ⟨v, e, v', e', q1, q2, q3, q4, hQ _ _ h⟩)))))
    walk_at "v"
    refine ⟨lw, _, rfl, .inl (SqL.of ew3), ?_⟩
    walk_at "v"
    rw [show (((("sorts" : Str) :: r).map V.str).length : Nat) = r.length + 1 by rw [List.length_map]; rfl]
    exact ⟨rfl, by decide, fun dx hd => k' dx _ K3 hd⟩
   ·rw [if_neg (fun q => z (by rw [List.length_map, q]; rfl))] at k'
    walk_at "v"
    refine ⟨l2, _, rfl, SqL.of e3, fun p o hp h1 h2 => ?_⟩
    exact k' p _ (K3.new hp) ⟨o, zb, h1, h2⟩
end
noncomputable abbrev sRb : Stmt := top 26
noncomputable abbrev nRb : List Str := ["lines", "sorts", "words", "counts", "place"]
theorem nmRb : Nm nRb (zc sRb) := ⟨by decide +kernel, by decide +kernel⟩
theorem scRb : FnScope nRb ["lines", "sorts"] (zc sRb) := ⟨rfl, rfl, rfl, by decide +kernel, rfl, by decide +kernel, by decide +kernel⟩
noncomputable def spRb (cA : Addr) : Sp := fun vs H Q E => ∃ (l ps : Addr) (ls nm : List Str), vs = [.ref l, .ref ps] ∧ H l = some (.lst (ls.map V.str)) ∧ (∀ x ∈ ls, x.length ≤ 10000) ∧ ls.length ≤ 100 ∧ TupF H ps (nm.map V.str) ∧ nm.length ≤ 8 ∧ Res (yP (ls.map spl) nm) (fun cs => ∀ p H', Same H H' → H' p = some (.tup (cs.map V.int)) → Q (.ref p) H') (Bd cA H E)
section
variable {P : Program} {w : World} {K : PySem.W.Frag} {mg : Str → Option Value} {base : Heap}
noncomputable abbrev ivP4f2 (H : Hp) (l : Addr) (ps : Addr) (nm : List Str) (lw : Addr) (r : List Str) (l2 : Addr) : Nat → St → Hp → Prop := fun i σ H' => ∃ u4 acc, σ = [some (.ref l), some (.ref ps), some (.ref lw), some (.ref l2), u4] ∧ Same H H' ∧ H' lw = some (.lst ((("begin" : Str) :: r).map V.str)) ∧ H' l2 = some (.lst ((acc : List Int).map V.int)) ∧ acc.length ≤ nm.length ∧ rBg (("begin" : Str) :: r) nm.length r.length 1 [] = rBg (("begin" : Str) :: r) nm.length (r.length - i) (i + 1) acc
set_option maxHeartbeats 4000000 in
theorem ok_Rb {f : Addr} {fd : FuncData} (B : Bl mg) (C : KR K mg) {cA : Addr} (N : HasC P w K mg base 1 "NoPot" cA ["self", "line", "word"] (spXi K ["line", "word"])) (xa : XA K cA) (hna : ∀ f ∈ (["line", "word"] : List Str), zW K cA f) (G : HasX P w K mg base 3 "words_of" ["lines", "line", "first"] (vk cA)) (M : HasX P w K mg base 3 "read_number" ["words", "line", "place", "low", "high"] (spNu cA)) (F : Fun K "read_begin" "read_begin" sRb f fd) : FnOk P w K mg base (CXE P w) 4 f fd ["lines", "sorts"] (spRb cA) := by
 refine F.okXF scRb (fun vs H Q E h => ?_) (fun cdv A outer s H vs Q E hr h LF => ?_)
 ·obtain ⟨l, ps, ls, nm, rfl, _⟩ := h
  rfl
 ·obtain ⟨l, ps, ls, nm, rfl, hl, hx, h100, hp, n8, k⟩ := h
  have L := LF.lands
  refine' ⟨_, ?hb, ?rd⟩
  case' hb => skip
  case' hb => refine' za ?g1 ?g2
  case' g2 => refine' za ?g3 ?g4
  case' g4 => refine' za ?g5 ?g6
  case' g6 => refine' za ?g7 ?g8
  case' g8 => refine' ze ?g9
  case g1 => exact zh nmRb 2 (yB G L hr (by decide) (pa_c (pvd nmRb 0) (pa_2 (pe_k C.l1) zn)))
  case g3 => exact zh nmRb 3 (zM zz)
  case' g5 => refine' yr PassesOwn.leaving rfl ?g10 (pgd nmRb 4) ?g11
  case g10 => exact vP B.range (pa_2 zd (zv zf B.len PySem.boot_len (pa_1 (pvd nmRb 2))))
  case' g11 => refine' za ?g12 ?g13
  case' g13 => refine' ze ?g14
  case' g12 => refine' zx ?g15 ?g16 zp
  case g15 => exact zj zR (zv zf B.len PySem.boot_len (pa_1 (pvd nmRb 3))) (zv zf B.len PySem.boot_len (pa_1 (pvd nmRb 1))) (zm _)
  case' g16 => refine' ze ?g18
  case g18 => exact zK N L rfl hr (by decide) (pa_2 (pe_k C.l1) (pvd nmRb 4))
  case g14 => exact yi (zD PySem.F.plainAttrs_list PySem.F.slot_list_append PySem.F.type_list_append yk (pvd nmRb 3) (pa_1 (yB M L hr (by decide) (pa_c (pvd nmRb 2) (pa_c (pe_k C.l1) (pa_c (pvd nmRb 4) (pa_2 zd (pe_k C.mbeg))))))))
  case' g7 => refine' zx ?g19 ?g20 zp
  case g19 => exact zj wy (zv zf B.len PySem.boot_len (pa_1 (pvd nmRb 3))) (zv zf B.len PySem.boot_len (pa_1 (pvd nmRb 1))) (zm _)
  case' g20 => refine' ze ?g22
  case g22 => exact zK N L rfl hr (by decide) (pa_2 (pe_k C.l1) (zv zf B.len PySem.boot_len (pa_1 (pvd nmRb 2))))
  case g9 => exact zt (yA xS B.tuple PyProof.Rows.boot_tuple (pa_1 (pvd nmRb 3)))
  case rd =>
   walk_at "v"
   refine zL ?_
   walk_at "v"
   refine ⟨l, ls, 1, "begin", rfl, hl, hx, h100, zU (fun ws hw lw H1 K1 hlw e1 => ?_) (fun b hb => k.bad (by unfold yP; rw [hb]))⟩
   obtain ⟨hwx, hwl, r, rfl⟩ := wu hx hw
   unfold yP at k
   rw [hw] at k
   dsimp only at k
   have hrl : r.length ≤ 10000 := by rw [List.length_cons] at hwl; lia
   have k' : Res (match rBg (("begin" : Str) :: r) nm.length r.length 1 [] with | .error b => .error b | .ok cs => if cs.length < nm.length then .error (1, r.length + 1) else .ok cs : Except Bad (List Int)) (fun cs => ∀ p H', Same H H' → H' p = some (.tup (cs.map V.int)) → Q (.ref p) H') (Bd cA H E) := k
   clear k
   walk_at "v"
   refine ⟨sz0, fun l2 hl2 => ?_⟩
   have K2 : Same H1 (upd H1 l2 (.lst [])) := Same.new (Same.refl H1) hl2
   have e2 : upd H1 l2 (.lst []) l2 = some (.lst []) := zb
   have ew := K2 _ _ e1
   have n2 : H l2 = none := K1.free hl2
   have ne : lw ≠ l2 := zi e1 hl2
   have K02 := K1.trans K2
   generalize upd H1 l2 (.lst []) = H2 at K2 e2 ew K02 ⊢
   walk_at "v"
   refine w6 ?_
   walk_at "v"
   refine ⟨lw, _, rfl, .inl (SqL.of ew), ?_⟩
   refine ⟨1, _, rfl, ⟨by decide, by decide, by rw [List.length_map, List.length_cons]; lia, by rw [List.length_map, List.length_cons]; lia⟩, ?_⟩
   rw [show ((((("begin" : Str) :: r).map V.str).length : Nat) : Int) - 1 = ((r.length : Nat) : Int) by rw [List.length_map, List.length_cons]; lia, Int.toNat_natCast]
   refine zP (n := r.length) (ivP4f2 H l ps nm lw r l2) ⟨none, [], rfl, K02, ew, e2, Nat.zero_le _, rfl⟩ ?_ ?_
   ·rintro i σ H3 hi ⟨u4, acc, rfl, K3, ew3, e3, ha, hb⟩
    rw [show r.length - i = (r.length - (i + 1)) + 1 by lia] at hb
    rw [vv] at hb
    walk_at "v"
    rw [show (1 + (i : Int)) = ((i + 1 : Nat) : Int) by lia]
    refine ⟨l2, _, rfl, .inl (SqL.of e3), ?_⟩
    walk_at "v"
    refine ⟨ps, _, rfl, .inr (hp.same K3).sq, ?_⟩
    refine ⟨rfl, ?_⟩
    refine ⟨_, rfl, ?_⟩
    refine iteD (fun z => ?_) (fun z => ?_)
    ·have z := V.int.inj z
     rw [List.length_map, List.length_map] at z
     rw [if_pos (by lia)] at hb
     refine zC xa hna ?_ (fun Q1 Q2 hQ h => by first | exact hQ _ _ h | (obtain ⟨v, e, h⟩ := h; first | exact ⟨v, e, hQ _ _ h⟩ | (obtain ⟨v', e', h⟩ := h; first | exact ⟨v, e, v', e', hQ _ _ h⟩ | (obtain ⟨q1, q2, h⟩ := h; first | exact ⟨v, e, v', e', q1, q2, hQ _ _ h⟩ | (obtain ⟨q3, q4, h⟩ := h; exact ⟨v, e, v', e', q1, q2, q3, q4, hQ _ _ h⟩)))))
     walk_at "v"
     exact ⟨rfl, by decide, fun dx hd => k'.bad (e' := (1, i + 1)) (by rw [hb]) dx _ K3 hd⟩
    have a8 : ¬ acc.length = nm.length := fun q => z (by rw [List.length_map, List.length_map, q])
    rw [if_neg a8] at hb
    walk_at "v"
    refine ⟨.inl ⟨rfl, _, SqL.of e3⟩, ?_⟩
    walk_at "v"
    refine zL ?_
    walk_at "v"
    refine ⟨lw, _, 1, i + 1, 0, 99, rfl, ew3, by rw [List.length_cons]; lia, hwx, zU (fun c hc H4 K4 => ?_) (fun b hb' => (k'.bad (by rw [hb, hb'])).up K3)⟩
    rw [hc] at hb
    refine ⟨l2, _, _, rfl, rfl, K4 _ _ e3, by rw [List.length_map]; exact zX (by lia), ?_⟩
    refine ⟨_, acc ++ [c], rfl, (K3.trans K4).put n2, by rw [zg ne]; exact K4 _ _ ew3, by rw [zb, List.map_append]; rfl, by rw [List.length_append, List.length_singleton]; lia, hb⟩
   rintro σ H3 ⟨u4, acc, rfl, K3, ew3, e3, ha, hb⟩
   rw [Nat.sub_self] at hb
   have hb : rBg (("begin" : Str) :: r) nm.length r.length 1 [] = .ok acc := hb
   rw [hb] at k'
   have k' : Res (if acc.length < nm.length then .error (1, r.length + 1) else .ok acc : Except Bad (List Int)) (fun cs => ∀ p H', Same H H' → H' p = some (.tup (cs.map V.int)) → Q (.ref p) H') (Bd cA H E) := k'
   walk_at "v"
   refine ⟨l2, _, rfl, .inl (SqL.of e3), ?_⟩
   walk_at "v"
   refine ⟨ps, _, rfl, .inr (hp.same K3).sq, ?_⟩
   walk_at "v"
   by_cases q : acc.length < nm.length
   ·rw [if_pos q] at k'
    refine iteP (by rw [List.length_map, List.length_map]; lia) ?_
    refine zC xa hna ?_ (fun Q1 Q2 hQ h => by first | exact hQ _ _ h | (obtain ⟨v, e, h⟩ := h; first | exact ⟨v, e, hQ _ _ h⟩ | (obtain ⟨v', e', h⟩ := h; first | exact ⟨v, e, v', e', hQ _ _ h⟩ | (obtain ⟨q1, q2, h⟩ := h; first | exact ⟨v, e, v', e', q1, q2, hQ _ _ h⟩ | (obtain ⟨q3, q4, h⟩ := h; exact ⟨v, e, v', e', q1, q2, q3, q4, hQ _ _ h⟩)))))
    walk_at "v"
    refine ⟨lw, _, rfl, .inl (SqL.of ew3), ?_⟩
    walk_at "v"
    rw [show (((("begin" : Str) :: r).map V.str).length : Nat) = r.length + 1 by rw [List.length_map]; rfl]
    exact ⟨rfl, by decide, fun dx hd => k' dx _ K3 hd⟩
   rw [if_neg q] at k'
   refine iteQ (by rw [List.length_map, List.length_map]; lia) ?_
   walk_at "v"
   refine ⟨l2, _, rfl, e3, fun p H4 K4 e4 => ?_⟩
   exact k' p _ (K3.trans K4) e4
end
noncomputable abbrev sRi : Stmt := top 27
noncomputable abbrev nRi : List Str := ["lines", "sorts", "words", "inputs", "place", "sort"]
theorem nmRi : Nm nRi (zc sRi) := ⟨by decide +kernel, by decide +kernel⟩
theorem scRi : FnScope nRi ["lines", "sorts"] (zc sRi) := ⟨rfl, rfl, rfl, by decide +kernel, rfl, by decide +kernel, by decide +kernel⟩
noncomputable def spRi (cA : Addr) : Sp := fun vs H Q E => ∃ (l ps : Addr) (ls nm : List Str), vs = [.ref l, .ref ps] ∧ H l = some (.lst (ls.map V.str)) ∧ (∀ x ∈ ls, x.length ≤ 10000) ∧ ls.length ≤ 100 ∧ TupF H ps (nm.map V.str) ∧ nm.length ≤ 8 ∧ Res (yw (ls.map spl) nm) (fun cs => ∀ p H', Same H H' → H' p = some (.tup (cs.map V.int)) → Q (.ref p) H') (Bd cA H E)
section
variable {P : Program} {w : World} {K : PySem.W.Frag} {mg : Str → Option Value} {base : Heap}
noncomputable abbrev ivP4f3 (H : Hp) (l : Addr) (ps : Addr) (nm : List Str) (lw : Addr) (r : List Str) (l2 : Addr) : Nat → St → Hp → Prop := fun i σ H' => ∃ u4 u5 acc, σ = [some (.ref l), some (.ref ps), some (.ref lw), some (.ref l2), u4, u5] ∧ Same H H' ∧ H' lw = some (.lst ((("in" : Str) :: r).map V.str)) ∧ H' l2 = some (.lst ((acc : List Int).map V.int)) ∧ acc.length ≤ 3 ∧ rIn (("in" : Str) :: r) nm r.length 1 [] = rIn (("in" : Str) :: r) nm (r.length - i) (i + 1) acc
set_option maxHeartbeats 4000000 in
theorem ok_Ri {f : Addr} {fd : FuncData} (B : Bl mg) (C : KR K mg) {cA : Addr} (N : HasC P w K mg base 1 "NoPot" cA ["self", "line", "word"] (spXi K ["line", "word"])) (xa : XA K cA) (hna : ∀ f ∈ (["line", "word"] : List Str), zW K cA f) (G : HasX P w K mg base 3 "words_of" ["lines", "line", "first"] (vk cA)) (M : HasX P w K mg base 3 "read_sort" ["words", "line", "place", "sorts"] (spSo cA)) (F : Fun K "read_inputs" "read_inputs" sRi f fd) : FnOk P w K mg base (CXE P w) 4 f fd ["lines", "sorts"] (spRi cA) := by
 refine F.okXF scRi (fun vs H Q E h => ?_) (fun cdv A outer s H vs Q E hr h LF => ?_)
 ·obtain ⟨l, ps, ls, nm, rfl, _⟩ := h
  rfl
 ·obtain ⟨l, ps, ls, nm, rfl, hl, hx, h100, hp, n8, k⟩ := h
  have L := LF.lands
  refine' ⟨_, ?hb, ?rd⟩
  case' hb => skip
  case' hb => refine' za ?g1 ?g2
  case' g2 => refine' za ?g3 ?g4
  case' g4 => refine' za ?g5 ?g6
  case' g6 => refine' ze ?g7
  case g1 => exact zh nmRi 2 (yB G L hr (by decide) (pa_c (pvd nmRi 0) (pa_2 (pe_k C.l2) zn)))
  case g3 => exact zh nmRi 3 (zM zz)
  case' g5 => refine' yr PassesOwn.leaving rfl ?g8 (pgd nmRi 4) ?g9
  case g8 => exact vP B.range (pa_2 zd (zv zf B.len PySem.boot_len (pa_1 (pvd nmRi 2))))
  case' g9 => refine' za ?g10 ?g11
  case' g11 => refine' za ?g12 ?g13
  case' g13 => refine' ze ?g14
  case g10 => exact zh nmRi 5 (yB M L hr (by decide) (pa_c (pvd nmRi 2) (pa_c (pe_k C.l2) (pa_2 (pvd nmRi 4) (pvd nmRi 1)))))
  case' g12 => refine' zx ?g15 ?g16 zp
  case g15 => exact PW.pt (xh (zj zR (zv zf B.len PySem.boot_len (pa_1 (pvd nmRi 3))) (pe_k C.minp) (zm _)) (yQ (zj yd (pvd nmRi 5) (pvd nmRi 3) (by with_unfolding_all rfl))))
  case' g16 => refine' ze ?g18
  case g18 => exact zK N L rfl hr (by decide) (pa_2 (pe_k C.l2) (pvd nmRi 4))
  case g14 => exact yi (zD PySem.F.plainAttrs_list PySem.F.slot_list_append PySem.F.type_list_append yk (pvd nmRi 3) (pa_1 (pvd nmRi 5)))
  case g7 => exact zt (yA xS B.tuple PyProof.Rows.boot_tuple (pa_1 (pvd nmRi 3)))
  case rd =>
   walk_at "v"
   refine zL ?_
   walk_at "v"
   refine ⟨l, ls, 2, "in", rfl, hl, hx, h100, zU (fun ws hw lw H1 K1 hlw e1 => ?_) (fun b hb => k.bad (by unfold yw; rw [hb]))⟩
   obtain ⟨hwx, hwl, r, rfl⟩ := wu hx hw
   unfold yw at k
   rw [hw] at k
   dsimp only at k
   have hrl : r.length ≤ 10000 := by rw [List.length_cons] at hwl; lia
   have k' : Res (rIn (("in" : Str) :: r) nm r.length 1 []) (fun cs => ∀ p H', Same H H' → H' p = some (.tup (cs.map V.int)) → Q (.ref p) H') (Bd cA H E) := k
   clear k
   walk_at "v"
   refine ⟨sz0, fun l2 hl2 => ?_⟩
   have K2 : Same H1 (upd H1 l2 (.lst [])) := Same.new (Same.refl H1) hl2
   have e2 : upd H1 l2 (.lst []) l2 = some (.lst []) := zb
   have ew := K2 _ _ e1
   have n2 : H l2 = none := K1.free hl2
   have ne : lw ≠ l2 := zi e1 hl2
   have K02 := K1.trans K2
   generalize upd H1 l2 (.lst []) = H2 at K2 e2 ew K02 ⊢
   walk_at "v"
   refine w6 ?_
   walk_at "v"
   refine ⟨lw, _, rfl, .inl (SqL.of ew), ?_⟩
   refine ⟨1, _, rfl, ⟨by decide, by decide, by rw [List.length_map, List.length_cons]; lia, by rw [List.length_map, List.length_cons]; lia⟩, ?_⟩
   rw [show ((((("in" : Str) :: r).map V.str).length : Nat) : Int) - 1 = ((r.length : Nat) : Int) by rw [List.length_map, List.length_cons]; lia, Int.toNat_natCast]
   refine zP (n := r.length) (ivP4f3 H l ps nm lw r l2) ⟨none, none, [], rfl, K02, ew, e2, by decide, rfl⟩ ?_ ?_
   ·rintro i σ H3 hi ⟨u4, u5, acc, rfl, K3, ew3, e3, ha, hb⟩
    rw [show r.length - i = (r.length - (i + 1)) + 1 by lia] at hb
    rw [vt] at hb
    walk_at "v"
    refine zL ?_
    walk_at "v"
    rw [show (1 + (i : Int)) = ((i + 1 : Nat) : Int) by lia]
    refine ⟨lw, _, 2, i + 1, ps, nm, rfl, ew3, by rw [List.length_cons]; lia, hp.same K3, zU (fun q hq H4 K4 => ?_) (fun b hb' => (k'.bad (by rw [hb, hb'])).up K3)⟩
    rw [hq] at hb
    dsimp only at hb
    walk_at "v"
    refine ⟨l2, _, rfl, .inl (SqL.of (K4 _ _ e3)), ?_⟩
    walk_at "v"
    refine ⟨rfl, ?_⟩
    refine ⟨_, rfl, ?_⟩
    refine iteD (fun z => ?_) (fun z => ?_)
    ·have z := V.int.inj z
     rw [List.length_map] at z
     rw [if_pos (.inl (by lia))] at hb
     first | refine iteT ?_ | skip
     refine zC xa hna ?_ (fun Q1 Q2 hQ h => by first | exact hQ _ _ h | (obtain ⟨v, e, h⟩ := h; first | exact ⟨v, e, hQ _ _ h⟩ | (obtain ⟨v', e', h⟩ := h; first | exact ⟨v, e, v', e', hQ _ _ h⟩ | (obtain ⟨q1, q2, h⟩ := h; first | exact ⟨v, e, v', e', q1, q2, hQ _ _ h⟩ | (obtain ⟨q3, q4, h⟩ := h; exact ⟨v, e, v', e', q1, q2, q3, q4, hQ _ _ h⟩)))))
     walk_at "v"
     exact ⟨rfl, by decide, fun dx hd => k'.bad (e' := (2, i + 1)) hb dx _ (K3.trans K4) hd⟩
    have a3 : ¬ acc.length = 3 := fun q' => z (by rw [List.length_map, q']; rfl)
    walk_at "v"
    refine ⟨l2, _, rfl, .inl (SqL.of (K4 _ _ e3)), rfl, flat_ints _, ?_⟩
    rw [Yi]
    by_cases hm : (q : Int) ∈ acc
    ·rw [if_pos (.inr hm)] at hb
     rw [decide_eq_true hm]
     walk_at "v"
     refine iteT ?_
     refine zC xa hna ?_ (fun Q1 Q2 hQ h => by first | exact hQ _ _ h | (obtain ⟨v, e, h⟩ := h; first | exact ⟨v, e, hQ _ _ h⟩ | (obtain ⟨v', e', h⟩ := h; first | exact ⟨v, e, v', e', hQ _ _ h⟩ | (obtain ⟨q1, q2, h⟩ := h; first | exact ⟨v, e, v', e', q1, q2, hQ _ _ h⟩ | (obtain ⟨q3, q4, h⟩ := h; exact ⟨v, e, v', e', q1, q2, q3, q4, hQ _ _ h⟩)))))
     walk_at "v"
     exact ⟨rfl, by decide, fun dx hd => k'.bad (e' := (2, i + 1)) hb dx _ (K3.trans K4) hd⟩
    rw [if_neg (fun z => z.elim a3 hm)] at hb
    rw [decide_eq_false hm]
    walk_at "v"
    refine iteF ?_
    walk_at "v"
    refine ⟨.inl ⟨rfl, _, SqL.of (K4 _ _ e3)⟩, ?_⟩
    walk_at "v"
    refine ⟨l2, _, _, rfl, rfl, K4 _ _ e3, by rw [List.length_map]; exact zX (by lia), ?_⟩
    refine ⟨_, _, acc ++ [(q : Int)], rfl, (K3.trans K4).put n2, by rw [zg ne]; exact K4 _ _ ew3, by rw [zb, List.map_append]; rfl, by rw [List.length_append, List.length_singleton]; lia, hb⟩
   rintro σ H3 ⟨u4, u5, acc, rfl, K3, ew3, e3, ha, hb⟩
   rw [Nat.sub_self] at hb
   have hb : rIn (("in" : Str) :: r) nm r.length 1 [] = .ok acc := hb
   walk_at "v"
   refine ⟨l2, _, rfl, e3, fun p H4 K4 e4 => ?_⟩
   exact k'.ok hb p _ (K3.trans K4) e4
end
noncomputable abbrev sRan : Stmt := top 28
noncomputable abbrev nRan : List Str := ["lines", "sorts", "words", "answer"]
theorem wW : Nm nRan (zc sRan) := ⟨by decide +kernel, by decide +kernel⟩
theorem scRan : FnScope nRan ["lines", "sorts"] (zc sRan) := ⟨rfl, rfl, rfl, by decide +kernel, rfl, by decide +kernel, by decide +kernel⟩
noncomputable def XX (cA : Addr) : Sp := fun vs H Q E => ∃ (l ps : Addr) (ls nm : List Str), vs = [.ref l, .ref ps] ∧ H l = some (.lst (ls.map V.str)) ∧ (∀ x ∈ ls, x.length ≤ 10000) ∧ ls.length ≤ 100 ∧ TupF H ps (nm.map V.str) ∧ Res (yx (ls.map spl) nm) (fun q => ∀ H', Same H H' → Q (.int (q : Int)) H') (Bd cA H E)
section
variable {P : Program} {w : World} {K : PySem.W.Frag} {mg : Str → Option Value} {base : Heap}
set_option maxHeartbeats 4000000 in
theorem ok_Ran {f : Addr} {fd : FuncData} (B : Bl mg) (C : KR K mg) {cA : Addr} (N : HasC P w K mg base 1 "NoPot" cA ["self", "line", "word"] (spXi K ["line", "word"])) (xa : XA K cA) (hna : ∀ f ∈ (["line", "word"] : List Str), zW K cA f) (G : HasX P w K mg base 3 "words_of" ["lines", "line", "first"] (vk cA)) (M : HasX P w K mg base 3 "read_sort" ["words", "line", "place", "sorts"] (spSo cA)) (F : Fun K "read_answer" "read_answer" sRan f fd) : FnOk P w K mg base (CXE P w) 4 f fd ["lines", "sorts"] (XX cA) := by
 refine F.okXF scRan (fun vs H Q E h => ?_) (fun cdv A outer s H vs Q E hr h LF => ?_)
 ·obtain ⟨l, ps, ls, nm, rfl, _⟩ := h
  rfl
 ·obtain ⟨l, ps, ls, nm, rfl, hl, hx, h100, hp, k⟩ := h
  have L := LF.lands
  refine' ⟨_, ?hb, ?rd⟩
  case' hb => skip
  case' hb => refine' za ?g1 ?g2
  case' g2 => refine' za ?g3 ?g4
  case' g4 => refine' za ?g5 ?g6
  case' g6 => refine' za ?g7 ?g8
  case' g8 => refine' ze ?g9
  case g1 => exact zh wW 2 (yB G L hr (by decide) (pa_c (pvd wW 0) (pa_2 (pe_k C.l3) zn)))
  case' g3 => refine' zx ?g10 ?g11 zp
  case g10 => exact zj zR (zv zf B.len PySem.boot_len (pa_1 (pvd wW 2))) zd (zm _)
  case' g11 => refine' ze ?g13
  case g13 => exact zK N L rfl hr (by decide) (pa_2 (pe_k C.l3) zd)
  case g5 => exact zh wW 3 (yB M L hr (by decide) (pa_c (pvd wW 2) (pa_c (pe_k C.l3) (pa_2 zd (pvd wW 1)))))
  case' g7 => refine' zx ?g14 ?g15 zp
  case g14 => exact zj wV (zv zf B.len PySem.boot_len (pa_1 (pvd wW 2))) zd (zm _)
  case' g15 => refine' ze ?g17
  case g17 => exact zK N L rfl hr (by decide) (pa_2 (pe_k C.l3) zd)
  case g9 => exact zt (pvd wW 3)
  case rd =>
   walk_at "v"
   refine zL ?_
   walk_at "v"
   refine ⟨l, ls, 3, "out", rfl, hl, hx, h100, zU (fun ws hw lw H1 K1 hlw e1 => ?_) (fun b hb => k.bad (by unfold yx; rw [hb]))⟩
   obtain ⟨hwx, hwl, r, rfl⟩ := wu hx hw
   unfold yx at k
   rw [hw] at k
   dsimp only at k
   have hrl : r.length ≤ 10000 := by rw [List.length_cons] at hwl; lia
   walk_at "v"
   refine ⟨lw, _, rfl, .inl (SqL.of e1), ?_⟩
   walk_at "v"
   refine ⟨rfl, ?_⟩
   refine ⟨_, rfl, ?_⟩
   refine iteD (fun z => ?_) (fun z => ?_)
   ·have z := V.int.inj z
    rw [List.length_map] at z
    rw [if_pos (by lia)] at k
    refine zC xa hna ?_ (fun Q1 Q2 hQ h => by first | exact hQ _ _ h | (obtain ⟨v, e, h⟩ := h; first | exact ⟨v, e, hQ _ _ h⟩ | (obtain ⟨v', e', h⟩ := h; first | exact ⟨v, e, v', e', hQ _ _ h⟩ | (obtain ⟨q1, q2, h⟩ := h; first | exact ⟨v, e, v', e', q1, q2, hQ _ _ h⟩ | (obtain ⟨q3, q4, h⟩ := h; exact ⟨v, e, v', e', q1, q2, q3, q4, hQ _ _ h⟩)))))
    walk_at "v"
    exact ⟨rfl, by decide, fun dx hd => k dx _ K1 hd⟩
   have a1 : ¬ (("out" : Str) :: r).length = 1 := fun q => z (by rw [List.length_map, q]; rfl)
   rw [if_neg a1] at k
   rw [List.length_cons] at a1
   walk_at "v"
   refine zL ?_
   walk_at "v"
   refine ⟨lw, _, 3, 1, ps, nm, rfl, e1, by rw [List.length_cons]; lia, hp.same K1, zU (fun q hq H4 K4 => ?_) (fun b hb => (k.bad (by rw [hb])).up K1)⟩
   rw [hq] at k
   dsimp only at k
   walk_at "v"
   refine ⟨lw, _, rfl, .inl (SqL.of (K4 _ _ e1)), ?_⟩
   walk_at "v"
   by_cases q2 : 2 < (("out" : Str) :: r).length
   ·rw [if_pos q2] at k
    refine iteP (by rw [List.length_map]; lia) ?_
    refine zC xa hna ?_ (fun Q1 Q2 hQ h => by first | exact hQ _ _ h | (obtain ⟨v, e, h⟩ := h; first | exact ⟨v, e, hQ _ _ h⟩ | (obtain ⟨v', e', h⟩ := h; first | exact ⟨v, e, v', e', hQ _ _ h⟩ | (obtain ⟨q1, q2, h⟩ := h; first | exact ⟨v, e, v', e', q1, q2, hQ _ _ h⟩ | (obtain ⟨q3, q4, h⟩ := h; exact ⟨v, e, v', e', q1, q2, q3, q4, hQ _ _ h⟩)))))
    walk_at "v"
    exact ⟨rfl, by decide, fun dx hd => k dx _ (K1.trans K4) hd⟩
   rw [if_neg q2] at k
   refine iteQ (by rw [List.length_map]; lia) ?_
   walk_at "v"
   exact k _ (K1.trans K4)
end
noncomputable abbrev sRsd : Stmt := top 30
noncomputable abbrev nRsd : List Str := ["words", "line", "start", "end", "sorts", "counts", "last", "place", "count", "sort"]
theorem nmRsd : Nm nRsd (zc sRsd) := ⟨by decide +kernel, by decide +kernel⟩
theorem scRsd : FnScope nRsd ["words", "line", "start", "end", "sorts"] (zc sRsd) := ⟨rfl, rfl, rfl, by decide +kernel, rfl, by decide +kernel, by decide +kernel⟩
noncomputable def qRsda (s : Stmt) : Scope := match s with
 | .Assign _ (.ListComp _ _ sc _) _ => sc
 | _ => { kind := .function, names := [], isGenerator := false, isCoroutine := false }
noncomputable abbrev cRsda : Scope := qRsda ((zk sRsd).getD 0 (.Pass ⟨0, 0, 0, 0⟩))
theorem bsRsda : BScope (zc sRsd) cRsda ["name"] [] [] := { okind := by decide +kernel, kind := by decide +kernel, nocell := by decide +kernel, names := by decide +kernel, fr := by decide +kernel, ff := by decide +kernel, nd := by decide +kernel, vis := by decide +kernel, loc := by decide +kernel, gl := by decide +kernel }
theorem loRsd_5 : (zc sRsd).names.lookup ("counts" : Str) = some .local := by decide +kernel
noncomputable def XV (cA : Addr) : Sp := fun vs H Q E => ∃ (l ps : Addr) (z a e : Nat) (ws nm : List Str), vs = [.ref l, .int (z : Int), .int (a : Int), .int (e : Int), .ref ps] ∧ H l = some (.lst (ws.map V.str)) ∧ (∀ x ∈ ws, x.length ≤ 10000) ∧ ws.length ≤ 10001 ∧ TupF H ps (nm.map V.str) ∧ nm.length ≤ 8 ∧ e ≤ ws.length ∧ a ≤ e + 1 ∧ Res (wv ws nm z a e) (fun cs => ∀ p H', Same H H' → H' p = some (.tup (cs.map V.int)) → Q (.ref p) H') (Bd cA H E)
section
variable {P : Program} {w : World} {K : PySem.W.Frag} {mg : Str → Option Value} {base : Heap}
noncomputable abbrev ivP4g1 (H : Hp) (l : Addr) (ps : Addr) (z : Nat) (a : Nat) (e : Nat) (ws : List Str) (nm : List Str) (D : Addr) : Nat → St → Hp → Prop := fun j σ H' => ∃ (la : Int) (u7 u8 u9 : Option V) (cs : List Int), σ = [some (.ref l), some (.int (z : Int)), some (.int (a : Int)), some (.int (e : Int)), some (.ref ps), some (.ref D), some (.int la), u7, u8, u9] ∧ Same H H' ∧ H' D = some (.lst (cs.map V.int)) ∧ cs.length = nm.length ∧ rSd ws nm z e ((e + 1 - a) / 2) a (-1) (List.replicate nm.length 0) = rSd ws nm z e ((e + 1 - a) / 2 - j) (a + 2 * j) la cs
set_option maxHeartbeats 4000000 in
theorem ok_Rsd {f : Addr} {fd : FuncData} (B : Bl mg) (C : KR K mg) {cA : Addr} (N : HasC P w K mg base 1 "NoPot" cA ["self", "line", "word"] (spXi K ["line", "word"])) (xa : XA K cA) (hna : ∀ f ∈ (["line", "word"] : List Str), zW K cA f) (G : HasX P w K mg base 3 "read_number" ["words", "line", "place", "low", "high"] (spNu cA)) (M : HasX P w K mg base 3 "read_sort" ["words", "line", "place", "sorts"] (spSo cA)) (F : Fun K "read_side" "read_side" sRsd f fd) : FnOk P w K mg base (CXE P w) 4 f fd ["words", "line", "start", "end", "sorts"] (XV cA) := by
 refine F.okXF scRsd (fun vs H Q E h => ?_) (fun cdv A outer s H vs Q E hr h LF => ?_)
 ·obtain ⟨l, ps, z, a, e, ws, nm, rfl, _⟩ := h
  rfl
 ·obtain ⟨l, ps, z, a, e, ws, nm, rfl, hl, hwx, hwl, hp, n8, hel, hae, k⟩ := h
  have L := LF.lands
  refine' ⟨_, ?hb, ?rd⟩
  case' hb => skip
  case' hb => refine' za ?g1 ?g2
  case' g2 => refine' za ?g3 ?g4
  case' g4 => refine' za ?g5 ?g6
  case' g6 => refine' ze ?g7
  case' g1 => refine' Zy (i := 5) (ix := []) nmRsd.nd rfl loRsd_5 bsRsda.toCScope rfl rfl ?g8 ?g9 ?g10 ?g11
  case g8 => exact vz (pvd nmRsd 4)
  case g9 => exact fun _ _ _ _ _ _ => pgb bsRsda 0
  case g10 => exact fun _ _ _ _ _ _ => yp
  case g11 => exact fun _ _ _ _ _ _ => zd
  case g3 => exact zh nmRsd 6 (pe_un un_neg zd)
  case' g5 => refine' yr PassesOwn.leaving rfl ?g12 (pgd nmRsd 7) ?g13
  case g12 => exact pi_r3 B.range (pa_c (pvd nmRsd 2) (pa_2 (pvd nmRsd 3) zd))
  case' g13 => refine' za ?g14 ?g15
  case' g15 => refine' za ?g16 ?g17
  case' g17 => refine' za ?g18 ?g19
  case' g19 => refine' za ?g20 ?g21
  case' g21 => refine' za ?g22 ?g23
  case' g23 => refine' ze ?g24
  case g14 => exact zh nmRsd 8 (yB G L hr (by decide) (pa_c (pvd nmRsd 0) (pa_c (pvd nmRsd 1) (pa_c (pvd nmRsd 7) (pa_2 zd (pe_k C.mdro))))))
  case' g16 => refine' zx ?g25 ?g26 zp
  case g25 => exact zj zR (zo zA (pvd nmRsd 7) zd) (pvd nmRsd 3) (zm _)
  case' g26 => refine' ze ?g28
  case g28 => exact zK N L rfl hr (by decide) (pa_2 (pvd nmRsd 1) (pvd nmRsd 3))
  case g18 => exact zh nmRsd 9 (yB M L hr (by decide) (pa_c (pvd nmRsd 0) (pa_c (pvd nmRsd 1) (pa_2 (zo zA (pvd nmRsd 7) zd) (pvd nmRsd 4)))))
  case' g20 => refine' zx ?g29 ?g30 zp
  case g29 => exact zj vS (pvd nmRsd 9) (pvd nmRsd 6) (zm _)
  case' g30 => refine' ze ?g32
  case g32 => exact zK N L rfl hr (by decide) (pa_2 (pvd nmRsd 1) (zo zA (pvd nmRsd 7) zd))
  case g22 => exact ym (pvd nmRsd 8) (yy (pvd nmRsd 5) (pvd nmRsd 9) yZ)
  case g24 => exact zh nmRsd 6 (pvd nmRsd 9)
  case g7 => exact zt (yA xS B.tuple PyProof.Rows.boot_tuple (pa_1 (pvd nmRsd 5)))
  case rd =>
   walk_at "v"
   refine ⟨ps, rfl, ⟨_, hp.sq⟩, fun D hD => ?_⟩
   refine ZP (xs := nm.map V.str) (ρ := []) (fun i ys H' => ys = (List.replicate i (0 : Int)).map V.int ∧ Same H H') ⟨rfl, Same.new (Same.refl H) hD⟩ (fun i ys H' _ ⟨_, k'⟩ => (hp.same k').sq) ?_ ?_
   ·rintro i x ys H' hx ⟨rfl, K'⟩ hDy R S kR _
    have hi : i < nm.length := by
     have := (List.getElem?_eq_some_iff.mp hx).1
     simpa using this
    walk_at "v"
    refine kR _ _ hDy (by rw [List.length_map, List.length_replicate]; exact zX (by lia)) ⟨?_, K'.put hD⟩
    rw [List.replicate_succ', List.map_append]
    rfl
   rintro ys H1 ⟨rfl, K1⟩ e1
   rw [List.length_map] at e1
   unfold wv at k
   walk_at "v"
   refine ⟨_, rfl, ?_⟩
   walk_at "v"
   refine w_forR3 ?_
   walk_at "v"
   refine ⟨_, _, rfl, ⟨by lia, by lia, by lia, by lia⟩, ?_⟩
   rw [show (((e : Int) - (a : Int) + 1) / 2).toNat = (e + 1 - a) / 2 by lia]
   refine for_rangeS (n := (e + 1 - a) / 2) (ivP4g1 H l ps z a e ws nm D) ⟨-1, none, none, none, _, rfl, K1, e1, List.length_replicate, rfl⟩ ?_ ?_
   ·rintro j σ H3 hj ⟨la, u7, u8, u9, cs, rfl, K3, e3, hcs, hb⟩
    rw [show (e + 1 - a) / 2 - j = ((e + 1 - a) / 2 - (j + 1)) + 1 by lia, vp] at hb
    have hpl : a + 2 * j + 1 ≤ e := by lia
    walk_at "v"
    refine zL ?_
    walk_at "v"
    rw [show ((a : Int) + (j : Int) * 2) = ((a + 2 * j : Nat) : Int) by lia]
    refine ⟨l, ws, z, a + 2 * j, 1, 9, rfl, K3 _ _ hl, by lia, hwx, zU (fun c hc H4 K4 => ?_) (fun b hb' => (k.bad (by rw [hb, hb'])).up K3)⟩
    rw [hc] at hb
    dsimp only at hb
    walk_at "v"
    refine ⟨rfl, ?_⟩
    refine ⟨_, rfl, ?_⟩
    refine iteD (fun q => ?_) (fun q => ?_)
    ·have q := V.int.inj q
     rw [if_pos (by lia)] at hb
     refine zC xa hna ?_ (fun Q1 Q2 hQ h => by first | exact hQ _ _ h | (obtain ⟨v, e, h⟩ := h; first | exact ⟨v, e, hQ _ _ h⟩ | (obtain ⟨v', e', h⟩ := h; first | exact ⟨v, e, v', e', hQ _ _ h⟩ | (obtain ⟨q1, q2, h⟩ := h; first | exact ⟨v, e, v', e', q1, q2, hQ _ _ h⟩ | (obtain ⟨q3, q4, h⟩ := h; exact ⟨v, e, v', e', q1, q2, q3, q4, hQ _ _ h⟩)))))
     walk_at "v"
     exact ⟨rfl, by decide, fun dx hd => k.bad (e' := (z, e)) hb dx _ (K3.trans K4) hd⟩
    have qn : ¬ a + 2 * j + 1 = e := fun q' => q (by rw [← q']; rfl)
    rw [if_neg qn] at hb
    walk_at "v"
    refine zL ?_
    walk_at "v"
    rw [show (((a + 2 * j : Nat) : Int) + 1) = ((a + 2 * j + 1 : Nat) : Int) by lia]
    refine ⟨l, ws, z, a + 2 * j + 1, ps, nm, rfl, K4 _ _ (K3 _ _ hl), by lia, hp.same (K3.trans K4), zU (fun q hq H5 K5 => ?_) (fun b hb' => (k.bad (by rw [hb, hb'])).up (K3.trans K4))⟩
    rw [hq] at hb
    dsimp only at hb
    have hqn := Z9 hq
    have K35 := (K3.trans K4).trans K5
    walk_at "v"
    by_cases hla : (q : Int) ≤ la
    ·rw [if_pos hla] at hb
     refine iteP hla ?_
     refine zC xa hna ?_ (fun Q1 Q2 hQ h => by first | exact hQ _ _ h | (obtain ⟨v, e, h⟩ := h; first | exact ⟨v, e, hQ _ _ h⟩ | (obtain ⟨v', e', h⟩ := h; first | exact ⟨v, e, v', e', hQ _ _ h⟩ | (obtain ⟨q1, q2, h⟩ := h; first | exact ⟨v, e, v', e', q1, q2, hQ _ _ h⟩ | (obtain ⟨q3, q4, h⟩ := h; exact ⟨v, e, v', e', q1, q2, q3, q4, hQ _ _ h⟩)))))
     walk_at "v"
     rw [show (((a + 2 * j : Nat) : Int) + 1) = ((a + 2 * j + 1 : Nat) : Int) by lia]
     exact ⟨rfl, by decide, fun dx hd => k.bad (e' := (z, a + 2 * j + 1)) hb dx _ K35 hd⟩
    rw [if_neg hla] at hb
    refine iteQ hla ?_
    walk_at "v"
    refine yW (j := q) (K5 _ _ (K4 _ _ e3)) (by rw [List.length_map, hcs]; unfold ixN; rw [if_pos (by lia), if_pos (by lia)]; simp) ?_
    walk_at "v"
    refine ⟨(q : Int), _, _, _, cs.set q c, rfl, K35.put hD, by rw [zb, List.map_set], by rw [List.length_set]; exact hcs, ?_⟩
    rw [hb]
    rfl
   rintro σ H3 ⟨la, u7, u8, u9, cs, rfl, K3, e3, hcs, hb⟩
   rw [Nat.sub_self] at hb
   have hb : rSd ws nm z e ((e + 1 - a) / 2) a (-1) (List.replicate nm.length 0) = .ok cs := hb
   walk_at "v"
   refine ⟨D, _, rfl, e3, fun p H4 K4 e4 => ?_⟩
   exact k.ok hb p _ (K3.trans K4) e4
end
noncomputable abbrev sRr : Stmt := top 29
noncomputable abbrev nRr : List Str := ["lines", "line", "sorts", "words", "middle", "takes", "gives"]
theorem nmRr : Nm nRr (zc sRr) := ⟨by decide +kernel, by decide +kernel⟩
theorem scRr : FnScope nRr ["lines", "line", "sorts"] (zc sRr) := ⟨rfl, rfl, rfl, by decide +kernel, rfl, by decide +kernel, by decide +kernel⟩
noncomputable def spRr (cA : Addr) : Sp := fun vs H Q E => ∃ (l ps : Addr) (z : Nat) (ls nm : List Str), vs = [.ref l, .int (z : Int), .ref ps] ∧ H l = some (.lst (ls.map V.str)) ∧ (∀ x ∈ ls, x.length ≤ 10000) ∧ ls.length ≤ 100 ∧ TupF H ps (nm.map V.str) ∧ nm.length ≤ 8 ∧ Res (yO (ls.map spl) z nm) (fun r => ∀ p H', Same H H' → H p = none → RlD H' p r → Q (.ref p) H') (Bd cA H E)
section
variable {P : Program} {w : World} {K : PySem.W.Frag} {mg : Str → Option Value} {base : Heap}
set_option maxHeartbeats 4000000 in
theorem ok_Rr {f : Addr} {fd : FuncData} (B : Bl mg) (C : KR K mg) {cA : Addr} (N : HasC P w K mg base 1 "NoPot" cA ["self", "line", "word"] (spXi K ["line", "word"])) (xa : XA K cA) (hna : ∀ f ∈ (["line", "word"] : List Str), zW K cA f) (G : HasX P w K mg base 3 "words_of" ["lines", "line", "first"] (vk cA)) (M : HasX P w K mg base 4 "read_side" ["words", "line", "start", "end", "sorts"] (XV cA)) (F : Fun K "read_rule" "read_rule" sRr f fd) : FnOk P w K mg base (CXE P w) 5 f fd ["lines", "line", "sorts"] (spRr cA) := by
 refine F.okXF scRr (fun vs H Q E h => ?_) (fun cdv A outer s H vs Q E hr h LF => ?_)
 ·obtain ⟨l, ps, z, ls, nm, rfl, _⟩ := h
  rfl
 ·obtain ⟨l, ps, z, ls, nm, rfl, hl, hx, h100, hp, n8, k⟩ := h
  have L := LF.lands
  refine' ⟨_, ?hb, ?rd⟩
  case' hb => skip
  case' hb => refine' za ?g1 ?g2
  case' g2 => refine' za ?g3 ?g4
  case' g4 => refine' za ?g5 ?g6
  case' g6 => refine' za ?g7 ?g8
  case' g8 => refine' za ?g9 ?g10
  case' g10 => refine' za ?g11 ?g12
  case' g12 => refine' za ?g13 ?g14
  case' g14 => refine' ze ?g15
  case g1 => exact zh nmRr 3 (yB G L hr (by decide) (pa_c (pvd nmRr 0) (pa_2 (pvd nmRr 1) zn)))
  case' g3 => refine' zx ?g16 ?g17 zp
  case g16 => exact zj X7 (pvd nmRr 1) (zo zA (pe_k C.l4) (pe_k C.mrul)) (zm _)
  case' g17 => refine' ze ?g19
  case g19 => exact zK N L rfl hr (by decide) (pa_2 (pvd nmRr 1) zd)
  case g5 => exact zh nmRr 4 (xD (zj yd zn (pvd nmRr 3) (by with_unfolding_all rfl)) (zD PySem.F.plainAttrs_list PySem.F.slot_list_index PySem.F.type_list_index wK (pvd nmRr 3) (pa_1 zn)) (zv zf B.len PySem.boot_len (pa_1 (pvd nmRr 3))))
  case g7 => exact zh nmRr 5 (yB M L hr (by decide) (pa_c (pvd nmRr 3) (pa_c (pvd nmRr 1) (pa_c zd (pa_2 (pvd nmRr 4) (pvd nmRr 2))))))
  case' g9 => refine' zx ?g20 ?g21 zp
  case g20 => exact PW.pt (xh (zj zR (pvd nmRr 4) zd (zm _)) (yQ (zj zR (pvd nmRr 4) (zv zf B.len PySem.boot_len (pa_1 (pvd nmRr 3))) (zm _))))
  case' g21 => refine' ze ?g23
  case g23 => exact zK N L rfl hr (by decide) (pa_2 (pvd nmRr 1) (pvd nmRr 4))
  case g11 => exact zh nmRr 6 (yB M L hr (by decide) (pa_c (pvd nmRr 3) (pa_c (pvd nmRr 1) (pa_c (zo zA (pvd nmRr 4) zd) (pa_2 (zv zf B.len PySem.boot_len (pa_1 (pvd nmRr 3))) (pvd nmRr 2))))))
  case' g13 => refine' zx ?g24 ?g25 zp
  case g24 => exact zj (ZF hr) (pvd nmRr 5) (pvd nmRr 6) (zm _)
  case' g25 => refine' ze ?g27
  case g27 => exact zK N L rfl hr (by decide) (pa_2 (pvd nmRr 1) (zv zf B.len PySem.boot_len (pa_1 (pvd nmRr 3))))
  case g15 => exact zt (yt (pa_2 (pvd nmRr 5) (pvd nmRr 6)))
  case rd =>
   walk_at "v"
   refine zL ?_
   walk_at "v"
   refine ⟨l, ls, z, "rule", rfl, hl, hx, h100, zU (fun ws hw lw H1 K1 hlw e1 => ?_) (fun b hb => k.bad (by unfold yO; rw [hb]))⟩
   obtain ⟨hwx, hwl, r, rfl⟩ := wu hx hw
   unfold yO at k
   rw [hw] at k
   dsimp only at k
   have hrl : r.length ≤ 10000 := by rw [List.length_cons] at hwl; lia
   walk_at "v"
   by_cases h12 : 12 ≤ z
   ·rw [if_pos h12] at k
    refine iteP (by lia) ?_
    refine zC xa hna ?_ (fun Q1 Q2 hQ h => by first | exact hQ _ _ h | (obtain ⟨v, e, h⟩ := h; first | exact ⟨v, e, hQ _ _ h⟩ | (obtain ⟨v', e', h⟩ := h; first | exact ⟨v, e, v', e', hQ _ _ h⟩ | (obtain ⟨q1, q2, h⟩ := h; first | exact ⟨v, e, v', e', q1, q2, hQ _ _ h⟩ | (obtain ⟨q3, q4, h⟩ := h; exact ⟨v, e, v', e', q1, q2, q3, q4, hQ _ _ h⟩)))))
    walk_at "v"
    exact ⟨rfl, by decide, fun dx hd => k dx _ K1 hd⟩
   rw [if_neg h12] at k
   refine iteQ (by lia) ?_
   walk_at "v"
   refine ⟨lw, _, rfl, .inl (SqL.of e1), rfl, zZ _, ?_⟩
   rw [yh]
   cases hq : plc "to" (("rule" : Str) :: r) with
   | some M =>
    have hMl : M ≤ (("rule" : Str) :: r).length := Nat.le_of_lt (xB hq)
    obtain ⟨f1, f2⟩ := zI hq
    have hM1 : 1 ≤ M := by
     cases M with
     | zero =>
      have : ("rule" : Str) = "to" := Option.some.inj f1
      exact absurd this (by decide +kernel)
     | succ M => lia
    have hm : mid (("rule" : Str) :: r) = M := by unfold mid; rw [hq]; rfl
    rw [hm] at k
    rw [decide_eq_true (ZB hq)]
    walk_at "v"
    refine iteT ?_
    walk_at "v"
    refine ⟨.inl ⟨rfl, _, SqL.of e1⟩, ?_⟩
    walk_at "v"
    refine ⟨lw, _, "to", M, rfl, rfl, e1, f1, f2, ?_⟩
    walk_at "v"
    refine zL ?_
    walk_at "v"
    refine ⟨lw, ps, z, 1, M, ("rule" : Str) :: r, nm, rfl, e1, hwx, hwl, hp.same K1, n8, hMl, by lia, zU (fun tk ht pa H2 K2 ea => ?_) (fun b hb => (k.bad (by rw [hb])).up K1)⟩
    rw [ht] at k
    dsimp only at k
    walk_at "v"
    refine ⟨rfl, ?_⟩
    refine ⟨_, rfl, ?_⟩
    refine iteD (fun q => ?_) (fun q1 => ?_)
    ·have q := V.int.inj q
     rw [if_pos (.inl (by lia))] at k
     first | refine iteT ?_ | skip
     refine zC xa hna ?_ (fun Q1 Q2 hQ h => by first | exact hQ _ _ h | (obtain ⟨v, e, h⟩ := h; first | exact ⟨v, e, hQ _ _ h⟩ | (obtain ⟨v', e', h⟩ := h; first | exact ⟨v, e, v', e', hQ _ _ h⟩ | (obtain ⟨q1, q2, h⟩ := h; first | exact ⟨v, e, v', e', q1, q2, hQ _ _ h⟩ | (obtain ⟨q3, q4, h⟩ := h; exact ⟨v, e, v', e', q1, q2, q3, q4, hQ _ _ h⟩)))))
     walk_at "v"
     exact ⟨rfl, by decide, fun dx hd => k dx _ (K1.trans K2) hd⟩
    walk_at "v"
    refine ⟨lw, _, rfl, .inl (SqL.of (K2 _ _ e1)), ?_⟩
    refine ⟨rfl, ?_⟩
    refine ⟨_, rfl, ?_⟩
    refine iteD (fun q => ?_) (fun q2 => ?_)
    ·have q := V.int.inj q
     rw [List.length_map] at q
     rw [if_pos (.inr (by lia))] at k
     refine zC xa hna ?_ (fun Q1 Q2 hQ h => by first | exact hQ _ _ h | (obtain ⟨v, e, h⟩ := h; first | exact ⟨v, e, hQ _ _ h⟩ | (obtain ⟨v', e', h⟩ := h; first | exact ⟨v, e, v', e', hQ _ _ h⟩ | (obtain ⟨q1, q2, h⟩ := h; first | exact ⟨v, e, v', e', q1, q2, hQ _ _ h⟩ | (obtain ⟨q3, q4, h⟩ := h; exact ⟨v, e, v', e', q1, q2, q3, q4, hQ _ _ h⟩)))))
     walk_at "v"
     exact ⟨rfl, by decide, fun dx hd => k dx _ (K1.trans K2) hd⟩
    have m1 : ¬ M = 1 := fun z => q1 (by rw [z]; rfl)
    have m2 : ¬ M = (("rule" : Str) :: r).length := fun z => q2 (by rw [List.length_map, z])
    rw [if_neg (fun z => z.elim m1 m2)] at k
    walk_at "v"
    refine zL ?_
    walk_at "v"
    refine ⟨lw, _, rfl, .inl (SqL.of (K2 _ _ e1)), ?_⟩
    walk_at "v"
    rw [show ((M : Int) + 1) = ((M + 1 : Nat) : Int) by lia, show (((("rule" : Str) :: r).map V.str).length : Nat) = (("rule" : Str) :: r).length by rw [List.length_map]]
    refine ⟨lw, ps, z, M + 1, (("rule" : Str) :: r).length, ("rule" : Str) :: r, nm, rfl, K2 _ _ e1, hwx, hwl, hp.same (K1.trans K2), n8, Nat.le_refl _, by lia, zU (fun gv hg pb H3 K3 eb => ?_) (fun b hb => (k.bad (by rw [hb])).up (K1.trans K2))⟩
    rw [hg] at k
    dsimp only at k
    walk_at "v"
    refine ⟨_, _, .tup (K3 _ _ ea) (wa _), .tup eb (wa _), by show PyData.canLayAll0 _ = true; exact yS _, by show PyData.canLayAll0 _ = true; exact yS _, by show PyData.depthAll _ + 1 ≤ 60; rw [xt]; decide, ?_⟩
    rw [show PyData.eqv (.tuple (tk.map PyData.int)) (.tuple (gv.map PyData.int)) = decide (tk = gv) by show PyData.eqvAll _ _ = _; rw [wC]]
    walk_at "v"
    have KK := (K1.trans K2).trans K3
    by_cases sne : tk = gv
    ·rw [if_pos sne] at k
     refine iteP sne ?_
     refine zC xa hna ?_ (fun Q1 Q2 hQ h => by first | exact hQ _ _ h | (obtain ⟨v, e, h⟩ := h; first | exact ⟨v, e, hQ _ _ h⟩ | (obtain ⟨v', e', h⟩ := h; first | exact ⟨v, e, v', e', hQ _ _ h⟩ | (obtain ⟨q1, q2, h⟩ := h; first | exact ⟨v, e, v', e', q1, q2, hQ _ _ h⟩ | (obtain ⟨q3, q4, h⟩ := h; exact ⟨v, e, v', e', q1, q2, q3, q4, hQ _ _ h⟩)))))
     walk_at "v"
     refine ⟨lw, _, rfl, .inl (SqL.of (K3 _ _ (K2 _ _ e1))), ?_⟩
     walk_at "v"
     rw [show (((("rule" : Str) :: r).map V.str).length : Nat) = (("rule" : Str) :: r).length by rw [List.length_map]]
     exact ⟨rfl, by decide, fun dx hd => k dx _ KK hd⟩
    rw [if_neg sne] at k
    refine iteQ sne ?_
    walk_at "v"
    refine ⟨sz2, fun p hpn => ?_⟩
    refine k p _ (KK.new hpn) (KK.free hpn) ⟨pa, pb, zb, ?_, ?_⟩
    ·rw [zg (zi (K3 _ _ ea) hpn)]; exact K3 _ _ ea
    ·rw [zg (zi eb hpn)]; exact eb
   | none =>
    obtain ⟨M, hM⟩ : ∃ M, M = (("rule" : Str) :: r).length := ⟨_, rfl⟩
    have hm : mid (("rule" : Str) :: r) = M := by unfold mid; rw [hq]; exact hM.symm
    rw [hm] at k
    rw [decide_eq_false (xi hq)]
    walk_at "v"
    refine iteF ?_
    walk_at "v"
    refine ⟨lw, _, rfl, .inl (SqL.of e1), ?_⟩
    rw [show (((("rule" : Str) :: r).map V.str).length : Nat) = M by rw [List.length_map, hM]]
    have hMl : M ≤ (("rule" : Str) :: r).length := Nat.le_of_eq hM
    have hM1 : 1 ≤ M := by rw [hM, List.length_cons]; lia
    walk_at "v"
    refine zL ?_
    walk_at "v"
    refine ⟨lw, ps, z, 1, M, ("rule" : Str) :: r, nm, rfl, e1, hwx, hwl, hp.same K1, n8, hMl, by lia, zU (fun tk ht pa H2 K2 ea => ?_) (fun b hb => (k.bad (by rw [hb])).up K1)⟩
    rw [ht] at k
    dsimp only at k
    walk_at "v"
    refine ⟨rfl, ?_⟩
    refine ⟨_, rfl, ?_⟩
    refine iteD (fun q => ?_) (fun q1 => ?_)
    ·have q := V.int.inj q
     rw [if_pos (.inl (by lia))] at k
     first | refine iteT ?_ | skip
     refine zC xa hna ?_ (fun Q1 Q2 hQ h => by first | exact hQ _ _ h | (obtain ⟨v, e, h⟩ := h; first | exact ⟨v, e, hQ _ _ h⟩ | (obtain ⟨v', e', h⟩ := h; first | exact ⟨v, e, v', e', hQ _ _ h⟩ | (obtain ⟨q1, q2, h⟩ := h; first | exact ⟨v, e, v', e', q1, q2, hQ _ _ h⟩ | (obtain ⟨q3, q4, h⟩ := h; exact ⟨v, e, v', e', q1, q2, q3, q4, hQ _ _ h⟩)))))
     walk_at "v"
     exact ⟨rfl, by decide, fun dx hd => k dx _ (K1.trans K2) hd⟩
    walk_at "v"
    refine ⟨lw, _, rfl, .inl (SqL.of (K2 _ _ e1)), ?_⟩
    refine ⟨rfl, ?_⟩
    refine ⟨_, rfl, ?_⟩
    refine iteD (fun q => ?_) (fun q2 => ?_)
    ·have q := V.int.inj q
     rw [List.length_map] at q
     rw [if_pos (.inr (by lia))] at k
     refine zC xa hna ?_ (fun Q1 Q2 hQ h => by first | exact hQ _ _ h | (obtain ⟨v, e, h⟩ := h; first | exact ⟨v, e, hQ _ _ h⟩ | (obtain ⟨v', e', h⟩ := h; first | exact ⟨v, e, v', e', hQ _ _ h⟩ | (obtain ⟨q1, q2, h⟩ := h; first | exact ⟨v, e, v', e', q1, q2, hQ _ _ h⟩ | (obtain ⟨q3, q4, h⟩ := h; exact ⟨v, e, v', e', q1, q2, q3, q4, hQ _ _ h⟩)))))
     walk_at "v"
     exact ⟨rfl, by decide, fun dx hd => k dx _ (K1.trans K2) hd⟩
    have m1 : ¬ M = 1 := fun z => q1 (by rw [z]; rfl)
    have m2 : ¬ M = (("rule" : Str) :: r).length := fun z => q2 (by rw [List.length_map, z])
    rw [if_neg (fun z => z.elim m1 m2)] at k
    walk_at "v"
    refine zL ?_
    walk_at "v"
    refine ⟨lw, _, rfl, .inl (SqL.of (K2 _ _ e1)), ?_⟩
    walk_at "v"
    rw [show ((M : Int) + 1) = ((M + 1 : Nat) : Int) by lia, show (((("rule" : Str) :: r).map V.str).length : Nat) = (("rule" : Str) :: r).length by rw [List.length_map]]
    refine ⟨lw, ps, z, M + 1, (("rule" : Str) :: r).length, ("rule" : Str) :: r, nm, rfl, K2 _ _ e1, hwx, hwl, hp.same (K1.trans K2), n8, Nat.le_refl _, by lia, zU (fun gv hg pb H3 K3 eb => ?_) (fun b hb => (k.bad (by rw [hb])).up (K1.trans K2))⟩
    rw [hg] at k
    dsimp only at k
    walk_at "v"
    refine ⟨_, _, .tup (K3 _ _ ea) (wa _), .tup eb (wa _), by show PyData.canLayAll0 _ = true; exact yS _, by show PyData.canLayAll0 _ = true; exact yS _, by show PyData.depthAll _ + 1 ≤ 60; rw [xt]; decide, ?_⟩
    rw [show PyData.eqv (.tuple (tk.map PyData.int)) (.tuple (gv.map PyData.int)) = decide (tk = gv) by show PyData.eqvAll _ _ = _; rw [wC]]
    walk_at "v"
    have KK := (K1.trans K2).trans K3
    by_cases sne : tk = gv
    ·rw [if_pos sne] at k
     refine iteP sne ?_
     refine zC xa hna ?_ (fun Q1 Q2 hQ h => by first | exact hQ _ _ h | (obtain ⟨v, e, h⟩ := h; first | exact ⟨v, e, hQ _ _ h⟩ | (obtain ⟨v', e', h⟩ := h; first | exact ⟨v, e, v', e', hQ _ _ h⟩ | (obtain ⟨q1, q2, h⟩ := h; first | exact ⟨v, e, v', e', q1, q2, hQ _ _ h⟩ | (obtain ⟨q3, q4, h⟩ := h; exact ⟨v, e, v', e', q1, q2, q3, q4, hQ _ _ h⟩)))))
     walk_at "v"
     refine ⟨lw, _, rfl, .inl (SqL.of (K3 _ _ (K2 _ _ e1))), ?_⟩
     walk_at "v"
     rw [show (((("rule" : Str) :: r).map V.str).length : Nat) = (("rule" : Str) :: r).length by rw [List.length_map]]
     exact ⟨rfl, by decide, fun dx hd => k dx _ KK hd⟩
    rw [if_neg sne] at k
    refine iteQ sne ?_
    walk_at "v"
    refine ⟨sz2, fun p hpn => ?_⟩
    refine k p _ (KK.new hpn) (KK.free hpn) ⟨pa, pb, zb, ?_, ?_⟩
    ·rw [zg (zi (K3 _ _ ea) hpn)]; exact K3 _ _ ea
    ·rw [zg (zi eb hpn)]; exact eb
end
noncomputable abbrev sRp : Stmt := top 23
noncomputable abbrev nRp : List Str := ["lines", "sorts", "begin", "inputs", "answer", "rules"]
theorem nmRp : Nm nRp (zc sRp) := ⟨by decide +kernel, by decide +kernel⟩
theorem scRp : FnScope nRp ["lines"] (zc sRp) := ⟨rfl, rfl, rfl, by decide +kernel, rfl, by decide +kernel, by decide +kernel⟩
noncomputable def qRpa (s : Stmt) : Scope := match s with
 | .Assign _ (.Call _ [(.ListComp _ _ sc _)] _ _) _ => sc
 | _ => { kind := .function, names := [], isGenerator := false, isCoroutine := false }
noncomputable abbrev cRpa : Scope := qRpa ((zk sRp).getD 4 (.Pass ⟨0, 0, 0, 0⟩))
theorem bsRpa : BScope (zc sRp) cRpa ["line"] ["lines", "sorts"] ["read_rule"] := { okind := by decide +kernel, kind := by decide +kernel, nocell := by decide +kernel, names := by decide +kernel, fr := by decide +kernel, ff := by decide +kernel, nd := by decide +kernel, vis := by decide +kernel, loc := by decide +kernel, gl := by decide +kernel }
noncomputable def spRp (cA : Addr) : Sp := fun vs H Q E => ∃ (l : Addr) (ls : List Str), vs = [.ref l] ∧ H l = some (.lst (ls.map V.str)) ∧ (∀ x ∈ ls, x.length ≤ 10000) ∧ ls.length ≤ 100 ∧ Res (rPot (ls.map spl)) (fun d => ∀ p H', Same H H' → H p = none → PotF true H' p d → Q (.ref p) H') (Bd cA H E)
section
variable {P : Program} {w : World} {K : PySem.W.Frag} {mg : Str → Option Value} {base : Heap}
set_option maxHeartbeats 4000000 in
theorem ok_Rp {f : Addr} {fd : FuncData} (B : Bl mg) (C : KR K mg) {cA : Addr} (N : HasC P w K mg base 1 "NoPot" cA ["self", "line", "word"] (spXi K ["line", "word"])) (xa : XA K cA) (hna : ∀ f ∈ (["line", "word"] : List Str), zW K cA f) (G1 : HasX P w K mg base 4 "read_sorts" ["lines"] (spRs cA)) (G2 : HasX P w K mg base 4 "read_begin" ["lines", "sorts"] (spRb cA)) (G3 : HasX P w K mg base 4 "read_inputs" ["lines", "sorts"] (spRi cA)) (G4 : HasX P w K mg base 4 "read_answer" ["lines", "sorts"] (XX cA)) (G5 : HasX P w K mg base 5 "read_rule" ["lines", "line", "sorts"] (spRr cA)) (F : Fun K "read_pot" "read_pot" sRp f fd) : FnOk P w K mg base (CXE P w) 6 f fd ["lines"] (spRp cA) := by
 refine F.okXF scRp (fun vs H Q E h => ?_) (fun cdv A outer s H vs Q E hr h LF => ?_)
 ·obtain ⟨l, ls, rfl, _⟩ := h
  rfl
 ·obtain ⟨l, ls, rfl, hl, hx, h100, k⟩ := h
  have L := LF.lands
  refine' ⟨_, ?hb, ?rd⟩
  case' hb => skip
  case' hb => refine' za ?g1 ?g2
  case' g2 => refine' za ?g3 ?g4
  case' g4 => refine' za ?g5 ?g6
  case' g6 => refine' za ?g7 ?g8
  case' g8 => refine' za ?g9 ?g10
  case' g10 => refine' ze ?g11
  case g1 => exact zh nmRp 1 (yB G1 L hr (by decide) (pa_1 (pvd nmRp 0)))
  case g3 => exact zh nmRp 2 (yB G2 L hr (by decide) (pa_2 (pvd nmRp 0) (pvd nmRp 1)))
  case g5 => exact zh nmRp 3 (yB G3 L hr (by decide) (pa_2 (pvd nmRp 0) (pvd nmRp 1)))
  case g7 => exact zh nmRp 4 (yB G4 L hr (by decide) (pa_2 (pvd nmRp 0) (pvd nmRp 1)))
  case' g9 => refine' zh nmRp 5 ?g12
  case' g12 => refine' yA xS B.tuple PyProof.Rows.boot_tuple ?g13
  case' g13 => refine' pa_1 ?g14
  case' g14 => refine' pe_compX (ix := [0, 1]) LF rfl rfl bsRpa.toCScope rfl rfl ?g15 ?g16 ?g17 ?g18
  case g15 => exact vP B.range (pa_2 (pe_k C.l4) (zv zf B.len PySem.boot_len (pa_1 (pvd nmRp 0))))
  case g16 => exact fun _ _ _ _ _ _ => pgb bsRpa 0
  case g17 => exact fun _ _ _ _ _ _ _ LB => yp
  case g18 => exact fun _ _ _ _ _ _ _ LB => yB G5 LB.lands hr (by decide) (pa_c (pvb bsRpa 1) (pa_2 (pvb bsRpa 0) (pvb bsRpa 2))) (bsRpa.g 0)
  case g11 => exact zt (yt (pa_c (pvd nmRp 1) (pa_c (pvd nmRp 5) (pa_c (pvd nmRp 3) (pa_2 (pvd nmRp 2) (pvd nmRp 4))))))
  case rd =>
   unfold rPot at k
   walk_at "v"
   refine zL ?_
   walk_at "v"
   refine ⟨l, ls, rfl, hl, hx, h100, zU (fun nm hs ps H1 K1 hp1 => ?_) (fun b hb => k.bad (by rw [hb]))⟩
   have n8 := wb hs
   rw [hs] at k
   dsimp only at k
   walk_at "v"
   refine zL ?_
   walk_at "v"
   refine ⟨l, ps, ls, nm, rfl, K1 _ _ hl, hx, h100, hp1, n8, zU (fun bg hb pb H2 K2 eb => ?_) (fun b hb => (k.bad (by rw [hb])).up K1)⟩
   rw [hb] at k
   dsimp only at k
   have K02 := K1.trans K2
   walk_at "v"
   refine zL ?_
   walk_at "v"
   refine ⟨l, ps, ls, nm, rfl, K02 _ _ hl, hx, h100, hp1.same K2, n8, zU (fun ins hb pin H3 K3 ein => ?_) (fun b hb => (k.bad (by rw [hb])).up K02)⟩
   rw [hb] at k
   dsimp only at k
   have K03 := K02.trans K3
   have K13 := K2.trans K3
   walk_at "v"
   refine zL ?_
   walk_at "v"
   refine ⟨l, ps, ls, nm, rfl, K03 _ _ hl, hx, h100, hp1.same K13, zU (fun ans hb H4 K4 => ?_) (fun b hb => (k.bad (by rw [hb])).up K03)⟩
   rw [hb] at k
   dsimp only at k
   have K04 := K03.trans K4
   have K14 := K13.trans K4
   walk_at "v"
   refine w_compR2X ?_
   walk_at "v"
   refine ⟨l, _, rfl, .inl (SqL.of (K04 _ _ hl)), ?_⟩
   refine ⟨4, _, rfl, ⟨by decide, by decide, by rw [List.length_map]; lia, by rw [List.length_map]; lia⟩, fun D hD => ?_⟩
   rw [show ((((ls.map V.str).length : Nat) : Int) - 4).toNat = (ls.map spl).length - 4 by rw [List.length_map, List.length_map]; lia]
   refine xj (n := (ls.map spl).length - 4) (fun i ys H' => ∃ (rs : List Addr) (acc : List (List Int × List Int)), ys = rs.map V.ref ∧ rs.length = i ∧ Same H4 H' ∧ RlsD H' rs acc ∧ rRs (ls.map spl) nm ((ls.map spl).length - 4) 4 [] = rRs (ls.map spl) nm ((ls.map spl).length - 4 - i) (i + 4) acc) ⟨[], [], rfl, rfl, Same.new (Same.refl H4) hD, trivial, rfl⟩ ?_ ?_
   ·rintro i ys H5 hi ⟨rs, acc, rfl, hrl, K5, h5, hr5⟩ hDy R S kR _
    rw [show (ls.map spl).length - 4 - i = ((ls.map spl).length - 4 - (i + 1)) + 1 by lia, vq] at hr5
    have hi' : i < ls.length := by rw [List.length_map] at hi; lia
    walk_at "v"
    refine zL ?_
    walk_at "v"
    rw [show ((4 : Int) + (i : Int)) = ((i + 4 : Nat) : Int) by lia]
    refine ⟨l, ps, i + 4, ls, nm, rfl, K5 _ _ (K04 _ _ hl), hx, h100, hp1.same (K14.trans K5), n8, zU (fun r hr' p H6 K6 hpn h6 => ?_) (fun b hb => (k.bad (by rw [hr5, hb])).up (K04.trans K5))⟩
    rw [hr'] at hr5
    have hD6 : H6 D = some (.lst (rs.map V.ref)) := K6 _ _ hDy
    refine kR _ _ hD6 (by rw [List.length_map]; exact zX (by lia)) ⟨rs ++ [p], acc ++ [r], by rw [List.map_append]; rfl, by rw [List.length_append, hrl]; rfl, (K5.trans K6).put hD, ?_, ?_⟩
    ·exact ((h5.same K6).off hD6).snoc (h6.off hD6)
    ·rw [hr5]
   rintro ys H5 ⟨rs, acc, rfl, hrl, K5, h5, hr5⟩ e5
   rw [Nat.sub_self] at hr5
   have hr5 : rRs (ls.map spl) nm ((ls.map spl).length - 4) 4 [] = .ok acc := hr5
   rw [hr5] at k
   walk_at "v"
   refine ⟨D, _, rfl, e5, fun pr H6 K6 e6 => ?_⟩
   have K46 := K5.trans K6
   have K06 := K04.trans K46
   walk_at "v"
   refine ⟨sz5, fun p hp => ?_⟩
   have KU : Same H6 (upd H6 p (.tup [.ref ps, .ref pr, .ref pin, .ref pb, .int (ans : Int)])) := Same.new (Same.refl _) hp
   refine k p _ (K06.new hp) (K06.free hp) ⟨ps, pr, pin, pb, rs, zb, ?_, KU _ _ e6, (h5.same K6).same KU, KU _ _ (K46 _ _ (K4 _ _ ein)), KU _ _ (K46 _ _ (K4 _ _ (K3 _ _ eb)))⟩
   exact ((hp1.same K14).same K46).same KU
end
noncomputable def XU : Sp := fun vs H Q _ => ∃ (ps pc : Addr) (nm : List Str) (m : Nat) (cs : List Int), vs = [.ref ps, .ref pc] ∧ L2.Rd H ps (.tup (nm.map V.str)) ∧ H pc = some (.tup (cs.map V.int)) ∧ nm.length = m ∧ m ≤ 8 ∧ Sd m cs ∧ ∀ l H', Same H H' → H l = none → H' l = some (.lst ((yv nm cs).map V.str)) → Q (.ref l) H'
noncomputable def Y1 : Sp := fun vs H Q _ => ∃ (p : Addr) (d : PD) (m : Nat), vs = [.ref p] ∧ (∃ fz, PotF fz H p d) ∧ d.ok m ∧ ∀ l H', Same H H' → H l = none → H' l = some (.lst ((ptL d).map V.str)) → Q (.ref l) H'
noncomputable abbrev sLsd : Stmt := top 39
noncomputable abbrev nLsd : List Str := ["_law_sorts", "_law_side_here", "_law_words", "_law_sort"]
theorem xx : Nm nLsd (zc sLsd) := ⟨by decide +kernel, by decide +kernel⟩
theorem scLsd : FnScope nLsd ["_law_sorts", "_law_side_here"] (zc sLsd) := ⟨rfl, rfl, rfl, by decide +kernel, rfl, by decide +kernel, by decide +kernel⟩
section
variable {P : Program} {w : World} {K : PySem.W.Frag} {mg : Str → Option Value} {base : Heap}
noncomputable abbrev ivP4h1 (H : Hp) (ps : Addr) (pc : Addr) (nm : List Str) (cs : List Int) : Nat → St → Hp → Prop := fun i σ H' => ∃ (lw : Addr) (u3 : Option V), σ = [some (.ref ps), some (.ref pc), some (.ref lw), u3] ∧ Same H H' ∧ H lw = none ∧ H' lw = some (.lst ((sdW nm (prs 0 (cs.take i))).map V.str))
set_option maxHeartbeats 4000000 in
theorem ok_Lsd {f : Addr} {fd : FuncData} (B : Bl mg) (F : Fun K "_law_side" "_law_side" sLsd f fd) : FnOk P w K mg base CX0 1 f fd ["_law_sorts", "_law_side_here"] XU := by
 refine F.ok scLsd (fun vs H Q E h => ?_) (fun cdv A outer s H vs Q E hr h => ?_)
 ·obtain ⟨ps, pc, nm, m, cs, rfl, _⟩ := h
  rfl
 ·obtain ⟨ps, pc, nm, m, cs, rfl, hp, hc, hnm, m8, hs, k⟩ := h
  refine' ⟨_, ?hb, ?rd⟩
  case' hb => skip
  case' hb => refine' za ?g1 ?g2
  case' g2 => refine' za ?g3 ?g4
  case' g4 => refine' ze ?g5
  case g1 => exact zh xx 2 (zM zz)
  case' g3 => refine' yr PassesOwn.never rfl ?g6 (pgd xx 3) ?g7
  case g6 => exact wT B.range (pa_1 (zv zf B.len PySem.boot_len (pa_1 (pvd xx 0))))
  case' g7 => refine' ze ?g8
  case' g8 => refine' zx ?g9 ?g10 zp
  case g9 => exact zj vR (zw ix_d (pvd xx 1) (pvd xx 3) (fun _ _ => rfl)) zd (zm _)
  case' g10 => refine' ze ?g12
  case g12 => exact zh xx 2 (zo xG (pvd xx 2) (zM (pa_2 (yA wR B.str PyProof.Rows.boot_str (pa_1 (zw ix_d (pvd xx 1) (pvd xx 3) (fun _ _ => rfl)))) (zw ix_R (pvd xx 0) (pvd xx 3) (fun _ _ => rfl)))))
  case g5 => exact zt (pvd xx 2)
  case rd =>
   have csl := hs.l
   walk_at "v"
   refine ⟨sz0, fun l2 hl2 => ?_⟩
   obtain ⟨H2, q, K2, e2⟩ := nob (.lst []) hl2; rw [q]; clear q
   walk_at "v"
   refine ⟨ps, _, rfl, .inr (.inl (hp.sm K2)), ?_⟩
   refine ⟨_, rfl, by lia, by rw [List.length_map]; lia, ?_⟩
   rw [show (((nm.map V.str).length : Nat) : Int).toNat = nm.length by rw [List.length_map]; lia]
   refine zP (n := nm.length) (ivP4h1 H ps pc nm cs) ⟨l2, none, rfl, K2, hl2, e2⟩ ?_ ?_
   ·rintro i σ H3 hi1 ⟨lw, u3, rfl, K3, nlw, e3⟩
    have hi2 : i < cs.length := by lia
    have hcl : (sdW nm (prs 0 (cs.take i))).length ≤ 16 := by
     rw [Zv]
     have := ZA 0 (cs.take i)
     rw [List.length_take] at this
     lia
    have tk : cs.take (i + 1) = cs.take i ++ [cs[i]] := by rw [List.take_add_one, List.getElem?_eq_getElem hi2]; rfl
    have tl : (cs.take i).length = i := by rw [List.length_take]; lia
    have st : sdW nm (prs 0 (cs.take (i + 1))) = sdW nm (prs 0 (cs.take i)) ++ (if 0 < cs[i] then [fT cs[i], nm.getD i ""] else []) := by
     rw [tk, Y7, sdW_app, tl, Nat.zero_add]
     congr 1
     show sdW nm (if 0 < cs[i] then [(i, cs[i])] else []) = _
     split <;> rfl
    have ng : nm.getD i "" = nm[i] := by rw [List.getD_eq_getElem?_getD, List.getElem?_eq_getElem hi1]; rfl
    have bd := hs.b _ (List.getElem_mem hi2)
    have cn := vF (i := cs[i]) bd.1 (by lia)
    have ac : atI (cs.map V.int) (0 + (i : Int)) = some (.int cs[i]) := by
     rw [Int.zero_add]
     exact zG (by rw [List.getElem?_map, List.getElem?_eq_getElem hi2]; rfl)
    have an : atI (nm.map V.str) (0 + (i : Int)) = some (.str nm[i]) := by
     rw [Int.zero_add]
     exact zG (by rw [List.getElem?_map, List.getElem?_eq_getElem hi1]; rfl)
    walk_at "v"
    refine YS (K3 _ _ hc) ac ?_
    walk_at "v"
    refine ⟨rfl, ?_⟩
    refine ⟨_, rfl, ?_⟩
    refine iteDN (fun z => ?_) (fun z => ?_)
    ·have hpos : 0 < cs[i] := by
      have : cs[i] ≠ 0 := fun e => z (by rw [e])
      lia
     rw [if_pos hpos] at st
     walk_at "v"
     refine YS (K3 _ _ hc) ac ?_
     walk_at "v"
     refine ⟨_, rfl, cn.lg, ?_⟩
     walk_at "v"
     refine XD (hp.sm K3) an ?_
     walk_at "v"
     refine ⟨sz2, fun l5 hl5 => ?_⟩
     have K5 : Same H3 (upd H3 l5 (.lst [.str (Str.ofString (toString cs[i])), .str nm[i]])) := Same.new (Same.refl _) hl5
     have e5 : upd H3 l5 (.lst [.str (Str.ofString (toString cs[i])), .str nm[i]]) l5 = some (.lst [.str (fT cs[i]), .str nm[i]]) := zb
     generalize upd H3 l5 (.lst [.str (Str.ofString (toString cs[i])), .str nm[i]]) = H5 at K5 e5 ⊢
     refine ⟨lw, l5, _, _, rfl, rfl, K5 _ _ e3, e5, by rw [List.length_map]; simp only [List.length_cons, List.length_nil]; exact Nat.le_of_lt (zB (by lia)), fun l6 hl6 => ?_⟩
     walk_at "v"
     refine ⟨l6, _, rfl, (K3.trans K5).new hl6, (K3.trans K5).free hl6, ?_⟩
     rw [zb, st, ng, List.map_append]
     rfl
    ·have hz : ¬ 0 < cs[i] := by
      have := V.int.inj z
      lia
     rw [if_neg hz, List.append_nil] at st
     walk_at "v"
     exact ⟨lw, _, rfl, K3, nlw, by rw [st]; exact e3⟩
   rintro σ H3 ⟨lw, u3, rfl, K3, nlw, e3⟩
   rw [List.take_of_length_le (by lia)] at e3
   walk_at "v"
   exact k lw H3 K3 nlw e3
end
noncomputable abbrev sLli : Stmt := top 40
noncomputable abbrev nLli : List Str := ["_law_pot_here", "_law_sorts", "_law_rules", "_law_inputs", "_law_begin", "_law_answer", "_law_lines_here", "_law_takes", "_law_gives"]
theorem yf : Nm nLli (zc sLli) := ⟨by decide +kernel, by decide +kernel⟩
theorem scLli : FnScope nLli ["_law_pot_here"] (zc sLli) := ⟨rfl, rfl, rfl, by decide +kernel, rfl, by decide +kernel, by decide +kernel⟩
noncomputable def qLlia (s : Stmt) : Scope := match s with
 | .Assign _ (.List [_, (.BinOp _ _ (.Call _ [(.ListComp _ _ sc _)] _ _) _)] _) _ => sc
 | _ => { kind := .function, names := [], isGenerator := false, isCoroutine := false }
noncomputable abbrev cLlia : Scope := qLlia ((zk sLli).getD 1 (.Pass ⟨0, 0, 0, 0⟩))
theorem bsLlia : BScope (zc sLli) cLlia ["_law_one"] [] ["str"] := { okind := by decide +kernel, kind := by decide +kernel, nocell := by decide +kernel, names := by decide +kernel, fr := by decide +kernel, ff := by decide +kernel, nd := by decide +kernel, vis := by decide +kernel, loc := by decide +kernel, gl := by decide +kernel }
noncomputable def qLlib (s : Stmt) : Scope := match s with
 | .Expr (.Call _ [(.Call _ [(.BinOp _ _ (.ListComp _ _ sc _) _)] _ _)] _ _) _ => sc
 | _ => { kind := .function, names := [], isGenerator := false, isCoroutine := false }
noncomputable abbrev cLlib : Scope := qLlib ((zk sLli).getD 2 (.Pass ⟨0, 0, 0, 0⟩))
theorem bsLlib : BScope (zc sLli) cLlib ["_law_one"] ["_law_sorts"] [] := { okind := by decide +kernel, kind := by decide +kernel, nocell := by decide +kernel, names := by decide +kernel, fr := by decide +kernel, ff := by decide +kernel, nd := by decide +kernel, vis := by decide +kernel, loc := by decide +kernel, gl := by decide +kernel }
section
variable {P : Program} {w : World} {K : PySem.W.Frag} {mg : Str → Option Value} {base : Heap}
noncomputable abbrev ivP4h2 (H : Hp) (p : Addr) (d : PD) (ps : Addr) (pr : Addr) (pin : Addr) (pb : Addr) (l8 : Addr) : Nat → St → Hp → Prop := fun i σ H' => ∃ u7 u8, σ = [some (.ref p), some (.ref ps), some (.ref pr), some (.ref pin), some (.ref pb), some (.int d.ans), some (.ref l8), u7, u8] ∧ Same H H' ∧ H' l8 = some (.lst ((([("sorts" : Str) :: d.nm, ("begin" : Str) :: d.beg.map fT, ("in" : Str) :: d.ins.map (nmI d.nm), [("out" : Str), nmI d.nm d.ans]] ++ (d.rl.take i).map (ruW d.nm)).map ln).map V.str))
set_option maxHeartbeats 4000000 in
theorem ok_Lli {f : Addr} {fd : FuncData} (B : Bl mg) (N : Has P w K mg base 1 "_law_side" ["_law_sorts", "_law_side_here"] XU) (F : Fun K "_law_lines" "_law_lines" sLli f fd) : FnOk P w K mg base CX0 2 f fd ["_law_pot_here"] Y1 := by
 refine F.ok scLli (fun vs H Q E h => ?_) (fun cdv A outer s H vs Q E hr h => ?_)
 ·obtain ⟨p, d, m, rfl, _⟩ := h
  rfl
 ·obtain ⟨p, d, m, rfl, hP, hd, k⟩ := h
  refine' ⟨_, ?hb, ?rd⟩
  case' hb => skip
  case' hb => refine' za ?g1 ?g2
  case' g2 => refine' za ?g3 ?g4
  case' g4 => refine' za ?g5 ?g6
  case' g6 => refine' za ?g7 ?g8
  case' g8 => refine' za ?g9 ?g10
  case' g10 => refine' ze ?g11
  case g1 => exact ym (pvd yf 0) (xC rfl (zQ (pgd yf 1) (zQ (pgd yf 2) (zQ (pgd yf 3) (zQ (pgd yf 4) (zQ (pgd yf 5) ww))))))
  case' g3 => refine' zh yf 6 ?g12
  case' g12 => refine' zM ?g13
  case' g13 => refine' pa_2 (zo ye zn (zD PySem.F.plainAttrs_str PySem.F.slot_str_join PySem.F.type_str_join mt_joinT zn (pa_1 (pvd yf 1)))) ?g14
  case' g14 => refine' zo ye zn ?g15
  case' g15 => refine' zD PySem.F.plainAttrs_str PySem.F.slot_str_join PySem.F.type_str_join w9 zn ?g16
  case' g16 => refine' pa_1 ?g17
  case' g17 => refine' yJ (ix := []) bsLlia.toCScope rfl rfl ?g18 ?g19 ?g20 ?g21
  case g18 => exact vz (pvd yf 4)
  case g19 => exact fun _ _ _ _ _ _ => pgb bsLlia 0
  case g20 => exact fun _ _ _ _ _ _ => yp
  case g21 => exact fun _ _ _ _ _ _ => yA wR B.str PyProof.Rows.boot_str (pa_1 (pvb bsLlia 0)) (bsLlia.g 0)
  case' g5 => refine' yi ?g22
  case' g22 => refine' zD PySem.F.plainAttrs_list PySem.F.slot_list_append PySem.F.type_list_append yk (pvd yf 6) ?g23
  case' g23 => refine' pa_1 ?g24
  case' g24 => refine' zD PySem.F.plainAttrs_str PySem.F.slot_str_join PySem.F.type_str_join w9 zn ?g25
  case' g25 => refine' pa_1 ?g26
  case' g26 => refine' zo xG (zM (pa_1 zn)) ?g27
  case' g27 => refine' yJ (ix := [1]) bsLlib.toCScope rfl rfl ?g28 ?g29 ?g30 ?g31
  case g28 => exact vz (pvd yf 3)
  case g29 => exact fun _ _ _ _ _ _ => pgb bsLlib 0
  case g30 => exact fun _ _ _ _ _ _ => yp
  case g31 => exact fun _ _ _ _ _ _ => zw ix_R (pvb bsLlib 1) (pvb bsLlib 0) (fun _ _ => rfl)
  case g7 => exact yi (zD PySem.F.plainAttrs_list PySem.F.slot_list_append PySem.F.type_list_append yk (pvd yf 6) (pa_1 (zo ye zn (zw ix_R (pvd yf 1) (pvd yf 5) (fun _ _ => rfl)))))
  case' g9 => refine' yr PassesOwn.never rfl ?g32 (xC rfl (zQ (pgd yf 7) (zQ (pgd yf 8) ww))) ?g33
  case g32 => exact vz (pvd yf 2)
  case' g33 => refine' ze ?g34
  case g34 => exact yi (zD PySem.F.plainAttrs_list PySem.F.slot_list_append PySem.F.type_list_append yk (pvd yf 6) (pa_1 (zD PySem.F.plainAttrs_str PySem.F.slot_str_join PySem.F.type_str_join w9 zn (pa_1 (zo xG (zo xG (zo xG (zM (pa_1 zn)) (pe_f N hr (by decide) (pa_2 (pvd yf 1) (pvd yf 7)))) (zM (pa_1 zn))) (pe_f N hr (by decide) (pa_2 (pvd yf 1) (pvd yf 8))))))))
  case g11 => exact zt (pvd yf 6)
  case rd =>
   obtain ⟨fz, hP⟩ := hP
   obtain ⟨ps, pr, pin, pb, rs, h1, h2, h3, h4, h5, h6⟩ := hP.ex
   have h2 : L2.Rd H ps (.tup (d.nm.map V.str)) := by
    cases fz
    ·exact .inl h2
    ·obtain ⟨o, e, _⟩ := h2
     exact .inr ⟨o, e⟩
   have W := YC hd
   obtain ⟨w1, l1, _⟩ := W (("sorts" : Str) :: d.nm) (by unfold ptW; simp)
   obtain ⟨w2, l2, _⟩ := W (("begin" : Str) :: d.beg.map fT) (by unfold ptW; simp)
   obtain ⟨w3, l3, _⟩ := W (("in" : Str) :: d.ins.map (nmI d.nm)) (by unfold ptW; simp)
   obtain ⟨w4, l4, _⟩ := W [("out" : Str), nmI d.nm d.ans] (by unfold ptW; simp)
   have nl := hd.nl
   have m8 := hd.m8
   have m0 := hd.m0
   have bl := hd.bl
   have r8 := hd.r8
   have rl := h4.len
   have nat : ∀ i : Int, 0 ≤ i → i < m → atI (d.nm.map V.str) i = some (.str (nmI d.nm i)) := fun i i0 i1 => by
    obtain ⟨j, rfl⟩ := Nat.ofI i0
    have hj : j < d.nm.length := by lia
    refine zG ?_
    rw [List.getElem?_map, List.getElem?_eq_getElem hj]
    unfold nmI
    rw [Int.toNat_natCast, List.getD_eq_getElem?_getD, List.getElem?_eq_getElem hj]
    rfl
   have w1' : ∀ w ∈ d.nm, Wd w := fun w hw => w1 w (List.mem_cons_of_mem _ hw)
   have w2' : ∀ w ∈ d.beg.map fT, Wd w := fun w hw => w2 w (List.mem_cons_of_mem _ hw)
   obtain ⟨j1, j2⟩ := ZH w1' (by lia)
   obtain ⟨j3, j4⟩ := ZH w2' (by rw [List.length_map]; lia)
   obtain ⟨j5, j6⟩ := ZH w3 l3
   have n1 := vC w1' (by lia)
   have n2 := vC w2' (by rw [List.length_map]; lia)
   have ne1 : d.nm ≠ [] := fun z => by rw [z] at nl; simp at nl; lia
   have ne2 : d.beg.map fT ≠ [] := fun z => by have := congrArg List.length z; rw [List.length_map, List.length_nil] at this; lia
   walk_at "v"
   refine vf h1 rfl ?_
   refine ⟨_, _, rfl, ?_⟩
   walk_at "v"
   refine ⟨_, _, rfl, ?_⟩
   walk_at "v"
   refine ⟨_, _, rfl, ?_⟩
   walk_at "v"
   refine ⟨_, _, rfl, ?_⟩
   walk_at "v"
   refine ⟨_, _, rfl, ?_⟩
   walk_at "v"
   refine ⟨rfl, ?_⟩
   walk_at "v"
   refine ⟨rfl, ?_⟩
   walk_at "v"
   refine ⟨" ", ps, d.nm, rfl, rfl, h2, j1, j2, ?_⟩
   rw [vX]
   refine ⟨_, _, rfl, rfl, Nat.le_trans (show 6 + (ln d.nm).length ≤ 400 by lia) (by decide), ?_⟩
   rw [show (("sorts " : Str) ++ ln d.nm) = ln (("sorts" : Str) :: d.nm) by rw [show ("sorts " : Str) = ("sorts" : Str) ++ " " by decide +kernel, ZI ne1]]
   walk_at "v"
   refine ⟨rfl, ?_⟩
   walk_at "v"
   refine ⟨pb, rfl, ⟨_, SqT.of h6⟩, fun D1 hD1 => ?_⟩
   refine Wq V.int (fun b => V.str (fT b)) (SqT.of h6) (by lia) hD1 (fun b hb H' K' R kR => ?_) (fun H2 K02 e2 => ?_)
   ·walk_at "v"
    exact ⟨_, rfl, (vF (hd.hb b hb).1 (hd.hb b hb).2).lg, kR _ (Same.refl _)⟩
   walk_at "v"
   refine ⟨" ", D1, d.beg.map fT, rfl, rfl, by rw [e2, List.map_map]; rfl, j3, j4, ?_⟩
   rw [vX]
   refine ⟨_, _, rfl, rfl, Nat.le_trans (show 6 + (ln (d.beg.map fT)).length ≤ 400 by lia) (by decide), ?_⟩
   rw [show (("begin " : Str) ++ ln (d.beg.map fT)) = ln (("begin" : Str) :: d.beg.map fT) by rw [show ("begin " : Str) = ("begin" : Str) ++ " " by decide +kernel, ZI ne2]]
   walk_at "v"
   refine ⟨sz2, fun l8 hl8 => ?_⟩
   have n8 : H l8 = none := K02.free hl8
   have K03 := K02.new (o := .lst [.str (ln (("sorts" : Str) :: d.nm)), .str (ln (("begin" : Str) :: d.beg.map fT))]) hl8
   have e3 : upd H2 l8 (.lst [.str (ln (("sorts" : Str) :: d.nm)), .str (ln (("begin" : Str) :: d.beg.map fT))]) l8 = some (.lst [.str (ln (("sorts" : Str) :: d.nm)), .str (ln (("begin" : Str) :: d.beg.map fT))]) := zb
   generalize upd H2 l8 _ = H3 at K03 e3 ⊢
   walk_at "v"
   refine ⟨.inl ⟨rfl, _, SqL.of e3⟩, ?_⟩
   walk_at "v"
   refine ⟨rfl, ?_⟩
   walk_at "v"
   refine ⟨sz1, fun l4 hl4 => ?_⟩
   obtain ⟨H4, q, K4, e4⟩ := nob (.lst [.str "in"]) hl4; rw [q]; clear q
   have K04 := K03.trans K4
   walk_at "v"
   refine ⟨pin, rfl, ⟨_, SqT.of (K04 _ _ h5)⟩, fun D2 hD2 => ?_⟩
   refine Wq V.int (fun b => V.str (nmI d.nm b)) (SqT.of (K04 _ _ h5)) (by have := hd.i3; lia) hD2 (fun b hb H' K' R kR => ?_) (fun H5 K5 e5 => ?_)
   ·walk_at "v"
    refine XD (h2.sm (K04.trans K')) (nat b (hd.hi b hb).1 (hd.hi b hb).2) ?_
    exact kR _ (Same.refl _)
   have K05 := K04.trans K5
   walk_at "v"
   refine ⟨l4, D2, _, _, rfl, rfl, K5 _ _ e4, e5, by rw [List.length_map]; have := hd.i3; simp only [List.length_cons, List.length_nil]; exact Nat.le_of_lt (zB (by lia)), fun l6 hl6 => ?_⟩
   have e6 : upd H5 l6 (.lst ([.str "in"] ++ d.ins.map fun b => V.str (nmI d.nm b))) l6 = some (.lst ((("in" : Str) :: d.ins.map (nmI d.nm)).map V.str)) := by
    rw [zb, List.map_cons, List.map_map]
    rfl
   have K6 : Same H5 (upd H5 l6 (.lst ([.str "in"] ++ d.ins.map fun b => V.str (nmI d.nm b)))) := Same.new (Same.refl _) hl6
   generalize upd H5 l6 _ = H6 at K6 e6 ⊢
   have K06 := K05.trans K6
   walk_at "v"
   refine ⟨" ", l6, ("in" : Str) :: d.ins.map (nmI d.nm), rfl, rfl, e6, j5, j6, ?_⟩
   rw [vX]
   refine ⟨l8, _, _, rfl, rfl, ((K4.trans K5).trans K6) _ _ e3, by show 2 < sizeLine; decide, ?_⟩
   have K07 := K06.put (o := .lst ([.str (ln (("sorts" : Str) :: d.nm)), .str (ln (("begin" : Str) :: d.beg.map fT))] ++ [.str (ln (("in" : Str) :: d.ins.map (nmI d.nm)))])) n8
   have e7 : upd H6 l8 (.lst ([.str (ln (("sorts" : Str) :: d.nm)), .str (ln (("begin" : Str) :: d.beg.map fT))] ++ [.str (ln (("in" : Str) :: d.ins.map (nmI d.nm)))])) l8 = some (.lst [.str (ln (("sorts" : Str) :: d.nm)), .str (ln (("begin" : Str) :: d.beg.map fT)), .str (ln (("in" : Str) :: d.ins.map (nmI d.nm)))]) := zb
   generalize upd H6 l8 _ = H7 at K07 e7 ⊢
   walk_at "v"
   refine ⟨.inl ⟨rfl, _, SqL.of e7⟩, ?_⟩
   walk_at "v"
   refine XD (h2.sm K07) (nat d.ans hd.ha.1 hd.ha.2) ?_
   refine ⟨_, _, rfl, rfl, Nat.le_trans (show 4 + (nmI d.nm d.ans).length ≤ 400 by have := (w4 _ (List.mem_cons_of_mem _ List.mem_cons_self)).l; lia) (by decide), ?_⟩
   rw [show (("out " : Str) ++ nmI d.nm d.ans) = ln [("out" : Str), nmI d.nm d.ans] by rw [show ("out " : Str) = ("out" : Str) ++ " " by decide +kernel, ← ZI (List.cons_ne_nil _ _)]; rfl]
   walk_at "v"
   refine ⟨l8, _, _, rfl, rfl, e7, by show 3 < sizeLine; decide, ?_⟩
   have K08 := K07.put (o := .lst ([.str (ln (("sorts" : Str) :: d.nm)), .str (ln (("begin" : Str) :: d.beg.map fT)), .str (ln (("in" : Str) :: d.ins.map (nmI d.nm)))] ++ [.str (ln [("out" : Str), nmI d.nm d.ans])])) n8
   have e8 : upd H7 l8 (.lst ([.str (ln (("sorts" : Str) :: d.nm)), .str (ln (("begin" : Str) :: d.beg.map fT)), .str (ln (("in" : Str) :: d.ins.map (nmI d.nm)))] ++ [.str (ln [("out" : Str), nmI d.nm d.ans])])) l8 = some (.lst ((([("sorts" : Str) :: d.nm, ("begin" : Str) :: d.beg.map fT, ("in" : Str) :: d.ins.map (nmI d.nm), [("out" : Str), nmI d.nm d.ans]] ++ (d.rl.take 0).map (ruW d.nm)).map ln).map V.str)) := zb
   generalize upd H7 l8 _ = H8 at K08 e8 ⊢
   walk_at "v"
   refine ⟨pr, rfl, ⟨_, SqT.of (K08 _ _ h3)⟩, ?_⟩
   refine for_tup (xs := rs.map V.ref) (ivP4h2 H p d ps pr pin pb l8) ⟨none, none, rfl, K08, e8⟩ (fun i σ H' _ ⟨_, _, _, k', _⟩ => SqT.of (k' _ _ h3)) ?_ ?_
   ·rintro i x σ H9 hx ⟨u3, u4, rfl, K9, e9⟩
    have hi : i < rs.length := by
     have := (List.getElem?_eq_some_iff.mp hx).1
     simpa using this
    have ex : x = .ref rs[i] := by
     rw [List.getElem?_map, List.getElem?_eq_getElem hi] at hx
     exact (Option.some.inj hx).symm
    subst ex
    obtain ⟨r, gr, qa, qb, r1, r2, r3⟩ := h4.get (List.getElem?_eq_getElem hi)
    have hr' := List.mem_of_getElem? gr
    obtain ⟨s1, s2, _⟩ := hd.rs r hr'
    obtain ⟨wr, lr⟩ := YB hd hr'
    obtain ⟨jr, jr2⟩ := ZH wr lr
    have sl1 := xL (nm := d.nm) s1
    have sl2 := xL (nm := d.nm) s2
    refine vf (K9 _ _ r1) rfl ?_
    refine ⟨_, _, rfl, ?_⟩
    walk_at "v"
    refine ⟨_, _, rfl, ?_⟩
    walk_at "v"
    refine ⟨rfl, ?_⟩
    walk_at "v"
    refine ⟨.inl ⟨rfl, _, SqL.of e9⟩, ?_⟩
    walk_at "v"
    refine ⟨rfl, ?_⟩
    walk_at "v"
    refine ⟨sz1, fun lq hlq => ?_⟩
    obtain ⟨Hq, q, Kq, eq⟩ := nob (.lst [.str "rule"]) hlq; rw [q]; clear q
    have K0q := K9.trans Kq
    walk_at "v"
    refine ⟨ps, qa, d.nm, m, r.1, rfl, h2.sm K0q, K0q _ _ r2, nl, m8, s1, fun la H10 K10 _ e10 => ?_⟩
    refine ⟨lq, la, _, _, rfl, rfl, K10 _ _ eq, e10, by rw [List.length_map]; simp only [List.length_cons, List.length_nil]; exact Nat.le_of_lt (zB (by lia)), fun lz hlz => ?_⟩
    obtain ⟨Hz, q, Kz, ez⟩ := nob (.lst ([.str "rule"] ++ (yv d.nm r.1).map V.str)) hlz; rw [q]; clear q
    walk_at "v"
    refine ⟨sz1, fun lt hlt => ?_⟩
    obtain ⟨H11, q, K11, e11⟩ := nob (.lst [.str "to"]) hlt; rw [q]; clear q
    refine ⟨lz, lt, _, _, rfl, rfl, K11 _ _ ez, e11, by simp only [List.length_append, List.length_map, List.length_cons, List.length_nil]; exact Nat.le_of_lt (zB (by lia)), fun l12 hl12 => ?_⟩
    obtain ⟨H12, q, K12, e12⟩ := nob (.lst (([.str "rule"] ++ (yv d.nm r.1).map V.str) ++ [.str "to"])) hl12; rw [q]; clear q
    have K912 := (((Kq.trans K10).trans Kz).trans K11).trans K12
    have K012 := K9.trans K912
    walk_at "v"
    refine ⟨ps, qb, d.nm, m, r.2, rfl, h2.sm K012, K012 _ _ r3, nl, m8, s2, fun lb H13 K13 _ e13 => ?_⟩
    refine ⟨l12, lb, _, _, rfl, rfl, K13 _ _ e12, e13, by simp only [List.length_map, List.length_append, List.length_cons, List.length_nil]; exact Nat.le_of_lt (zB (by lia)), fun l14 hl14 => ?_⟩
    have e14 : upd H13 l14 (.lst ((([.str "rule"] ++ (yv d.nm r.1).map V.str) ++ [.str "to"]) ++ (yv d.nm r.2).map V.str)) l14 = some (.lst ((ruW d.nm r).map V.str)) := by
     rw [zb]
     unfold ruW
     rw [List.map_cons, List.map_append, List.append_assoc]
     rfl
    have K14 : Same H13 (upd H13 l14 (.lst ((([.str "rule"] ++ (yv d.nm r.1).map V.str) ++ [.str "to"]) ++ (yv d.nm r.2).map V.str))) := Same.new (Same.refl _) hl14
    generalize upd H13 l14 _ = H14 at K14 e14 ⊢
    have K914 := (K912.trans K13).trans K14
    walk_at "v"
    refine ⟨" ", l14, ruW d.nm r, rfl, rfl, e14, jr, jr2, ?_⟩
    rw [vX]
    refine ⟨l8, _, _, rfl, rfl, K914 _ _ e9, by simp only [List.length_map, List.length_append, List.length_take, List.length_cons, List.length_nil]; exact zB (by lia), ?_⟩
    refine ⟨_, _, rfl, (K9.trans K914).put n8, ?_⟩
    rw [zb, snoc_ln gr]
   rintro σ H9 ⟨u3, u4, rfl, K9, e9⟩
   rw [List.length_map, List.take_of_length_le (by lia)] at e9
   walk_at "v"
   exact k l8 H9 K9 n8 e9
end
theorem ps_tryD {X : Cx} {D : Addr} {bmD : List Value} {x n : Str} {i j : Nat} {body suite : List Stmt} {b₀ : Stmt} {sp : Sp} {t1 : TE} {ta : TA} {ts : TS} {np hpos pos : Pos} (M : Nm X.N X.env.scope) (hst : X.stack = X.env :: X.outer) (hfr : X.env.frame = some X.env.locals) (hex : X.ex = [])
  (hm : X.mg x = some (.ref D)) (xd : XC X.K D bmD) (hi : X.N[i]? = some n) (hk : X.env.scope.names.lookup n = some .local)
  (hb : ∀ pn xe EX, PassesOwn (model X.prog X.w) X.A X.env xe → Lands (X.tr pn xe) EX → PSs (X.tr pn xe) body (tAsg (tTup (xV t1 (xV (Zr sp EX ta) tNil))) (yU j))) (hs : ∀ a, PSs (X.hdl a) (b₀ :: suite) ts) (hg : Gl X x := by rfl) (hdb : (x == ("__debug__" : Str)) = false := by decide) :
  PS X (.Try body [.ExceptHandler (some (.Name x np)) (some n) (b₀ :: suite) hpos] [] [] pos) (tTry X.K D i (fun EX => tAsg (tTup (xV t1 (xV (Zr sp EX ta) tNil))) (yU j)) ts) := ps_try M hst hfr hex hm xd hi hk hb hs hg hdb
theorem Xj {h most : Nat} {ws nm : List Str} : ∀ {n i j : Nat}, hfGo h most ws nm n i = some j → j < i + n
 | 0, _, _, e => by cases e
 | n + 1, i, j, e => by
  rw [yE] at e
  by_cases q : hfB h most ws nm i
  ·rw [if_pos q] at e; cases e; lia
  ·rw [if_neg q] at e; have := Xj e; lia
theorem Zu {ws nm : List Str} {to : Bool} : ∀ {fu i k : Nat} {cs : List Int} {f : Nat}, (sfGo ws nm to fu i cs k).1 = some f → f ≤ ws.length
 | 0, _, _, _, _, e => by cases e
 | n + 1, i, k, cs, f, e => by
  rw [yC] at e
  by_cases q : sfT ws to nm.length i cs
  ·rw [if_pos q] at e
   have hi := q.1
   by_cases q1 : ws.getD i "" ∉ nums 1 9
   ·rw [if_pos q1] at e; cases e; lia
   ·rw [if_neg q1] at e
    by_cases q2 : i + 1 = ws.length ∨ ws.getD (i + 1) "" ∉ nm.drop k
    ·rw [if_pos q2] at e; cases e; lia
    ·rw [if_neg q2] at e; exact Zu e
  ·rw [if_neg q] at e
   by_cases q3 : i = ws.length ∧ to = true
   ·rw [if_pos q3] at e; cases e; lia
   ·rw [if_neg q3] at e; cases e
theorem lawRule_le {ws nm : List Str} {f : Nat} (e : yq ws nm = some f) : f ≤ ws.length := by
 unfold yq at e
 have s1 : ∀ f, (sfGo ws nm true (ws.length + 1) 1 (zr nm) 0).1 = some f → f ≤ ws.length := fun f h => Zu h
 match h1 : sfGo ws nm true (ws.length + 1) 1 (zr nm) 0, e, s1 with
 | (some f1, _, _), e, s1 => cases e; exact s1 _ rfl
 | (none, i, tk), e, s1 =>
  have s2 : ∀ f, (sfGo ws nm false (ws.length + 1) i (zr nm) 0).1 = some f → f ≤ ws.length := fun f h => Zu h
  dsimp only at e
  match h2 : sfGo ws nm false (ws.length + 1) i (zr nm) 0, e, s2 with
  | (f2, _, gv), e, s2 =>
   dsimp only at e
   by_cases q : f2 = none ∧ tk = gv
   ·rw [if_pos q] at e; cases e; exact Nat.le_refl _
   ·rw [if_neg q] at e; exact s2 _ e
theorem lawLine_le {nm ws : List Str} {z f : Nat} (e : zE nm z ws = some f) : f ≤ ws.length := by
 unfold zE at e
 by_cases h4 : z < 4
 ·rw [if_pos h4] at e
  unfold xy at e
  by_cases hh : ws.head? = some (hdW z)
  ·rw [if_pos hh] at e
   unfold hf at e
   cases hg : hfGo z (yg z nm.length) ws nm (ws.length - 1) 1 with
   | some j =>
    rw [hg] at e
    cases e
    have := Xj hg
    lia
   | none =>
    rw [hg] at e
    dsimp only at e
    by_cases q : ws.length ≤ yn z nm.length
    ·rw [if_pos q] at e; cases e; exact Nat.le_refl _
    ·rw [if_neg q] at e; cases e
  ·rw [if_neg hh] at e; cases e; exact Nat.zero_le _
 ·rw [if_neg h4] at e
  by_cases q : ws.head? = some "rule" ∧ z < 12
  ·rw [if_pos q] at e; exact lawRule_le e
  ·rw [if_neg q] at e; cases e; exact Nat.zero_le _
theorem Xl {W : List (List Str)} {B : Nat} (h : ∀ ws ∈ W, ws.length ≤ B) : ∀ {n z : Nat} {b : Bad}, z + n = W.length → ffGo W n z = some b → b.1 ≤ W.length ∧ b.2 ≤ B
 | 0, z, b, hz, e => by
  have e : (if z < 4 then some (z, 0) else none : Option Bad) = some b := e
  by_cases q : z < 4
  ·rw [if_pos q] at e; cases e; exact ⟨by show z ≤ _; lia, Nat.zero_le _⟩
  ·rw [if_neg q] at e; cases e
 | n + 1, z, b, hz, e => by
  rw [wQ] at e
  have hw : W.getD z [] = W[z]'(by lia) := by rw [List.getD_eq_getElem?_getD, List.getElem?_eq_getElem]; rfl
  cases hl : zE (nmAt W z) z (W.getD z []) with
  | some k =>
   rw [hl] at e
   cases e
   have := lawLine_le hl
   rw [hw] at this
   have h2 := h _ (List.getElem_mem (show z < W.length by lia))
   exact ⟨by show z ≤ _; lia, by show k ≤ _; lia⟩
  | none =>
   rw [hl] at e
   exact Xl h (by lia) e
theorem ln_spl (x : Str) : ln (spl x) = x := by
 unfold spl
 rw [Wf, xk]
 exact StrLaws.join_split x ⟨#[32]⟩
theorem lines_is {ls : List Str} {d : PD} (h : ls.map spl = ptW d) : ls = ptL d := by
 unfold ptL
 rw [← h, List.map_map]
 have : (ln ∘ spl) = id := funext ln_spl
 rw [this, List.map_id]
noncomputable abbrev sAs : Stmt := top 47
noncomputable abbrev nAs : List Str := ["_law_lines_here", "_law_told", "e"]
theorem nmAs : Nm nAs (zc sAs) := ⟨by decide +kernel, by decide +kernel⟩
theorem scAs : FnScope nAs ["_law_lines_here"] (zc sAs) := ⟨rfl, rfl, rfl, by decide +kernel, rfl, by decide +kernel, by decide +kernel⟩
theorem locE : (zc sAs).names.lookup ("e" : Str) = some .local := by decide +kernel
noncomputable def spAs : Sp := fun vs H Q _ => ∃ (l : Addr) (ls : List Str), vs = [.ref l] ∧ H l = some (.lst (ls.map V.str)) ∧ (∀ x ∈ ls, x.length ≤ 10000) ∧ ls.length ≤ 100 ∧ Res (rPot (ls.map spl)) (fun d => ∀ p q H', Same H H' → H' p = some (.tup [.str "pot", .ref q]) → PotF true H' q d → Q (.ref p) H') (fun b => ∀ p H', Same H H' → H' p = some (.tup [.str "no", .int (b.1 : Int), .int (b.2 : Int)]) → Q (.ref p) H')
section
variable {P : Program} {w : World} {K : PySem.W.Frag} {mg : Str → Option Value} {base : Heap}
set_option maxHeartbeats 4000000 in
theorem ok_As {f : Addr} {fd : FuncData} {cD cA : Addr} (B : Bl mg) (vaE : mg "ValueError" = none) (U : XUni K mg cD [("NoPot", cA)])
  (G : HasX P w K mg base 6 "read_pot" ["lines"] (spRp cA)) (hna : ∀ f ∈ (["line", "word"] : List Str), zW K cA f) (F : Fun K "_law_asked" "_law_asked" sAs f fd) : FnOk P w K mg base CX0 7 f fd ["_law_lines_here"] spAs := by
 refine F.ok scAs (fun vs H Q E h => ?_) (fun cdv A outer s H vs Q E hr h => ?_)
 ·obtain ⟨l, ls, rfl, _⟩ := h
  rfl
 ·obtain ⟨l, ls, rfl, hl, hx, h100, k⟩ := h
  refine' ⟨_, ?hb, ?rd⟩
  case hb =>
   refine' za ?s1 ?r1
   case' r1 => refine' za ?s2 ?r2
   case' r2 => refine' ze ?s3
   case s1 => exact zh nmAs 1 wJ
   case s2 =>
    refine' ps_tryD (sp := spRp cA) (i := 2) (j := 1) nmAs rfl rfl rfl U.mD U.base rfl locE ?tb ?ts
    case tb =>
     intro pn xe EX _ L
     exact ze (zh nmAs 1 (yt (pa_2 zn (yB G L hr (by decide) (pa_1 (pvd nmAs 0))))))
    case ts =>
     intro a
     exact za (zh nmAs 1 (yt (pa_1 zn))) (ze (zx (PW.pt (wc (xg (zv (WJ (K := K) rfl) B.isi PyProof.Rows.boot_isinstance (pa_2 (pvd nmAs 2) (pe_cls (C := cA) (U.cls ("NoPot", cA) (by simp)).1)))) (xn (xg (zv (WJ (K := K) rfl) B.isi PyProof.Rows.boot_isinstance (pa_2 (pvd nmAs 2) (Xd (v := .ty "ValueError") rfl vaE PyProof.Rows.Boot.«ValueError» rfl))))))) (ze (zh nmAs 1 (yt (pa_c zn (pa_2 (X4 (K := K) rfl (pvd nmAs 2)) (X4 (K := K) rfl (pvd nmAs 2))))))) zp))
   case s3 => exact zt (pvd nmAs 1)
  case rd =>
   obtain ⟨_, xcN, xaN⟩ := U.cls ("NoPot", cA) (by simp)
   walk_at "v"
   refine w_try ?_
   walk_at "v"
   refine zL ?_
   walk_at "v"
   refine ⟨l, ls, rfl, hl, hx, h100, zU (fun d hd p H2 K2 hp hP => ?_) (fun b hb dx H2 K2 hdx => ?_)⟩
   ·walk_at "v"
    refine ⟨sz2, fun q hq => ?_⟩
    obtain ⟨H3, q, K3, e3⟩ := nob (.tup [.str "pot", .ref p]) hq; rw [q]; clear q
    walk_at "v"
    exact k.ok hd q p _ (K2.trans K3) e3 (hP.same K3)
   ·refine ⟨cA, _, rfl, xcN, contains_D, fun a vs ha => ?_⟩
    have hda : dx ≠ a := fun z => by rw [z, zb] at ha; cases ha
    generalize hXD : XDct dx [("line", V.int (b.1 : Int)), ("word", .int (b.2 : Int))] = od at ha ⊢
    have K3 : Same H (upd (upd H2 dx od) a (XObj a cA (some dx) vs)) := (K2.new hdx).new ha
    have ea : upd (upd H2 dx od) a (XObj a cA (some dx) vs) a = some (XObj a cA (some dx) vs) := zb
    have ed : upd (upd H2 dx od) a (XObj a cA (some dx) vs) dx = some (XDct dx [("line", V.int (b.1 : Int)), ("word", .int (b.2 : Int))]) := by rw [zg hda, zb, hXD]
    generalize upd (upd H2 dx od) a (XObj a cA (some dx) vs) = H3 at K3 ea ed ⊢
    walk_at "v"
    refine ⟨sz1, fun q1 hq1 => ?_⟩
    have K4 : Same H3 (upd H3 q1 (.tup [.str "other"])) := Same.new (Same.refl _) hq1
    generalize upd H3 q1 (.tup [.str "other"]) = H4 at K4 ⊢
    have ea4 := K4 _ _ ea
    have ed4 := K4 _ _ ed
    walk_at "v"
    refine Wt (b := true) ea4 ed4 xaN (fun u hu => by cases hu; rw [kit_xx xcN xcN]; simp) ?_
    walk_at "v"
    refine Wt (b := true) ea4 ed4 xaN (fun u hu => by cases hu; exact kit_xv xcN) ?_
    walk_at "v"
    refine w_xf ?_
    walk_at "v"
    refine ⟨a, cA, dx, vs, _, _, rfl, ea4, ed4, xaN, hna _ (by simp), rfl, ?_⟩
    walk_at "v"
    refine w_xf ?_
    walk_at "v"
    refine ⟨a, cA, dx, vs, _, _, rfl, ea4, ed4, xaN, hna _ (by simp), rfl, ?_⟩
    refine ⟨sz3, fun q2 hq2 => ?_⟩
    obtain ⟨H5, q, K5, e5⟩ := nob (.tup [.str "no", .int (b.1 : Int), .int (b.2 : Int)]) hq2; rw [q]; clear q
    walk_at "v"
    refine w_unE ?_
    walk_at "v"
    exact k.bad hb q2 _ ((K3.trans K4).trans K5) e5
end
noncomputable abbrev sRr2 : Stmt := top 48
noncomputable abbrev nRr2 : List Str := ["_law_lines_here", "_law_due", "_law_handed", "_law_found"]
theorem xb : Nm nRr2 (zc sRr2) := ⟨by decide +kernel, by decide +kernel⟩
theorem scRr2 : FnScope nRr2 ["_law_lines_here"] (zc sRr2) := ⟨rfl, rfl, rfl, by decide +kernel, rfl, by decide +kernel, by decide +kernel⟩
noncomputable def LnOk (B : Nat) (ls : List Str) : Prop := (∀ x ∈ ls, x.length ≤ B ∧ Asc x) ∧ ls.length ≤ 100 ∧ ls ≠ []
noncomputable def XW : Sp := fun vs H Q _ => ∃ (l : Addr) (ls : List Str), vs = [.ref l] ∧ H l = some (.lst (ls.map V.str)) ∧ LnOk 10000 ls ∧ ∀ H', Same H H' → Q (.bl true) H'
section
variable {P : Program} {w : World} {K : PySem.W.Frag} {mg : Str → Option Value} {base : Heap}
set_option maxHeartbeats 4000000 in
theorem ok_Rr2 {f : Addr} {fd : FuncData} (B : Bl mg) (LF : Has P w K mg base 4 "_law_fault" ["_law_lines_here"] spLf) (AS : Has P w K mg base 7 "_law_asked" ["_law_lines_here"] spAs) (LL : Has P w K mg base 2 "_law_lines" ["_law_pot_here"] Y1) (F : Fun K "_law_read_right" "_law_read_right" sRr2 f fd) : FnOk P w K mg base CX0 8 f fd ["_law_lines_here"] XW := by
 refine F.ok scRr2 (fun vs H Q E h => ?_) (fun cdv A outer s H vs Q E hr h => ?_)
 ·obtain ⟨l, ls, rfl, _⟩ := h
  rfl
 ·obtain ⟨l, ls, rfl, hl, hok, k⟩ := h
  refine' ⟨_, ?hb, ?rd⟩
  case' hb => skip
  case' hb => refine' za ?g1 ?g2
  case' g2 => refine' za ?g3 ?g4
  case' g4 => refine' za ?g5 ?g6
  case' g6 => refine' za ?g7 ?g8
  case' g8 => refine' za ?g9 ?g10
  case' g10 => refine' ze ?g11
  case g1 => exact zh xb 1 (pe_f LF hr (by decide) (pa_1 (pvd xb 0)))
  case g3 => exact zh xb 2 (yA xZ B.list PyProof.Rows.boot_list (pa_1 (pvd xb 0)))
  case g5 => exact zh xb 3 (pe_f AS hr (by decide) (pa_1 (pvd xb 2)))
  case' g7 => refine' zx ?g12 ?g13 zp
  case g12 => exact zj (op_neD hr) (pvd xb 2) (pvd xb 0) (zm _)
  case' g13 => refine' ze ?g15
  case g15 => exact zt wU
  case' g9 => refine' zx ?g16 ?g17 zp
  case g16 => exact Zx (ZD (pvd xb 1))
  case' g17 => refine' ze ?g19
  case g19 => exact zt (yj zR (zv (xT hr) B.repr PyProof.Rows.boot_repr (pa_1 (pvd xb 3))) (zv (xT hr) B.repr PyProof.Rows.boot_repr (pa_1 (zo op_catG (yt (pa_1 zn)) (pvd xb 1)))) (zm _))
  case g11 => exact zt (X5 (yj zR (zw ix_d (pvd xb 3) zd (fun _ _ => rfl)) zn (zm _)) (YE (yj zR (zv (xT hr) B.repr PyProof.Rows.boot_repr (pa_1 (pe_f LL hr (by decide) (pa_1 (zw ix_d (pvd xb 3) zd (fun _ _ => rfl)))))) (zv (xT hr) B.repr PyProof.Rows.boot_repr (pa_1 (pvd xb 0))) (zm _))))
  case rd =>
   have hx : ∀ x ∈ ls, x.length ≤ 10000 := fun x h => (hok.1 x h).1
   have h100 := hok.2.1
   have lay : PyData.canLay0 (.list (ls.map PyData.str)) = true := Ye fun x h => (hok.1 x h).2
   walk_at "v"
   refine ⟨l, ls, rfl, hl, hx, h100, fun dv H1 K1 hdu => ?_⟩
   walk_at "v"
   refine ⟨l, _, rfl, .inl (SqL.of (K1 _ _ hl)), fun lh hlh => ?_⟩
   obtain ⟨H2, q, K2, elh⟩ := nob (.lst (ls.map V.str)) hlh; rw [q]; clear q
   have K02 := K1.trans K2
   walk_at "v"
   refine ⟨lh, ls, rfl, elh, hx, h100, zU (fun d hd p q H3 K3 ep hP => ?_) (fun b hb p H3 K3 ep => ?_)⟩
   ·have K03 := K02.trans K3
    rw [xI, hd] at hdu
    have hdu : dv = .non := hdu
    subst hdu
    obtain ⟨hW, dok⟩ := rPot_ok hd
    have hls := lines_is hW
    walk_at "v"
    refine ⟨_, _, .lst (K3 _ _ elh) (x9 _), .lst (K03 _ _ hl) (x9 _), lay, lay, by show PyData.depthAll _ + 1 ≤ 60; rw [wf]; decide, ?_⟩
    rw [show PyData.eqv (.list (ls.map PyData.str)) (.list (ls.map PyData.str)) = true from PySem.SeqAt.eqv_refl _ lay]
    walk_at "v"
    refine iteF ?_
    walk_at "v"
    refine Zm ?_
    walk_at "v"
    refine iteF ?_
    walk_at "v"
    refine XI ?_
    walk_at "v"
    refine YS ep at0 ?_
    walk_at "v"
    refine ⟨rfl, ?_⟩
    refine ⟨_, rfl, ?_⟩
    rw [decide_eq_true rfl]
    refine iteT ?_
    walk_at "v"
    refine YS ep (zG (j := 1) rfl) ?_
    walk_at "v"
    refine ⟨q, d, _, rfl, ⟨true, hP⟩, dok, fun lo H5 K5 nlo e5 => ?_⟩
    have sl := shw_lines dok
    walk_at "v"
    refine YQ (.lst e5 (x9 _)) sl (by decide) (by decide) ?_
    walk_at "v"
    refine YQ (d := liD (ptL d)) (.lst (K5 _ _ (K03 _ _ hl)) (by rw [hls]; exact x9 _)) sl (by decide) (by decide) ?_
    walk_at "v"
    refine ⟨rfl, ?_⟩
    rw [show decide (V.str (PyData.list ((ptL d).map PyData.str)).shown = V.str (liD (ptL d)).shown) = true from decide_eq_true rfl]
    exact k _ (K03.trans K5)
   ·have K03 := K02.trans K3
    have hbd : b.1 ≤ 100 ∧ b.2 ≤ 10001 := by
     have hlf : yT (ls.map spl) = some b := by rw [xI, hb]; rfl
     have := Xl (W := ls.map spl) (B := 10001) (fun ws hws => by
      obtain ⟨x, hx', rfl⟩ := List.mem_map.mp hws
      have h1 := vd (spl x)
      rw [x4] at h1
      have := hx x hx'
      lia) (Nat.zero_add _) hlf
     rw [List.length_map] at this
     lia
    rw [xI, hb] at hdu
    obtain ⟨qd, rfl, eqd⟩ : ∃ q, dv = .ref q ∧ H1 q = some (.tup [.int (b.1 : Int), .int (b.2 : Int)]) := hdu
    walk_at "v"
    refine ⟨_, _, .lst (K3 _ _ elh) (x9 _), .lst (K03 _ _ hl) (x9 _), lay, lay, by show PyData.depthAll _ + 1 ≤ 60; rw [wf]; decide, ?_⟩
    rw [show PyData.eqv (.list (ls.map PyData.str)) (.list (ls.map PyData.str)) = true from PySem.SeqAt.eqv_refl _ lay]
    walk_at "v"
    refine iteF ?_
    walk_at "v"
    refine Zm ?_
    walk_at "v"
    refine iteT ?_
    have s0 : Shw (.str (Str.ofString "no")) 22 0 := Y4 (n := 2) (by decide +kernel) (by decide +kernel)
    have s1 : Shw (.int (b.1 : Int)) 16 0 := .int ⟨by lia, by lia⟩
    have s2 : Shw (.int (b.2 : Int)) 16 0 := .int ⟨by lia, by lia⟩
    have sm := s0.three s1 s2
    walk_at "v"
    refine YQ (.tup ep (.cons (.str _) (.cons (.int _) (.cons (.int _) .nil)))) sm (by decide) (by decide) ?_
    walk_at "v"
    refine ⟨sz1, fun q1 hq1 => ?_⟩
    obtain ⟨H4, q, K4, eq1⟩ := nob (.tup [.str "no"]) hq1; rw [q]; clear q
    walk_at "v"
    refine ⟨q1, qd, _, _, rfl, rfl, eq1, K4 _ _ (K3 _ _ (K2 _ _ eqd)), by show 1 + 2 ≤ 1000; decide, fun q2 H5 K5 e5 => ?_⟩
    walk_at "v"
    refine YQ (.tup e5 (.cons (.str _) (.cons (.int _) (.cons (.int _) .nil)))) sm (by decide) (by decide) ?_
    walk_at "v"
    refine ⟨rfl, ?_⟩
    rw [decide_eq_true rfl]
    exact k _ ((K03.trans K4).trans K5)
end
noncomputable abbrev sWd : Stmt := top 49
noncomputable abbrev nWd : List Str := ["_law_feed_here", "_law_lines_here", "_law_some", "_law_k", "_law_words"]
theorem nmWd : Nm nWd (zc sWd) := ⟨by decide +kernel, by decide +kernel⟩
theorem scWd : FnScope nWd ["_law_feed_here", "_law_lines_here"] (zc sWd) := ⟨rfl, rfl, rfl, by decide +kernel, rfl, by decide +kernel, by decide +kernel⟩
theorem But.of {p : Addr} {H H' : Hp} (k : Same H H') : But p H H' := fun q o e _ => k q o e
noncomputable def w17 : List Str := ["", "0", "1", "9", "10", "99", "100", "00", "07", "-1", "+1", "1_0", "sorts", "begin", "in", "out", "rule"]
noncomputable def w11 : List Str := ["to", "a", "ab", "x", "A", "toto", "zzzzzzzzz", "a1", "b\n", "2\n", "-"]
noncomputable def WOk (B : Nat) (us : List Str) : Prop := ∀ u ∈ us, u.length ≤ B ∧ Asc u
theorem w28_ok {B : Nat} (h : 9 ≤ B) : WOk B (w17 ++ w11) := fun u hu => by
 have a : ((w17 ++ w11).all fun u => decide (u.length ≤ 9) && u.cps.toList.all fun c => decide (c < 128)) = true := by decide +kernel
 have a := List.all_eq_true.mp a u hu
 simp only [Bool.and_eq_true, decide_eq_true_eq] at a
 exact ⟨Nat.le_trans a.1 h, vb a.2⟩
theorem WOk.spl {B : Nat} {x : Str} (h : x.length ≤ B) (a : Asc x) : WOk B (spl x) := fun u hu => ⟨by have := Xu hu; rw [x4] at this; lia, asc_spl a u hu⟩
noncomputable def spWd : Sp := fun vs H Q _ => ∃ (p l : Addr) (ls : List Str) (B : Nat), vs = [.ref p, .ref l] ∧ FeedAt H p ∧ l ≠ p ∧ H l = some (.lst (ls.map V.str)) ∧ LnOk B ls ∧ 9 ≤ B ∧ B ≤ 10000 ∧ ∀ w H', But p H H' → FeedAt H' p → w.length ≤ B → Asc w → Q (.str w) H'
section
variable {P : Program} {w : World} {K : PySem.W.Frag} {mg : Str → Option Value} {base : Heap}
noncomputable abbrev ivP4n1 (H : Hp) (p : Addr) (l : Addr) (bd : Nat) (sm : Addr) : Nat → St → Hp → Prop := fun i σ H' => ∃ (us : List Str) (u3 u4 : Option V), σ = [some (.ref p), some (.ref l), some (.ref sm), u3, u4] ∧ But p H H' ∧ FeedAt H' p ∧ H' sm = some (.lst (us.map V.str)) ∧ WOk bd us ∧ us.length = 28 + i
set_option maxHeartbeats 4000000 in
theorem ok_Wd {f : Addr} {fd : FuncData} (B : Bl mg) (D : Has P w K mg base 1 "_law_draw" ["_law_feed_here", "_law_many"] xl) (F : Fun K "_law_word" "_law_word" sWd f fd) : FnOk P w K mg base CX0 2 f fd ["_law_feed_here", "_law_lines_here"] spWd := by
 refine F.ok scWd (fun vs H Q E h => ?_) (fun cdv A outer s H vs Q E hr h => ?_)
 ·obtain ⟨p, l, ls, B, rfl, _⟩ := h
  rfl
 ·obtain ⟨p, l, ls, bd, rfl, F0, hlp, hl, hok, h9, hB, k⟩ := h
  refine' ⟨_, ?hb, ?rd⟩
  case' hb => skip
  case' hb => refine' za ?g1 ?g2
  case' g2 => refine' za ?g3 ?g4
  case' g4 => refine' za ?g5 ?g6
  case' g6 => refine' ze ?g7
  case' g1 => refine' zh nmWd 2 ?g8
  case g8 =>
   refine xo (vs := w17.map V.str) ?_
   decide +kernel
  case' g3 => refine' zh nmWd 2 ?g9
  case' g9 => refine' zo xG (pvd nmWd 2) ?g10
  case g10 =>
   refine xo (vs := w11.map V.str) ?_
   decide +kernel
  case' g5 => refine' yr PassesOwn.never rfl ?g11 (pgd nmWd 3) ?g12
  case g11 => exact wT B.range (pa_1 zd)
  case' g12 => refine' za ?g13 ?g14
  case' g14 => refine' ze ?g15
  case g13 => exact zh nmWd 4 (zD PySem.F.plainAttrs_str PySem.F.slot_str_split PySem.F.type_str_split xO (zw ix_d (pvd nmWd 1) (pe_f D hr (by decide) (pa_2 (pvd nmWd 0) (zv zf B.len PySem.boot_len (pa_1 (pvd nmWd 1))))) (fun _ _ => rfl)) (pa_1 zn))
  case g15 => exact yi (zD PySem.F.plainAttrs_list PySem.F.slot_list_append PySem.F.type_list_append yk (pvd nmWd 2) (pa_1 (zw ix_d (pvd nmWd 4) (pe_f D hr (by decide) (pa_2 (pvd nmWd 0) (zv zf B.len PySem.boot_len (pa_1 (pvd nmWd 4))))) (fun _ _ => rfl))))
  case g7 => exact zt (zw ix_d (pvd nmWd 2) (pe_f D hr (by decide) (pa_2 (pvd nmWd 0) (zv zf B.len PySem.boot_len (pa_1 (pvd nmWd 2))))) (fun _ _ => rfl))
  case rd =>
   have hls : 1 ≤ ls.length := List.length_pos_iff.mpr hok.2.2
   have h100 := hok.2.1
   walk_at "v"
   refine ⟨by show 17 ≤ sizeLine; decide, fun q0 hq0 => ?_⟩
   obtain ⟨H1, q, K1, e0⟩ := nob (.lst (w17.map V.str)) hq0; rw [q]; clear q
   walk_at "v"
   refine ⟨by show 11 ≤ sizeLine; decide, fun q1 hq1 => ?_⟩
   obtain ⟨H2, q, K2, e1⟩ := nob (.lst (w11.map V.str)) hq1; rw [q]; clear q
   refine ⟨q0, q1, _, _, rfl, rfl, K2 _ _ e0, e1, by show 17 + 11 ≤ sizeLine; decide, fun sm hsm => ?_⟩
   rw [← List.map_append]
   have nsm : H sm = none := (K1.trans K2).free hsm
   have K3 := (K1.trans K2).new (o := .lst ((w17 ++ w11).map V.str)) hsm
   have e3 : upd H2 sm (.lst ((w17 ++ w11).map V.str)) sm = some (.lst ((w17 ++ w11).map V.str)) := zb
   generalize upd H2 sm (.lst ((w17 ++ w11).map V.str)) = H3 at K3 e3 ⊢
   have hps : p ≠ sm := F0.ne nsm
   have F3 : FeedAt H3 p := let ⟨x, y, z, e⟩ := F0; ⟨x, y, z, K3 _ _ e⟩
   walk_at "v"
   refine ⟨20, rfl, by decide, by decide, ?_⟩
   refine zP (n := 20) (ivP4n1 H p l bd sm) ⟨w17 ++ w11, none, none, rfl, .of K3, F3, e3, w28_ok h9, rfl⟩ ?_ ?_
   ·rintro i σ H4 hi ⟨us, u3, u4, rfl, B4, F4, e4, hus, hul⟩
    walk_at "v"
    refine ⟨l, _, rfl, .inl (SqL.of (B4 _ _ hl hlp)), ?_⟩
    rw [List.length_map]
    refine ⟨p, (ls.length : Int), rfl, F4, by lia, by lia, fun r x y z r0 r1 => ?_⟩
    have B5 : But p H (upd H4 p (.lst [.int x, .int y, .int z])) := B4.at
    have F5 : FeedAt (upd H4 p (.lst [.int x, .int y, .int z])) p := FeedAt.here
    have SH5 : But p H4 (upd H4 p (.lst [.int x, .int y, .int z])) := But.refl.at
    generalize upd H4 p (.lst [.int x, .int y, .int z]) = H5 at B5 F5 SH5 ⊢
    obtain ⟨n, rfl⟩ := Nat.ofI r0
    have hn : n < ls.length := by lia
    have gn : ls[n]? = some ls[n] := List.getElem?_eq_getElem hn
    obtain ⟨hx1, hx2⟩ := hok.1 _ (List.getElem_mem hn)
    walk_at "v"
    refine zy (v := .str ls[n]) (B5 _ _ hl hlp) (zG (by rw [List.getElem?_map, gn]; rfl)) ?_
    walk_at "v"
    refine ⟨rfl, ?_⟩
    walk_at "v"
    refine ⟨_, _, rfl, rfl, by decide +kernel, by lia, fun pw hpw => ?_⟩
    rw [show Txt.split ls[n] " " = spl ls[n] from rfl]
    have hwo := WOk.spl hx1 hx2
    have hwl : (spl ls[n]).length ≤ 10001 := by have := vd (spl ls[n]); rw [x4] at this; lia
    have hne := List.length_pos_iff.mpr (wH ls[n])
    generalize spl ls[n] = ws at hwo hwl hne
    have hpw' : p ≠ pw := F5.ne hpw
    have B6 := B5.new (o := .lst (ws.map V.str)) hpw
    have F6 := F5.new (o := .lst (ws.map V.str)) hpw'
    have e6 : upd H5 pw (.lst (ws.map V.str)) pw = some (.lst (ws.map V.str)) := zb
    have e46 : upd H5 pw (.lst (ws.map V.str)) sm = some (.lst (us.map V.str)) := by
     have := SH5 _ _ e4 (Ne.symm hps)
     rw [zg (zi this hpw)]; exact this
    generalize upd H5 pw (.lst (ws.map V.str)) = H6 at B6 F6 e6 e46 ⊢
    walk_at "v"
    refine ⟨.inl ⟨rfl, _, SqL.of e46⟩, ?_⟩
    walk_at "v"
    refine ⟨pw, _, rfl, .inl (SqL.of e6), ?_⟩
    rw [List.length_map]
    refine ⟨p, (ws.length : Int), rfl, F6, by lia, by lia, fun r x y z r0 r1 => ?_⟩
    have B7 : But p H (upd H6 p (.lst [.int x, .int y, .int z])) := B6.at
    have F7 : FeedAt (upd H6 p (.lst [.int x, .int y, .int z])) p := FeedAt.here
    have SH7 : But p H6 (upd H6 p (.lst [.int x, .int y, .int z])) := But.refl.at
    generalize upd H6 p (.lst [.int x, .int y, .int z]) = H7 at B7 F7 SH7 ⊢
    obtain ⟨m, rfl⟩ := Nat.ofI r0
    have hm : m < ws.length := by lia
    have gm : ws[m]? = some ws[m] := List.getElem?_eq_getElem hm
    refine zy (v := .str ws[m]) (SH7 _ _ e6 (Ne.symm hpw')) (zG (by rw [List.getElem?_map, gm]; rfl)) ?_
    walk_at "v"
    refine ⟨sm, _, _, rfl, rfl, SH7 _ _ e46 (Ne.symm hps), by rw [List.length_map]; exact zB (by lia), ?_⟩
    refine ⟨us ++ [ws[m]], _, _, rfl, B7.put nsm, F7.new hps, by rw [zb, List.map_append]; rfl, fun u hu => ?_, by rw [List.length_append, List.length_singleton]; lia⟩
    rcases List.mem_append.mp hu with hu | hu
    ·exact hus u hu
    ·rw [List.mem_singleton.mp hu]; exact hwo _ (List.getElem_mem hm)
   ·rintro σ H4 ⟨us, u3, u4, rfl, B4, F4, e4, hus, hul⟩
    walk_at "v"
    refine ⟨sm, _, rfl, .inl (SqL.of e4), ?_⟩
    rw [List.length_map]
    refine ⟨p, (us.length : Int), rfl, F4, by lia, by lia, fun r x y z r0 r1 => ?_⟩
    have B5 : But p H (upd H4 p (.lst [.int x, .int y, .int z])) := B4.at
    have F5 : FeedAt (upd H4 p (.lst [.int x, .int y, .int z])) p := FeedAt.here
    have SH5 : But p H4 (upd H4 p (.lst [.int x, .int y, .int z])) := But.refl.at
    generalize upd H4 p (.lst [.int x, .int y, .int z]) = H5 at B5 F5 SH5 ⊢
    obtain ⟨m, rfl⟩ := Nat.ofI r0
    have hm : m < us.length := by lia
    have gm : us[m]? = some us[m] := List.getElem?_eq_getElem hm
    refine zy (v := .str us[m]) (SH5 _ _ e4 (Ne.symm hps)) (zG (by rw [List.getElem?_map, gm]; rfl)) ?_
    obtain ⟨h1, h2⟩ := hus _ (List.getElem_mem hm)
    exact k _ _ B5 F5 h1 h2
end
noncomputable abbrev sLs : Stmt := top 50
noncomputable abbrev nLs : List Str := ["_law_feed_here", "_law_lines_here", "_law_line", "_law_words", "_law_at", "_law_way"]
theorem nmLs : Nm nLs (zc sLs) := ⟨by decide +kernel, by decide +kernel⟩
theorem scLs : FnScope nLs ["_law_feed_here", "_law_lines_here", "_law_line"] (zc sLs) := ⟨rfl, rfl, rfl, by decide +kernel, rfl, by decide +kernel, by decide +kernel⟩
theorem w_rep {i : Nat} {b y z : Str} {t : TA} {σ : St} {H : Hp} {Q : List V → Hp → Prop} {a : Str} (e : σ[i]? = some (some (.str a))) (hl : a.length ≤ 10000) (h : t σ H fun vs H1 => Q (.str (a ++ b) :: .str (repT a y z) :: vs) H1) : tRep i b y z t σ H Q := ⟨a, e, hl, h⟩
noncomputable def spLs : Sp := fun vs H Q _ => ∃ (p l : Addr) (ls : List Str) (x : Str) (B : Nat), vs = [.ref p, .ref l, .str x] ∧ FeedAt H p ∧ l ≠ p ∧ H l = some (.lst (ls.map V.str)) ∧ LnOk B ls ∧ x.length ≤ B ∧ Asc x ∧ 9 ≤ B ∧ 3 * B + 3 ≤ 10000 ∧ ∀ y H', But p H H' → FeedAt H' p → y.length ≤ 3 * B + 3 → Asc y → Q (.str y) H'
theorem va {us : List Str} {k : Nat} (h : k ≤ us.length) : cutV (us.map V.str) none (some (k : Int)) = (us.take k).map V.str := by rw [EL.cut_to (by rw [List.length_map]; exact h), List.map_take]
theorem cut_fromS {us : List Str} {k : Nat} (h : k ≤ us.length) : cutV (us.map V.str) (some (k : Int)) none = (us.drop k).map V.str := by rw [EL.cut_from (by rw [List.length_map]; exact h), List.map_drop]
theorem WOk.app {B : Nat} {us ws : List Str} (a : WOk B us) (b : WOk B ws) : WOk B (us ++ ws) := fun u hu => (List.mem_append.mp hu).elim (a u) (b u)
theorem WOk.take {B : Nat} {us : List Str} (a : WOk B us) (n : Nat) : WOk B (us.take n) := fun u hu => a u (List.mem_of_mem_take hu)
theorem WOk.drop {B : Nat} {us : List Str} (a : WOk B us) (n : Nat) : WOk B (us.drop n) := fun u hu => a u (List.mem_of_mem_drop hu)
theorem WOk.cons {B : Nat} {w : Str} {us : List Str} (hw : w.length ≤ B) (ha : Asc w) (a : WOk B us) : WOk B (w :: us) := fun u hu => (List.mem_cons.mp hu).elim (fun e => by rw [e]; exact ⟨hw, ha⟩) (a u)
theorem WOk.set {B : Nat} {w : Str} {us : List Str} (hw : w.length ≤ B) (ha : Asc w) (a : WOk B us) (n : Nat) : WOk B (us.set n w) := fun u hu => (List.mem_or_eq_of_mem_set hu).elim (a u) (fun e => by rw [e]; exact ⟨hw, ha⟩)
theorem WOk.erase {B : Nat} {us : List Str} (a : WOk B us) (n : Nat) : WOk B (us.eraseIdx n) := fun u hu => a u (List.mem_of_mem_eraseIdx hu)
theorem WOk.nil {B : Nat} : WOk B [] := fun u hu => absurd hu List.not_mem_nil
theorem YI : ∀ (ws : List Str) (n : Nat), (ws.map V.str).eraseIdx n = (ws.eraseIdx n).map V.str
 | [], _ => rfl
 | w :: ws, 0 => rfl
 | w :: ws, n + 1 => by
  rw [List.map_cons, List.eraseIdx_cons_succ, YI ws n, List.eraseIdx_cons_succ, List.map_cons]
theorem asc_l : Asc " " ∧ Asc "  " ∧ Asc "\n" := ⟨vb (by decide +kernel), vb (by decide +kernel), vb (by decide +kernel)⟩
theorem len_l : Str.length " " = 1 ∧ Str.length "  " = 2 ∧ Str.length "\n" = 1 := by decide +kernel
theorem drop_two (ws vs : List Str) {n : Nat} (h : n < ws.length) : wl (ws.take (n + 1) ++ ws.drop n) = wl ws + (ws[n].length + 1) := by
 rw [x5, List.take_add_one, List.getElem?_eq_getElem h, x5]
 have := x5 (ws.take n) (ws.drop n)
 rw [List.take_append_drop] at this
 rw [show (some ws[n]).toList = [ws[n]] from rfl, yo, Xs]
 lia
section
variable {P : Program} {w : World} {K : PySem.W.Frag} {mg : Str → Option Value} {base : Heap}
set_option maxHeartbeats 4000000 in
theorem ok_Ls {f : Addr} {fd : FuncData} (B : Bl mg) (D : Has P w K mg base 1 "_law_draw" ["_law_feed_here", "_law_many"] xl) (Wo : Has P w K mg base 2 "_law_word" ["_law_feed_here", "_law_lines_here"] spWd) (F : Fun K "_law_line_spoilt" "_law_line_spoilt" sLs f fd) : FnOk P w K mg base CX0 3 f fd ["_law_feed_here", "_law_lines_here", "_law_line"] spLs := by
 refine F.ok scLs (fun vs H Q E h => ?_) (fun cdv A outer s H vs Q E hr h => ?_)
 ·obtain ⟨p, l, ls, tx, B, rfl, _⟩ := h
  rfl
 ·obtain ⟨p, l, ls, tx, bd, rfl, F0, hlp, hl, hok, hxl, hxa, h9, hB, k⟩ := h
  refine' ⟨_, ?hb, ?rd⟩
  case' hb => skip
  case' hb => refine' za ?g1 ?g2
  case' g2 => refine' za ?g3 ?g4
  case' g4 => refine' za ?g5 ?g6
  case' g6 => refine' za ?g7 ?g8
  case' g8 => refine' ze ?g9
  case g1 => exact zh nmLs 3 (zD PySem.F.plainAttrs_str PySem.F.slot_str_split PySem.F.type_str_split xO (pvd nmLs 2) (pa_1 zn))
  case g3 => exact zh nmLs 4 (pe_f D hr (by decide) (pa_2 (pvd nmLs 0) (zv zf B.len PySem.boot_len (pa_1 (pvd nmLs 3)))))
  case g5 => exact zh nmLs 5 (pe_f D hr (by decide) (pa_2 (pvd nmLs 0) zd))
  case' g7 => refine' zx ?g10 ?g11 ?g12
  case g10 => exact zj wy (pvd nmLs 5) zd (zm _)
  case' g11 => refine' ze ?g13
  case g13 => exact ym (pe_f Wo hr (by decide) (pa_2 (pvd nmLs 0) (pvd nmLs 1))) (yy (pvd nmLs 3) (pvd nmLs 4) yZ)
  case' g12 => refine' ze ?g14
  case' g14 => refine' zx ?g15 ?g16 ?g17
  case g15 => exact zj zR (pvd nmLs 5) zd (zm _)
  case' g16 => refine' ze ?g18
  case g18 => exact yi (zD PySem.F.plainAttrs_list PySem.F.slot_list_insert PySem.F.type_list_insert vV (pvd nmLs 3) (pa_2 (zo zA (pvd nmLs 4) (pe_f D hr (by decide) (pa_2 (pvd nmLs 0) zd))) (pe_f Wo hr (by decide) (pa_2 (pvd nmLs 0) (pvd nmLs 1)))))
  case' g17 => refine' ze ?g19
  case' g19 => refine' zx ?g20 ?g21 ?g22
  case g20 => exact PW.pt (wc (zj zR (pvd nmLs 5) zd (zm _)) (xn (zj wV (zv zf B.len PySem.boot_len (pa_1 (pvd nmLs 3))) zd (zm _))))
  case' g21 => refine' ze ?g23
  case g23 => exact yi (zD PySem.F.plainAttrs_list PySem.F.slot_list_pop PySem.F.type_list_pop vB (pvd nmLs 3) (pa_1 (pvd nmLs 4)))
  case' g22 => refine' ze ?g24
  case' g24 => refine' zx ?g25 ?g26 ?g27
  case g25 => exact zj zR (pvd nmLs 5) zd (zm _)
  case' g26 => refine' ze ?g28
  case g28 => exact zh nmLs 3 (yz yu (pvd nmLs 3) y0 (yF (zo zA (pvd nmLs 4) zd)))
  case' g27 => refine' ze ?g29
  case' g29 => refine' zx ?g30 ?g31 ?g32
  case g30 => exact zj zR (pvd nmLs 5) zd (zm _)
  case' g31 => refine' ze ?g33
  case g33 => exact zh nmLs 3 (zo xG (yz yu (pvd nmLs 3) y0 (yF (zo zA (pvd nmLs 4) zd))) (yz yu (pvd nmLs 3) (yF (pvd nmLs 4)) y0))
  case' g32 => refine' ze ?g34
  case' g34 => refine' zx ?g35 ?g36 ?g37
  case g35 => exact zj zR (pvd nmLs 5) zd (zm _)
  case' g36 => refine' ze ?g38
  case g38 => exact zh nmLs 3 (zo xG (pvd nmLs 3) (yz yu (zM (pa_2 (pe_f Wo hr (by decide) (pa_2 (pvd nmLs 0) (pvd nmLs 1))) (pe_f Wo hr (by decide) (pa_2 (pvd nmLs 0) (pvd nmLs 1))))) y0 (yF (zo zA zd (pe_f D hr (by decide) (pa_2 (pvd nmLs 0) zd))))))
  case' g37 => refine' ze ?g39
  case g39 => exact zt (zw ix_d (zM (pa_c (zo ye zn (pvd nmLs 2)) (pa_rep nmLs 2 (pa_2 (zo ye (pvd nmLs 2) zn) (zo ye zn (pvd nmLs 2)))))) (pe_f D hr (by decide) (pa_2 (pvd nmLs 0) zd)) (fun _ _ => rfl))
  case g9 => exact zt (zD PySem.F.plainAttrs_str PySem.F.slot_str_join PySem.F.type_str_join w9 zn (pa_1 (pvd nmLs 3)))
  case rd =>
   walk_at "v"
   refine ⟨rfl, ?_⟩
   walk_at "v"
   refine ⟨_, _, rfl, rfl, by decide +kernel, by lia, fun pw hpw => ?_⟩
   rw [show Txt.split tx " " = spl tx from rfl]
   have hwo := WOk.spl hxl hxa
   have hwl := x4 tx
   have hwn := vd (spl tx)
   have hne := List.length_pos_iff.mpr (wH tx)
   generalize spl tx = ws at hwo hwl hwn hne
   have hpw' : p ≠ pw := F0.ne hpw
   have B1 : But p H (upd H pw (.lst (ws.map V.str))) := But.refl.new hpw
   have F1 := F0.new (o := .lst (ws.map V.str)) hpw'
   have e1 : upd H pw (.lst (ws.map V.str)) pw = some (.lst (ws.map V.str)) := zb
   generalize upd H pw (.lst (ws.map V.str)) = H1 at B1 F1 e1 ⊢
   walk_at "v"
   refine ⟨pw, _, rfl, .inl (SqL.of e1), ?_⟩
   rw [List.length_map]
   refine ⟨p, (ws.length : Int), rfl, F1, by lia, by lia, fun r x y z r0 r1 => ?_⟩
   have B2 : But p H (upd H1 p (.lst [.int x, .int y, .int z])) := B1.at
   have F2 : FeedAt (upd H1 p (.lst [.int x, .int y, .int z])) p := FeedAt.here
   have SH2 : But p H1 (upd H1 p (.lst [.int x, .int y, .int z])) := But.refl.at
   generalize upd H1 p (.lst [.int x, .int y, .int z]) = H2 at B2 F2 SH2 ⊢
   obtain ⟨n, rfl⟩ := Nat.ofI r0
   have e2 := SH2 _ _ e1 (Ne.symm hpw')
   have hn : n < ws.length := by lia
   walk_at "v"
   refine ⟨p, 8, rfl, F2, by decide, by decide, fun r x y z r0 r1 => ?_⟩
   have B3 : But p H (upd H2 p (.lst [.int x, .int y, .int z])) := B2.at
   have F3 : FeedAt (upd H2 p (.lst [.int x, .int y, .int z])) p := FeedAt.here
   have SH3 : But p H2 (upd H2 p (.lst [.int x, .int y, .int z])) := But.refl.at
   generalize upd H2 p (.lst [.int x, .int y, .int z]) = H3 at B3 F3 SH3 ⊢
   obtain ⟨m, rfl⟩ := Nat.ofI r0
   have e3 := SH3 _ _ e2 (Ne.symm hpw')
   refine zJ ?_
   with_reducible refine yc (fun σ' H' => ∃ (us : List Str) (pv : Addr), σ' = [some (.ref p), some (.ref l), some (.str tx), some (.ref pv), some (.int (n : Int)), some (.int (m : Int))] ∧ But p H H' ∧ FeedAt H' p ∧ H' pv = some (.lst (us.map V.str)) ∧ WOk bd us ∧ wl us ≤ 3 * bd + 3) ?_ fun rest => ?_
   case _ =>
    rintro σ' H4 ⟨us, pv, rfl, B4, F4, e4, hus, hul⟩
    obtain ⟨j1, j2⟩ := join_ok (ws := us) (by lia)
    walk_at "v"
    refine ⟨rfl, ?_⟩
    walk_at "v"
    refine ⟨" ", pv, us, rfl, rfl, e4, j1, j2, ?_⟩
    exact k _ _ B4 F4 (Nat.le_trans (Yg us) hul) (asc_join fun u hu => (hus u hu).2)
   case _ =>
    walk_at "v"
    by_cases c2 : m < 2
    ·refine iteP (by lia) ?_
     walk_at "v"
     refine ⟨p, l, ls, bd, rfl, F3, hlp, B3 _ _ hl hlp, hok, h9, by lia, fun w1 H4 B4' F4 hw1 ha1 => ?_⟩
     have e4 := B4' _ _ e3 (Ne.symm hpw')
     refine wG ?_
     walk_at "v"
     refine yW (j := n) e4 (by rw [List.length_map]; unfold ixN; rw [if_pos (by lia), if_pos (by lia)]; simp) ?_
     rw [← List.map_set]
     refine rest _ _ ⟨ws.set n w1, pw, rfl, (B3.trans B4').put hpw, F4.new hpw', zb, hwo.set hw1 ha1 n, ?_⟩
     have := Xr ws n w1
     lia
    refine iteQ (by lia) ?_
    walk_at "v"
    refine ⟨rfl, ?_⟩
    walk_at "v"
    by_cases c3 : m = 2
    ·refine xJ (by rw [c3]; rfl) ?_
     walk_at "v"
     refine ⟨.inl ⟨rfl, _, SqL.of e3⟩, ?_⟩
     walk_at "v"
     refine ⟨p, 2, rfl, F3, by decide, by decide, fun r x y z r0 r1 => ?_⟩
     have B4 : But p H (upd H3 p (.lst [.int x, .int y, .int z])) := B3.at
     have F4 : FeedAt (upd H3 p (.lst [.int x, .int y, .int z])) p := FeedAt.here
     have SH4 : But p H3 (upd H3 p (.lst [.int x, .int y, .int z])) := But.refl.at
     generalize upd H3 p (.lst [.int x, .int y, .int z]) = H4 at B4 F4 SH4 ⊢
     obtain ⟨j, rfl⟩ := Nat.ofI r0
     have e4 := SH4 _ _ e3 (Ne.symm hpw')
     walk_at "v"
     refine ⟨p, l, ls, bd, rfl, F4, hlp, B4 _ _ hl hlp, hok, h9, by lia, fun w1 H5 B5' F5 hw1 ha1 => ?_⟩
     have e5 := B5' _ _ e4 (Ne.symm hpw')
     refine ⟨pw, _, _, _, rfl, rfl, e5, by lia, by rw [List.length_map]; lia, by rw [List.length_map, sizeLine_eq]; lia, ?_⟩
     rw [show ((n : Int) + (j : Int)).toNat = n + j by lia, ← List.map_take, ← List.map_drop, ← List.map_cons, ← List.map_append]
     refine rest _ _ ⟨ws.take (n + j) ++ w1 :: ws.drop (n + j), pw, rfl, (B4.trans B5').put hpw, F5.new hpw', zb, (hwo.take _).app (.cons hw1 ha1 (hwo.drop _)), ?_⟩
     have := x5 (ws.take (n + j)) (ws.drop (n + j))
     rw [List.take_append_drop] at this
     rw [x5, yo]
     lia
    refine xK (fun z => c3 (by have z := V.int.inj z; lia)) ?_
    refine ZW ?_
    with_reducible refine ZS false (fun H2 => H3 = H2) (fun H2' hG => ?_) (fun hb => ?_)
    case _ =>
     subst hG
     refine iteF ?_
     walk_at "v"
     refine ⟨rfl, ?_⟩
     walk_at "v"
     by_cases c6 : m = 4
     ·refine xJ (by rw [c6]; rfl) ?_
      walk_at "v"
      refine ⟨_, rfl, ?_⟩
      walk_at "v"
      refine ⟨pw, _, rfl, SqL.of e3, fun q hq => ?_⟩
      rw [show ((n : Int) + 1) = ((n + 1 : Nat) : Int) by lia, va (by lia)]
      refine zJ ?_
      refine rest _ _ ⟨ws.take (n + 1), q, rfl, B3.new hq, F3.new (F3.ne hq), zb, hwo.take _, ?_⟩
      have := YN ws (n + 1)
      lia
     refine xK (fun z => c6 (by have z := V.int.inj z; lia)) ?_
     walk_at "v"
     refine ⟨rfl, ?_⟩
     walk_at "v"
     by_cases c7 : m = 5
     ·refine xJ (by rw [c7]; rfl) ?_
      walk_at "v"
      refine ⟨_, rfl, ?_⟩
      walk_at "v"
      refine ⟨pw, _, rfl, SqL.of e3, fun q hq => ?_⟩
      rw [show ((n : Int) + 1) = ((n + 1 : Nat) : Int) by lia, va (by lia)]
      obtain ⟨H4, q, K4, e4⟩ := nob (.lst ((ws.take (n + 1)).map V.str)) hq; rw [q]; clear q
      walk_at "v"
      refine ⟨_, rfl, ?_⟩
      walk_at "v"
      refine ⟨pw, _, rfl, SqL.of (K4 _ _ e3), fun q2 hq2 => ?_⟩
      rw [cut_fromS (by lia)]
      obtain ⟨H5, q, K5, e5⟩ := nob (.lst ((ws.drop n).map V.str)) hq2; rw [q]; clear q
      refine ⟨q, q2, _, _, rfl, rfl, K5 _ _ e4, e5, by rw [List.length_map, List.length_map, List.length_take, List.length_drop, sizeLine_eq]; lia, fun q3 hq3 => ?_⟩
      rw [← List.map_append]
      refine zJ ?_
      have K35 := K4.trans K5
      have F5 : FeedAt H5 p := let ⟨x, y, z, e⟩ := F3; ⟨x, y, z, K35 _ _ e⟩
      refine rest _ _ ⟨ws.take (n + 1) ++ ws.drop n, q3, rfl, (B3.trans (.of K35)).new hq3, F5.new (F5.ne hq3), zb, (hwo.take _).app (hwo.drop _), ?_⟩
      rw [drop_two ws ws hn]
      have := (hwo _ (List.getElem_mem hn)).1
      lia
     refine xK (fun z => c7 (by have z := V.int.inj z; lia)) ?_
     walk_at "v"
     refine ⟨rfl, ?_⟩
     walk_at "v"
     by_cases c8 : m = 6
     ·refine xJ (by rw [c8]; rfl) ?_
      walk_at "v"
      refine ⟨p, l, ls, bd, rfl, F3, hlp, B3 _ _ hl hlp, hok, h9, by lia, fun w1 H4 B4' F4 hw1 ha1 => ?_⟩
      have e4 := B4' _ _ e3 (Ne.symm hpw')
      have B4 := B3.trans B4'
      walk_at "v"
      refine ⟨p, l, ls, bd, rfl, F4, hlp, B4 _ _ hl hlp, hok, h9, by lia, fun w2 H5 B5' F5 hw2 ha2 => ?_⟩
      have e5 := B5' _ _ e4 (Ne.symm hpw')
      have B5 := B4.trans B5'
      refine ⟨sz2, fun q hq => ?_⟩
      have hpq : p ≠ q := F5.ne hq
      have K6 : Same H5 (upd H5 q (.lst [.str w1, .str w2])) := Same.new (Same.refl _) hq
      have e6 : upd H5 q (.lst [.str w1, .str w2]) q = some (.lst (([w1, w2] : List Str).map V.str)) := zb
      generalize upd H5 q (.lst [.str w1, .str w2]) = H6 at K6 e6 ⊢
      have B6 := B5.trans (.of K6)
      have F6 : FeedAt H6 p := let ⟨x, y, z, e⟩ := F5; ⟨x, y, z, K6 _ _ e⟩
      have e36 := K6 _ _ e5
      walk_at "v"
      refine ⟨p, 2, rfl, F6, by decide, by decide, fun r x y z r0 r1 => ?_⟩
      have B7 : But p H (upd H6 p (.lst [.int x, .int y, .int z])) := B6.at
      have F7 : FeedAt (upd H6 p (.lst [.int x, .int y, .int z])) p := FeedAt.here
      have SH7 : But p H6 (upd H6 p (.lst [.int x, .int y, .int z])) := But.refl.at
      generalize upd H6 p (.lst [.int x, .int y, .int z]) = H7 at B7 F7 SH7 ⊢
      obtain ⟨j, rfl⟩ := Nat.ofI r0
      have e7 := SH7 _ _ e6 (Ne.symm hpq)
      have e37 := SH7 _ _ e36 (Ne.symm hpw')
      walk_at "v"
      refine ⟨_, rfl, ?_⟩
      refine ⟨q, _, rfl, SqL.of e7, fun q2 hq2 => ?_⟩
      rw [show ((1 : Int) + (j : Int)) = ((1 + j : Nat) : Int) by lia, va (by show 1 + j ≤ 2; lia)]
      have hpq2 : p ≠ q2 := F7.ne hq2
      obtain ⟨H8, q, K8, e8⟩ := nob (.lst ((([w1, w2] : List Str).take (1 + j)).map V.str)) hq2; rw [q]; clear q
      have F8 : FeedAt H8 p := let ⟨x, y, z, e⟩ := F7; ⟨x, y, z, K8 _ _ e⟩
      refine ⟨pw, q2, _, _, rfl, rfl, K8 _ _ e37, e8, by rw [List.length_map, List.length_map, List.length_take, sizeLine_eq]; show ws.length + min (1 + j) 2 ≤ _; lia, fun q3 hq3 => ?_⟩
      rw [← List.map_append]
      refine zJ ?_
      refine rest _ _ ⟨ws ++ ([w1, w2] : List Str).take (1 + j), q3, rfl, (B7.trans (.of K8)).new hq3, F8.new (F8.ne hq3), zb, hwo.app (WOk.take (.cons hw1 ha1 (.cons hw2 ha2 WOk.nil)) _), ?_⟩
      have h1 := YN [w1, w2] (1 + j)
      rw [yo, yo, Xs] at h1
      rw [x5]
      lia
     refine xK (fun z => c8 (by have z := V.int.inj z; lia)) ?_
     walk_at "v"
     refine ⟨_, _, rfl, rfl, by rw [len_l.1, sizeLine_eq]; lia, ?_⟩
     refine w_rep rfl (by lia) ?_
     walk_at "v"
     refine ⟨_, _, rfl, rfl, by rw [len_l.2.2, sizeLine_eq]; lia, ?_⟩
     walk_at "v"
     refine ⟨_, _, rfl, rfl, by rw [len_l.2.2, sizeLine_eq]; lia, ?_⟩
     refine ⟨sz5, fun q hq => ?_⟩
     have hys : ∀ y ∈ ([" " ++ tx, tx ++ " ", repT tx " " "  ", tx ++ "\n", "\n" ++ tx] : List Str), y.length ≤ 3 * bd + 3 ∧ Asc y := fun y hy => by
      have hr1 := Z6 tx " " "  "
      rw [len_l.2.1] at hr1
      simp only [List.mem_cons, List.not_mem_nil, or_false] at hy
      rcases hy with rfl | rfl | rfl | rfl | rfl
      ·exact ⟨by rw [xr, len_l.1]; lia, xU asc_l.1 hxa⟩
      ·exact ⟨by rw [xr, len_l.1]; lia, xU hxa asc_l.1⟩
      ·exact ⟨by lia, asc_rep hxa asc_l.2.1⟩
      ·exact ⟨by rw [xr, len_l.2.2]; lia, xU hxa asc_l.2.2⟩
      ·exact ⟨by rw [xr, len_l.2.2]; lia, xU asc_l.2.2 hxa⟩
     have hpq : p ≠ q := F3.ne hq
     have B4 := B3.new (o := .lst (([" " ++ tx, tx ++ " ", repT tx " " "  ", tx ++ "\n", "\n" ++ tx] : List Str).map V.str)) hq
     have F4 := F3.new (o := .lst (([" " ++ tx, tx ++ " ", repT tx " " "  ", tx ++ "\n", "\n" ++ tx] : List Str).map V.str)) hpq
     have e4 : upd H3 q (.lst (([" " ++ tx, tx ++ " ", repT tx " " "  ", tx ++ "\n", "\n" ++ tx] : List Str).map V.str)) q = some (.lst (([" " ++ tx, tx ++ " ", repT tx " " "  ", tx ++ "\n", "\n" ++ tx] : List Str).map V.str)) := zb
     rw [show ([V.str (" " ++ tx), V.str (tx ++ " "), V.str (repT tx " " "  "), V.str (tx ++ "\n"), V.str ("\n" ++ tx)] : List V) = ([" " ++ tx, tx ++ " ", repT tx " " "  ", tx ++ "\n", "\n" ++ tx] : List Str).map V.str from rfl]
     have hyl : ([" " ++ tx, tx ++ " ", repT tx " " "  ", tx ++ "\n", "\n" ++ tx] : List Str).length = 5 := rfl
     generalize ([" " ++ tx, tx ++ " ", repT tx " " "  ", tx ++ "\n", "\n" ++ tx] : List Str) = ys at hys B4 F4 e4 hyl ⊢
     generalize upd H3 q (.lst (ys.map V.str)) = H4 at B4 F4 e4 ⊢
     walk_at "v"
     refine ⟨p, 5, rfl, F4, by decide, by decide, fun r x y z r0 r1 => ?_⟩
     have B5 : But p H (upd H4 p (.lst [.int x, .int y, .int z])) := B4.at
     have F5 : FeedAt (upd H4 p (.lst [.int x, .int y, .int z])) p := FeedAt.here
     have SH5 : But p H4 (upd H4 p (.lst [.int x, .int y, .int z])) := But.refl.at
     generalize upd H4 p (.lst [.int x, .int y, .int z]) = H5 at B5 F5 SH5 ⊢
     obtain ⟨j, rfl⟩ := Nat.ofI r0
     have hj : j < ys.length := by lia
     have gj : ys[j]? = some ys[j] := List.getElem?_eq_getElem hj
     refine zy (v := .str ys[j]) (SH5 _ _ e4 (Ne.symm hpq)) (zG (by rw [List.getElem?_map, gj]; rfl)) ?_
     obtain ⟨h1, h2⟩ := hys _ (List.getElem_mem hj)
     exact k _ _ B5 F5 h1 h2
    walk_at "v"
    refine ⟨rfl, ?_⟩
    walk_at "v"
    by_cases c4 : m = 3
    ·refine xJ (by rw [c4]; rfl) ?_
     walk_at "v"
     refine ⟨pw, _, rfl, .inl (SqL.of e3), ?_⟩
     walk_at "v"
     rw [List.length_map]
     by_cases c5 : 1 < ws.length
     ·refine iteP (by lia) ?_
      walk_at "v"
      refine ⟨.inl ⟨rfl, _, SqL.of e3⟩, ?_⟩
      walk_at "v"
      refine ⟨pw, _, _, n, _, rfl, rfl, e3, by lia, by lia, EL.seqIndex_nat (by rw [List.length_map]; exact hn), by rw [List.getElem?_map, List.getElem?_eq_getElem hn]; rfl, ?_⟩
      rw [YI]
      refine rest _ _ ⟨ws.eraseIdx n, pw, rfl, B3.put hpw, F3.new hpw', zb, hwo.erase n, ?_⟩
      have := ZT ws n
      lia
     refine iteQ (by lia) ?_
     exact hb _ rfl
    refine xK (fun z => c4 (by have z := V.int.inj z; lia)) ?_
    exact hb _ rfl
end
noncomputable abbrev sSp : Stmt := top 51
noncomputable abbrev nSp : List Str := ["_law_feed_here", "_law_lines_here", "_law_at", "_law_way", "_law_other"]
theorem nmSp : Nm nSp (zc sSp) := ⟨by decide +kernel, by decide +kernel⟩
theorem scSp : FnScope nSp ["_law_feed_here", "_law_lines_here"] (zc sSp) := ⟨rfl, rfl, rfl, by decide +kernel, rfl, by decide +kernel, by decide +kernel⟩
theorem WOk.up {B C : Nat} {us : List Str} (a : WOk B us) (h : B ≤ C) : WOk C us := fun u hu => ⟨Nat.le_trans (a u hu).1 h, (a u hu).2⟩
noncomputable def spSp : Sp := fun vs H Q _ => ∃ (p l : Addr) (ls : List Str) (B : Nat), vs = [.ref p, .ref l] ∧ FeedAt H p ∧ H l = some (.lst (ls.map V.str)) ∧ LnOk B ls ∧ ls.length ≤ 90 ∧ 9 ≤ B ∧ 3 * B + 3 ≤ 10000 ∧ ∀ q ls' H', But p H H' → FeedAt H' p → H q = none → H' q = some (.lst (ls'.map V.str)) → LnOk (3 * B + 3) ls' → ls'.length ≤ ls.length + 1 → Q (.ref q) H'
section
variable {P : Program} {w : World} {K : PySem.W.Frag} {mg : Str → Option Value} {base : Heap}
set_option maxHeartbeats 4000000 in
theorem ok_Sp {f : Addr} {fd : FuncData} (B : Bl mg) (D : Has P w K mg base 1 "_law_draw" ["_law_feed_here", "_law_many"] xl) (LS : Has P w K mg base 3 "_law_line_spoilt" ["_law_feed_here", "_law_lines_here", "_law_line"] spLs) (F : Fun K "_law_spoilt" "_law_spoilt" sSp f fd) : FnOk P w K mg base CX0 4 f fd ["_law_feed_here", "_law_lines_here"] spSp := by
 refine F.ok scSp (fun vs H Q E h => ?_) (fun cdv A outer s H vs Q E hr h => ?_)
 ·obtain ⟨p, l, ls, B, rfl, _⟩ := h
  rfl
 ·obtain ⟨p, l, ls, bd, rfl, F0, hl, hok, h90, h9, hB, k⟩ := h
  refine' ⟨_, ?hb, ?rd⟩
  case' hb => skip
  case' hb => refine' za ?g1 ?g2
  case' g2 => refine' za ?g3 ?g4
  case' g4 => refine' za ?g5 ?g6
  case' g6 => refine' za ?g7 ?g8
  case' g8 => refine' ze ?g9
  case g1 => exact zh nmSp 1 (yA xZ B.list PyProof.Rows.boot_list (pa_1 (pvd nmSp 1)))
  case g3 => exact zh nmSp 2 (pe_f D hr (by decide) (pa_2 (pvd nmSp 0) (zv zf B.len PySem.boot_len (pa_1 (pvd nmSp 1)))))
  case g5 => exact zh nmSp 3 (pe_f D hr (by decide) (pa_2 (pvd nmSp 0) zd))
  case' g7 => refine' zx ?g10 ?g11 ?g12
  case g10 => exact zj wy (pvd nmSp 3) zd (zm _)
  case' g11 => refine' ze ?g13
  case g13 => exact ym (pe_f LS hr (by decide) (pa_c (pvd nmSp 0) (pa_2 (pvd nmSp 1) (zw ix_d (pvd nmSp 1) (pvd nmSp 2) (fun _ _ => rfl))))) (yy (pvd nmSp 1) (pvd nmSp 2) yZ)
  case' g12 => refine' ze ?g14
  case' g14 => refine' zx ?g15 ?g16 ?g17
  case g15 => exact PW.pt (wc (zj zR (pvd nmSp 3) zd (zm _)) (xn (zj wV (zv zf B.len PySem.boot_len (pa_1 (pvd nmSp 1))) zd (zm _))))
  case' g16 => refine' ze ?g18
  case g18 => exact yi (zD PySem.F.plainAttrs_list PySem.F.slot_list_pop PySem.F.type_list_pop vB (pvd nmSp 1) (pa_1 (pvd nmSp 2)))
  case' g17 => refine' ze ?g19
  case' g19 => refine' zx ?g20 ?g21 ?g22
  case g20 => exact zj zR (pvd nmSp 3) zd (zm _)
  case' g21 => refine' ze ?g23
  case g23 => exact yi (zD PySem.F.plainAttrs_list PySem.F.slot_list_insert PySem.F.type_list_insert vV (pvd nmSp 1) (pa_2 (pe_f D hr (by decide) (pa_2 (pvd nmSp 0) (zo zA (zv zf B.len PySem.boot_len (pa_1 (pvd nmSp 1))) zd))) (zw ix_d (pvd nmSp 1) (pvd nmSp 2) (fun _ _ => rfl))))
  case' g22 => refine' ze ?g24
  case' g24 => refine' zx ?g25 ?g26 ?g27
  case g25 => exact zj zR (pvd nmSp 3) zd (zm _)
  case' g26 => refine' za ?g28 ?g29
  case' g29 => refine' ze ?g30
  case g28 => exact zh nmSp 4 (pe_f D hr (by decide) (pa_2 (pvd nmSp 0) (zv zf B.len PySem.boot_len (pa_1 (pvd nmSp 1)))))
  case g30 => exact ym (yt (pa_2 (zw ix_d (pvd nmSp 1) (pvd nmSp 4) (fun _ _ => rfl)) (zw ix_d (pvd nmSp 1) (pvd nmSp 2) (fun _ _ => rfl)))) (xC rfl (zQ (yy (pvd nmSp 1) (pvd nmSp 2) yZ) (zQ (yy (pvd nmSp 1) (pvd nmSp 4) yZ) ww)))
  case' g27 => refine' ze ?g31
  case' g31 => refine' zx ?g32 ?g33 ?g34
  case g32 => exact zj zR (pvd nmSp 3) zd (zm _)
  case' g33 => refine' ze ?g35
  case g35 => exact zh nmSp 1 (yz yu (pvd nmSp 1) y0 (yF (zo zA (pvd nmSp 2) zd)))
  case' g34 => refine' ze ?g36
  case g36 => exact ym (zo ye (zo ye (zw ix_d (pvd nmSp 1) (pvd nmSp 2) (fun _ _ => rfl)) zn) (zw ix_d (pvd nmSp 1) (pe_f D hr (by decide) (pa_2 (pvd nmSp 0) (zv zf B.len PySem.boot_len (pa_1 (pvd nmSp 1))))) (fun _ _ => rfl))) (yy (pvd nmSp 1) (pvd nmSp 2) yZ)
  case g9 => exact zt (pvd nmSp 1)
  case rd =>
   have hls : 1 ≤ ls.length := List.length_pos_iff.mpr hok.2.2
   have W0 : WOk (3 * bd + 3) ls := WOk.up hok.1 (by lia)
   have nst : ∀ (i : Nat) (y : Str), ls.set i y ≠ [] := fun i y z => by have := congrArg List.length z; rw [List.length_set, List.length_nil] at this; lia
   walk_at "v"
   refine ⟨l, _, rfl, .inl (SqL.of hl), fun q0 hq0 => ?_⟩
   have hp0 : p ≠ q0 := F0.ne hq0
   have B1 : But p H (upd H q0 (.lst (ls.map V.str))) := But.refl.new hq0
   have F1 := F0.new (o := .lst (ls.map V.str)) hp0
   have e1 : upd H q0 (.lst (ls.map V.str)) q0 = some (.lst (ls.map V.str)) := zb
   generalize upd H q0 (.lst (ls.map V.str)) = H1 at B1 F1 e1 ⊢
   walk_at "v"
   refine ⟨q0, _, rfl, .inl (SqL.of e1), ?_⟩
   rw [List.length_map]
   refine ⟨p, (ls.length : Int), rfl, F1, by lia, by lia, fun r x y z r0 r1 => ?_⟩
   have B2 : But p H (upd H1 p (.lst [.int x, .int y, .int z])) := B1.at
   have F2 : FeedAt (upd H1 p (.lst [.int x, .int y, .int z])) p := FeedAt.here
   have SH2 : But p H1 (upd H1 p (.lst [.int x, .int y, .int z])) := But.refl.at
   generalize upd H1 p (.lst [.int x, .int y, .int z]) = H2 at B2 F2 SH2 ⊢
   obtain ⟨n, rfl⟩ := Nat.ofI r0
   have e2 := SH2 _ _ e1 (Ne.symm hp0)
   have hn : n < ls.length := by lia
   have gn : ls[n]? = some ls[n] := List.getElem?_eq_getElem hn
   have an : atI (ls.map V.str) (n : Int) = some (.str ls[n]) := zG (by rw [List.getElem?_map, gn]; rfl)
   obtain ⟨hx1, hx2⟩ := hok.1 _ (List.getElem_mem hn)
   walk_at "v"
   refine ⟨p, 12, rfl, F2, by decide, by decide, fun r x y z r0 r1 => ?_⟩
   have B3 : But p H (upd H2 p (.lst [.int x, .int y, .int z])) := B2.at
   have F3 : FeedAt (upd H2 p (.lst [.int x, .int y, .int z])) p := FeedAt.here
   have SH3 : But p H2 (upd H2 p (.lst [.int x, .int y, .int z])) := But.refl.at
   generalize upd H2 p (.lst [.int x, .int y, .int z]) = H3 at B3 F3 SH3 ⊢
   obtain ⟨m, rfl⟩ := Nat.ofI r0
   have e3 := SH3 _ _ e2 (Ne.symm hp0)
   refine zJ ?_
   with_reducible refine yc (fun σ' H' => ∃ (ls' : List Str) (q' : Addr) (u4 : Option V), σ' = [some (.ref p), some (.ref q'), some (.int (n : Int)), some (.int (m : Int)), u4] ∧ But p H H' ∧ FeedAt H' p ∧ H q' = none ∧ H' q' = some (.lst (ls'.map V.str)) ∧ LnOk (3 * bd + 3) ls' ∧ ls'.length ≤ ls.length + 1) ?_ fun rest => ?_
   case _ =>
    rintro σ' H4 ⟨ls', q', u4, rfl, B4, F4, nq, e4, hok', hl'⟩
    walk_at "v"
    exact k _ _ _ B4 F4 nq e4 hok' hl'
   case _ =>
    walk_at "v"
    by_cases c1 : m < 7
    ·refine iteP (by lia) ?_
     walk_at "v"
     refine zy (v := .str ls[n]) e3 an ?_
     walk_at "v"
     refine ⟨p, q0, ls, ls[n], bd, rfl, F3, Ne.symm hp0, e3, hok, hx1, hx2, h9, hB, fun y H4 B4' F4 hy ha => ?_⟩
     have e4 := B4' _ _ e3 (Ne.symm hp0)
     refine wG ?_
     walk_at "v"
     refine yW (j := n) e4 (by rw [List.length_map]; unfold ixN; rw [if_pos (by lia), if_pos (by lia)]; simp) ?_
     rw [← List.map_set]
     refine rest _ _ ⟨ls.set n y, q0, _, rfl, (B3.trans B4').put hq0, F4.new hp0, hq0, zb, ⟨W0.set hy ha n, by rw [List.length_set]; lia, nst n _⟩, by rw [List.length_set]; lia⟩
    refine iteQ (by lia) ?_
    refine ZW ?_
    with_reducible refine ZS false (fun H2 => H3 = H2) (fun H2' hG => ?_) (fun hb => ?_)
    case _ =>
     subst hG
     refine iteF ?_
     walk_at "v"
     refine ⟨rfl, ?_⟩
     walk_at "v"
     by_cases c4 : m = 8
     ·refine xJ (by rw [c4]; rfl) ?_
      walk_at "v"
      refine ⟨.inl ⟨rfl, _, SqL.of e3⟩, ?_⟩
      walk_at "v"
      refine ⟨q0, _, rfl, .inl (SqL.of e3), ?_⟩
      walk_at "v"
      rw [List.length_map]
      refine ⟨p, ((ls.length : Int) + 1), rfl, F3, by lia, by lia, fun r x y z r0 r1 => ?_⟩
      have B4 : But p H (upd H3 p (.lst [.int x, .int y, .int z])) := B3.at
      have F4 : FeedAt (upd H3 p (.lst [.int x, .int y, .int z])) p := FeedAt.here
      have SH4 : But p H3 (upd H3 p (.lst [.int x, .int y, .int z])) := But.refl.at
      generalize upd H3 p (.lst [.int x, .int y, .int z]) = H4 at B4 F4 SH4 ⊢
      obtain ⟨j, rfl⟩ := Nat.ofI r0
      have e4 := SH4 _ _ e3 (Ne.symm hp0)
      walk_at "v"
      refine zy (v := .str ls[n]) e4 an ?_
      walk_at "v"
      refine ⟨q0, _, _, _, rfl, rfl, e4, by lia, by rw [List.length_map]; lia, by rw [List.length_map]; exact zB (by lia), ?_⟩
      rw [Int.toNat_natCast, ← List.map_take, ← List.map_drop, ← List.map_cons, ← List.map_append]
      have hil : (ls.take j ++ ls[n] :: ls.drop j).length = ls.length + 1 := by rw [List.length_append, List.length_cons, List.length_take, List.length_drop]; lia
      refine rest _ _ ⟨ls.take j ++ ls[n] :: ls.drop j, q0, _, rfl, B4.put hq0, F4.new hp0, hq0, zb, ⟨(W0.take _).app (.cons (by lia) hx2 (W0.drop _)), by lia, fun z => by rw [z, List.length_nil] at hil; lia⟩, by lia⟩
     refine xK (fun z => c4 (by have z := V.int.inj z; lia)) ?_
     walk_at "v"
     refine ⟨rfl, ?_⟩
     walk_at "v"
     by_cases c5 : m = 9
     ·refine xJ (by rw [c5]; rfl) ?_
      walk_at "v"
      refine ⟨q0, _, rfl, .inl (SqL.of e3), ?_⟩
      rw [List.length_map]
      refine ⟨p, (ls.length : Int), rfl, F3, by lia, by lia, fun r x y z r0 r1 => ?_⟩
      have B4 : But p H (upd H3 p (.lst [.int x, .int y, .int z])) := B3.at
      have F4 : FeedAt (upd H3 p (.lst [.int x, .int y, .int z])) p := FeedAt.here
      have SH4 : But p H3 (upd H3 p (.lst [.int x, .int y, .int z])) := But.refl.at
      generalize upd H3 p (.lst [.int x, .int y, .int z]) = H4 at B4 F4 SH4 ⊢
      obtain ⟨j, rfl⟩ := Nat.ofI r0
      have e4 := SH4 _ _ e3 (Ne.symm hp0)
      have hj : j < ls.length := by lia
      have gj : ls[j]? = some ls[j] := List.getElem?_eq_getElem hj
      obtain ⟨hx3, hx4⟩ := hok.1 _ (List.getElem_mem hj)
      walk_at "v"
      refine zy (v := .str ls[j]) e4 (zG (by rw [List.getElem?_map, gj]; rfl)) ?_
      walk_at "v"
      refine zy (v := .str ls[n]) e4 an ?_
      walk_at "v"
      refine ⟨sz2, fun qt hqt => ?_⟩
      obtain ⟨H5, q, K5, e5⟩ := nob (.tup [.str ls[j], .str ls[n]]) hqt; rw [q]; clear q
      have F5 : FeedAt H5 p := let ⟨x, y, z, e⟩ := F4; ⟨x, y, z, K5 _ _ e⟩
      have B5 := B4.trans (.of K5)
      refine vf e5 rfl ?_
      refine ⟨_, _, rfl, ?_⟩
      walk_at "v"
      refine yW (j := n) (K5 _ _ e4) (by rw [List.length_map]; unfold ixN; rw [if_pos (by lia), if_pos (by lia)]; simp) ?_
      rw [← List.map_set]
      refine ⟨_, _, rfl, ?_⟩
      walk_at "v"
      refine yW (j := j) (zb) (by rw [List.length_map, List.length_set]; unfold ixN; rw [if_pos (by lia), if_pos (by lia)]; simp) ?_
      rw [← List.map_set]
      refine ⟨rfl, ?_⟩
      refine rest _ _ ⟨(ls.set n ls[j]).set j ls[n], q0, _, rfl, (B5.put hq0).put hq0, (F5.new hp0).new hp0, hq0, zb, ⟨(W0.set (by lia) hx4 n).set (by lia) hx2 j, by rw [List.length_set, List.length_set]; lia, fun z => by have := congrArg List.length z; rw [List.length_set, List.length_set, List.length_nil] at this; lia⟩, by rw [List.length_set, List.length_set]; lia⟩
     refine xK (fun z => c5 (by have z := V.int.inj z; lia)) ?_
     walk_at "v"
     refine ⟨rfl, ?_⟩
     walk_at "v"
     by_cases c6 : m = 10
     ·refine xJ (by rw [c6]; rfl) ?_
      walk_at "v"
      refine ⟨_, rfl, ?_⟩
      walk_at "v"
      refine ⟨q0, _, rfl, SqL.of e3, fun q hq => ?_⟩
      rw [show ((n : Int) + 1) = ((n + 1 : Nat) : Int) by lia, va (by lia)]
      refine zJ ?_
      have htl : (ls.take (n + 1)).length = n + 1 := by rw [List.length_take]; lia
      refine rest _ _ ⟨ls.take (n + 1), q, _, rfl, B3.new hq, F3.new (F3.ne hq), B3.free (F3.ne hq) hq, zb, ⟨W0.take _, by lia, fun z => by rw [z, List.length_nil] at htl; lia⟩, by lia⟩
     refine xK (fun z => c6 (by have z := V.int.inj z; lia)) ?_
     walk_at "v"
     refine zy (v := .str ls[n]) e3 an ?_
     walk_at "v"
     refine ⟨_, _, rfl, rfl, by rw [len_l.1, sizeLine_eq]; lia, ?_⟩
     walk_at "v"
     refine ⟨q0, _, rfl, .inl (SqL.of e3), ?_⟩
     rw [List.length_map]
     refine ⟨p, (ls.length : Int), rfl, F3, by lia, by lia, fun r x y z r0 r1 => ?_⟩
     have B4 : But p H (upd H3 p (.lst [.int x, .int y, .int z])) := B3.at
     have F4 : FeedAt (upd H3 p (.lst [.int x, .int y, .int z])) p := FeedAt.here
     have SH4 : But p H3 (upd H3 p (.lst [.int x, .int y, .int z])) := But.refl.at
     generalize upd H3 p (.lst [.int x, .int y, .int z]) = H4 at B4 F4 SH4 ⊢
     obtain ⟨j, rfl⟩ := Nat.ofI r0
     have e4 := SH4 _ _ e3 (Ne.symm hp0)
     have hj : j < ls.length := by lia
     have gj : ls[j]? = some ls[j] := List.getElem?_eq_getElem hj
     obtain ⟨hx3, hx4⟩ := hok.1 _ (List.getElem_mem hj)
     refine zy (v := .str ls[j]) e4 (zG (by rw [List.getElem?_map, gj]; rfl)) ?_
     refine ⟨_, _, rfl, rfl, by rw [xr, len_l.1, sizeLine_eq]; lia, ?_⟩
     refine wG ?_
     walk_at "v"
     refine yW (j := n) e4 (by rw [List.length_map]; unfold ixN; rw [if_pos (by lia), if_pos (by lia)]; simp) ?_
     rw [← List.map_set]
     refine rest _ _ ⟨ls.set n (ls[n] ++ " " ++ ls[j]), q0, _, rfl, B4.put hq0, F4.new hp0, hq0, zb, ⟨WOk.set (by rw [xr, xr, len_l.1]; lia) (xU (xU hx2 asc_l.1) hx4) W0 n, by rw [List.length_set]; lia, nst n _⟩, by rw [List.length_set]; lia⟩
    walk_at "v"
    refine ⟨rfl, ?_⟩
    walk_at "v"
    by_cases c2 : m = 7
    ·refine xJ (by rw [c2]; rfl) ?_
     walk_at "v"
     refine ⟨q0, _, rfl, .inl (SqL.of e3), ?_⟩
     walk_at "v"
     rw [List.length_map]
     by_cases c3 : 1 < ls.length
     ·refine iteP (by lia) ?_
      walk_at "v"
      refine ⟨.inl ⟨rfl, _, SqL.of e3⟩, ?_⟩
      walk_at "v"
      refine ⟨q0, _, _, n, _, rfl, rfl, e3, by lia, by lia, EL.seqIndex_nat (by rw [List.length_map]; exact hn), by rw [List.getElem?_map, gn]; rfl, ?_⟩
      rw [YI]
      have hel : (ls.eraseIdx n).length = ls.length - 1 := List.length_eraseIdx_of_lt hn
      refine rest _ _ ⟨ls.eraseIdx n, q0, _, rfl, B3.put hq0, F3.new hp0, hq0, zb, ⟨W0.erase n, by lia, fun z => by rw [z, List.length_nil] at hel; lia⟩, by lia⟩
     refine iteQ (by lia) ?_
     exact hb _ rfl
    refine xK (fun z => c2 (by have z := V.int.inj z; lia)) ?_
    exact hb _ rfl
end
noncomputable abbrev sINp : Stmt := Wc (top 2) 0
noncomputable abbrev nINp : List Str := ["self", "line", "word"]
theorem Xg : Nm nINp (zc sINp) := ⟨by decide +kernel, by decide +kernel⟩
theorem scINp : FnScope nINp ["self", "line", "word"] (zc sINp) := ⟨rfl, rfl, rfl, by decide +kernel, rfl, by decide +kernel, by decide +kernel⟩
section
variable {P : Program} {w : World} {K : PySem.W.Frag} {mg : Str → Option Value} {base : Heap}
set_option maxHeartbeats 4000000 in
theorem ok_INp {f : Addr} {fd : FuncData} (F : Fun K "__init__" "NoPot.__init__" sINp f fd) : FnOk P w K mg base CX0 1 f fd ["self", "line", "word"] (spXi K ["line", "word"]) := by
 refine F.ok scINp (fun vs H Q E h => ?_) (fun cdv A outer s H vs Q E hr h => ?_)
 ·obtain ⟨a, C, v0, us, rfl, hl, _⟩ := h
  show us.length + 1 = 3
  rw [hl]; rfl
 ·obtain ⟨a, C, v0, us, rfl, hl, ha, xa, hn, k⟩ := h
  match us, hl, k with
  | [u0, u1], _, k =>
  refine' ⟨_, ?hb, ?rd⟩
  case hb =>
   refine' za ?s1 ?r1
   case' r1 => refine' ze ?s2
   case' s1 => refine' WF ?s3 ?s4
   case s3 => exact pvd Xg 0
   case s4 => exact pvd Xg 1
   case' s2 => refine' WF ?s5 ?s6
   case s5 => exact pvd Xg 0
   case s6 => exact pvd Xg 2
  case rd =>
   refine YR ?_
   refine Ws (ve rfl (ve rfl ?_))
   refine ⟨a, C, none, v0, rfl, ha, xa, hn _ (by simp), fun dx hd hne => ?_⟩
   refine Ws (ve rfl (ve rfl ?_))
   refine ⟨a, C, some dx, v0, rfl, zb, xa, hn _ (by simp), [("line", u0)], by rw [zg hne, zb], (by show (1 : Nat) < 100; decide), ?_⟩
   have z := k dx hd hne
   rw [upd_swap hne]
   exact z
end
noncomputable abbrev sLaw : Stmt := top 52
noncomputable abbrev nLaw : List Str := ["_law_script", "_law_k", "_law_feed_here", "_law_good", "_law_j", "_law_lines_here", "_law_turn"]
theorem yI : Nm nLaw (zc sLaw) := ⟨by decide +kernel, by decide +kernel⟩
theorem scLaw : FnScope nLaw ["_law_script"] (zc sLaw) := ⟨rfl, rfl, rfl, by decide +kernel, rfl, by decide +kernel, by decide +kernel⟩
theorem names_ok12 : ∀ x ∈ names12, wA x = true := by decide +kernel
theorem Z5 {m : Nat} {H : Hp} : ∀ {rs : List Addr}, (∀ r ∈ rs, RuleAt m H r) → ∃ xs, RlsD H rs xs ∧ ∀ x ∈ xs, RuOk m x.1 x.2
 | [], _ => ⟨[], trivial, fun x h => nomatch h⟩
 | r :: rs, h => by
  obtain ⟨xs, h1, h2⟩ := Z5 (rs := rs) fun r' hr' => h r' (List.mem_cons_of_mem _ hr')
  obtain ⟨a, b, ts, gs, e1, e2, e3, ok⟩ := h r List.mem_cons_self
  refine ⟨(ts, gs) :: xs, ⟨⟨a, b, e1, e2, e3⟩, h1⟩, fun x hx => ?_⟩
  rcases List.mem_cons.mp hx with rfl | hx
  ·exact ok
  ·exact h2 x hx
theorem pot_of {H : Hp} {p : Addr} {nm : List Str} {ins beg : List Int} {ans : Int} {m : Nat} (h : PotAt H p nm ins beg ans m) : ∃ d : PD, d.ok m ∧ PotF false H p d := by
 obtain ⟨ps, pr, pin, pb, rs, e1, e2, e3, e4, e5, e6, e7⟩ := h.ex
 obtain ⟨xs, h1, h2⟩ := Z5 e4
 obtain ⟨n1, n2, n3⟩ := h.hn
 refine ⟨⟨nm, xs, ins, beg, ans⟩, ?_, ⟨ps, pr, pin, pb, rs, e1, e2, e3, h1, e6, e7⟩⟩
 exact { nl := n1, nd := n2, nb := fun x hx => names_ok12 x (n3 x hx), m0 := h.m0, m8 := h.m8, r8 := by rw [← h1.len]; exact e5, rs := fun r hr => ⟨⟨(h2 r hr).a.1, (h2 r hr).a.2⟩, ⟨(h2 r hr).b.1, (h2 r hr).b.2⟩, (h2 r hr).pos, (h2 r hr).ne⟩, hi := h.hi, i3 := h.i3, inn := h.nd, bl := h.bl, hb := h.hb, ha := h.ha }
noncomputable def bnd : Nat → Nat
 | 0 => 360
 | t + 1 => 3 * bnd t + 3
theorem bnd_ok {t : Nat} (h : t < 3) : 9 ≤ bnd t ∧ 3 * bnd t + 3 ≤ 10000 := by
 match t, h with
 | 0, _ => decide
 | 1, _ => decide
 | 2, _ => decide
theorem LnOk.up {B C : Nat} {ls : List Str} (h : LnOk B ls) (hc : B ≤ C) : LnOk C ls := ⟨WOk.up h.1 hc, h.2⟩
theorem lines_ok {d : PD} {m : Nat} (h : d.ok m) : LnOk 360 (ptL d) ∧ (ptL d).length ≤ 12 := by
 have hl : (ptL d).length = d.rl.length + 4 := by
  unfold ptL ptW
  rw [List.length_map, List.length_append, List.length_map]
  simp only [List.length_cons, List.length_nil]
  lia
 have r8 := h.r8
 refine ⟨⟨fun x hx => ?_, by lia, fun z => by rw [z, List.length_nil] at hl; lia⟩, by lia⟩
 obtain ⟨ws, hws, rfl⟩ := List.mem_map.mp hx
 obtain ⟨w1, w2, _⟩ := YC h ws hws
 exact ⟨vC w1 w2, ln_ascii w1⟩
theorem But.same {p : Addr} {H H1 H2 : Hp} (k : Same H H1) (b : But p H1 H2) (hp : H p = none) : Same H H2 := fun q o e => b q o (k q o e) (zi e hp)
noncomputable def Y3 (K : PySem.W.Frag) : Sp := fun vs H Q _ => ∃ (a : Addr) (ns : List Int), vs = [.ref a] ∧ G2.SqF K H a (ns.map V.int) ∧ ns.length ≤ 63 ∧ ∀ H', Q (.bl true) H'
section
variable {P : Program} {w : World} {K : PySem.W.Frag} {mg : Str → Option Value} {base : Heap}
noncomputable abbrev ivP4q1 (H : Hp) (a : Addr) : Nat → St → Hp → Prop := fun i σ H' => ∃ (u1 u2 u3 u4 u5 u6 : Option V), σ = [some (.ref a), u1, u2, u3, u4, u5, u6] ∧ Same H H'
noncomputable abbrev ivP4q2 (H : Hp) (a : Addr) (p : Addr) (lg : Addr) (ls0 : List Str) : Nat → St → Hp → Prop := fun j σ H' => ∃ (u1 u4 u5 u6 : Option V), σ = [some (.ref a), u1, some (.ref p), some (.ref lg), u4, u5, u6] ∧ Same H H' ∧ FeedAt H' p ∧ H' lg = some (.lst (ls0.map V.str))
noncomputable abbrev ivP4q3 (H : Hp) (a : Addr) (p : Addr) (lg : Addr) (ls0 : List Str) : Nat → St → Hp → Prop := fun c σ H' => ∃ (u1 u4 u6 : Option V) (lc : Addr) (ls : List Str), σ = [some (.ref a), u1, some (.ref p), some (.ref lg), u4, some (.ref lc), u6] ∧ Same H H' ∧ FeedAt H' p ∧ H' lg = some (.lst (ls0.map V.str)) ∧ H' lc = some (.lst (ls.map V.str)) ∧ LnOk (bnd c) ls ∧ ls.length ≤ 12 + c
set_option maxHeartbeats 4000000 in
theorem ok_Law {f : Addr} {fd : FuncData} (B : Bl mg) (fF : Has P w K mg base 1 "_law_feed" ["_law_script", "_law_k"] (YA K)) (fD : Has P w K mg base 1 "_law_draw" ["_law_feed_here", "_law_many"] xl) (fP : Has P w K mg base 3 "_law_pot" ["_law_feed_here"] XY) (fL : Has P w K mg base 2 "_law_lines" ["_law_pot_here"] Y1) (fR : Has P w K mg base 8 "_law_read_right" ["_law_lines_here"] XW) (fS : Has P w K mg base 4 "_law_spoilt" ["_law_feed_here", "_law_lines_here"] spSp) (F : Fun K "law" "law" sLaw f fd) : FnOk P w K mg base CX0 9 f fd ["_law_script"] (Y3 K) := by
 refine F.ok scLaw (fun vs H Q E h => ?_) (fun cdv A outer s H vs Q E hr h => ?_)
 ·obtain ⟨a, ns, rfl, _⟩ := h
  rfl
 ·obtain ⟨a, ns, rfl, hS, hl, k⟩ := h
  refine' ⟨_, ?hb, ?rd⟩
  case' hb => skip
  case' hb => refine' za ?g1 ?g2
  case' g2 => refine' ze ?g3
  case' g1 => refine' yr PassesOwn.never rfl ?g4 (pgd yI 1) ?g5
  case g4 => exact wT B.range (pa_1 zd)
  case' g5 => refine' za ?g6 ?g7
  case' g7 => refine' za ?g8 ?g9
  case' g9 => refine' za ?g10 ?g11
  case' g11 => refine' ze ?g12
  case g6 => exact zh yI 2 (pe_f fF hr (by decide) (pa_2 (pvd yI 0) (pvd yI 1)))
  case g8 => exact zh yI 3 (pe_f fL hr (by decide) (pa_1 (pe_f fP hr (by decide) (pa_1 (pvd yI 2)))))
  case' g10 => refine' zx ?g13 ?g14 zp
  case g13 => exact yR (xg (pe_f fR hr (by decide) (pa_1 (pvd yI 3))))
  case' g14 => refine' ze ?g16
  case g16 => exact zt wU
  case' g12 => refine' yr PassesOwn.never rfl ?g17 (pgd yI 4) ?g18
  case g17 => exact wT B.range (pa_1 zd)
  case' g18 => refine' za ?g19 ?g20
  case' g20 => refine' ze ?g21
  case g19 => exact zh yI 5 (pvd yI 3)
  case' g21 => refine' yr PassesOwn.never rfl ?g22 (pgd yI 6) ?g23
  case g22 => exact wT B.range (pa_1 (zo zA zd (pe_f fD hr (by decide) (pa_2 (pvd yI 2) zd))))
  case' g23 => refine' za ?g24 ?g25
  case' g25 => refine' ze ?g26
  case g24 => exact zh yI 5 (pe_f fS hr (by decide) (pa_2 (pvd yI 2) (pvd yI 5)))
  case' g26 => refine' zx ?g27 ?g28 zp
  case g27 => exact yR (xg (pe_f fR hr (by decide) (pa_1 (pvd yI 5))))
  case' g28 => refine' ze ?g30
  case g30 => exact zt wU
  case g3 => exact zt wU
  case rd =>
   walk_at "v"
   refine ⟨8, rfl, by decide, by decide, ?_⟩
   refine zP (n := 8) (ivP4q1 H a) ⟨none, none, none, none, none, none, rfl, Same.refl _⟩ ?_ ?_
   ·rintro i σ H1 hi ⟨u1, u2, u3, u4, u5, u6, rfl, K1⟩
    walk_at "v"
    refine ⟨a, ns, i, by rw [Int.zero_add]; rfl, SqL.sm K1 hS.sq, hl, fun p x y z hp => ?_⟩
    have K2 : Same H (upd H1 p (.lst [.int x, .int y, .int z])) := K1.new hp
    have F2 : FeedAt (upd H1 p (.lst [.int x, .int y, .int z])) p := FeedAt.here
    have n0 : H p = none := K1.free hp
    generalize upd H1 p (.lst [.int x, .int y, .int z]) = H2 at K2 F2 ⊢
    walk_at "v"
    refine ⟨p, rfl, F2, fun lp H3 nm ins beg ans m hl0 hP F3 B3 => ?_⟩
    obtain ⟨d, hd, hF⟩ := pot_of hP
    obtain ⟨hok0, h12⟩ := lines_ok hd
    have K3 : Same H H3 := But.same K2 B3 n0
    walk_at "v"
    refine ⟨lp, d, m, rfl, ⟨false, hF⟩, hd, fun lg H4 K4 nlg e4 => ?_⟩
    have hpg : p ≠ lg := F3.ne nlg
    have F4 : FeedAt H4 p := let ⟨x, y, z, e⟩ := F3; ⟨x, y, z, K4 _ _ e⟩
    generalize ptL d = ls0 at e4 hok0 h12
    walk_at "v"
    refine ⟨lg, ls0, rfl, e4, hok0.up (by decide), fun H5 K5 => ?_⟩
    have F5 : FeedAt H5 p := let ⟨x, y, z, e⟩ := F4; ⟨x, y, z, K5 _ _ e⟩
    have K05 := (K3.trans K4).trans K5
    have e5 := K5 _ _ e4
    walk_at "v"
    refine iteF ?_
    walk_at "v"
    refine ⟨3, rfl, by decide, by decide, ?_⟩
    refine zP (n := 3) (ivP4q2 H a p lg ls0) ⟨_, _, _, _, rfl, K05, F5, e5⟩ ?_ ?_
    ·rintro j σ H6 hj ⟨u1', u4', u5', u6', rfl, K6, F6, e6⟩
     walk_at "v"
     refine ⟨p, 3, rfl, F6, by decide, by decide, fun r x y z r0 r1 => ?_⟩
     have K7 : Same H (upd H6 p (.lst [.int x, .int y, .int z])) := K6.put n0
     have F7 : FeedAt (upd H6 p (.lst [.int x, .int y, .int z])) p := FeedAt.here
     have e7 : upd H6 p (.lst [.int x, .int y, .int z]) lg = some (.lst (ls0.map V.str)) := by rw [zg (Ne.symm hpg)]; exact e6
     generalize upd H6 p (.lst [.int x, .int y, .int z]) = H7 at K7 F7 e7 ⊢
     obtain ⟨t, rfl⟩ := Nat.ofI r0
     walk_at "v"
     refine ⟨_, rfl, by lia, by lia, ?_⟩
     rw [show ((1 : Int) + (t : Int)).toNat = 1 + t by lia]
     refine zP (n := 1 + t) (ivP4q3 H a p lg ls0) ⟨_, _, _, lg, ls0, rfl, K7, F7, e7, e7, hok0, h12⟩ ?_ ?_
     ·rintro c σ H8 hc ⟨v1, v4, v6, lc, ls, rfl, K8, F8, e8, ec, hok, hll⟩
      obtain ⟨b1, b2⟩ := bnd_ok (t := c) (by lia)
      walk_at "v"
      refine ⟨p, lc, ls, bnd c, rfl, F8, ec, hok, by lia, b1, b2, fun q ls' H9 B9 F9 nq e9 hok' hl' => ?_⟩
      have K9 : Same H H9 := But.same K8 B9 n0
      have e89 := B9 _ _ e8 (Ne.symm hpg)
      walk_at "v"
      refine ⟨q, ls', rfl, e9, hok'.up b2, fun H10 K10 => ?_⟩
      walk_at "v"
      refine iteF ?_
      exact ⟨_, _, _, q, ls', rfl, K9.trans K10, let ⟨x, y, z, e⟩ := F9; ⟨x, y, z, K10 _ _ e⟩, K10 _ _ e89, K10 _ _ e9, hok', by lia⟩
     ·rintro σ H8 ⟨v1, v4, v6, lc, ls, rfl, K8, F8, e8, ec, hok, hll⟩
      exact ⟨_, _, _, _, rfl, K8, F8, e8⟩
    ·rintro σ H6 ⟨u1', u4', u5', u6', rfl, K6, F6, e6⟩
     exact ⟨_, _, _, _, _, _, rfl, K6⟩
   ·rintro σ H1 ⟨u1, u2, u3, u4, u5, u6, rfl, K1⟩
    walk_at "v"
    exact k _
end
set_option maxHeartbeats 4000000 in
theorem all_mk {l : PySem.W.OpenLaw} {w : World} {K : PySem.W.Frag} {h : Heap} {mg : Str → Option Value} {fa f1 f2 f3 f4 f5 f6 f7 f8 f9 f10 f11 f12 f13 f14 f15 f16 f17 f18 f19 f20 f21 f22 f23 f24 f25 f26 f27 f28 f29 f30 f31 : Addr} (X : K.In h) (G : h.Ns mainGlobals mg) (hfa : mg "law" = some (.ref fa))
  {od1 an1 od2 an2 od3 an3 od4 an4 od5 an5 od6 an6 od7 an7 od8 an8 od9 an9 od10 an10 od11 an11 od12 an12 od13 an13 od14 an14 od15 an15 od16 an16 od17 an17 od18 an18 od19 an19 od20 an20 od21 an21 od22 an22 od23 an23 od24 an24 od25 an25 od26 an26 od27 an27 od28 an28 od29 an29 od30 an30 od31 an31 : Option Addr} {sl1 sl2 sl3 sl4 sl5 sl6 sl7 sl8 sl9 sl10 sl11 sl12 sl13 sl14 sl15 sl16 sl17 sl18 sl19 sl20 sl21 sl22 sl23 sl24 sl25 sl26 sl27 sl28 sl29 sl30 sl31 : Array (Option Value)} {oc1 kV1 dc1 pm1 cd1 ct1 oc2 kV2 dc2 pm2 cd2 ct2 oc3 kV3 dc3 pm3 cd3 ct3 oc4 kV4 dc4 pm4 cd4 ct4 oc5 kV5 dc5 pm5 cd5 ct5 oc6 kV6 dc6 pm6 cd6 ct6 oc7 kV7 dc7 pm7 cd7 ct7 oc8 kV8 dc8 pm8 cd8 ct8 oc9 kV9 dc9 pm9 cd9 ct9 oc10 kV10 dc10 pm10 cd10 ct10 oc11 kV11 dc11 pm11 cd11 ct11 oc12 kV12 dc12 pm12 cd12 ct12 oc13 kV13 dc13 pm13 cd13 ct13 oc14 kV14 dc14 pm14 cd14 ct14 oc15 kV15 dc15 pm15 cd15 ct15 oc16 kV16 dc16 pm16 cd16 ct16 oc17 kV17 dc17 pm17 cd17 ct17 oc18 kV18 dc18 pm18 cd18 ct18 oc19 kV19 dc19 pm19 cd19 ct19 oc20 kV20 dc20 pm20 cd20 ct20 oc21 kV21 dc21 pm21 cd21 ct21 oc22 kV22 dc22 pm22 cd22 ct22 oc23 kV23 dc23 pm23 cd23 ct23 oc24 kV24 dc24 pm24 cd24 ct24 oc25 kV25 dc25 pm25 cd25 ct25 oc26 kV26 dc26 pm26 cd26 ct26 oc27 kV27 dc27 pm27 cd27 ct27 oc28 kV28 dc28 pm28 cd28 ct28 oc29 kV29 dc29 pm29 cd29 ct29 oc30 kV30 dc30 pm30 cd30 ct30 oc31 kV31 dc31 pm31 cd31 ct31 : Value} {t1 t2 t3 t4 t5 t6 t7 t8 t9 t10 t11 t12 t13 t14 : Tok} {ta1 : Addr} {td1 : Option Addr} {tn1 : Nat} {ts1 : Array (Option Value)} {tt1_0 tt1_1 tt1_2 tt1_3 tt1_4 tt1_5 : Tok}
  {x0 xN0 x1 xN1 : Addr} {xm0 xq0 xm1 xq1 : Str} {xb0 xu0 xb1 xu1 : List Value} {xn0 xn1 : List Str} {xh0 xh1 : Bool} {xo0 xo1 : Option Bool} {xd0 xd1 : Option Addr} {xk0_0 xk0_1 xk0_2 xk0_3 xk0_5 xk1_0 xk1_1 xk1_2 xk1_3 xk1_5 : Option Value}
  {i1 : Addr} {id1 ia1 : Option Addr} {is1 : Array (Option Value)} {ic1 iV1 iD1 ip1 iC1 iT1 : Value}
  (a1 : PySem.W.nsIn K mainGlobals "_law_feed" = some (some (.ref f1))) (l1 : K.lookup f1 = some ⟨oc1, od1, .func (PySem.W.fnOf "_law_feed" "_law_feed" (zu vM) (zk vM) (zc vM) .none kV1 dc1 pm1 an1 cd1 ct1), sl1⟩) (c1 : PySem.W.codeIn K cd1 "_law_feed" = true) (k1 : PySem.W.keepIn K (.ref f1) = true)
  (a2 : PySem.W.nsIn K mainGlobals "_law_draw" = some (some (.ref f2))) (l2 : K.lookup f2 = some ⟨oc2, od2, .func (PySem.W.fnOf "_law_draw" "_law_draw" (zu vN) (zk vN) (zc vN) .none kV2 dc2 pm2 an2 cd2 ct2), sl2⟩) (c2 : PySem.W.codeIn K cd2 "_law_draw" = true) (k2 : PySem.W.keepIn K (.ref f2) = true)
  (a3 : PySem.W.nsIn K mainGlobals "_law_names" = some (some (.ref f3))) (l3 : K.lookup f3 = some ⟨oc3, od3, .func (PySem.W.fnOf "_law_names" "_law_names" (zu xm) (zk xm) (zc xm) .none kV3 dc3 pm3 an3 cd3 ct3), sl3⟩) (c3 : PySem.W.codeIn K cd3 "_law_names" = true) (k3 : PySem.W.keepIn K (.ref f3) = true)
  (a4 : PySem.W.nsIn K mainGlobals "_law_rule" = some (some (.ref f4))) (l4 : K.lookup f4 = some ⟨oc4, od4, .func (PySem.W.fnOf "_law_rule" "_law_rule" (zu xw) (zk xw) (zc xw) .none kV4 dc4 pm4 an4 cd4 ct4), sl4⟩) (c4 : PySem.W.codeIn K cd4 "_law_rule" = true) (k4 : PySem.W.keepIn K (.ref f4) = true)
  (a5 : PySem.W.nsIn K mainGlobals "_law_pot" = some (some (.ref f5))) (l5 : K.lookup f5 = some ⟨oc5, od5, .func (PySem.W.fnOf "_law_pot" "_law_pot" (zu sPot) (zk sPot) (zc sPot) .none kV5 dc5 pm5 an5 cd5 ct5), sl5⟩) (c5 : PySem.W.codeIn K cd5 "_law_pot" = true) (k5 : PySem.W.keepIn K (.ref f5) = true)
  (a6 : PySem.W.nsIn K mainGlobals "is_figures" = some (some (.ref f6))) (l6 : K.lookup f6 = some ⟨oc6, od6, .func (PySem.W.fnOf "is_figures" "is_figures" (zu sFig) (zk sFig) (zc sFig) .none kV6 dc6 pm6 an6 cd6 ct6), sl6⟩) (c6 : PySem.W.codeIn K cd6 "is_figures" = true) (k6 : PySem.W.keepIn K (.ref f6) = true)
  (a7 : PySem.W.nsIn K mainGlobals "is_name" = some (some (.ref f7))) (l7 : K.lookup f7 = some ⟨oc7, od7, .func (PySem.W.fnOf "is_name" "is_name" (zu sNam) (zk sNam) (zc sNam) .none kV7 dc7 pm7 an7 cd7 ct7), sl7⟩) (c7 : PySem.W.codeIn K cd7 "is_name" = true) (k7 : PySem.W.keepIn K (.ref f7) = true)
  (a8 : PySem.W.nsIn K mainGlobals "words_of" = some (some (.ref f8))) (l8 : K.lookup f8 = some ⟨oc8, od8, .func (PySem.W.fnOf "words_of" "words_of" (zu sWof) (zk sWof) (zc sWof) .none kV8 dc8 pm8 an8 cd8 ct8), sl8⟩) (c8 : PySem.W.codeIn K cd8 "words_of" = true) (k8 : PySem.W.keepIn K (.ref f8) = true)
  (a9 : PySem.W.nsIn K mainGlobals "read_number" = some (some (.ref f9))) (l9 : K.lookup f9 = some ⟨oc9, od9, .func (PySem.W.fnOf "read_number" "read_number" (zu sNu) (zk sNu) (zc sNu) .none kV9 dc9 pm9 an9 cd9 ct9), sl9⟩) (c9 : PySem.W.codeIn K cd9 "read_number" = true) (k9 : PySem.W.keepIn K (.ref f9) = true)
  (a10 : PySem.W.nsIn K mainGlobals "read_sort" = some (some (.ref f10))) (l10 : K.lookup f10 = some ⟨oc10, od10, .func (PySem.W.fnOf "read_sort" "read_sort" (zu sSo) (zk sSo) (zc sSo) .none kV10 dc10 pm10 an10 cd10 ct10), sl10⟩) (c10 : PySem.W.codeIn K cd10 "read_sort" = true) (k10 : PySem.W.keepIn K (.ref f10) = true)
  (a11 : PySem.W.nsIn K mainGlobals "read_sorts" = some (some (.ref f11))) (l11 : K.lookup f11 = some ⟨oc11, od11, .func (PySem.W.fnOf "read_sorts" "read_sorts" (zu sRs) (zk sRs) (zc sRs) .none kV11 dc11 pm11 an11 cd11 ct11), sl11⟩) (c11 : PySem.W.codeIn K cd11 "read_sorts" = true) (k11 : PySem.W.keepIn K (.ref f11) = true)
  (a12 : PySem.W.nsIn K mainGlobals "read_begin" = some (some (.ref f12))) (l12 : K.lookup f12 = some ⟨oc12, od12, .func (PySem.W.fnOf "read_begin" "read_begin" (zu sRb) (zk sRb) (zc sRb) .none kV12 dc12 pm12 an12 cd12 ct12), sl12⟩) (c12 : PySem.W.codeIn K cd12 "read_begin" = true) (k12 : PySem.W.keepIn K (.ref f12) = true)
  (a13 : PySem.W.nsIn K mainGlobals "read_inputs" = some (some (.ref f13))) (l13 : K.lookup f13 = some ⟨oc13, od13, .func (PySem.W.fnOf "read_inputs" "read_inputs" (zu sRi) (zk sRi) (zc sRi) .none kV13 dc13 pm13 an13 cd13 ct13), sl13⟩) (c13 : PySem.W.codeIn K cd13 "read_inputs" = true) (k13 : PySem.W.keepIn K (.ref f13) = true)
  (a14 : PySem.W.nsIn K mainGlobals "read_answer" = some (some (.ref f14))) (l14 : K.lookup f14 = some ⟨oc14, od14, .func (PySem.W.fnOf "read_answer" "read_answer" (zu sRan) (zk sRan) (zc sRan) .none kV14 dc14 pm14 an14 cd14 ct14), sl14⟩) (c14 : PySem.W.codeIn K cd14 "read_answer" = true) (k14 : PySem.W.keepIn K (.ref f14) = true)
  (a15 : PySem.W.nsIn K mainGlobals "read_side" = some (some (.ref f15))) (l15 : K.lookup f15 = some ⟨oc15, od15, .func (PySem.W.fnOf "read_side" "read_side" (zu sRsd) (zk sRsd) (zc sRsd) .none kV15 dc15 pm15 an15 cd15 ct15), sl15⟩) (c15 : PySem.W.codeIn K cd15 "read_side" = true) (k15 : PySem.W.keepIn K (.ref f15) = true)
  (a16 : PySem.W.nsIn K mainGlobals "read_rule" = some (some (.ref f16))) (l16 : K.lookup f16 = some ⟨oc16, od16, .func (PySem.W.fnOf "read_rule" "read_rule" (zu sRr) (zk sRr) (zc sRr) .none kV16 dc16 pm16 an16 cd16 ct16), sl16⟩) (c16 : PySem.W.codeIn K cd16 "read_rule" = true) (k16 : PySem.W.keepIn K (.ref f16) = true)
  (a17 : PySem.W.nsIn K mainGlobals "read_pot" = some (some (.ref f17))) (l17 : K.lookup f17 = some ⟨oc17, od17, .func (PySem.W.fnOf "read_pot" "read_pot" (zu sRp) (zk sRp) (zc sRp) .none kV17 dc17 pm17 an17 cd17 ct17), sl17⟩) (c17 : PySem.W.codeIn K cd17 "read_pot" = true) (k17 : PySem.W.keepIn K (.ref f17) = true)
  (a18 : PySem.W.nsIn K mainGlobals "_law_side" = some (some (.ref f18))) (l18 : K.lookup f18 = some ⟨oc18, od18, .func (PySem.W.fnOf "_law_side" "_law_side" (zu sLsd) (zk sLsd) (zc sLsd) .none kV18 dc18 pm18 an18 cd18 ct18), sl18⟩) (c18 : PySem.W.codeIn K cd18 "_law_side" = true) (k18 : PySem.W.keepIn K (.ref f18) = true)
  (a19 : PySem.W.nsIn K mainGlobals "_law_lines" = some (some (.ref f19))) (l19 : K.lookup f19 = some ⟨oc19, od19, .func (PySem.W.fnOf "_law_lines" "_law_lines" (zu sLli) (zk sLli) (zc sLli) .none kV19 dc19 pm19 an19 cd19 ct19), sl19⟩) (c19 : PySem.W.codeIn K cd19 "_law_lines" = true) (k19 : PySem.W.keepIn K (.ref f19) = true)
  (a20 : PySem.W.nsIn K mainGlobals "_law_is_name" = some (some (.ref f20))) (l20 : K.lookup f20 = some ⟨oc20, od20, .func (PySem.W.fnOf "_law_is_name" "_law_is_name" (zu sLin) (zk sLin) (zc sLin) .none kV20 dc20 pm20 an20 cd20 ct20), sl20⟩) (c20 : PySem.W.codeIn K cd20 "_law_is_name" = true) (k20 : PySem.W.keepIn K (.ref f20) = true)
  (a21 : PySem.W.nsIn K mainGlobals "_law_number" = some (some (.ref f21))) (l21 : K.lookup f21 = some ⟨oc21, od21, .func (PySem.W.fnOf "_law_number" "_law_number" (zu sLnu) (zk sLnu) (zc sLnu) .none kV21 dc21 pm21 an21 cd21 ct21), sl21⟩) (c21 : PySem.W.codeIn K cd21 "_law_number" = true) (k21 : PySem.W.keepIn K (.ref f21) = true)
  (a22 : PySem.W.nsIn K mainGlobals "_law_side_fault" = some (some (.ref f22))) (l22 : K.lookup f22 = some ⟨oc22, od22, .func (PySem.W.fnOf "_law_side_fault" "_law_side_fault" (zu sSf) (zk sSf) (zc sSf) .none kV22 dc22 pm22 an22 cd22 ct22), sl22⟩) (c22 : PySem.W.codeIn K cd22 "_law_side_fault" = true) (k22 : PySem.W.keepIn K (.ref f22) = true)
  (a23 : PySem.W.nsIn K mainGlobals "_law_rule_fault" = some (some (.ref f23))) (l23 : K.lookup f23 = some ⟨oc23, od23, .func (PySem.W.fnOf "_law_rule_fault" "_law_rule_fault" (zu sRf) (zk sRf) (zc sRf) .none kV23 dc23 pm23 an23 cd23 ct23), sl23⟩) (c23 : PySem.W.codeIn K cd23 "_law_rule_fault" = true) (k23 : PySem.W.keepIn K (.ref f23) = true)
  (a24 : PySem.W.nsIn K mainGlobals "_law_head_fault" = some (some (.ref f24))) (l24 : K.lookup f24 = some ⟨oc24, od24, .func (PySem.W.fnOf "_law_head_fault" "_law_head_fault" (zu sHf) (zk sHf) (zc sHf) .none kV24 dc24 pm24 an24 cd24 ct24), sl24⟩) (c24 : PySem.W.codeIn K cd24 "_law_head_fault" = true) (k24 : PySem.W.keepIn K (.ref f24) = true)
  (a25 : PySem.W.nsIn K mainGlobals "_law_fault" = some (some (.ref f25))) (l25 : K.lookup f25 = some ⟨oc25, od25, .func (PySem.W.fnOf "_law_fault" "_law_fault" (zu sLf) (zk sLf) (zc sLf) .none kV25 dc25 pm25 an25 cd25 ct25), sl25⟩) (c25 : PySem.W.codeIn K cd25 "_law_fault" = true) (k25 : PySem.W.keepIn K (.ref f25) = true)
  (a26 : PySem.W.nsIn K mainGlobals "_law_asked" = some (some (.ref f26))) (l26 : K.lookup f26 = some ⟨oc26, od26, .func (PySem.W.fnOf "_law_asked" "_law_asked" (zu sAs) (zk sAs) (zc sAs) .none kV26 dc26 pm26 an26 cd26 ct26), sl26⟩) (c26 : PySem.W.codeIn K cd26 "_law_asked" = true) (k26 : PySem.W.keepIn K (.ref f26) = true)
  (a27 : PySem.W.nsIn K mainGlobals "_law_read_right" = some (some (.ref f27))) (l27 : K.lookup f27 = some ⟨oc27, od27, .func (PySem.W.fnOf "_law_read_right" "_law_read_right" (zu sRr2) (zk sRr2) (zc sRr2) .none kV27 dc27 pm27 an27 cd27 ct27), sl27⟩) (c27 : PySem.W.codeIn K cd27 "_law_read_right" = true) (k27 : PySem.W.keepIn K (.ref f27) = true)
  (a28 : PySem.W.nsIn K mainGlobals "_law_word" = some (some (.ref f28))) (l28 : K.lookup f28 = some ⟨oc28, od28, .func (PySem.W.fnOf "_law_word" "_law_word" (zu sWd) (zk sWd) (zc sWd) .none kV28 dc28 pm28 an28 cd28 ct28), sl28⟩) (c28 : PySem.W.codeIn K cd28 "_law_word" = true) (k28 : PySem.W.keepIn K (.ref f28) = true)
  (a29 : PySem.W.nsIn K mainGlobals "_law_line_spoilt" = some (some (.ref f29))) (l29 : K.lookup f29 = some ⟨oc29, od29, .func (PySem.W.fnOf "_law_line_spoilt" "_law_line_spoilt" (zu sLs) (zk sLs) (zc sLs) .none kV29 dc29 pm29 an29 cd29 ct29), sl29⟩) (c29 : PySem.W.codeIn K cd29 "_law_line_spoilt" = true) (k29 : PySem.W.keepIn K (.ref f29) = true)
  (a30 : PySem.W.nsIn K mainGlobals "_law_spoilt" = some (some (.ref f30))) (l30 : K.lookup f30 = some ⟨oc30, od30, .func (PySem.W.fnOf "_law_spoilt" "_law_spoilt" (zu sSp) (zk sSp) (zc sSp) .none kV30 dc30 pm30 an30 cd30 ct30), sl30⟩) (c30 : PySem.W.codeIn K cd30 "_law_spoilt" = true) (k30 : PySem.W.keepIn K (.ref f30) = true)
  (a31 : PySem.W.nsIn K mainGlobals "law" = some (some (.ref f31))) (l31 : K.lookup f31 = some ⟨oc31, od31, .func (PySem.W.fnOf "law" "law" (zu sLaw) (zk sLaw) (zc sLaw) .none kV31 dc31 pm31 an31 cd31 ct31), sl31⟩) (c31 : PySem.W.codeIn K cd31 "law" = true) (k31 : PySem.W.keepIn K (.ref f31) = true)
  (z1 : PySem.W.nsIn K mainGlobals "len" = some none) (z2 : PySem.W.nsIn K mainGlobals "range" = some none) (z3 : PySem.W.nsIn K mainGlobals "tuple" = some none) (z4 : PySem.W.nsIn K mainGlobals "int" = some none) (z5 : PySem.W.nsIn K mainGlobals "bool" = some none) (z6 : PySem.W.nsIn K mainGlobals "list" = some none) (z7 : PySem.W.nsIn K mainGlobals "str" = some none) (z8 : PySem.W.nsIn K mainGlobals "all" = some none) (z9 : PySem.W.nsIn K mainGlobals "any" = some none) (z10 : PySem.W.nsIn K mainGlobals "isinstance" = some none) (z11 : PySem.W.nsIn K mainGlobals "repr" = some none) (z12 : PySem.W.nsIn K mainGlobals "zip" = some none) (z13 : PySem.W.nsIn K mainGlobals "min" = some none) (z14 : PySem.W.nsIn K mainGlobals "max" = some none) (z15 : PySem.W.nsIn K mainGlobals "sum" = some none) (z16 : PySem.W.nsIn K mainGlobals "enumerate" = some none) (z17 : PySem.W.nsIn K mainGlobals "sorted" = some none) (z18 : PySem.W.nsIn K mainGlobals "set" = some none) (z19 : PySem.W.nsIn K mainGlobals "dict" = some none) (z20 : PySem.W.nsIn K mainGlobals "abs" = some none) (z21 : PySem.W.nsIn K mainGlobals "ValueError" = some none)
  (g1 : PySem.W.nsIn K mainGlobals "FIGURES" = some (some (.str "0123456789" t1))) (g2 : PySem.W.nsIn K mainGlobals "LETTERS" = some (some (.str "abcdefghijklmnopqrstuvwxyz" t2))) (g3 : PySem.W.nsIn K mainGlobals "MOST_LETTERS" = some (some (.int (8) t3))) (g4 : PySem.W.nsIn K mainGlobals "MOST_SORTS" = some (some (.int (8) t4))) (g5 : PySem.W.nsIn K mainGlobals "MOST_BEGIN" = some (some (.int (99) t5))) (g6 : PySem.W.nsIn K mainGlobals "MOST_INPUTS" = some (some (.int (3) t6))) (g7 : PySem.W.nsIn K mainGlobals "MOST_RULES" = some (some (.int (8) t7))) (g8 : PySem.W.nsIn K mainGlobals "MOST_DROPS" = some (some (.int (9) t8))) (g9 : PySem.W.nsIn K mainGlobals "MOST_FIGURES" = some (some (.int (2) t9))) (g10 : PySem.W.nsIn K mainGlobals "SORTS_LINE" = some (some (.int (0) t10))) (g11 : PySem.W.nsIn K mainGlobals "BEGIN_LINE" = some (some (.int (1) t11))) (g12 : PySem.W.nsIn K mainGlobals "IN_LINE" = some (some (.int (2) t12))) (g13 : PySem.W.nsIn K mainGlobals "OUT_LINE" = some (some (.int (3) t13))) (g14 : PySem.W.nsIn K mainGlobals "FIRST_RULE" = some (some (.int (4) t14))) (tg1 : PySem.W.nsIn K mainGlobals "NO_NAMES" = some (some (.ref ta1))) (tl1 : K.lookup ta1 = some ⟨.type "tuple", td1, .seq #[.str "sorts" tt1_0, .str "begin" tt1_1, .str "in" tt1_2, .str "out" tt1_3, .str "rule" tt1_4, .str "to" tt1_5] tn1, ts1⟩)
  (xa0 : PySem.W.nsIn K mainGlobals "DropError" = some (some (.ref x0))) (xl0 : K.lookup x0 = some (excClassObj xm0 xq0 x0 xN0 xb0 bmV true xn0 xu0 xh0 xo0 xd0 xk0_0 xk0_1 xk0_2 xk0_3 xk0_5 "ValueError.__new__"))
  (xa1 : PySem.W.nsIn K mainGlobals "NoPot" = some (some (.ref x1))) (xl1 : K.lookup x1 = some (excClassObj xm1 xq1 x1 xN1 xb1 (.ref x0 :: bmV) true xn1 xu1 xh1 xo1 xd1 xk1_0 xk1_1 xk1_2 xk1_3 xk1_5 "ValueError.__new__"))
  (xg1 : PySem.W.findIn K (.ref x1) "__getattribute__" = some (some (.builtin "BaseException.__getattribute__"))) (xt1 : PySem.W.findIn K (.ref x1) "__getattr__" = some none) (xs1 : PySem.W.findIn K (.ref x1) "__setattr__" = some (some (.builtin "object.__setattr__"))) (xc1 : PySem.W.findIn K (.ref x1) "__class__" = some (some (.builtin "object.__class__")))
  (xsg : PySem.W.specialIn K (.builtin "object.__class__") "__get__" = some (some (.builtin "getset_descriptor.__get__"))) (xtk : PySem.W.takesIn K (.builtin "object.__class__") = some true) (xnd : [x0, x1].Nodup)
  (ii1 : PySem.W.findIn K (.ref x1) "__init__" = some (some (.ref i1))) (il1 : K.lookup i1 = some ⟨ic1, id1, .func (PySem.W.fnOf "__init__" "NoPot.__init__" (zu sINp) (zk sINp) (zc sINp) .none iV1 iD1 ip1 ia1 iC1 iT1), is1⟩) (ie1 : PySem.W.codeIn K iC1 "NoPot.__init__" = true) (if1 : PySem.W.isFn K (.ref i1) = true) (ik1 : PySem.W.keepIn K (.ref i1) = true) (im1 : PySem.W.keepIn K (.ref x1) = true) (iq1_0 : PySem.W.findIn K (.ref x1) "line" = some none) (iq1_1 : PySem.W.findIn K (.ref x1) "word" = some none) :
  ∃ fd : FuncData, (∀ (s : Shared) (v : Value), BindsTo s fd ⟨[v], []⟩ [("_law_script", v)]) ∧ ∀ base : Heap, K.In base → base.Ns mainGlobals mg → FnOk l.prog w K mg base CX0 9 fa fd ["_law_script"] (Y3 K) := by
 have e := hfa.symm.trans (PySem.W.mg_of X G a31)
 cases e
 have F1 := zF (st := vM) l1 c1 k1
 have b1 := F1.binds (ps := ["_law_script", "_law_k"]) fun _ _ _ _ _ _ us hl => by obtain ⟨_, _, rfl⟩ := L2.ln2 hl; rfl
 have m1 := PySem.W.mg_of X G a1
 have F2 := zF (st := vN) l2 c2 k2
 have b2 := F2.binds (ps := ["_law_feed_here", "_law_many"]) fun _ _ _ _ _ _ us hl => by obtain ⟨_, _, rfl⟩ := L2.ln2 hl; rfl
 have m2 := PySem.W.mg_of X G a2
 have F3 := zF (st := xm) l3 c3 k3
 have b3 := F3.binds (ps := ["_law_feed_here", "_law_many"]) fun _ _ _ _ _ _ us hl => by obtain ⟨_, _, rfl⟩ := L2.ln2 hl; rfl
 have m3 := PySem.W.mg_of X G a3
 have F4 := zF (st := xw) l4 c4 k4
 have b4 := F4.binds (ps := ["_law_feed_here", "_law_many"]) fun _ _ _ _ _ _ us hl => by obtain ⟨_, _, rfl⟩ := L2.ln2 hl; rfl
 have m4 := PySem.W.mg_of X G a4
 have F5 := zF (st := sPot) l5 c5 k5
 have b5 := F5.binds (ps := ["_law_feed_here"]) fun _ _ _ _ _ _ us hl => by obtain ⟨_, rfl⟩ := L2.ln1 hl; rfl
 have m5 := PySem.W.mg_of X G a5
 have F6 := zF (st := sFig) l6 c6 k6
 have b6 := F6.binds (ps := ["word"]) fun _ _ _ _ _ _ us hl => by obtain ⟨_, rfl⟩ := L2.ln1 hl; rfl
 have m6 := PySem.W.mg_of X G a6
 have F7 := zF (st := sNam) l7 c7 k7
 have b7 := F7.binds (ps := ["thing"]) fun _ _ _ _ _ _ us hl => by obtain ⟨_, rfl⟩ := L2.ln1 hl; rfl
 have m7 := PySem.W.mg_of X G a7
 have F8 := zF (st := sWof) l8 c8 k8
 have b8 := F8.binds (ps := ["lines", "line", "first"]) fun _ _ _ _ _ _ us hl => by obtain ⟨_, _, _, rfl⟩ := L2.ln3 hl; rfl
 have m8 := PySem.W.mg_of X G a8
 have F9 := zF (st := sNu) l9 c9 k9
 have b9 := F9.binds (ps := ["words", "line", "place", "low", "high"]) fun _ _ _ _ _ _ us hl => by obtain ⟨_, _, _, _, _, rfl⟩ := L2.ln5 hl; rfl
 have m9 := PySem.W.mg_of X G a9
 have F10 := zF (st := sSo) l10 c10 k10
 have b10 := F10.binds (ps := ["words", "line", "place", "sorts"]) fun _ _ _ _ _ _ us hl => by obtain ⟨_, _, _, _, rfl⟩ := L2.ln4 hl; rfl
 have m10 := PySem.W.mg_of X G a10
 have F11 := zF (st := sRs) l11 c11 k11
 have b11 := F11.binds (ps := ["lines"]) fun _ _ _ _ _ _ us hl => by obtain ⟨_, rfl⟩ := L2.ln1 hl; rfl
 have m11 := PySem.W.mg_of X G a11
 have F12 := zF (st := sRb) l12 c12 k12
 have b12 := F12.binds (ps := ["lines", "sorts"]) fun _ _ _ _ _ _ us hl => by obtain ⟨_, _, rfl⟩ := L2.ln2 hl; rfl
 have m12 := PySem.W.mg_of X G a12
 have F13 := zF (st := sRi) l13 c13 k13
 have b13 := F13.binds (ps := ["lines", "sorts"]) fun _ _ _ _ _ _ us hl => by obtain ⟨_, _, rfl⟩ := L2.ln2 hl; rfl
 have m13 := PySem.W.mg_of X G a13
 have F14 := zF (st := sRan) l14 c14 k14
 have b14 := F14.binds (ps := ["lines", "sorts"]) fun _ _ _ _ _ _ us hl => by obtain ⟨_, _, rfl⟩ := L2.ln2 hl; rfl
 have m14 := PySem.W.mg_of X G a14
 have F15 := zF (st := sRsd) l15 c15 k15
 have b15 := F15.binds (ps := ["words", "line", "start", "end", "sorts"]) fun _ _ _ _ _ _ us hl => by obtain ⟨_, _, _, _, _, rfl⟩ := L2.ln5 hl; rfl
 have m15 := PySem.W.mg_of X G a15
 have F16 := zF (st := sRr) l16 c16 k16
 have b16 := F16.binds (ps := ["lines", "line", "sorts"]) fun _ _ _ _ _ _ us hl => by obtain ⟨_, _, _, rfl⟩ := L2.ln3 hl; rfl
 have m16 := PySem.W.mg_of X G a16
 have F17 := zF (st := sRp) l17 c17 k17
 have b17 := F17.binds (ps := ["lines"]) fun _ _ _ _ _ _ us hl => by obtain ⟨_, rfl⟩ := L2.ln1 hl; rfl
 have m17 := PySem.W.mg_of X G a17
 have F18 := zF (st := sLsd) l18 c18 k18
 have b18 := F18.binds (ps := ["_law_sorts", "_law_side_here"]) fun _ _ _ _ _ _ us hl => by obtain ⟨_, _, rfl⟩ := L2.ln2 hl; rfl
 have m18 := PySem.W.mg_of X G a18
 have F19 := zF (st := sLli) l19 c19 k19
 have b19 := F19.binds (ps := ["_law_pot_here"]) fun _ _ _ _ _ _ us hl => by obtain ⟨_, rfl⟩ := L2.ln1 hl; rfl
 have m19 := PySem.W.mg_of X G a19
 have F20 := zF (st := sLin) l20 c20 k20
 have b20 := F20.binds (ps := ["_law_word_here"]) fun _ _ _ _ _ _ us hl => by obtain ⟨_, rfl⟩ := L2.ln1 hl; rfl
 have m20 := PySem.W.mg_of X G a20
 have F21 := zF (st := sLnu) l21 c21 k21
 have b21 := F21.binds (ps := ["_law_word_here", "_law_least", "_law_most"]) fun _ _ _ _ _ _ us hl => by obtain ⟨_, _, _, rfl⟩ := L2.ln3 hl; rfl
 have m21 := PySem.W.mg_of X G a21
 have F22 := zF (st := sSf) l22 c22 k22
 have b22 := F22.binds (ps := ["_law_words", "_law_at", "_law_sorts", "_law_last_word"]) fun _ _ _ _ _ _ us hl => by obtain ⟨_, _, _, _, rfl⟩ := L2.ln4 hl; rfl
 have m22 := PySem.W.mg_of X G a22
 have F23 := zF (st := sRf) l23 c23 k23
 have b23 := F23.binds (ps := ["_law_words", "_law_sorts"]) fun _ _ _ _ _ _ us hl => by obtain ⟨_, _, rfl⟩ := L2.ln2 hl; rfl
 have m23 := PySem.W.mg_of X G a23
 have F24 := zF (st := sHf) l24 c24 k24
 have b24 := F24.binds (ps := ["_law_words", "_law_told"]) fun _ _ _ _ _ _ us hl => by obtain ⟨_, _, rfl⟩ := L2.ln2 hl; rfl
 have m24 := PySem.W.mg_of X G a24
 have F25 := zF (st := sLf) l25 c25 k25
 have b25 := F25.binds (ps := ["_law_lines_here"]) fun _ _ _ _ _ _ us hl => by obtain ⟨_, rfl⟩ := L2.ln1 hl; rfl
 have m25 := PySem.W.mg_of X G a25
 have F26 := zF (st := sAs) l26 c26 k26
 have b26 := F26.binds (ps := ["_law_lines_here"]) fun _ _ _ _ _ _ us hl => by obtain ⟨_, rfl⟩ := L2.ln1 hl; rfl
 have m26 := PySem.W.mg_of X G a26
 have F27 := zF (st := sRr2) l27 c27 k27
 have b27 := F27.binds (ps := ["_law_lines_here"]) fun _ _ _ _ _ _ us hl => by obtain ⟨_, rfl⟩ := L2.ln1 hl; rfl
 have m27 := PySem.W.mg_of X G a27
 have F28 := zF (st := sWd) l28 c28 k28
 have b28 := F28.binds (ps := ["_law_feed_here", "_law_lines_here"]) fun _ _ _ _ _ _ us hl => by obtain ⟨_, _, rfl⟩ := L2.ln2 hl; rfl
 have m28 := PySem.W.mg_of X G a28
 have F29 := zF (st := sLs) l29 c29 k29
 have b29 := F29.binds (ps := ["_law_feed_here", "_law_lines_here", "_law_line"]) fun _ _ _ _ _ _ us hl => by obtain ⟨_, _, _, rfl⟩ := L2.ln3 hl; rfl
 have m29 := PySem.W.mg_of X G a29
 have F30 := zF (st := sSp) l30 c30 k30
 have b30 := F30.binds (ps := ["_law_feed_here", "_law_lines_here"]) fun _ _ _ _ _ _ us hl => by obtain ⟨_, _, rfl⟩ := L2.ln2 hl; rfl
 have m30 := PySem.W.mg_of X G a30
 have F31 := zF (st := sLaw) l31 c31 k31
 have y1 := PySem.W.mg_none_of X G z1
 have y2 := PySem.W.mg_none_of X G z2
 have y3 := PySem.W.mg_none_of X G z3
 have y4 := PySem.W.mg_none_of X G z4
 have y5 := PySem.W.mg_none_of X G z5
 have y6 := PySem.W.mg_none_of X G z6
 have y7 := PySem.W.mg_none_of X G z7
 have y8 := PySem.W.mg_none_of X G z8
 have y9 := PySem.W.mg_none_of X G z9
 have y10 := PySem.W.mg_none_of X G z10
 have y11 := PySem.W.mg_none_of X G z11
 have y12 := PySem.W.mg_none_of X G z12
 have y13 := PySem.W.mg_none_of X G z13
 have y14 := PySem.W.mg_none_of X G z14
 have y15 := PySem.W.mg_none_of X G z15
 have y16 := PySem.W.mg_none_of X G z16
 have y17 := PySem.W.mg_none_of X G z17
 have y18 := PySem.W.mg_none_of X G z18
 have y19 := PySem.W.mg_none_of X G z19
 have y20 := PySem.W.mg_none_of X G z20
 have y21 := PySem.W.mg_none_of X G z21
 have XC0 : XC K x0 bmV := ⟨⟨_, _, _, _, _, _, _, _, _, _, _, _, _, _, xl0⟩, .base⟩
 have XC1 : XC K x1 (.ref x0 :: bmV) := ⟨⟨_, _, _, _, _, _, _, _, _, _, _, _, _, _, xl1⟩, .own _ .base⟩
 have XA1 : XA K x1 := ⟨⟨_, XC1⟩, xg1, xt1, xs1, xc1, xsg, xtk⟩
 have U : XUni K mg x0 [("NoPot", x1)] := ⟨XC0, PySem.W.mg_of X G xa0, fun c hc => ?_, by simpa using xnd⟩
 rotate_left
 ·simp only [List.mem_cons, List.not_mem_nil, or_false] at hc
  rcases hc with rfl
  ·exact ⟨PySem.W.mg_of X G xa1, XC1, XA1⟩
 have FI1 := zF (st := sINp) il1 ie1 ik1
 have BI1 := FI1.binds (ps := ["self", "line", "word"]) fun _ _ _ _ _ _ us hl => by obtain ⟨_, _, _, rfl⟩ := L2.ln3 hl; rfl
 have B : Bl mg := ⟨y1, y2, y3, y4, y5, y6, y7, y8, y9, y10, y11, y12, y13, y14, y15, y16, y17, y18, y19, y20⟩
 have B2 : Blt2 mg := ⟨⟨y1, y2, y3, y4⟩, y6, y13⟩
 have C : KR K mg := ⟨⟨_, PySem.W.mg_of X G g1⟩, ⟨_, PySem.W.mg_of X G g2⟩, ⟨ta1, _, _, _, PySem.W.mg_of X G tg1, tl1, rfl, rfl, sz6, (.cons ⟨_, rfl⟩ (.cons ⟨_, rfl⟩ (.cons ⟨_, rfl⟩ (.cons ⟨_, rfl⟩ (.cons ⟨_, rfl⟩ (.cons ⟨_, rfl⟩ .nil))))))⟩, ⟨_, PySem.W.mg_of X G g3⟩, ⟨_, PySem.W.mg_of X G g4⟩, ⟨_, PySem.W.mg_of X G g5⟩, ⟨_, PySem.W.mg_of X G g6⟩, ⟨_, PySem.W.mg_of X G g7⟩, ⟨_, PySem.W.mg_of X G g8⟩, ⟨_, PySem.W.mg_of X G g9⟩, ⟨_, PySem.W.mg_of X G g10⟩, ⟨_, PySem.W.mg_of X G g11⟩, ⟨_, PySem.W.mg_of X G g12⟩, ⟨_, PySem.W.mg_of X G g13⟩, ⟨_, PySem.W.mg_of X G g14⟩⟩
 refine ⟨PySem.W.fnOf "law" "law" (zu sLaw) (zk sLaw) (zc sLaw) .none kV31 dc31 pm31 an31 cd31 ct31, fun s v => .of_eq rfl, fun base _ _ => ?_⟩
 have HC1 : HasC l.prog w K mg base 1 "NoPot" x1 ["self", "line", "word"] (spXi K ["line", "word"]) := ⟨_, _, ⟨ii1, if1, im1, XA1⟩, ok_INp FI1, PySem.W.mg_of X G xa1, BI1⟩
 have hna : ∀ f ∈ (["line", "word"] : List Str), zW K x1 f := fun f hf => by
  simp only [List.mem_cons, List.not_mem_nil, or_false] at hf
  rcases hf with rfl | rfl
  ·exact iq1_0
  ·exact iq1_1
 have H1 : Has l.prog w K mg base 1 "_law_feed" ["_law_script", "_law_k"] (YA K) := ⟨_, _, ok_feed y1 F1, m1, k1, b1⟩
 have H2 : Has l.prog w K mg base 1 "_law_draw" ["_law_feed_here", "_law_many"] xl := ⟨_, _, ok_draw F2, m2, k2, b2⟩
 have H3 : Has l.prog w K mg base 2 "_law_names" ["_law_feed_here", "_law_many"] Zs := ⟨_, _, ok_names y2 H2 F3, m3, k3, b3⟩
 have H4 : Has l.prog w K mg base 2 "_law_rule" ["_law_feed_here", "_law_many"] Yz := ⟨_, _, ok_rule B2.toBlt H2 F4, m4, k4, b4⟩
 have H5 : Has l.prog w K mg base 3 "_law_pot" ["_law_feed_here"] XY := ⟨_, _, ok_pot B2 H2 H3 H4 F5, m5, k5, b5⟩
 have H6 : Has l.prog w K mg base 1 "is_figures" ["word"] X1 := ⟨_, _, ok_Fig B C F6, m6, k6, b6⟩
 have H7 : Has l.prog w K mg base 1 "is_name" ["thing"] XZ := ⟨_, _, ok_Nam B C F7, m7, k7, b7⟩
 have H8 : HasX l.prog w K mg base 3 "words_of" ["lines", "line", "first"] (vk x1) := ⟨_, _, ok_Wof B C HC1 XA1 hna F8, m8, k8, b8⟩
 have H9 : HasX l.prog w K mg base 3 "read_number" ["words", "line", "place", "low", "high"] (spNu x1) := ⟨_, _, ok_Nu B C HC1 XA1 hna H6 F9, m9, k9, b9⟩
 have H10 : HasX l.prog w K mg base 3 "read_sort" ["words", "line", "place", "sorts"] (spSo x1) := ⟨_, _, ok_So B C HC1 XA1 hna F10, m10, k10, b10⟩
 have H11 : HasX l.prog w K mg base 4 "read_sorts" ["lines"] (spRs x1) := ⟨_, _, ok_Rs B C HC1 XA1 hna H8 H7 F11, m11, k11, b11⟩
 have H12 : HasX l.prog w K mg base 4 "read_begin" ["lines", "sorts"] (spRb x1) := ⟨_, _, ok_Rb B C HC1 XA1 hna H8 H9 F12, m12, k12, b12⟩
 have H13 : HasX l.prog w K mg base 4 "read_inputs" ["lines", "sorts"] (spRi x1) := ⟨_, _, ok_Ri B C HC1 XA1 hna H8 H10 F13, m13, k13, b13⟩
 have H14 : HasX l.prog w K mg base 4 "read_answer" ["lines", "sorts"] (XX x1) := ⟨_, _, ok_Ran B C HC1 XA1 hna H8 H10 F14, m14, k14, b14⟩
 have H15 : HasX l.prog w K mg base 4 "read_side" ["words", "line", "start", "end", "sorts"] (XV x1) := ⟨_, _, ok_Rsd B C HC1 XA1 hna H9 H10 F15, m15, k15, b15⟩
 have H16 : HasX l.prog w K mg base 5 "read_rule" ["lines", "line", "sorts"] (spRr x1) := ⟨_, _, ok_Rr B C HC1 XA1 hna H8 H15 F16, m16, k16, b16⟩
 have H17 : HasX l.prog w K mg base 6 "read_pot" ["lines"] (spRp x1) := ⟨_, _, ok_Rp B C HC1 XA1 hna H11 H12 H13 H14 H16 F17, m17, k17, b17⟩
 have H18 : Has l.prog w K mg base 1 "_law_side" ["_law_sorts", "_law_side_here"] XU := ⟨_, _, ok_Lsd B F18, m18, k18, b18⟩
 have H19 : Has l.prog w K mg base 2 "_law_lines" ["_law_pot_here"] Y1 := ⟨_, _, ok_Lli B H18 F19, m19, k19, b19⟩
 have H20 : Has l.prog w K mg base 1 "_law_is_name" ["_law_word_here"] X0 := ⟨_, _, ok_Lin B F20, m20, k20, b20⟩
 have H21 : Has l.prog w K mg base 1 "_law_number" ["_law_word_here", "_law_least", "_law_most"] Y2 := ⟨_, _, ok_Lnu B F21, m21, k21, b21⟩
 have H22 : Has l.prog w K mg base 2 "_law_side_fault" ["_law_words", "_law_at", "_law_sorts", "_law_last_word"] spSf := ⟨_, _, ok_Sf B H21 F22, m22, k22, b22⟩
 have H23 : Has l.prog w K mg base 3 "_law_rule_fault" ["_law_words", "_law_sorts"] spRf := ⟨_, _, ok_Rf B H22 F23, m23, k23, b23⟩
 have H24 : Has l.prog w K mg base 2 "_law_head_fault" ["_law_words", "_law_told"] spHf := ⟨_, _, ok_Hf B H20 H21 F24, m24, k24, b24⟩
 have H25 : Has l.prog w K mg base 4 "_law_fault" ["_law_lines_here"] spLf := ⟨_, _, ok_Lf B H24 H23 F25, m25, k25, b25⟩
 have H26 : Has l.prog w K mg base 7 "_law_asked" ["_law_lines_here"] spAs := ⟨_, _, ok_As B y21 U H17 hna F26, m26, k26, b26⟩
 have H27 : Has l.prog w K mg base 8 "_law_read_right" ["_law_lines_here"] XW := ⟨_, _, ok_Rr2 B H25 H26 H19 F27, m27, k27, b27⟩
 have H28 : Has l.prog w K mg base 2 "_law_word" ["_law_feed_here", "_law_lines_here"] spWd := ⟨_, _, ok_Wd B H2 F28, m28, k28, b28⟩
 have H29 : Has l.prog w K mg base 3 "_law_line_spoilt" ["_law_feed_here", "_law_lines_here", "_law_line"] spLs := ⟨_, _, ok_Ls B H2 H28 F29, m29, k29, b29⟩
 have H30 : Has l.prog w K mg base 4 "_law_spoilt" ["_law_feed_here", "_law_lines_here"] spSp := ⟨_, _, ok_Sp B H2 H29 F30, m30, k30, b30⟩
 exact ok_Law B H1 H2 H5 H19 H27 H30 F31
theorem walk {l : PySem.W.OpenLaw} {q : Program} {loose : List Str} {XP : (Str → Option Value) → Heap → Prop} {YP : World → Heap → Prop} {d : DefRec} {K : Params → PySem.W.Frag} (hn : l.most = some 63) (hdf : d.params.defaults = [])
  (hY : ∀ (w : World) (h : Heap), YP w h → (K w.params).In h)
  (F : ∀ (w : World) (mg : Str → Option Value) (fa : Addr) (h : Heap), (K w.params).In h → h.Ns mainGlobals mg → mg d.name = some (.ref fa) →
   ∃ fd : FuncData, (∀ (s : Shared) (u : Value), BindsTo s fd ⟨[u], []⟩ [("_law_script", u)]) ∧ ∀ base : Heap, (K w.params).In base → base.Ns mainGlobals mg → FnOk l.prog w (K w.params) mg base CX0 9 fa fd ["_law_script"] (Y3 (K w.params))) :
  PySem.W.WalkO q loose XP YP l.row.toRowW d [] (fun f vs => PySem.call f vs) :=
 L2.walk_of (n := 63) (k := 9) (x := "_law_script") (CX := fun _ => CX0) (sp := fun w => Y3 (K w.params)) hn (by decide) hdf ⟨rfl, by decide, by decide, rfl⟩ hY F (fun _ H a ns hl hO hS => ⟨a, ns, rfl, SqF.of hO hS, hl, fun _ => rfl⟩) fun _ _ _ _ _ z => z
noncomputable def dE (P : Params) (x : Str) (t : Nat) (v : Value) : DictEntry := ⟨PyData.keyHash P x, .str x t, v⟩
noncomputable def cO (n : Str) (t : Nat) (q : Str) (t1 t2 : Nat) (l a f : Int) (r s x y z : Value) (k : Int) (t3 : Nat) : Obj :=
 ⟨.type "code", none, .fields #[.str n t, .str q t1, .str "/claim/cut.py" t2, .int l 0, .int a 0, .int 0 0, .int 0 0, .int f 0, r, .bool true, .int 181 0, s, .none, x, y, z, .int k 0, .int l 0, .str "/claim/cut.py" t3], #[]⟩
noncomputable def fO (n q : Str) (s : Stmt) (m : Str) (t c : Nat) : Obj := ⟨.type "function", none, .func (PySem.W.fnOf n q (zu s) (zk s) (zc s) .none .none .none (.str m t) none (.ref c) .none), #[]⟩
noncomputable def KK : Params → PySem.W.Frag := fun P =>
 (nat_lit 3, ⟨(.type "dict"), none, (.dict #[dE P "__name__" 165 (.str "law_dropsums_k04_pot_lines_spoilt" 389), dE P "__doc__" 166 .none, dE P "__package__" 167 .none, dE P "__loader__" 168 (.builtin "__main__.__loader__#opaque"), dE P "__spec__" 169 .none, dE P "__annotations__" 170 (.ref 6), dE P "__builtins__" 171 (.ref 4), dE P "__file__" 173 (.str "/claim/cut.py" 172), dE P "__cached__" 174 .none, dE P "DropError" 206 (.ref 24), dE P "NoPot" 233 (.ref 44), dE P "FIGURES" 237 (.str "0123456789" 236), dE P "is_figures" 243 (.ref 51), dE P "MOST_SORTS" 247 (.int 8 246), dE P "MOST_RULES" 249 (.int 8 248), dE P "MOST_INPUTS" 251 (.int 3 250), dE P "MOST_BEGIN" 253 (.int 99 252), dE P "MOST_DROPS" 255 (.int 9 254), dE P "LETTERS" 257 (.str "abcdefghijklmnopqrstuvwxyz" 256), dE P "MOST_LETTERS" 259 (.int 8 258), dE P "NO_NAMES" 266 (.ref 52), dE P "is_name" 272 (.ref 57), dE P "SORTS_LINE" 276 (.int 0 275), dE P "BEGIN_LINE" 278 (.int 1 277), dE P "IN_LINE" 280 (.int 2 279), dE P "OUT_LINE" 282 (.int 3 281), dE P "FIRST_RULE" 284 (.int 4 283), dE P "MOST_FIGURES" 286 (.int 2 285), dE P "read_pot" 292 (.ref 62), dE P "words_of" 302 (.ref 69), dE P "read_sorts" 313 (.ref 76), dE P "read_begin" 324 (.ref 83), dE P "read_inputs" 336 (.ref 90), dE P "read_answer" 346 (.ref 97), dE P "read_rule" 359 (.ref 104), dE P "read_side" 365 (.ref 109), dE P "read_sort" 375 (.ref 116), dE P "read_number" 388 (.ref 123), dE P "_law_feed" 400 (.ref 130), dE P "_law_draw" 410 (.ref 137), dE P "_law_names" 416 (.ref 142), dE P "_law_rule" 422 (.ref 147), dE P "_law_pot" 428 (.ref 152), dE P "_law_side" 438 (.ref 159), dE P "_law_lines" 444 (.ref 164), dE P "_law_is_name" 450 (.ref 169), dE P "_law_number" 456 (.ref 174), dE P "_law_side_fault" 468 (.ref 181), dE P "_law_rule_fault" 480 (.ref 188), dE P "_law_head_fault" 494 (.ref 195), dE P "_law_fault" 505 (.ref 202), dE P "_law_asked" 514 (.ref 209), dE P "_law_read_right" 524 (.ref 216), dE P "_law_word" 535 (.ref 223), dE P "_law_line_spoilt" 547 (.ref 230), dE P "_law_spoilt" 558 (.ref 237), dE P "law" 571 (.ref 244)] 57), #[]⟩) ::
 (nat_lit 23, ⟨(.type "dict"), none, (.dict #[dE P "__module__" 196 (.str "dropsums.errors" 187), dE P "__firstlineno__" 200 (.int 2 199), dE P "__static_attributes__" 201 (.ref 22), dE P "__weakref__" 203 (.ref 25), dE P "__doc__" 204 .none] 3), #[]⟩) ::
 (nat_lit 24, ⟨(.type "type"), none, (.cls ⟨"DropError", [(.type "ValueError")], [(.ref 24), (.type "ValueError"), (.type "Exception"), (.type "BaseException"), (.type "object")], 23, "DropError", true, [], [(.ref 44)], false, none, false⟩), #[(some (.ref 15)), none, (some (.str "DropError" 189)), (some (.str "DropError" 197)), (some (.builtin "ValueError.__new__")), (some (.bool true))]⟩) ::
 (nat_lit 40, cO "__init__" 219 "NoPot.__init__" 220 221 6 3 3 (.ref 35) (.ref 36) (.ref 37) (.ref 38) (.ref 39) 225 226) ::
 (nat_lit 41, fO "__init__" "NoPot.__init__" (Wc (top 2) 0) "dropsums.errors" 187 40) ::
 (nat_lit 43, ⟨(.type "dict"), none, (.dict #[dE P "__module__" 214 (.str "dropsums.errors" 187), dE P "__firstlineno__" 218 (.int 4 217), dE P "__init__" 227 (.ref 41), dE P "__static_attributes__" 230 (.ref 42), dE P "__doc__" 231 .none] 2), #[]⟩) ::
 (nat_lit 44, ⟨(.type "type"), none, (.cls ⟨"NoPot", [(.ref 24)], [(.ref 44), (.ref 24), (.type "ValueError"), (.type "Exception"), (.type "BaseException"), (.type "object")], 43, "NoPot", true, [], [], false, none, false⟩), #[(some (.ref 28)), none, (some (.str "NoPot" 207)), (some (.str "NoPot" 215)), (some (.builtin "ValueError.__new__")), (some (.bool true))]⟩) ::
 (nat_lit 50, cO "is_figures" 238 "is_figures" 239 240 11 1 3 (.ref 47) (.ref 48) .none .none (.ref 49) 241 242) ::
 (nat_lit 51, fO "is_figures" "is_figures" (top 5) "dropsums.figures" 234 50) ::
 (nat_lit 52, ⟨(.type "tuple"), none, (.seq #[(.str "sorts" 260), (.str "begin" 261), (.str "in" 262), (.str "out" 263), (.str "rule" 264), (.str "to" 265)] 0), #[]⟩) ::
 (nat_lit 56, cO "is_name" 267 "is_name" 268 269 24 1 3 (.ref 53) (.ref 54) .none .none (.ref 55) 270 271) ::
 (nat_lit 57, fO "is_name" "is_name" (top 15) "dropsums.pots" 244 56) ::
 (nat_lit 61, cO "read_pot" 287 "read_pot" 288 289 35 1 3 (.ref 58) (.ref 59) .none .none (.ref 60) 290 291) ::
 (nat_lit 62, fO "read_pot" "read_pot" (top 23) "dropsums.potlines" 273 61) ::
 (nat_lit 68, cO "words_of" 293 "words_of" 294 295 42 3 3 (.ref 63) (.ref 64) (.ref 65) (.ref 66) (.ref 67) 300 301) ::
 (nat_lit 69, fO "words_of" "words_of" (top 24) "dropsums.potlines" 273 68) ::
 (nat_lit 75, cO "read_sorts" 303 "read_sorts" 304 305 49 1 3 (.ref 70) (.ref 71) (.ref 72) (.ref 73) (.ref 74) 311 312) ::
 (nat_lit 76, fO "read_sorts" "read_sorts" (top 25) "dropsums.potlines" 273 75) ::
 (nat_lit 82, cO "read_begin" 314 "read_begin" 315 316 60 2 3 (.ref 77) (.ref 78) (.ref 79) (.ref 80) (.ref 81) 322 323) ::
 (nat_lit 83, fO "read_begin" "read_begin" (top 26) "dropsums.potlines" 273 82) ::
 (nat_lit 89, cO "read_inputs" 325 "read_inputs" 326 327 70 2 3 (.ref 84) (.ref 85) (.ref 86) (.ref 87) (.ref 88) 334 335) ::
 (nat_lit 90, fO "read_inputs" "read_inputs" (top 27) "dropsums.potlines" 273 89) ::
 (nat_lit 96, cO "read_answer" 337 "read_answer" 338 339 79 2 3 (.ref 91) (.ref 92) (.ref 93) (.ref 94) (.ref 95) 344 345) ::
 (nat_lit 97, fO "read_answer" "read_answer" (top 28) "dropsums.potlines" 273 96) ::
 (nat_lit 103, cO "read_rule" 347 "read_rule" 348 349 87 3 3 (.ref 98) (.ref 99) (.ref 100) (.ref 101) (.ref 102) 357 358) ::
 (nat_lit 104, fO "read_rule" "read_rule" (top 29) "dropsums.potlines" 273 103) ::
 (nat_lit 108, cO "read_side" 360 "read_side" 361 362 99 5 3 (.ref 105) (.ref 106) .none .none (.ref 107) 363 364) ::
 (nat_lit 109, fO "read_side" "read_side" (top 30) "dropsums.potlines" 273 108) ::
 (nat_lit 115, cO "read_sort" 366 "read_sort" 367 368 112 4 3 (.ref 110) (.ref 111) (.ref 112) (.ref 113) (.ref 114) 373 374) ::
 (nat_lit 116, fO "read_sort" "read_sort" (top 31) "dropsums.potlines" 273 115) ::
 (nat_lit 122, cO "read_number" 376 "read_number" 377 378 116 5 3 (.ref 117) (.ref 118) (.ref 119) (.ref 120) (.ref 121) 386 387) ::
 (nat_lit 123, fO "read_number" "read_number" (top 32) "dropsums.potlines" 273 122) ::
 (nat_lit 129, cO "_law_feed" 391 "_law_feed" 392 393 125 2 3 (.ref 124) (.ref 125) (.ref 126) (.ref 127) (.ref 128) 398 399) ::
 (nat_lit 130, fO "_law_feed" "_law_feed" (top 34) "law_dropsums_k04_pot_lines_spoilt" 389 129) ::
 (nat_lit 136, cO "_law_draw" 401 "_law_draw" 402 403 131 2 3 (.ref 131) (.ref 132) (.ref 133) (.ref 134) (.ref 135) 408 409) ::
 (nat_lit 137, fO "_law_draw" "_law_draw" (top 35) "law_dropsums_k04_pot_lines_spoilt" 389 136) ::
 (nat_lit 141, cO "_law_names" 411 "_law_names" 412 413 140 2 3 (.ref 138) (.ref 139) .none .none (.ref 140) 414 415) ::
 (nat_lit 142, fO "_law_names" "_law_names" (top 36) "law_dropsums_k04_pot_lines_spoilt" 389 141) ::
 (nat_lit 146, cO "_law_rule" 417 "_law_rule" 418 419 145 2 3 (.ref 143) (.ref 144) .none .none (.ref 145) 420 421) ::
 (nat_lit 147, fO "_law_rule" "_law_rule" (top 37) "law_dropsums_k04_pot_lines_spoilt" 389 146) ::
 (nat_lit 151, cO "_law_pot" 423 "_law_pot" 424 425 163 1 3 (.ref 148) (.ref 149) .none .none (.ref 150) 426 427) ::
 (nat_lit 152, fO "_law_pot" "_law_pot" (top 38) "law_dropsums_k04_pot_lines_spoilt" 389 151) ::
 (nat_lit 158, cO "_law_side" 429 "_law_side" 430 431 173 2 3 (.ref 153) (.ref 154) (.ref 155) (.ref 156) (.ref 157) 436 437) ::
 (nat_lit 159, fO "_law_side" "_law_side" (top 39) "law_dropsums_k04_pot_lines_spoilt" 389 158) ::
 (nat_lit 163, cO "_law_lines" 439 "_law_lines" 440 441 179 1 3 (.ref 160) (.ref 161) .none .none (.ref 162) 442 443) ::
 (nat_lit 164, fO "_law_lines" "_law_lines" (top 40) "law_dropsums_k04_pot_lines_spoilt" 389 163) ::
 (nat_lit 168, cO "_law_is_name" 445 "_law_is_name" 446 447 187 1 3 (.ref 165) (.ref 166) .none .none (.ref 167) 448 449) ::
 (nat_lit 169, fO "_law_is_name" "_law_is_name" (top 41) "law_dropsums_k04_pot_lines_spoilt" 389 168) ::
 (nat_lit 173, cO "_law_number" 451 "_law_number" 452 453 191 3 3 (.ref 170) (.ref 171) .none .none (.ref 172) 454 455) ::
 (nat_lit 174, fO "_law_number" "_law_number" (top 42) "law_dropsums_k04_pot_lines_spoilt" 389 173) ::
 (nat_lit 180, cO "_law_side_fault" 457 "_law_side_fault" 458 459 193 4 3 (.ref 175) (.ref 176) (.ref 177) (.ref 178) (.ref 179) 466 467) ::
 (nat_lit 181, fO "_law_side_fault" "_law_side_fault" (top 43) "law_dropsums_k04_pot_lines_spoilt" 389 180) ::
 (nat_lit 187, cO "_law_rule_fault" 469 "_law_rule_fault" 470 471 207 2 3 (.ref 182) (.ref 183) (.ref 184) (.ref 185) (.ref 186) 478 479) ::
 (nat_lit 188, fO "_law_rule_fault" "_law_rule_fault" (top 44) "law_dropsums_k04_pot_lines_spoilt" 389 187) ::
 (nat_lit 194, cO "_law_head_fault" 481 "_law_head_fault" 482 483 215 2 3 (.ref 189) (.ref 190) (.ref 191) (.ref 192) (.ref 193) 492 493) ::
 (nat_lit 195, fO "_law_head_fault" "_law_head_fault" (top 45) "law_dropsums_k04_pot_lines_spoilt" 389 194) ::
 (nat_lit 201, cO "_law_fault" 495 "_law_fault" 496 497 231 1 3 (.ref 196) (.ref 197) (.ref 198) (.ref 199) (.ref 200) 503 504) ::
 (nat_lit 202, fO "_law_fault" "_law_fault" (top 46) "law_dropsums_k04_pot_lines_spoilt" 389 201) ::
 (nat_lit 208, cO "_law_asked" 506 "_law_asked" 507 508 245 1 3 (.ref 203) (.ref 204) (.ref 205) (.ref 206) (.ref 207) 512 513) ::
 (nat_lit 209, fO "_law_asked" "_law_asked" (top 47) "law_dropsums_k04_pot_lines_spoilt" 389 208) ::
 (nat_lit 215, cO "_law_read_right" 515 "_law_read_right" 516 517 254 1 3 (.ref 210) (.ref 211) (.ref 212) (.ref 213) (.ref 214) 522 523) ::
 (nat_lit 216, fO "_law_read_right" "_law_read_right" (top 48) "law_dropsums_k04_pot_lines_spoilt" 389 215) ::
 (nat_lit 222, cO "_law_word" 525 "_law_word" 526 527 263 2 3 (.ref 217) (.ref 218) (.ref 219) (.ref 220) (.ref 221) 533 534) ::
 (nat_lit 223, fO "_law_word" "_law_word" (top 49) "law_dropsums_k04_pot_lines_spoilt" 389 222) ::
 (nat_lit 229, cO "_law_line_spoilt" 536 "_law_line_spoilt" 537 538 270 3 3 (.ref 224) (.ref 225) (.ref 226) (.ref 227) (.ref 228) 545 546) ::
 (nat_lit 230, fO "_law_line_spoilt" "_law_line_spoilt" (top 50) "law_dropsums_k04_pot_lines_spoilt" 389 229) ::
 (nat_lit 236, cO "_law_spoilt" 548 "_law_spoilt" 549 550 289 2 3 (.ref 231) (.ref 232) (.ref 233) (.ref 234) (.ref 235) 556 557) ::
 (nat_lit 237, fO "_law_spoilt" "_law_spoilt" (top 51) "law_dropsums_k04_pot_lines_spoilt" 389 236) ::
 (nat_lit 243, cO "law" 559 "law" 560 561 307 1 3 (.ref 238) (.ref 239) (.ref 240) (.ref 241) (.ref 242) 569 570) ::
 (nat_lit 244, fO "law" "law" (top 52) "law_dropsums_k04_pot_lines_spoilt" 389 243) :: []
noncomputable def KA : List Addr := 3 :: 23 :: 24 :: 40 :: 41 :: 43 :: 44 :: 50 :: 51 :: 52 :: 56 :: 57 :: 61 :: 62 :: 68 :: 69 :: 75 :: 76 :: 82 :: 83 :: 89 :: 90 :: 96 :: 97 :: 103 :: 104 :: 108 :: 109 :: 115 :: 116 :: 122 :: 123 :: 129 :: 130 :: 136 :: 137 :: 141 :: 142 :: 146 :: 147 :: 151 :: 152 :: 158 :: 159 :: 163 :: 164 :: 168 :: 169 :: 173 :: 174 :: 180 :: 181 :: 187 :: 188 :: 194 :: 195 :: 201 :: 202 :: 208 :: 209 :: 215 :: 216 :: 222 :: 223 :: 229 :: 230 :: 236 :: 237 :: 243 :: 244 :: []
theorem ke : ∀ P, KA = (KK P).map (·.1) := fun _ => by kernel_rfl
noncomputable def VW : Program := { PySem.Challenge.pw_dropsums_k04_pot_lines_spoilt with main := { PySem.Challenge.pw_dropsums_k04_pot_lines_spoilt.main with body := ([1, 2, 4, 5, 7, 8, 9, 10, 11, 12, 13, 14, 15, 17, 18, 19, 20, 21, 22, 23, 24, 25, 26, 27, 28, 29, 30, 31, 32, 34, 35, 36, 37, 38, 39, 40, 41, 42, 43, 44, 45, 46, 47, 48, 49, 50, 51, 52] : List Nat).map top } }
noncomputable abbrev RR := PySem.Challenge.rw_dropsums_k04_pot_lines_spoilt.row
theorem said0 : PySem.Challenge.rw_dropsums_k04_pot_lines_spoilt.wellSaid = true := by decide +kernel
theorem left0 : PySem.W.LeftO RR.prog VW [] (fun s => PySem.W.xlAt VW [] s && PySem.W.recOk (PySem.W.RowW.records RR.toRowW) s) (PySem.W.Hook.obs (PySem.W.kHook KK KA ke)) (PySem.W.Hook.val (PySem.W.kHook KK KA ke)) 3280 := fun w => by kernel_rfl
end K04
open PySem PySem.W PyProof.Rows
set_option maxRecDepth 100000 in
set_option maxHeartbeats 0 in
theorem PySem.Challenge.cw_dropsums_k04_pot_lines_spoilt_holds : PySem.Challenge.rw_dropsums_k04_pot_lines_spoilt.Holds := by
 w_on
 refine PySem.W.holds_law K04.said0 fun said => ?_
 refine PySem.W.holds_open (q := K04.VW) (loose := []) (Xt := fun s => PySem.W.xlAt K04.VW [] s && PySem.W.recOk (PySem.W.RowW.records K04.RR.toRowW) s) (XP := PySem.W.XL K04.VW []) (Yf := PySem.W.Hook.obs (PySem.W.kHook K04.KK K04.KA K04.ke)) (Ya := PySem.W.Hook.val (PySem.W.kHook K04.KK K04.KA K04.ke)) (YP := PySem.W.Hook.says (PySem.W.kHook K04.KK K04.KA K04.ke)) (N := 3280) K04.left0 (PySem.W.Hook.of _) (PySem.W.Hook.keeps _) (fun s e => PySem.W.xl_of s (Bool.and_eq_true_iff.mp e).1) PySem.W.XL.keeps (by rfl) (by rfl) (by rfl) (fun s e => PySem.W.recFacts_of (Bool.and_eq_true_iff.mp e).2) (by rfl) said (by decide +kernel) ⟨rfl, rfl, rfl, rfl, rfl, by decide +kernel⟩ ?hw ?hc
 case hw => w_witness2
 k_fill
 refine K04.walk (l := PySem.Challenge.rw_dropsums_k04_pot_lines_spoilt) rfl rfl (fun w h Y => PySem.W.kIn_of Y) ?F
 case F =>
  intro w mg fa h KX G hmg
  refine' K04.all_mk KX G hmg ?a1 ?l1 ?c1 ?k1 ?a2 ?l2 ?c2 ?k2 ?a3 ?l3 ?c3 ?k3 ?a4 ?l4 ?c4 ?k4 ?a5 ?l5 ?c5 ?k5 ?a6 ?l6 ?c6 ?k6 ?a7 ?l7 ?c7 ?k7 ?a8 ?l8 ?c8 ?k8 ?a9 ?l9 ?c9 ?k9 ?a10 ?l10 ?c10 ?k10 ?a11 ?l11 ?c11 ?k11 ?a12 ?l12 ?c12 ?k12 ?a13 ?l13 ?c13 ?k13 ?a14 ?l14 ?c14 ?k14 ?a15 ?l15 ?c15 ?k15 ?a16 ?l16 ?c16 ?k16 ?a17 ?l17 ?c17 ?k17 ?a18 ?l18 ?c18 ?k18 ?a19 ?l19 ?c19 ?k19 ?a20 ?l20 ?c20 ?k20 ?a21 ?l21 ?c21 ?k21 ?a22 ?l22 ?c22 ?k22 ?a23 ?l23 ?c23 ?k23 ?a24 ?l24 ?c24 ?k24 ?a25 ?l25 ?c25 ?k25 ?a26 ?l26 ?c26 ?k26 ?a27 ?l27 ?c27 ?k27 ?a28 ?l28 ?c28 ?k28 ?a29 ?l29 ?c29 ?k29 ?a30 ?l30 ?c30 ?k30 ?a31 ?l31 ?c31 ?k31 ?z1 ?z2 ?z3 ?z4 ?z5 ?z6 ?z7 ?z8 ?z9 ?z10 ?z11 ?z12 ?z13 ?z14 ?z15 ?z16 ?z17 ?z18 ?z19 ?z20 ?z21 ?g1 ?g2 ?g3 ?g4 ?g5 ?g6 ?g7 ?g8 ?g9 ?g10 ?g11 ?g12 ?g13 ?g14 ?tg1 ?tl1 ?xa0 ?xl0 ?xa1 ?xl1 ?xg1 ?xt1 ?xs1 ?xc1 ?xsg ?xtk ?xnd ?ii1 ?il1 ?ie1 ?if1 ?ik1 ?im1 ?iq1_0 ?iq1_1
  (case a1 => k_is)
  (case l1 => k_is)
  (case c1 => k_is)
  (case k1 => k_is)
  (case a2 => k_is)
  (case l2 => k_is)
  (case c2 => k_is)
  (case k2 => k_is)
  (case a3 => k_is)
  (case l3 => k_is)
  (case c3 => k_is)
  (case k3 => k_is)
  (case a4 => k_is)
  (case l4 => k_is)
  (case c4 => k_is)
  (case k4 => k_is)
  (case a5 => k_is)
  (case l5 => k_is)
  (case c5 => k_is)
  (case k5 => k_is)
  (case a6 => k_is)
  (case l6 => k_is)
  (case c6 => k_is)
  (case k6 => k_is)
  (case a7 => k_is)
  (case l7 => k_is)
  (case c7 => k_is)
  (case k7 => k_is)
  (case a8 => k_is)
  (case l8 => k_is)
  (case c8 => k_is)
  (case k8 => k_is)
  (case a9 => k_is)
  (case l9 => k_is)
  (case c9 => k_is)
  (case k9 => k_is)
  (case a10 => k_is)
  (case l10 => k_is)
  (case c10 => k_is)
  (case k10 => k_is)
  (case a11 => k_is)
  (case l11 => k_is)
  (case c11 => k_is)
  (case k11 => k_is)
  (case a12 => k_is)
  (case l12 => k_is)
  (case c12 => k_is)
  (case k12 => k_is)
  (case a13 => k_is)
  (case l13 => k_is)
  (case c13 => k_is)
  (case k13 => k_is)
  (case a14 => k_is)
  (case l14 => k_is)
  (case c14 => k_is)
  (case k14 => k_is)
  (case a15 => k_is)
  (case l15 => k_is)
  (case c15 => k_is)
  (case k15 => k_is)
  (case a16 => k_is)
  (case l16 => k_is)
  (case c16 => k_is)
  (case k16 => k_is)
  (case a17 => k_is)
  (case l17 => k_is)
  (case c17 => k_is)
  (case k17 => k_is)
  (case a18 => k_is)
  (case l18 => k_is)
  (case c18 => k_is)
  (case k18 => k_is)
  (case a19 => k_is)
  (case l19 => k_is)
  (case c19 => k_is)
  (case k19 => k_is)
  (case a20 => k_is)
  (case l20 => k_is)
  (case c20 => k_is)
  (case k20 => k_is)
  (case a21 => k_is)
  (case l21 => k_is)
  (case c21 => k_is)
  (case k21 => k_is)
  (case a22 => k_is)
  (case l22 => k_is)
  (case c22 => k_is)
  (case k22 => k_is)
  (case a23 => k_is)
  (case l23 => k_is)
  (case c23 => k_is)
  (case k23 => k_is)
  (case a24 => k_is)
  (case l24 => k_is)
  (case c24 => k_is)
  (case k24 => k_is)
  (case a25 => k_is)
  (case l25 => k_is)
  (case c25 => k_is)
  (case k25 => k_is)
  (case a26 => k_is)
  (case l26 => k_is)
  (case c26 => k_is)
  (case k26 => k_is)
  (case a27 => k_is)
  (case l27 => k_is)
  (case c27 => k_is)
  (case k27 => k_is)
  (case a28 => k_is)
  (case l28 => k_is)
  (case c28 => k_is)
  (case k28 => k_is)
  (case a29 => k_is)
  (case l29 => k_is)
  (case c29 => k_is)
  (case k29 => k_is)
  (case a30 => k_is)
  (case l30 => k_is)
  (case c30 => k_is)
  (case k30 => k_is)
  (case a31 => k_is)
  (case l31 => k_is)
  (case c31 => k_is)
  (case k31 => k_is)
  (case z1 => k_is)
  (case z2 => k_is)
  (case z3 => k_is)
  (case z4 => k_is)
  (case z5 => k_is)
  (case z6 => k_is)
  (case z7 => k_is)
  (case z8 => k_is)
  (case z9 => k_is)
  (case z10 => k_is)
  (case z11 => k_is)
  (case z12 => k_is)
  (case z13 => k_is)
  (case z14 => k_is)
  (case z15 => k_is)
  (case z16 => k_is)
  (case z17 => k_is)
  (case z18 => k_is)
  (case z19 => k_is)
  (case z20 => k_is)
  (case z21 => k_is)
  (case g1 => k_is)
  (case g2 => k_is)
  (case g3 => k_is)
  (case g4 => k_is)
  (case g5 => k_is)
  (case g6 => k_is)
  (case g7 => k_is)
  (case g8 => k_is)
  (case g9 => k_is)
  (case g10 => k_is)
  (case g11 => k_is)
  (case g12 => k_is)
  (case g13 => k_is)
  (case g14 => k_is)
  (case tg1 => k_is)
  (case tl1 => k_is)
  (case xa0 => k_is)
  (case xl0 => k_is)
  (case xa1 => k_is)
  (case xl1 => k_is)
  (case xg1 => k_is)
  (case xt1 => k_is)
  (case xs1 => k_is)
  (case xc1 => k_is)
  (case xsg => k_is)
  (case xtk => k_is)
  (case xnd => decide)
  (case ii1 => k_is)
  (case il1 => k_is)
  (case ie1 => k_is)
  (case if1 => k_is)
  (case ik1 => k_is)
  (case im1 => k_is)
  (case iq1_0 => k_is)
  (case iq1_1 => k_is)
