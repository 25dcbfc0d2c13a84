import PyProof.Rows.All
import Wide.All
import OpenK.AllK
import Wide.FinOn
import Lean
import PyProof.EqAt
import PyProof.EqKinds
import PyProof.TupleCall
import PyProof.Rows.SumAny
import PyProof.Draws
import PyProof.ZipIter
import PyProof.EnumMake
import PyProof.Rows.ZipGen
import PyProof.FitsInt
import PyProof.ReprLen
import KE.IntBitsLaws
import PyProof.NeData
import PyProof.ConsumeWalk
import PyProof.WalkInts
import PyProof.Rows.SeqMore
import PyProof.ListMulRoad
import PyProof.DictUpdate
import KE.KRevSl
import PyProof.MeetsStr
import PyProof.StrBlockG
import PyProof.CallStr
import KE.KIntText
import PyProof.StrLawsTight
import PyProof.StrLawsChain
import PyProof.StrLawsJoin
import PyProof.StrWalks
import KE.KSortTup
import PyProof.TupleOfStr
import PyProof.ListRange
import PyProof.SliceStr
import PyProof.StrBlockI
import PyProof.SeqRoads
import PyProof.NsDelKeeps
import PyProof.RulesAs
import KE.KIsAll
import PyProof.Rows.SetFrom
import PyProof.WalksMore
import PyProof.FactsAll.subtypes_4
import PyProof.MeetsStr2
import PyProof.Rows.Range3
import PyProof.StrLawsRepr
import PyProof.StrOps2
import PyProof.ListStr
import PyProof.StrLawsIn
import PyProof.StrLawsIdx
import PyProof.StrCalls6
import PyProof.MeetsStr3
import PyProof.StrOps
import KE.KDictList
import PyProof.Rows.TupDisplay
import PySem.Challenge.RW_dropsums_k11_problems_weighed
theorem sz1 : 1 ≤ PySem.sizeLine := by decide
theorem sz2 : 2 ≤ PySem.sizeLine := by decide
theorem sz3 : 3 ≤ PySem.sizeLine := by decide
theorem sz4 : 4 ≤ PySem.sizeLine := by decide
-- CHANGE: your row's module here, as the last of these rows
set_option Elab.async false
set_option linter.all false
set_option maxRecDepth 100000
set_option maxHeartbeats 4000000
theorem sz0 : 0 ≤ PySem.sizeLine := by decide
theorem sz5 : 5 ≤ PySem.sizeLine := by decide
theorem sz6 : 6 ≤ PySem.sizeLine := by decide
theorem sz7 : 7 ≤ PySem.sizeLine := by decide
namespace L2
open PySem PySem.Spec PyProof.Rows
abbrev Key := Sum Int Str
def Xu : Key → Value → Bool
 | .inl k, v => Value.isInt k v
 | .inr x, v => Value.isStrOf x v
def keyH (w : World) : Key → Int
 | .inl k => hashInt k
 | .inr x => hashStr w x
theorem zK : ∀ {k : Key} {v : Value}, Xu k v = true → (∃ i t, k = Sum.inl i ∧ v = Value.int i t) ∨ (∃ x t, k = Sum.inr x ∧ v = Value.str x t)
 | .inl i, v, h => by
  obtain ⟨t, e⟩ := Value.isInt_shape (k := i) (v := v) h
  exact .inl ⟨i, t, rfl, e⟩
 | .inr x, v, h => by
  obtain ⟨t, e⟩ := Value.isStrOf_shape (x := x) (v := v) h
  exact .inr ⟨x, t, rfl, e⟩
theorem key_ll (a b : Int) : decide ((Sum.inl a : Key) = Sum.inl b) = (a == b) := by
 by_cases e : a = b
 ·subst e; simp
 ·have h : ¬ (Sum.inl a : Key) = Sum.inl b := fun q => e (Sum.inl.inj q)
  rw [decide_eq_false h]
  exact (beq_eq_false_iff_ne.mpr e).symm
theorem key_rr (a b : Str) : decide ((Sum.inr a : Key) = Sum.inr b) = decide (a = b) := by
 by_cases e : a = b
 ·subst e; simp
 ·have h : ¬ (Sum.inr a : Key) = Sum.inr b := fun q => e (Sum.inr.inj q)
  rw [decide_eq_false h, decide_eq_false e]
theorem key_lr (a : Int) (b : Str) : decide ((Sum.inl a : Key) = Sum.inr b) = false := decide_eq_false (fun q => nomatch q)
theorem key_rl (a : Str) (b : Int) : decide ((Sum.inr a : Key) = Sum.inl b) = false := decide_eq_false (fun q => nomatch q)
def Yd (prog : Program) (w : World) : PySem.KeyKind prog w Key where
 is := Xu
 hash := keyH w
 inj := fun v a b ha hb => by
  rcases zK ha with ⟨i, t, rfl, rfl⟩ | ⟨x, t, rfl, rfl⟩
  ·rcases zK hb with ⟨j, u, rfl, e⟩ | ⟨y, u, rfl, e⟩
   ·injection e with e1 _; rw [e1]
   ·exact nomatch e
  ·rcases zK hb with ⟨j, u, rfl, e⟩ | ⟨y, u, rfl, e⟩
   ·exact nomatch e
   ·injection e with e1 _; rw [e1]
 byValue := fun k v h => by
  rcases zK h with ⟨i, t, rfl, rfl⟩ | ⟨x, t, rfl, rfl⟩ <;> rfl
 pyHash := fun hv h => by
  rcases zK hv with ⟨i, t, rfl, rfl⟩ | ⟨x, t, rfl, rfl⟩
  ·exact wpAny_pyHash_int h
  ·exact wpAny_pyHash_str h
 eqBool := fun hu hv h => by
  rcases zK hu with ⟨i, t, rfl, rfl⟩ | ⟨x, t, rfl, rfl⟩
  ·rcases zK hv with ⟨j, u, rfl, rfl⟩ | ⟨y, u, rfl, rfl⟩
   ·rw [key_ll] at h; exact wpAny_eqBool_int h
   ·rw [key_lr] at h; exact SeqAt.EqAt.int_str i t y u _ _ _ _ h
  ·rcases zK hv with ⟨j, u, rfl, rfl⟩ | ⟨y, u, rfl, rfl⟩
   ·rw [key_rl] at h; exact SeqAt.EqAt.str_int x t j u _ _ _ _ h
   ·rw [key_rr] at h; exact wpAny_eqBool_str h
 «strs» := fun k x t v h => by
  rcases zK h with ⟨i, u, rfl, e⟩ | ⟨y, u, rfl, e⟩
  ·exact nomatch e
  ·injection e with e1 _
   subst e1
   cases v <;> rfl
inductive V where
 | non | bl (b : Bool) | int (i : Int) | str (x : Str) | byt (b : Array UInt8) | flt (b : UInt64) | ref (a : Addr) | ty (n : String)
 deriving DecidableEq
def RelV : V → Value → Prop
 | .non, u => u = Value.none
 | .bl b, u => u = Value.bool b
 | .int i, u => ∃ t, u = Value.int i t
 | .str x, u => ∃ t, u = Value.str x t
 | .byt b, u => ∃ t, u = Value.bytes b t
 | .flt b, u => ∃ t, u = Value.float b t
 | .ref a, u => u = Value.ref a
 | .ty n, u => u = Value.type n
abbrev Vals : List V → List Value → Prop := Paired RelV
theorem Vals.length {xs : List V} {us : List Value} (r : Vals xs us) : xs.length = us.length := Paired.length r
theorem Vals.get : ∀ {xs : List V} {us : List Value} {i : Nat} {x : V}, Vals xs us → xs[i]? = some x → ∃ u, us[i]? = some u ∧ RelV x u
 | _, _, _, _, .nil, e => by simp at e
 | _, _, 0, _, .cons r _, e => by simp at e; subst e; exact ⟨_, rfl, r⟩
 | _, _, i + 1, x, .cons _ t, e => by
  obtain ⟨u, h1, h2⟩ := Vals.get (i := i) (x := x) t (by simpa using e)
  exact ⟨u, by simpa using h1, h2⟩
theorem Vals.set {x : V} {u : Value} (r : RelV x u) : ∀ {xs : List V} {us : List Value} (i : Nat), Vals xs us → Vals (xs.set i x) (us.set i u)
 | _, _, _, .nil => .nil
 | _, _, 0, .cons _ t => .cons r t
 | _, _, i + 1, .cons q t => .cons q (Vals.set r i t)
theorem Vals.append : ∀ {xs ys : List V} {us ws : List Value}, Vals xs us → Vals ys ws → Vals (xs ++ ys) (us ++ ws)
 | _, _, _, _, .nil, s => s
 | _, _, _, _, .cons r t, s => .cons r (Vals.append t s)
theorem Vals.take : ∀ {xs : List V} {us : List Value} (n : Nat), Vals xs us → Vals (xs.take n) (us.take n)
 | _, _, 0, _ => .nil
 | _, _, _ + 1, .nil => .nil
 | _, _, n + 1, .cons r t => .cons r (Vals.take n t)
theorem Vals.drop : ∀ {xs : List V} {us : List Value} (n : Nat), Vals xs us → Vals (xs.drop n) (us.drop n)
 | _, _, 0, r => r
 | _, _, _ + 1, .nil => .nil
 | _, _, n + 1, .cons _ t => Vals.drop n t
def RelO : Option V → Option Value → Prop
 | some v, some u => RelV v u
 | none, none => True
 | _, _ => False
def KV {κ : Type} : List (κ × V) → List (κ × Value) → Prop := Paired fun (p : κ × V) (q : κ × Value) => p.1 = q.1 ∧ RelV p.2 q.2
def kV : Key → V
 | .inl i => .int i
 | .inr x => .str x
inductive HO where
 | lst (xs : List V)
 | tup (xs : List V)
 | dK (kvs : List (Key × V)) | dT (kvs : List (List Key × V))
 | set (S : Int → Bool) (n : Nat)
 | ins (C dx : Addr) (fs : List (Str × V))
 | own (x : Addr)
 | xd (fs : List (Str × V))
 | met (f x : Addr)
 | rng (lo hi : Int)
 | frz (o : Obj) (u : HO)
 | tbl (ps : Array Value)
 | ext (φ : Heap → Prop)
abbrev Hp := Addr → Option HO
def upd (H : Hp) (a : Addr) (o : HO) : Hp := fun b => if b = a then some o else H b
theorem zf {H : Hp} {a : Addr} {o : HO} : upd H a o a = some o := by unfold upd; rw [if_pos rfl]
theorem zh {H : Hp} {a b : Addr} {o : HO} (h : b ≠ a) : upd H a o b = H b := by unfold upd; rw [if_neg h]
theorem vL {H : Hp} {a : Addr} {o u : HO} : upd (upd H a o) a u = upd H a u := by
 funext b; unfold upd; split <;> rfl
theorem Xq {H : Hp} {a b : Addr} {o u : HO} (h : H a = some o) (h' : H b = some u) (d : o ≠ u) : a ≠ b := by
 intro e; subst e; rw [h] at h'; exact d (Option.some.inj h')
theorem zg {H : Hp} {a b : Addr} {o : HO} (h : H a = some o) (h' : H b = none) : a ≠ b := by
 intro e; subst e; rw [h] at h'; cases h'
section
variable (P : Program) (w : World)
def ObjOk (H : Hp) (h : Heap) (a : Addr) : HO → Prop
 | .lst xs => xs.length ≤ sizeLine ∧ ∃ (its : List Value) (n : Nat), Vals xs its ∧ h.get? a = some { cls := .type "list", data := .seq its.toArray n }
 | .tup xs => xs.length ≤ sizeLine ∧ ∃ its : List Value, Vals xs its ∧ IsTup h a its.toArray
 | .dK kvs => kvs.length ≤ sizeLine ∧ (a == sysModules) = false ∧ ∃ vs, KV kvs vs ∧ h.DictOf (Yd P w) a vs
 | .dT kvs => kvs.length ≤ sizeLine ∧ (a == sysModules) = false ∧ ∃ xs : List (List Key × Addr × Value),
   Paired (fun (p : List Key × V) (q : List Key × Addr × Value) => p.1 = q.1 ∧ H q.2.1 = some (.tup (p.1.map kV)) ∧ RelV p.2 q.2.2) kvs xs ∧
   ∃ o es ep, h.get? a = some o ∧ o.ExactDict ∧ o.data = .dict es ep ∧ es.toList = xs.map (entryOfKey (tupleKind (Yd P w))) ∧ (xs.map (·.1)).Nodup
 | .set S n => h.SetOf (intKind P w) a S n
 | .ins C dx fs => H dx = some (.own a) ∧ fs.length ≤ 1000 ∧ dx ≠ a ∧ h.get? a = some (PySem.W.instObj C dx) ∧
   ∃ mA, h.Ns1 dx mA ∧ (∀ f, RelO (fs.lookup f) (mA f)) ∧ PySem.Within mA (fs.map (·.1))
 | .own _ => ∃ o, h.get? a = some o
 | .xd fs => ∃ mA, h.Ns1 a mA ∧ ∀ f, RelO (fs.lookup f) (mA f)
 | .rng lo hi => ∃ t u v, h.get? a = some { cls := .type "range", data := .fields #[.int lo t, .int hi u, .int 1 v] }
 | .frz o u => h.get? a = some o ∧ ObjOk H h a u
 | .tbl ps => h.get? a = some { cls := .none, data := .fields ps }
 | .met f x => h.get? a = some (PySem.W.methodObj (.ref f) (.ref x))
 | .ext φ => φ h ∧ (∃ o, h.get? a = some o) ∧ ∀ h1 h2 : Heap, φ h1 → (∀ o, h1.get? a = some o → h2.get? a = some o) → φ h2
def HOk (H : Hp) (h : Heap) : Prop := ∀ a o, H a = some o → ObjOk P w H h a o
end
section
variable {P : Program} {w : World} {H H' : Hp} {h h' : Heap} {a : Addr} {o : HO}
theorem ObjOk.lt (x : ObjOk P w H h a o) : a < h.objs.size := by
 cases o with
 | lst xs => obtain ⟨_, _, _, _, e⟩ := x; exact Heap.lt_size e
 | tup xs => obtain ⟨_, _, _, p⟩ := x; exact p.lt
 | dK kvs => obtain ⟨_, _, _, _, o, _, _, e, _⟩ := x; exact Heap.lt_size e
 | dT kvs => obtain ⟨_, _, _, _, o, _, _, e, _⟩ := x; exact Heap.lt_size e
 | set S n => obtain ⟨o, _, _, _, e, _⟩ := x; exact Heap.lt_size e
 | ins C dx fs => obtain ⟨_, _, _, e, _⟩ := x; exact Heap.lt_size e
 | own y => obtain ⟨_, e⟩ := x; exact Heap.lt_size e
 | xd fs => obtain ⟨_, ⟨_, _, _, e, _⟩, _⟩ := x; exact Heap.lt_size e
 | rng lo hi => obtain ⟨_, _, _, e⟩ := x; exact Heap.lt_size e
 | frz ob u => obtain ⟨e, _⟩ := x; exact Heap.lt_size e
 | tbl ps => exact Heap.lt_size (show h.get? a = some _ from x)
 | met f y => exact Heap.lt_size (show h.get? a = some _ from x)
 | ext φ => obtain ⟨_, ⟨_, e⟩, _⟩ := x; exact Heap.lt_size e
theorem Paired.mapP {α β : Type} {F G : α → β → Prop} : ∀ {l₁ : List α} {l₂ : List β}, Paired F l₁ l₂ → (∀ a b, F a b → G a b) → Paired G l₁ l₂
 | _, _, .nil, _ => .nil
 | _, _, .cons r t, f => .cons (f _ _ r) (Paired.mapP t f)
theorem ObjOk.stay (x : ObjOk P w H h a o) (k : ∀ b u, (b = a ∨ H b = some (.own a)) → h.get? b = some u → h'.get? b = some u)
  (ho : ∀ b, H b = some (.own a) → H' b = some (.own a)) (ht : ∀ b xs, H b = some (.tup xs) → H' b = some (.tup xs)) : ObjOk P w H' h' a o := by
 induction o with
 | lst xs => obtain ⟨z, its, n, r, e⟩ := x; exact ⟨z, its, n, r, k _ _ (.inl rfl) e⟩
 | tup xs => obtain ⟨z, its, r, ob, e, c⟩ := x; exact ⟨z, its, r, ob, k _ _ (.inl rfl) e, c⟩
 | dK kvs => obtain ⟨z, y, vs, r, ob, es, ep, e, c⟩ := x; exact ⟨z, y, vs, r, ob, es, ep, k _ _ (.inl rfl) e, c⟩
 | dT kvs =>
  obtain ⟨z, y, xs, r, ob, es, ep, e, c⟩ := x
  exact ⟨z, y, xs, Paired.mapP r fun p q z => ⟨z.1, ht _ _ z.2.1, z.2.2⟩, ob, es, ep, k _ _ (.inl rfl) e, c⟩
 | set S n => obtain ⟨ob, es, ep, t, e, c⟩ := x; exact ⟨ob, es, ep, t, k _ _ (.inl rfl) e, c⟩
 | ins C dx fs =>
  obtain ⟨d, z, ne, e, mA, ⟨od, es, ep, e2, c⟩, r⟩ := x
  exact ⟨ho _ d, z, ne, k _ _ (.inl rfl) e, mA, ⟨od, es, ep, k _ _ (.inr d) e2, c⟩, r⟩
 | own y => obtain ⟨ob, e⟩ := x; exact ⟨ob, k _ _ (.inl rfl) e⟩
 | xd fs => obtain ⟨mA, ⟨od, es, ep, e, c⟩, r⟩ := x; exact ⟨mA, ⟨od, es, ep, k _ _ (.inl rfl) e, c⟩, r⟩
 | rng lo hi => obtain ⟨t, u, v, e⟩ := x; exact ⟨t, u, v, k _ _ (.inl rfl) e⟩
 | frz ob u ih => obtain ⟨e, q⟩ := x; exact ⟨k _ _ (.inl rfl) e, ih q⟩
 | tbl ps =>
  have e : h.get? a = some { cls := .none, data := .fields ps } := x
  show h'.get? a = some { cls := .none, data := .fields ps }
  exact k a _ (.inl rfl) e
 | met f y =>
  have e : h.get? a = some (PySem.W.methodObj (.ref f) (.ref y)) := x
  show h'.get? a = some (PySem.W.methodObj (.ref f) (.ref y))
  exact k a _ (.inl rfl) e
 | ext φ => obtain ⟨p, ⟨o, e⟩, st⟩ := x; exact ⟨st _ _ p fun o q => k _ _ (.inl rfl) q, ⟨o, k _ _ (.inl rfl) e⟩, st⟩
theorem HOk.lt (x : HOk P w H h) (e : H a = some o) : a < h.objs.size := (x a o e).lt
theorem HOk.fresh (x : HOk P w H h) (e : h.objs.size ≤ a) : H a = none := by
 cases q : H a with
 | none => rfl
 | some u => exact absurd (Nat.lt_of_lt_of_le (x.lt q) e) (Nat.lt_irrefl _)
theorem HOk.kept (x : HOk P w H h) (k : ∀ b u, h.get? b = some u → h'.get? b = some u) : HOk P w H h' := fun a o e =>
 (x a o e).stay (fun b u _ q => k b u q) (fun _ q => q) fun _ _ q => q
theorem HOk.laid (x : HOk P w H h) (k : ∀ b u, h.get? b = some u → h'.get? b = some u) (hp : h.objs.size ≤ a) (new : ObjOk P w (upd H a o) h' a o) : HOk P w (upd H a o) h' := fun b u e => by
 have hn := x.fresh hp
 by_cases hb : b = a
 ·subst hb; rw [zf] at e; cases e; exact new
 ·rw [zh hb] at e
  exact (x b u e).stay (fun c v _ q => k c v q) (fun c q => by rw [zh (zg q hn)]; exact q) fun c xs q => by rw [zh (zg q hn)]; exact q
end
def Rd (H : Hp) (a : Addr) (u : HO) : Prop := H a = some u ∨ ∃ o, H a = some (.frz o u)
theorem Rd.ok {P : Program} {w : World} {H : Hp} {h : Heap} {a : Addr} {u : HO} (r : Rd H a u) (x : HOk P w H h) : ObjOk P w H h a u := by
 rcases r with r | ⟨o, r⟩
 ·exact x a u r
 ·obtain ⟨_, q⟩ := x a _ r
  exact q
def Mut : Option HO → Prop
 | some (.lst _) => True
 | some (.dK _) => True
 | some (.dT _) => True
 | some (.set _ _) => True
 | some (.ins _ _ _) => True
 | some (.ext _) => True
 | _ => False
section
variable {P : Program} {w : World} {H : Hp} {h h' : Heap} {x e : Addr} {o' : HO}
theorem HOk.write (ok : HOk P w H h) (mu : Mut (H x)) (he : e = x ∨ H e = some (.own x)) (k : ∀ b u, b ≠ e → h.get? b = some u → h'.get? b = some u) (heo : ∃ u, h'.get? e = some u)
  (new : ObjOk P w (upd H x o') h' x o') : HOk P w (upd H x o') h' := fun b u q => by
 have nown : ∀ c y, H c = some (.own y) → c ≠ x := fun c y r z => by subst z; rw [r] at mu; exact mu
 have ntup : ∀ c xs, H c = some (.tup xs) → c ≠ x := fun c xs r z => by subst z; rw [r] at mu; exact mu
 by_cases hb : b = x
 ·subst hb; rw [zf] at q; cases q; exact new
 ·rw [zh hb] at q
  by_cases hbe : b = e
  ·have q' : H b = some (.own x) := by
    rcases he with z | z
    ·exact absurd (hbe.trans z) hb
    ·rw [hbe]; exact z
   rw [q] at q'; cases q'
   obtain ⟨v, hv⟩ := heo
   exact ⟨v, by rw [hbe]; exact hv⟩
  ·refine (ok b u q).stay (fun c v hc r => k c v ?_ r) (fun c r => by rw [zh (nown c b r)]; exact r) fun c xs r => by rw [zh (ntup c xs r)]; exact r
   rcases hc with rfl | hc
   ·exact hbe
   ·rintro rfl
    rcases he with z | z
    ·exact nown c b hc z
    ·rw [hc] at z; cases z; exact hb rfl
end
structure Un (fs ex : List Addr) (H H' : Hp) (h h' : Heap) : Prop where
 keep : ∀ b o, h.get? b = some o → H b = none → b ∉ fs → b ∉ ex → h'.get? b = some o
 slot : ∀ b o, h.get? b = some o → H b = none → b ∈ fs → b ∉ ex → ∃ sl, h'.get? b = some { o with slots := sl }
 free : ∀ b o, h.get? b = some o → H b = none → b ∉ ex → H' b = none
 there : ∀ b o, h.get? b = some o → b ∉ ex → ∃ o', h'.get? b = some o'
 tups : ∀ b xs, H b = some (.tup xs) → H' b = some (.tup xs)
 frzs : ∀ b o u, H b = some (.frz o u) → H' b = some (.frz o u)
 tbls : ∀ b ps, H b = some (.tbl ps) → ∃ more, H' b = some (.tbl (ps ++ more))
section
variable {fs fs' ex ex' : List Addr} {H H1 H2 : Hp} {h h1 h2 h' : Heap} {a x e : Addr} {o : HO}
theorem Un.any (u : Un fs ex H H1 h h1) {b : Addr} {ob : Obj} (q : h.get? b = some ob) (n : H b = none) (hx : b ∉ ex) : ∃ sl, h1.get? b = some { ob with slots := sl } := by
 by_cases hb : b ∈ fs
 ·exact u.slot b ob q n hb hx
 ·exact ⟨ob.slots, u.keep b ob q n hb hx⟩
theorem Un.kept (k : ∀ b u, h.get? b = some u → h'.get? b = some u) : Un fs ex H H h h' :=
 ⟨fun b ob q _ _ _ => k b ob q, fun b ob q _ _ _ => ⟨ob.slots, k b ob q⟩, fun _ _ _ n _ => n, fun b ob q _ => ⟨ob, k b ob q⟩, fun _ _ q => q, fun _ _ _ q => q, fun _ ps q => ⟨#[], by rw [q]; simp⟩⟩
theorem Un.refl : Un fs ex H H h h := Un.kept fun _ _ q => q
theorem Un.laid (k : ∀ b u, h.get? b = some u → h'.get? b = some u) (hp : h.objs.size ≤ a) (hn : H a = none) : Un fs ex H (upd H a o) h h' where
 keep := fun b u q _ _ _ => k b u q
 slot := fun b u q _ _ _ => ⟨u.slots, k b u q⟩
 free := fun b u q n _ => by rw [zh (Nat.ne_of_lt (Nat.lt_of_lt_of_le (Heap.lt_size q) hp))]; exact n
 there := fun b u q _ => ⟨u, k b u q⟩
 tups := fun b xs q => by rw [zh (zg q hn)]; exact q
 frzs := fun b u xs q => by rw [zh (zg q hn)]; exact q
 tbls := fun b ps q => ⟨#[], by rw [zh (zg q hn), q]; simp⟩
theorem Un.write (mu : Mut (H x)) (he : e = x ∨ H e = some (.own x)) (k : ∀ b u, b ≠ e → h.get? b = some u → h'.get? b = some u) (heo : ∃ u, h'.get? e = some u) : Un fs ex H (upd H x o) h h' := by
 have hx : ∀ b, H b = none → b ≠ x := fun b n z => by subst z; rw [n] at mu; exact mu
 have hb : ∀ b, H b = none → b ≠ e := fun b n z => by
  subst z
  rcases he with r | r
  ·exact hx b n r
  ·rw [n] at r; cases r
 have hm : ∀ b u, H b = some u → ¬ Mut (some u) → b ≠ x := fun b u q nm z => by subst z; rw [q] at mu; exact nm mu
 refine ⟨fun b u q n _ _ => k b u (hb b n) q, fun b u q n _ _ => ⟨u.slots, k b u (hb b n) q⟩, fun b u q n _ => by rw [zh (hx b n)]; exact n, fun b u q _ => ?_,
  fun b xs q => by rw [zh (hm b _ q fun z => z)]; exact q, fun b u xs q => by rw [zh (hm b _ q fun z => z)]; exact q, fun b ps q => ⟨#[], by rw [zh (hm b _ q fun z => z), q]; simp⟩⟩
 by_cases hbe : b = e
 ·subst hbe; exact heo
 ·exact ⟨u, k b u hbe q⟩
end
def trk (h : Heap) (H : Hp) : List Addr := (List.range h.objs.size).filter fun a => (H a).isSome
def hidT (h : Heap) (H : Hp) : Heap := PySem.W.hideAll h (trk h H)
theorem vv (h : Heap) (H : Hp) : (hidT h H).objs.size = h.objs.size := PySem.W.hideAll_size _ _
theorem Zr {h : Heap} {H : Hp} {b : Addr} {o : Obj} (e : h.get? b = some o) (n : H b = none) : (hidT h H).get? b = some o :=
 PySem.W.hideAll_get _ e fun hm => by
  have q : (H b).isSome = true := (List.mem_filter.mp hm).2
  rw [n] at q; simp at q
theorem Z9 {h : Heap} {H : Hp} {b : Addr} {o : Obj} (e : (hidT h H).get? b = some o) : h.get? b = some o ∧ H b = none := by
 have e' : h.get? b = some o := PySem.W.of_hideAll (trk h H) e
 refine ⟨e', ?_⟩
 cases q : H b with
 | none => rfl
 | some x =>
  have hm : b ∈ trk h H := List.mem_filter.mpr ⟨List.mem_range.mpr (Heap.lt_size e'), by simp [q]⟩
  have z : (hidT h H).get? b = none := PySem.W.hideAll_none (trk h H) hm
  rw [z] at e; cases e
def allNews (g h : Heap) (L : Addr) : List (Addr × Obj) := (List.range h.objs.size).filterMap fun a => if a = L ∨ (g.get? a).isSome = true then none else (h.get? a).map fun o => (a, o)
def rest (g h : Heap) (L d : Addr) : List (Addr × Obj) := (allNews g h L).filter fun p => decide (p.1 ≠ d)
structure Mod (K : W.Frag) (mg : Str → Option Value) (base : Heap) : Prop where
 kin : K.In base
 glob : base.Ns mainGlobals mg
 blt : ∃ mb, base.Ns builtinsNs mb ∧ ∀ x : Str, x ≠ "__name__" → mb x = bootBuiltins x
 nolimit : base.NoLimit
structure Cx where
 prog : Program
 w : World
 K : W.Frag
 mg : Str → Option Value
 base : Heap
 A : Around
 N : List Str
 s₀ : Shared
 H₀ : Hp
 env : Env
 outer : List Env
 stack : List Env
 ex : List Addr
 fn : Str → Bool
 calm : Bool
 pn : List (Addr × Obj)
 xe : Value → Shared → Prop
def frs (l : List Env) : List Addr := l.filterMap (·.frame)
abbrev Cx.fs (X : Cx) : List Addr := frs X.outer
def Vis (sc : Scope) (x : Str) : Prop := sc.names.lookup x = some .local ∨ sc.names.lookup x = some .cell ∨ sc.names.lookup x = some .free
def Loc (sc : Scope) (x : Str) : Prop := sc.names.lookup x = some .local ∨ sc.names.lookup x = some .cell
def Look (env : Env) (h : Heap) (m : Str → Option Value) (x : Str) (u : Value) : Prop :=
 (env.kindOf x = some .local ∧ m x = some u) ∨ ((env.kindOf x = some .cell ∨ env.kindOf x = some .free) ∧ ∃ c, env.cells.lookup x = some c ∧ h.IsCell c (some u))
structure Cx.Ok (X : Cx) : Prop where
 mod : Mod X.K X.mg X.base
 kind : X.env.scope.kind = .function
 glob : X.env.globals = mainGlobals
 blt : X.env.builtins = builtinsNs
 above : X.s₀.heap.objs.size ≤ X.env.locals
 inj : ∀ x y c, X.env.cells.lookup x = some c → X.env.cells.lookup y = some c → x = y
 has : ∀ x, (X.env.kindOf x = some .cell ∨ X.env.kindOf x = some .free) → ∃ c, X.env.cells.lookup x = some c
 cab : ∀ x c, X.fn x = true → X.env.cells.lookup x = some c → X.s₀.heap.objs.size ≤ c
 hd : X.calm = true → X.A.handled = none
 frames : X.A.frames = some X.stack
 stk : X.stack = X.outer ∨ (X.stack = X.env :: X.outer ∧ X.env.frame = some X.env.locals)
 exf : ∀ b ∈ X.ex, b ≠ X.env.locals ∧ ∀ x c, X.env.cells.lookup x = some c → c ≠ b
 bs : ∀ b o, X.base.get? b = some o → X.s₀.heap.get? b = some o ∧ X.H₀ b = none
 bsz : X.base.objs.size ≤ X.s₀.heap.objs.size
 noex : ∀ b o, X.base.get? b = some o → b ∉ X.ex
 exfs : ∀ b ∈ X.ex, b ∉ X.fs
 funs : X.s₀.heap.FunFrames X.base X.outer
 frf : ∀ b ∈ X.fs, X.H₀ b = none
structure Inv (X : Cx) (pins : List (Addr × Obj)) (σ : List (Option V)) (H : Hp) (s : Shared) : Prop where
 ok : X.Ok
 os : s.os = X.s₀.os
 bare : AllBare s.gens
 base : Un X.fs X.ex X.H₀ H X.s₀.heap s.heap
 loc : ∃ m, s.heap.Ns X.env.locals m ∧ ∀ (i : Nat) (x : Str) (v : V), X.N[i]? = some x → σ[i]? = some (some v) → Vis X.env.scope x → ∃ u, RelV v u ∧ Look X.env s.heap m x u
 cell : ∀ x c, X.env.cells.lookup x = some c → ∃ v, s.heap.IsCell c v
 free : H X.env.locals = none
 freeC : ∀ x c, X.env.cells.lookup x = some c → H c = none
 pin : ∀ p ∈ X.pn ++ pins, s.heap.get? p.1 = some p.2 ∧ H p.1 = none ∧ p.1 ≠ X.env.locals ∧ p.1 ∉ X.fs ∧ ∀ v, p.2.data ≠ .cell v
 hok : HOk X.prog X.w H s.heap
 len : σ.length = X.N.length
section
variable {X : Cx} {pins : List (Addr × Obj)} {σ : List (Option V)} {H H' : Hp} {s : Shared} {h' : Heap}
theorem Cx.Ok.nofr (ok : X.Ok) {b : Addr} {o : Obj} (e : X.base.get? b = some o) : b ∉ X.fs := fun hb => by
 have := (ok.funs.mem hb).1
 rw [e] at this; cases this
theorem Inv.bs (I : Inv X pins σ H s) : ∀ b o, X.base.get? b = some o → s.heap.get? b = some o ∧ H b = none := fun b o e =>
 ⟨I.base.keep b o (I.ok.bs b o e).1 (I.ok.bs b o e).2 (I.ok.nofr e) (I.ok.noex b o e), I.base.free b o (I.ok.bs b o e).1 (I.ok.bs b o e).2 (I.ok.noex b o e)⟩
theorem Inv.bk (I : Inv X pins σ H s) : ∀ b o, X.base.get? b = some o → s.heap.get? b = some o := fun b o e => (I.bs b o e).1
theorem Inv.mod (I : Inv X pins σ H s) : Mod X.K X.mg X.base := I.ok.mod
theorem Inv.kIn (I : Inv X pins σ H s) : X.K.In s.heap := I.ok.mod.kin.keeps I.bk
theorem Inv.nolimit (I : Inv X pins σ H s) : s.heap.NoLimit := I.ok.mod.nolimit.keeps I.bk
theorem Inv.lt (I : Inv X pins σ H s) : X.env.locals < s.heap.objs.size := let ⟨_, hn, _⟩ := I.loc; hn.lt
theorem Inv.sz (I : Inv X pins σ H s) : X.s₀.heap.objs.size ≤ s.heap.objs.size := Nat.le_trans I.ok.above (Nat.le_of_lt I.lt)
theorem Inv.nofs (I : Inv X pins σ H s) {a : Addr} (h : s.heap.objs.size ≤ a) : a ∉ X.fs := fun hb => by
 obtain ⟨_, o, ho, _⟩ := I.ok.funs.mem hb
 exact absurd (Nat.lt_of_lt_of_le (Heap.lt_size ho) (Nat.le_trans I.sz h)) (Nat.lt_irrefl _)
theorem Inv.cne (I : Inv X pins σ H s) : ∀ x c, X.env.cells.lookup x = some c → c ≠ X.env.locals := fun x c e z => by
 obtain ⟨v, o, ho, hd⟩ := I.cell x c e
 obtain ⟨m, ⟨o', es, ep, ho', hd', _⟩, _⟩ := I.loc
 rw [z, ho'] at ho; cases ho; rw [hd'] at hd; cases hd
theorem Inv.funs (I : Inv X pins σ H s) : s.heap.FunFrames X.base X.outer := by
 have all : ∀ (l : List Env), (∀ b ∈ frs l, b ∈ X.fs) → X.s₀.heap.FunFrames X.base l → s.heap.FunFrames X.base l := by
  intro l
  induction l with
  | nil => intro _ _; trivial
  | cons env r ih =>
   intro hs hl
   obtain ⟨hk, ⟨L, o, hf, hn, ho, hd⟩, hr⟩ := hl
   have hL : L ∈ X.fs := hs L (by unfold frs; rw [List.filterMap_cons, hf]; exact List.mem_cons_self)
   obtain ⟨sl, e⟩ := I.base.slot L o ho (I.ok.frf L hL) hL fun z => I.ok.exfs L z hL
   exact ⟨hk, ⟨L, _, hf, hn, e, hd⟩, ih (fun b hb => hs b (by unfold frs; rw [List.filterMap_cons, hf]; exact List.mem_cons_of_mem _ hb)) hr⟩
 exact all X.outer (fun _ hb => hb) I.ok.funs
theorem Inv.stack (I : Inv X pins σ H s) : s.heap.FunFrames X.base X.stack := by
 rcases I.ok.stk with e | ⟨e, hf⟩
 ·rw [e]; exact I.funs
 ·rw [e]
  obtain ⟨m, hn, _⟩ := I.loc
  refine .cons (by rw [I.ok.kind]; decide) hf hn ?_ I.funs
  exact Heap.get?_none_of_le (Nat.le_trans I.ok.bsz I.ok.above)
theorem Inv.stkSub (I : Inv X pins σ H s) : ∀ b ∈ frs X.stack, b ∈ X.env.locals :: X.fs := fun b hb => by
 rcases I.ok.stk with e | ⟨e, hf⟩
 ·rw [e] at hb; exact List.mem_cons_of_mem _ hb
 ·rw [e] at hb
  unfold frs at hb
  rw [List.filterMap_cons, hf] at hb
  exact hb
theorem Inv.stkFree (I : Inv X pins σ H s) : ∀ b ∈ frs X.stack, H b = none := fun b hb => by
 rcases List.mem_cons.mp (I.stkSub b hb) with e | hb
 ·rw [e]; exact I.free
 ·obtain ⟨_, o, ho, _⟩ := I.ok.funs.mem hb
  exact I.base.free b o ho (I.ok.frf b hb) fun z => I.ok.exfs b z hb
theorem Inv.step {g' : Array GenState} {t' : Nat} {d' : Drawn} {ch : List Addr} (I : Inv X pins σ H s)
  (hch : ∀ b ∈ ch, (b ∈ X.ex ∨ X.s₀.heap.objs.size ≤ b) ∧ b ≠ X.env.locals ∧ (∀ x c, X.env.cells.lookup x = some c → c ≠ b) ∧ ∀ p ∈ X.pn ++ pins, p.1 ≠ b)
  (keep : ∀ b o, b ≠ X.env.locals → b ∉ X.fs → b ∉ ch → s.heap.get? b = some o → H b = none → h'.get? b = some o)
  (slot : ∀ b o, b ≠ X.env.locals → b ∈ X.fs → b ∉ ch → s.heap.get? b = some o → H b = none → ∃ sl, h'.get? b = some { o with slots := sl }) (free : ∀ b o, b ∉ ch → s.heap.get? b = some o → H b = none → H' b = none)
  (there : ∀ b o, b ∉ ch → s.heap.get? b = some o → ∃ o', h'.get? b = some o')
  (tups : ∀ b xs, H b = some (.tup xs) → H' b = some (.tup xs)) (frzs : ∀ b o u, H b = some (.frz o u) → H' b = some (.frz o u)) (tbls : ∀ b ps, H b = some (.tbl ps) → ∃ more, H' b = some (.tbl (ps ++ more)))
  (ns : ∀ m, s.heap.Ns X.env.locals m → h'.Ns X.env.locals m) (hok : HOk X.prog X.w H' h') (hg : AllBare g') :
  Inv X pins σ H' { s with heap := h', gens := g', drawn := d', toks := t' } := by
 have neL : ∀ b o, X.s₀.heap.get? b = some o → b ≠ X.env.locals := fun b o e => Nat.ne_of_lt (Nat.lt_of_lt_of_le (Heap.lt_size e) I.ok.above)
 have neC : ∀ b o, X.s₀.heap.get? b = some o → b ∉ X.ex → b ∉ ch := fun b o e hx hb => by
  rcases (hch b hb).1 with z | z
  ·exact hx z
  ·exact absurd (Nat.lt_of_lt_of_le (Heap.lt_size e) z) (Nat.lt_irrefl _)
 have cellK : ∀ x c, X.env.cells.lookup x = some c → ∀ v, s.heap.IsCell c v → h'.IsCell c v := fun x c e v ⟨o, ho, hd⟩ => by
  have nch : c ∉ ch := fun z => (hch c z).2.2.1 x c e rfl
  by_cases hc : c ∈ X.fs
  ·obtain ⟨sl, q⟩ := slot c o (I.cne x c e) hc nch ho (I.freeC x c e)
   exact ⟨_, q, hd⟩
  ·exact ⟨o, keep c o (I.cne x c e) hc nch ho (I.freeC x c e), hd⟩
 refine ⟨I.ok, I.os, hg, ⟨fun b o e n hb hx => ?_, fun b o e n hb hx => ?_, fun b o e n hx => ?_, fun b o e hx => ?_, fun b xs e => tups b xs (I.base.tups b xs e), fun b o xs e => frzs b o xs (I.base.frzs b o xs e), fun b ps e => ?_⟩, ?_, fun x c e => ?_, ?_, fun x c e => ?_, fun p hp => ?_, hok, I.len⟩
 ·exact keep b o (neL b o e) hb (neC b o e hx) (I.base.keep b o e n hb hx) (I.base.free b o e n hx)
 ·obtain ⟨sl, e1⟩ := I.base.slot b o e n hb hx
  obtain ⟨sl', e2⟩ := slot b _ (neL b o e) hb (neC b o e hx) e1 (I.base.free b o e n hx)
  exact ⟨sl', e2⟩
 ·obtain ⟨o', e1⟩ := I.base.there b o e hx
  exact free b o' (neC b o e hx) e1 (I.base.free b o e n hx)
 ·obtain ⟨o', e1⟩ := I.base.there b o e hx
  exact there b o' (neC b o e hx) e1
 ·obtain ⟨m1, e1⟩ := I.base.tbls b ps e
  obtain ⟨m2, e2⟩ := tbls b _ e1
  exact ⟨m1 ++ m2, by rw [e2, Array.append_assoc]⟩
 ·obtain ⟨m, hn, hl⟩ := I.loc
  refine ⟨m, ns m hn, fun i x v e1 e2 e3 => ?_⟩
  obtain ⟨u, r, l⟩ := hl i x v e1 e2 e3
  refine ⟨u, r, ?_⟩
  rcases l with l | ⟨k, c, e, z⟩
  ·exact .inl l
  ·exact .inr ⟨k, c, e, cellK x c e _ z⟩
 ·obtain ⟨v, z⟩ := I.cell x c e
  exact ⟨v, cellK x c e v z⟩
 ·obtain ⟨m, ⟨o, _, _, ho, _⟩, _⟩ := I.loc
  exact free _ o (fun z => (hch _ z).2.1 rfl) ho I.free
 ·obtain ⟨v, o, ho, hd⟩ := I.cell x c e
  exact free c o (fun z => (hch c z).2.2.1 x c e rfl) ho (I.freeC x c e)
 ·obtain ⟨e, n, ne, nf, d⟩ := I.pin p hp
  have nch : p.1 ∉ ch := fun z => (hch p.1 z).2.2.2 p hp rfl
  exact ⟨keep p.1 p.2 ne nf nch e n, free p.1 p.2 nch e n, ne, nf, d⟩
theorem Inv.un {t' : Nat} (I : Inv X pins σ H s) (u : Un X.fs [] H H' s.heap h') (hok : HOk X.prog X.w H' h') : Inv X pins σ H' { s with heap := h', toks := t' } := by
 obtain ⟨m, ⟨o, es, ep, ho, r⟩, _⟩ := id I.loc
 obtain ⟨sl, hL⟩ := u.any ho I.free (by simp)
 exact I.step (g' := s.gens) (d' := s.drawn) (ch := []) (fun _ z => nomatch z) (fun b o _ hb _ e n => u.keep b o e n hb (by simp)) (fun b o _ hb _ e n => u.slot b o e n hb (by simp)) (fun b o _ e n => u.free b o e n (by simp)) (fun b o _ e => u.there b o e (by simp)) u.tups u.frzs u.tbls (fun m' hm => by
  obtain ⟨o', es', ep', ho', r'⟩ := hm
  rw [ho] at ho'; cases ho'
  exact ⟨_, es', ep', hL, r'⟩) hok I.bare
theorem Inv.call {g' : Array GenState} {t' : Nat} {d' : Drawn} {ch : List Addr} (I : Inv X pins σ H s) (u : Un (frs X.stack) ch H H' s.heap h') (hok : HOk X.prog X.w H' h') (hg : AllBare g')
  (hch : ∀ b ∈ ch, (b ∈ X.ex ∨ X.s₀.heap.objs.size ≤ b) ∧ b ≠ X.env.locals ∧ (∀ x c, X.env.cells.lookup x = some c → c ≠ b) ∧ ∀ p ∈ X.pn ++ pins, p.1 ≠ b) :
  Inv X pins σ H' { s with heap := h', gens := g', drawn := d', toks := t' } := by
 obtain ⟨m, ⟨o, es, ep, ho, r⟩, _⟩ := id I.loc
 obtain ⟨sl, hL⟩ := u.any ho I.free fun z => (hch _ z).2.1 rfl
 exact I.step (ch := ch) hch (fun b o hL hb hc e n => u.keep b o e n (fun z => (List.mem_cons.mp (I.stkSub b z)).elim hL hb) hc) (fun b o _ _ hc e n => u.any e n hc) (fun b o hc e n => u.free b o e n hc) (fun b o hc e => u.there b o e hc) u.tups u.frzs u.tbls (fun m' hm => by
  obtain ⟨o', es', ep', ho', r'⟩ := hm
  rw [ho] at ho'; cases ho'
  exact ⟨_, es', ep', hL, r'⟩) hok hg
theorem Inv.turned {t' : Nat} {it : Addr} (I : Inv X pins σ H s) (k : ∀ b o, b ≠ it → s.heap.get? b = some o → h'.get? b = some o) (hn : H it = none) (hL : it ≠ X.env.locals)
  (h1 : it ∈ X.ex ∨ X.s₀.heap.objs.size ≤ it) (h2 : ∀ x c, X.env.cells.lookup x = some c → c ≠ it) (h3 : ∀ p ∈ X.pn ++ pins, p.1 ≠ it) : Inv X pins σ H { s with heap := h', toks := t' } := by
 have nit : ∀ b u, H b = some u → b ≠ it := fun b u e z => by rw [z, hn] at e; cases e
 refine I.step (g' := s.gens) (d' := s.drawn) (ch := [it]) (fun b hb => ?_) (fun b o _ _ hc e _ => k b o (fun z => hc (by simp [z])) e) (fun b o _ _ hc e _ => ⟨o.slots, k b o (fun z => hc (by simp [z])) e⟩) (fun _ _ _ _ n => n)
  (fun b o hc e => ⟨o, k b o (fun z => hc (by simp [z])) e⟩) (fun _ _ e => e) (fun _ _ _ e => e) (fun b ps e => ⟨#[], by rw [e]; simp⟩) (fun m hm => ?_) (fun b u e => ?_) I.bare
 ·have e : b = it := by simpa using hb
  subst e
  exact ⟨h1, hL, h2, h3⟩
 ·obtain ⟨o, es, ep, ho, r⟩ := hm
  exact ⟨o, es, ep, k _ o (Ne.symm hL) ho, r⟩
 ·refine (I.hok b u e).stay (fun c v hc q => k c v ?_ q) (fun _ q => q) fun _ _ q => q
  rcases hc with z | z
  ·rw [z]; exact nit b u e
  ·exact nit c _ z
theorem Inv.tok (I : Inv X pins σ H s) (t : Nat) : Inv X pins σ H { s with toks := t } := I.un (h' := s.heap) (t' := t) Un.refl I.hok
theorem Inv.kept {t' : Nat} (I : Inv X pins σ H s) (k : ∀ b u, s.heap.get? b = some u → h'.get? b = some u) : Inv X pins σ H { s with heap := h', toks := t' } := I.un (Un.kept k) (I.hok.kept k)
theorem Inv.laid {a : Addr} {o : HO} {t' : Nat} (I : Inv X pins σ H s) (k : ∀ b u, s.heap.get? b = some u → h'.get? b = some u) (hp : s.heap.objs.size ≤ a) (new : ObjOk X.prog X.w (upd H a o) h' a o) :
  Inv X pins σ (upd H a o) { s with heap := h', toks := t' } := I.un (Un.laid k hp (I.hok.fresh hp)) (I.hok.laid k hp new)
theorem Inv.write {x e : Addr} {o : HO} {t' : Nat} (I : Inv X pins σ H s) (mu : Mut (H x)) (he : e = x ∨ H e = some (.own x)) (k : ∀ b u, b ≠ e → s.heap.get? b = some u → h'.get? b = some u) (heo : ∃ u, h'.get? e = some u)
  (new : ObjOk X.prog X.w (upd H x o) h' x o) : Inv X pins σ (upd H x o) { s with heap := h', toks := t' } := I.un (Un.write mu he k heo) (I.hok.write mu he k heo new)
theorem Inv.pins_of {pins' : List (Addr × Obj)} (I : Inv X pins σ H s) (h : ∀ p ∈ pins', s.heap.get? p.1 = some p.2 ∧ H p.1 = none ∧ p.1 ≠ X.env.locals ∧ p.1 ∉ X.fs ∧ ∀ v, p.2.data ≠ .cell v) : Inv X pins' σ H s :=
 ⟨I.ok, I.os, I.bare, I.base, I.loc, I.cell, I.free, I.freeC, fun p hp => (List.mem_append.mp hp).elim (fun z => I.pin p (List.mem_append_left _ z)) (h p), I.hok, I.len⟩
theorem Zk {N : List Str} (hN : N.Nodup) {i j : Nat} {x : Str} (a : N[i]? = some x) (b : N[j]? = some x) : i = j := by
 obtain ⟨h1, e1⟩ := List.getElem?_eq_some_iff.mp a
 obtain ⟨h2, e2⟩ := List.getElem?_eq_some_iff.mp b
 exact (List.getElem_inj hN).mp (e1.trans e2.symm)
theorem xY {M : Model} {A : Around} {E : Value → Shared → Prop} {i : Nat} {x : Str} {v : V} {u : Value} {Q : Unit → Shared → Prop} (I : Inv X pins σ H s) (hN : X.N.Nodup) (hi : X.N[i]? = some x) (hx : Loc X.env.scope x) (r : RelV v u)
  (h : ∀ s', Inv X pins (σ.set i (some v)) H s' → (∃ a, Heap.SameBut a s.heap s'.heap ∧ (a = X.env.locals ∨ X.env.cells.lookup x = some a)) → Q () s') (hf : X.fn x = true ∨ X.env.scope.names.lookup x = some .local := by first | exact .inl rfl | exact .inr rfl | assumption) : wpAny M A (storeName X.env x u) Q E s := by
 obtain ⟨m, hn, hl⟩ := id I.loc
 have hcls : (X.env.scope.kind == .class || (X.env.scope.kind == .module && X.env.locals != X.env.globals)) = false := by rw [I.ok.kind]; rfl
 have hiσ : i < σ.length := by rw [I.len]; exact (List.getElem?_eq_some_iff.mp hi).1
 have cne := I.cne
 have tracked : ∀ {a : Addr} {h' : Heap}, (∃ o, s.heap.get? a = some o ∧ H a = none) → Heap.SameBut a s.heap h' → HOk X.prog X.w H h' := fun {a h'} ha hs b ob e => by
  obtain ⟨_, _, hfree⟩ := ha
  refine (I.hok b ob e).stay (fun c w' hc q => (hs.2 c ?_).trans q) (fun _ q => q) fun _ _ q => q
  rintro rfl
  rcases hc with rfl | hc
  ·rw [hfree] at e; cases e
  ·rw [hfree] at hc; cases hc
 rcases hx with hk | hk
 ·refine wpAny_storeName_local hk hn (fun h' hn' hs => ?_) hcls
  obtain ⟨oL, _, _, hoL, _⟩ := id hn
  refine h _ ⟨I.ok, I.os, I.bare, ⟨fun b o e n hb hx => ?_, fun b o e n hb hx => ?_, I.base.free, fun b o e hx => ?_, I.base.tups, I.base.frzs, I.base.tbls⟩, ⟨_, hn', fun j y v' e1 e2 e3 => ?_⟩, fun y c e => ?_, I.free, I.freeC, fun p hp => ?_, tracked ⟨oL, hoL, I.free⟩ hs, by simpa using I.len⟩ ⟨_, hs, .inl rfl⟩
  ·exact (hs.2 b (Nat.ne_of_lt (Nat.lt_of_lt_of_le (Heap.lt_size e) I.ok.above))).trans (I.base.keep b o e n hb hx)
  ·obtain ⟨sl, e1⟩ := I.base.slot b o e n hb hx
   exact ⟨sl, (hs.2 b (Nat.ne_of_lt (Nat.lt_of_lt_of_le (Heap.lt_size e) I.ok.above))).trans e1⟩
  ·obtain ⟨o', e1⟩ := I.base.there b o e hx
   exact ⟨o', (hs.2 b (Nat.ne_of_lt (Nat.lt_of_lt_of_le (Heap.lt_size e) I.ok.above))).trans e1⟩
  ·by_cases hj : j = i
   ·subst hj
    rw [hi] at e1; cases e1
    rw [List.getElem?_set_self hiσ] at e2
    cases e2
    exact ⟨u, r, .inl ⟨hk, by simp⟩⟩
   ·rw [List.getElem?_set_ne (Ne.symm hj)] at e2
    obtain ⟨u', r', q⟩ := hl j y v' e1 e2 e3
    refine ⟨u', r', ?_⟩
    rcases q with ⟨k, e⟩ | ⟨k, c, e, z⟩
    ·refine .inl ⟨k, ?_⟩
     have : y ≠ x := fun e => hj (Zk hN e1 (e ▸ hi))
     simp [this, e]
    ·exact .inr ⟨k, c, e, z.sameBut hs (cne y c e)⟩
  ·obtain ⟨w', z⟩ := I.cell y c e
   exact ⟨w', z.sameBut hs (cne y c e)⟩
  ·obtain ⟨e, n, ne, nf, d⟩ := I.pin p hp
   exact ⟨(hs.2 p.1 ne).trans e, n, ne, nf, d⟩
 ·have hfn : X.fn x = true := by
   rcases hf with z | z
   ·exact z
   ·rw [z] at hk; cases hk
  obtain ⟨c, hc⟩ := I.ok.has x (.inl hk)
  obtain ⟨w', z⟩ := I.cell x c hc
  refine wpAny_storeName_cell I.ok.kind hk hc z (fun h' hc' hs => ?_)
  obtain ⟨oc, hoc, hocd⟩ := id z
  refine h { s with heap := h' } ⟨I.ok, I.os, I.bare, ⟨fun b o e n hb hx => ?_, fun b o e n hb hx => ?_, I.base.free, fun b o e hx => ?_, I.base.tups, I.base.frzs, I.base.tbls⟩, ⟨m, hn.sameBut hs (Ne.symm (cne x c hc)), fun j y v' e1 e2 e3 => ?_⟩, fun y c' e => ?_, I.free, I.freeC, fun p hp => ?_, tracked ⟨oc, hoc, I.freeC x c hc⟩ hs, by simpa using I.len⟩ ⟨c, hs, .inr hc⟩
  ·exact (hs.2 b (Nat.ne_of_lt (Nat.lt_of_lt_of_le (Heap.lt_size e) (I.ok.cab x c hfn hc)))).trans (I.base.keep b o e n hb hx)
  ·obtain ⟨sl, e1⟩ := I.base.slot b o e n hb hx
   exact ⟨sl, (hs.2 b (Nat.ne_of_lt (Nat.lt_of_lt_of_le (Heap.lt_size e) (I.ok.cab x c hfn hc)))).trans e1⟩
  ·obtain ⟨o', e1⟩ := I.base.there b o e hx
   exact ⟨o', (hs.2 b (Nat.ne_of_lt (Nat.lt_of_lt_of_le (Heap.lt_size e) (I.ok.cab x c hfn hc)))).trans e1⟩
  ·by_cases hj : j = i
   ·subst hj
    rw [hi] at e1; cases e1
    rw [List.getElem?_set_self hiσ] at e2
    cases e2
    exact ⟨u, r, .inr ⟨.inl hk, c, hc, hc'⟩⟩
   ·rw [List.getElem?_set_ne (Ne.symm hj)] at e2
    obtain ⟨u', r', q⟩ := hl j y v' e1 e2 e3
    refine ⟨u', r', ?_⟩
    rcases q with q | ⟨k, c', e, z'⟩
    ·exact .inl q
    ·refine .inr ⟨k, c', e, z'.sameBut hs ?_⟩
     rintro rfl
     exact hj (Zk hN e1 (I.ok.inj _ _ _ e hc ▸ hi))
  ·by_cases hcc : c' = c
   ·subst hcc; exact ⟨_, hc'⟩
   ·obtain ⟨w2, z2⟩ := I.cell y c' e
    exact ⟨w2, z2.sameBut hs hcc⟩
  ·obtain ⟨e, n, ne, nf, d⟩ := I.pin p hp
   refine ⟨(hs.2 p.1 ?_).trans e, n, ne, nf, d⟩
   intro q
   rw [q, hoc] at e
   have q' : oc = p.2 := Option.some.inj e
   exact d w' (by rw [← q']; exact hocd)
theorem Zf {M : Model} {A : Around} {E : Value → Shared → Prop} {i : Nat} {x : Str} {v : V} {u : Value} {Q : Unit → Shared → Prop} (I : Inv X pins σ H s) (hN : X.N.Nodup) (hi : X.N[i]? = some x) (hx : Loc X.env.scope x) (r : RelV v u)
  (h : ∀ s', Inv X pins (σ.set i (some v)) H s' → Q () s') (hf : X.fn x = true ∨ X.env.scope.names.lookup x = some .local := by first | exact .inl rfl | exact .inr rfl | assumption) : wpAny M A (storeName X.env x u) Q E s :=
 xY I hN hi hx r (fun s' I' _ => h s' I') hf
theorem Inv.call' {s' : Shared} {ch : List Addr} (I : Inv X pins σ H s) (ho : s'.os = s.os) (u : Un (frs X.stack) ch H H' s.heap s'.heap) (hok : HOk X.prog X.w H' s'.heap) (hg : AllBare s'.gens)
  (hch : ∀ b ∈ ch, (b ∈ X.ex ∨ X.s₀.heap.objs.size ≤ b) ∧ b ≠ X.env.locals ∧ (∀ x c, X.env.cells.lookup x = some c → c ≠ b) ∧ ∀ p ∈ X.pn ++ pins, p.1 ≠ b) : Inv X pins σ H' s' := by
 obtain ⟨h', g', d', t', o'⟩ := s'
 have e : o' = s.os := ho
 subst e
 exact I.call (g' := g') (t' := t') (d' := d') u hok hg hch
end
abbrev XK := Value → Option Addr → Hp → Prop
abbrev St := List (Option V)
abbrev VK := V → Hp → Prop
abbrev TE := St → Hp → VK → Prop
abbrev TT := St → Hp → (Bool → Hp → Prop) → Prop
abbrev TA := St → Hp → (List V → Hp → Prop) → Prop
structure Ends where
 nx : St → Hp → Prop
 rt : VK
 bk : St → Hp → Prop := fun _ _ => False
 ct : St → Hp → Prop := fun _ _ => False
abbrev TS := Ends → St → Hp → Prop
def EP (X : Cx) (pins : List (Addr × Obj)) (σ : St) (Q : VK) (u : Value) (s' : Shared) : Prop := ∃ v H', Inv X pins σ H' s' ∧ RelV v u ∧ Q v H'
def TP (X : Cx) (pins : List (Addr × Obj)) (σ : St) (Q : Bool → Hp → Prop) (b : Bool) (s' : Shared) : Prop := ∃ H', Inv X pins σ H' s' ∧ Q b H'
def AP (X : Cx) (pins : List (Addr × Obj)) (σ : St) (Q : List V → Hp → Prop) (us : List Value) (s' : Shared) : Prop := ∃ vs H', Inv X pins σ H' s' ∧ Vals vs us ∧ Q vs H'
def SP (X : Cx) (pins : List (Addr × Obj)) (D : Ends) (f : Flow) (s' : Shared) : Prop :=
 match f with
 | .next => ∃ σ' H', Inv X pins σ' H' s' ∧ D.nx σ' H'
 | .brk => ∃ σ' H', Inv X pins σ' H' s' ∧ D.bk σ' H'
 | .cont => ∃ σ' H', Inv X pins σ' H' s' ∧ D.ct σ' H'
 | .ret u => ∃ v σ' H', Inv X pins σ' H' s' ∧ RelV v u ∧ D.rt v H'
def PE (X : Cx) (e : Expr) (t : TE) : Prop :=
 ∀ (pins : List (Addr × Obj)) (s : Shared) (σ : St) (H : Hp) (Q : VK), Inv X pins σ H s → t σ H Q → wpAny (model X.prog X.w) X.A (eval e X.env) (EP X pins σ Q) X.xe s
def PT (X : Cx) (e : Expr) (t : TT) : Prop :=
 ∀ (pins : List (Addr × Obj)) (s : Shared) (σ : St) (H : Hp) (Q : Bool → Hp → Prop), Inv X pins σ H s → t σ H Q → wpAny (model X.prog X.w) X.A (isTrue e X.env (eval e X.env)) (TP X pins σ Q) X.xe s
def PW (X : Cx) (e : Expr) (t : TT) : Prop :=
 ∀ (whole : Sem Value) (pins : List (Addr × Obj)) (s : Shared) (σ : St) (H : Hp) (Q : Bool → Hp → Prop), Inv X pins σ H s → t σ H Q → wpAny (model X.prog X.w) X.A (isTrue e X.env whole) (TP X pins σ Q) X.xe s
theorem PW.pt {X : Cx} {e : Expr} {t : TT} (h : PW X e t) : PT X e t := h _
def PA (X : Cx) (es : List Expr) (t : TA) : Prop :=
 ∀ (pos : Pos) (pins : List (Addr × Obj)) (s : Shared) (σ : St) (H : Hp) (Q : List V → Hp → Prop), Inv X pins σ H s → t σ H Q → wpAny (model X.prog X.w) X.A (spliced (backTo pos (starEach es X.env))) (AP X pins σ Q) X.xe s
def PS (X : Cx) (st : Stmt) (t : TS) : Prop :=
 ∀ (pins : List (Addr × Obj)) (s : Shared) (σ : St) (H : Hp) (D : Ends), Inv X pins σ H s → t D σ H → wpAny (model X.prog X.w) X.A (exec st X.env) (SP X pins D) X.xe s
def PSs (X : Cx) (st : List Stmt) (t : TS) : Prop :=
 ∀ (pins : List (Addr × Obj)) (s : Shared) (σ : St) (H : Hp) (D : Ends), Inv X pins σ H s → t D σ H → wpAny (model X.prog X.w) X.A (execs st X.env) (SP X pins D) X.xe s
theorem thn {α : Type} {t : Sem α} {Q Q' : α → Shared → Prop} {M : Model} {A : Around} {E : Value → Shared → Prop} {s : Shared} (h : wpAny M A t Q E s) (hQ : ∀ a s, Q a s → Q' a s) : wpAny M A t Q' E s := wpAny_mono h hQ fun _ _ x => x
section
variable {X : Cx}
def tVar (i : Nat) : TE := fun σ H Q => ∃ v, σ[i]? = some (some v) ∧ Q v H
def tC (v : V) : TE := fun _ H Q => Q v H
theorem wX {i : Nat} {x : Str} {pos : Pos} (hN : X.N[i]? = some x) (hv : Vis X.env.scope x) (hd : (x == ("__debug__" : Str)) = false := by decide) (hcd : (x == ("__classdict__" : Str)) = false := by decide) : PE X (.Name x pos) (tVar i) := by
 intro pins s σ H Q I h
 obtain ⟨v, e, h⟩ := h
 obtain ⟨m, hn, hl⟩ := I.loc
 obtain ⟨u, r, l⟩ := hl i x v hN e hv
 have fin : EP X pins σ Q u s := ⟨v, H, I, r, h⟩
 rcases l with ⟨hk, hm⟩ | ⟨hk, c, hc, hcell⟩
 ·exact wpAny_Name (wpAny_loadName_local I.ok.kind hk hn hm fin) hd
 ·rcases hk with hk | hk
  ·exact wpAny_Name (wpAny_loadName_cell I.ok.kind hk hc hcell fin) hd
  ·exact wpAny_Name (wpAny_loadName_free I.ok.kind hk hc hcell fin hcd) hd
theorem zd {i j pos} : PE X (.Constant (.int i) j pos) (tC (.int i)) := fun _ _ _ H _ I h => wpAny_Constant_int ⟨.int i, H, I.tok _, ⟨_, rfl⟩, h⟩
theorem yW {b j pos} : PE X (.Constant (.bool b) j pos) (tC (.bl b)) := fun _ _ _ H _ I h => Constant_bool ⟨.bl b, H, I, rfl, h⟩
theorem vR {j pos} : PE X (.Constant .none j pos) (tC .non) := fun _ _ _ H _ I h => Constant_none ⟨.non, H, I, rfl, h⟩
theorem xp {x j pos} : PE X (.Constant (.str x) j pos) (tC (.str x)) := fun _ _ _ H _ I h => Calls.Constant_str ⟨.str x, H, I.tok _, ⟨_, rfl⟩, h⟩
def Gl (X : Cx) (x : Str) : Prop := X.env.kindOf x = some .globalImplicit
theorem vV {E : Value → Shared → Prop} {pins : List (Addr × Obj)} {s : Shared} {σ : St} {H : Hp} {x : Str} {u : Value} {pos : Pos} {Q : Value → Shared → Prop} (I : Inv X pins σ H s) (hg : Gl X x) (hm : X.mg x = some u) (h : Q u s)
  (hd : (x == ("__debug__" : Str)) = false := by decide) : wpAny (model X.prog X.w) X.A (eval (.Name x pos) X.env) Q E s :=
 Calls.Name_function_global I.ok.kind hg (Calls.loadGlobal_global (by rw [I.ok.glob]; exact I.mod.glob.keeps I.bk) hm h) hd
theorem xC {E : Value → Shared → Prop} {pins : List (Addr × Obj)} {s : Shared} {σ : St} {H : Hp} {x : Str} {u : Value} {pos : Pos} {Q : Value → Shared → Prop} (I : Inv X pins σ H s) (hg : Gl X x) (hm : X.mg x = none) (hv : bootBuiltins x = some u) (h : Q u s)
  (hn : x ≠ "__name__" := by decide) (hd : (x == ("__debug__" : Str)) = false := by decide) : wpAny (model X.prog X.w) X.A (eval (.Name x pos) X.env) Q E s := by
 obtain ⟨mb, h1, h2⟩ := I.mod.blt
 exact Calls.Name_function_global I.ok.kind hg (Calls.loadGlobal_builtin (by rw [I.ok.glob]; exact I.mod.glob.keeps I.bk) hm (by rw [I.ok.blt]; exact h1.keeps I.bk) ((h2 x hn).trans hv) h) hd
theorem pe_glob {x : Str} {v : V} {u : Value} {pos : Pos} (hg : Gl X x) (hm : X.mg x = some u) (r : RelV v u) (hd : (x == ("__debug__" : Str)) = false := by decide) : PE X (.Name x pos) (tC v) :=
 fun _ _ _ H _ I h => vV I hg hm ⟨v, H, I, r, h⟩ hd
theorem xN {x : Str} {v : V} {u : Value} {pos : Pos} (hg : Gl X x) (hm : X.mg x = none) (hv : bootBuiltins x = some u) (r : RelV v u) (hn : x ≠ "__name__" := by decide) (hd : (x == ("__debug__" : Str)) = false := by decide) : PE X (.Name x pos) (tC v) :=
 fun _ _ _ H _ I h => xC I hg hm hv ⟨v, H, I, r, h⟩ hn hd
variable {a b : Expr} {ta tb : TE} {pos : Pos}
def PC (X : Cx) (op : CmpOp) (a b : Expr) (t : TE) : Prop :=
 ∀ (pins : List (Addr × Obj)) (s : Shared) (σ : St) (H : Hp) (Q : VK), Inv X pins σ H s → t σ H Q →
  wpAny (model X.prog X.w) X.A (eval a X.env) (fun v s₁ => wpAny (model X.prog X.w) X.A (eval b X.env) (fun u s₂ => wpAny (model X.prog X.w) X.A (compareOp op v u) (EP X pins σ Q) X.xe s₂) X.xe s₁) X.xe s
theorem nobehind (b : Expr) {op : CmpOp} (h : op ≠ .In) (h2 : op ≠ .NotIn) : behindInMarks op b = false := by
 have e1 : (op == CmpOp.In) = false := by cases op <;> first | rfl | exact absurd rfl h
 have e2 : (op == CmpOp.NotIn) = false := by cases op <;> first | rfl | exact absurd rfl h2
 cases b <;> simp [behindInMarks, e1, e2]
def tIsN (ta : TE) : TE := fun σ H Q => ta σ H fun x H1 => Q (.bl (decide (x = .non))) H1
def Xh (ta : TE) : TE := fun σ H Q => ta σ H fun x H1 => Q (.bl (!decide (x = .non))) H1
theorem RelV.none_iff {x : V} {v : Value} (r : RelV x v) : (v == Value.none) = decide (x = .non) := by
 cases x with
 | non => cases r; rfl
 | bl _ => cases r; rfl
 | int _ => obtain ⟨t, rfl⟩ := r; rfl
 | str _ => obtain ⟨t, rfl⟩ := r; rfl
 | byt _ => obtain ⟨t, rfl⟩ := r; rfl
 | flt _ => obtain ⟨t, rfl⟩ := r; rfl
 | ref _ => cases r; rfl
 | ty _ => cases r; rfl
theorem YQ {j pos'} (ha : PE X a ta) : PC X .Is a (.Constant .none j pos') (tIsN ta) := by
 intro pins s σ H Q I h
 refine thn (ha pins s σ H _ I h) fun v s1 ⟨x, H1, I1, r1, q1⟩ => ?_
 exact Constant_none (is_none_gen ⟨.bl _, H1, I1, by rw [r1.none_iff]; rfl, q1⟩)
theorem pc_notN {j pos'} (ha : PE X a ta) : PC X .IsNot a (.Constant .none j pos') (Xh ta) := by
 intro pins s σ H Q I h
 refine thn (ha pins s σ H _ I h) fun v s1 ⟨x, H1, I1, r1, q1⟩ => ?_
 exact Constant_none (isnot_none_gen ⟨.bl _, H1, I1, by rw [r1.none_iff]; rfl, q1⟩)
def tB (t : TE) : TT := fun σ H Q => t σ H fun x H1 => ∃ c, x = .bl c ∧ Q c H1
theorem ZG {op : CmpOp} {t : TE} (h : PC X op a b t) (h1 : behindInMarks op b = false := by first | exact nobehind _ (by decide) (by decide) | rfl) : PT X (.Compare a [op] [b] pos) (tB t) := by
 intro pins s σ H Q I hw
 refine wpAny_isTrue_Compare1 (thn (h pins s σ H _ I hw) fun v s1 h1 => thn h1 fun u s2 h2 => thn h2 fun c s3 ⟨x, H1, I1, r1, q1⟩ => ?_) h1
 obtain ⟨d, rfl, q⟩ := q1
 cases r1
 exact wpAny_truthy_bool ⟨H1, I1, q⟩
theorem yQ {e : Expr} {t : TE} (h : PE X e t) (he : ∀ whole, isTrue e X.env whole = (do let v ← whole; standAt e.pos; holding [v] (truthy v)) := by intro _; rfl) : PT X e (tB t) := by
 intro pins s σ H Q I hw
 refine isTrue_plain (thn (h pins s σ H _ I hw) fun v s1 ⟨x, H1, I1, r1, q1⟩ => ?_) (he _)
 obtain ⟨d, rfl, q⟩ := q1
 cases r1
 exact wpAny_truthy_bool ⟨H1, I1, q⟩
variable {tA tB' : TT} {rest : List Expr}
def tAnd (t u : TT) : TT := fun σ H Q => t σ H fun c H1 => if c = true then u σ H1 Q else Q false H1
def tOr (t u : TT) : TT := fun σ H Q => t σ H fun c H1 => if c = true then Q true H1 else u σ H1 Q
def tNot (t : TT) : TT := fun σ H Q => t σ H fun c H1 => Q (!c) H1
theorem yP (ha : PT X a tA) : PW X (.BoolOp .And [a] pos) tA := by
 intro wh pins s σ H Q I h
 refine isTrue_and (thn (ha pins s σ H Q I h) fun c s1 e => ?_)
 cases c with
 | true => exact isTrue_and_nil e
 | false => exact e
theorem xk (ha : PT X a tA) : PW X (.BoolOp .Or [a] pos) tA := by
 intro wh pins s σ H Q I h
 refine isTrue_or (thn (ha pins s σ H Q I h) fun c s1 e => ?_)
 cases c with
 | false => exact isTrue_or_nil e
 | true => exact e
theorem xz (ha : PT X a tA) (hb : PW X (.BoolOp .And (b :: rest) pos) tB') : PW X (.BoolOp .And (a :: b :: rest) pos) (tAnd tA tB') := by
 intro wh pins s σ H Q I h
 refine isTrue_and (thn (ha pins s σ H _ I h) fun c s1 ⟨H1, I1, q1⟩ => ?_)
 cases c with
 | true => exact hb wh pins s1 σ H1 Q I1 q1
 | false => exact ⟨H1, I1, q1⟩
theorem yV (ha : PT X a tA) (hb : PW X (.BoolOp .Or (b :: rest) pos) tB') : PW X (.BoolOp .Or (a :: b :: rest) pos) (tOr tA tB') := by
 intro wh pins s σ H Q I h
 refine isTrue_or (thn (ha pins s σ H _ I h) fun c s1 ⟨H1, I1, q1⟩ => ?_)
 cases c with
 | true => exact ⟨H1, I1, q1⟩
 | false => exact hb wh pins s1 σ H1 Q I1 q1
theorem wW (ha : PT X a tA) : PT X (.UnaryOp .Not a pos) (tNot tA) := by
 intro pins s σ H Q I h
 exact isTrue_not (ha pins s σ H (fun c H1 => Q (!c) H1) I h)
def Xm (ta tb : TE) : TE := fun σ H Q => ta σ H fun x H1 => ∃ c, x = .bl c ∧ if c = true then tb σ H1 Q else Q (.bl false) H1
def Xg (ta : TE) : TE := fun σ H Q => ta σ H fun x H1 => ∃ c, x = .bl c ∧ Q (.bl (!c)) H1
theorem YL {op} {t : TE} (h : PE X a t) : PE X (.BoolOp op [a] pos) t := fun pins s σ H Q I hw => BoolOp_one (h pins s σ H Q I hw)
theorem YO (ha : PE X a ta) (hb : PE X (.BoolOp .And (b :: rest) pos) tb) : PE X (.BoolOp .And (a :: b :: rest) pos) (Xm ta tb) := by
 intro pins s σ H Q I h
 refine BoolOp_and (thn (ha pins s σ H _ I h) fun v s1 ⟨x, H1, I1, r1, q1⟩ => ?_)
 obtain ⟨c, rfl, q1⟩ := q1
 cases r1
 refine wpAny_truthy_bool ?_
 cases c with
 | true => exact hb pins s1 σ H1 Q I1 q1
 | false => exact ⟨.bl false, H1, I1, rfl, q1⟩
theorem pe_not (ha : PE X a ta) : PE X (.UnaryOp .Not a pos) (Xg ta) := by
 intro pins s σ H Q I h
 refine UnaryOp_ (thn (ha pins s σ H _ I h) fun v s1 ⟨x, H1, I1, r1, q1⟩ => ?_)
 obtain ⟨c, rfl, q1⟩ := q1
 cases r1
 exact not_of (wpAny_truthy_bool ⟨.bl (!c), H1, I1, rfl, q1⟩)
def tIf (t : TT) (ta tb : TE) : TE := fun σ H Q => t σ H fun c H1 => if c = true then ta σ H1 Q else tb σ H1 Q
theorem wY {c : Expr} (hc : PT X c tA) (ha : PE X a ta) (hb : PE X b tb) : PE X (.IfExp c a b pos) (tIf tA ta tb) := by
 intro pins s σ H Q I h
 refine wpAny_IfExp (thn (hc pins s σ H _ I h) fun d s1 ⟨H1, I1, q1⟩ => ?_)
 cases d with
 | true => exact ha pins s1 σ H1 Q I1 q1
 | false => exact hb pins s1 σ H1 Q I1 q1
end
def SqL (K : W.Frag) (H : Hp) (a : Addr) (xs : List V) : Prop :=
 Rd H a (.lst xs) ∨
  ∃ (o : Obj) (its : Array Value) (n : Nat), K.lookup a = some o ∧ o.cls = .type "list" ∧ o.dict = none ∧ o.data = .seq its n ∧ its.size ≤ sizeLine ∧ Vals xs its.toList
def SqT (K : W.Frag) (H : Hp) (a : Addr) (xs : List V) : Prop :=
 Rd H a (.tup xs) ∨
  ∃ (o : Obj) (its : Array Value) (n : Nat), K.lookup a = some o ∧ o.cls = .type "tuple" ∧ o.data = .seq its n ∧ its.size ≤ sizeLine ∧ Vals xs its.toList
def absV : Value → Option V
 | .none => some .non
 | .bool b => some (.bl b)
 | .int i _ => some (.int i)
 | .str x _ => some (.str x)
 | .bytes b _ => some (.byt b)
 | .float b _ => some (.flt b)
 | .ref a => some (.ref a)
 | .type n => some (.ty n)
 | _ => none
theorem RelV.abs {x : V} {u : Value} (r : RelV x u) : absV u = some x := by
 cases x with
 | non => cases r; rfl
 | bl _ => cases r; rfl
 | int _ => obtain ⟨t, rfl⟩ := r; rfl
 | str _ => obtain ⟨t, rfl⟩ := r; rfl
 | byt _ => obtain ⟨t, rfl⟩ := r; rfl
 | flt _ => obtain ⟨t, rfl⟩ := r; rfl
 | ref _ => cases r; rfl
 | ty _ => cases r; rfl
theorem RelV.inj {x y : V} {u : Value} (r : RelV x u) (q : RelV y u) : x = y := Option.some.inj (r.abs.symm.trans q.abs)
theorem Vals.inj : ∀ {xs ys : List V} {us : List Value}, Vals xs us → Vals ys us → xs = ys
 | _, _, _, .nil, .nil => rfl
 | _, _, _, .cons r t, .cons r' t' => by rw [r.inj r', Vals.inj t t']
section
variable {X : Cx} {pins : List (Addr × Obj)} {σ : St} {H : Hp} {s : Shared} {a : Addr} {xs ys : List V}
theorem SqL.of {K : W.Frag} (h : H a = some (.lst xs)) : SqL K H a xs := .inl (.inl h)
theorem SqT.of {K : W.Frag} (h : H a = some (.tup xs)) : SqT K H a xs := .inl (.inl h)
theorem Inv.list (I : Inv X pins σ H s) (h : SqL X.K H a xs) : ∃ its : List Value, Vals xs its ∧ PlainL s.heap a its.toArray ∧ xs.length ≤ sizeLine := by
 rcases h with h | ⟨o, its, n, hk, hc, hd, hs, hz, r⟩
 ·obtain ⟨z, its, n, r, e⟩ := h.ok I.hok
  exact ⟨its, r, ⟨_, n, e, rfl, rfl, rfl⟩, z⟩
 ·refine ⟨its.toList, r, ⟨o, n, I.kIn a o hk, hc, hd, by simpa using hs⟩, ?_⟩
  have e := r.length
  simp only [Array.length_toList] at e
  omega
theorem Inv.tuple (I : Inv X pins σ H s) (h : SqT X.K H a xs) : ∃ its : List Value, Vals xs its ∧ IsTup s.heap a its.toArray ∧ xs.length ≤ sizeLine := by
 rcases h with h | ⟨o, its, n, hk, hc, hs, hz, r⟩
 ·obtain ⟨z, its, r, p⟩ := h.ok I.hok
  exact ⟨its, r, p, z⟩
 ·refine ⟨its.toList, r, ⟨o, I.kIn a o hk, hc, n, by simpa using hs⟩, ?_⟩
  have e := r.length
  simp only [Array.length_toList] at e
  omega
theorem Inv.list_inj (I : Inv X pins σ H s) (h : SqL X.K H a xs) (h' : SqL X.K H a ys) : xs = ys := by
 obtain ⟨its, r, ⟨o, n, e, _, _, d⟩, _⟩ := I.list h
 obtain ⟨its', r', ⟨o', n', e', _, _, d'⟩, _⟩ := I.list h'
 rw [e] at e'; cases e'
 rw [d] at d'
 injection d' with d1 _
 have : its = its' := by simpa using congrArg Array.toList d1
 subst this
 exact r.inj r'
theorem Inv.tuple_inj (I : Inv X pins σ H s) (h : SqT X.K H a xs) (h' : SqT X.K H a ys) : xs = ys := by
 obtain ⟨its, r, ⟨o, e, _, n, d⟩, _⟩ := I.tuple h
 obtain ⟨its', r', ⟨o', e', _, n', d'⟩, _⟩ := I.tuple h'
 rw [e] at e'; cases e'
 rw [d] at d'
 injection d' with d1 _
 have : its = its' := by simpa using congrArg Array.toList d1
 subst this
 exact r.inj r'
end
abbrev Cx.wish (X : Cx) (E : Value → Shared → Prop) : Cx := { X with xe := E }
abbrev Cx.nox (X : Cx) : Cx := X.wish fun _ _ => False
theorem Cx.Ok.wish {X : Cx} (ok : X.Ok) (E : Value → Shared → Prop) : (X.wish E).Ok :=
 ⟨ok.mod, ok.kind, ok.glob, ok.blt, ok.above, ok.inj, ok.has, ok.cab, ok.hd, ok.frames, ok.stk, ok.exf, ok.bs, ok.bsz, ok.noex, ok.exfs, ok.funs, ok.frf⟩
theorem Cx.Ok.unwish {X : Cx} {E : Value → Shared → Prop} (ok : (X.wish E).Ok) : X.Ok :=
 ⟨ok.mod, ok.kind, ok.glob, ok.blt, ok.above, ok.inj, ok.has, ok.cab, ok.hd, ok.frames, ok.stk, ok.exf, ok.bs, ok.bsz, ok.noex, ok.exfs, ok.funs, ok.frf⟩
section
variable {X : Cx} {pins : List (Addr × Obj)} {σ : St} {H : Hp} {s : Shared} {E : Value → Shared → Prop}
theorem Inv.wish (I : Inv X pins σ H s) (E : Value → Shared → Prop) : Inv (X.wish E) pins σ H s := ⟨I.ok.wish E, I.os, I.bare, I.base, I.loc, I.cell, I.free, I.freeC, I.pin, I.hok, I.len⟩
theorem Inv.unwish (I : Inv (X.wish E) pins σ H s) : Inv X pins σ H s := ⟨I.ok.unwish, I.os, I.bare, I.base, I.loc, I.cell, I.free, I.freeC, I.pin, I.hok, I.len⟩
theorem SP.unwish {D : Ends} {f : Flow} {s' : Shared} (h : SP (X.wish E) pins D f s') : SP X pins D f s' := by
 cases f with
 | next => obtain ⟨σ', H', I, q⟩ := h; exact ⟨σ', H', I.unwish, q⟩
 | brk => obtain ⟨σ', H', I, q⟩ := h; exact ⟨σ', H', I.unwish, q⟩
 | cont => obtain ⟨σ', H', I, q⟩ := h; exact ⟨σ', H', I.unwish, q⟩
 | ret u => obtain ⟨v, σ', H', I, r, q⟩ := h; exact ⟨v, σ', H', I.unwish, r, q⟩
theorem PSs.nox {st : List Stmt} {t : TS} (h : PSs X.nox st t) : PSs X st t := fun pins s σ H D I hw =>
 wpAny_mono (h pins s σ H D (I.wish _) hw) (fun _ _ q => q.unwish) fun _ _ z => False.elim z
end
section
variable {X : Cx} {st : Stmt} {rest : List Stmt} {t u : TS} {e : Expr} {te : TE} {pos : Pos}
def Xi : TS := fun D σ H => D.nx σ H
def tSeq (t u : TS) : TS := fun D σ H => t { D with nx := u D } σ H
theorem zE : PSs X [] Xi := fun _ _ σ H _ I h => wpAny_execs_nil ⟨σ, H, I, h⟩
theorem ze (h1 : PS X st t) (h2 : PSs X rest u) : PSs X (st :: rest) (tSeq t u) := by
 intro pins s σ H D I h
 refine wpAny_execs_cons (thn (h1 pins s σ H { D with nx := u D } I h) fun f s1 q => ?_)
 cases f with
 | next =>
  obtain ⟨σ', H', I', q⟩ := q
  exact h2 pins s1 σ' H' D I' q
 | ret v => exact q
 | brk => exact q
 | cont => exact q
theorem zi (h1 : PS X st t) : PSs X [st] t := by
 intro pins s σ H D I h
 refine wpAny_execs_cons (thn (h1 pins s σ H D I h) fun f s1 q => ?_)
 cases f with
 | next => exact wpAny_execs_nil q
 | ret v => exact q
 | brk => exact q
 | cont => exact q
theorem Inv.quiet {pins : List (Addr × Obj)} {σ : St} {H : Hp} {s : Shared} (I : Inv X pins σ H s) : interactive X.env = false := by simp [interactive, I.ok.kind]
def Xl (te : TE) : TS := fun D σ H => te σ H fun _ H1 => D.nx σ H1
theorem zW (he : PE X e te) (hs : swapsWith e none pos.line X.env = pure false := by rfl) : PS X (.Expr e pos) (Xl te) := by
 intro pins s σ H D I h
 exact wpAny_Expr_any (thn (he pins s σ H _ I h) fun v s1 ⟨x, H1, I1, r1, q1⟩ => ⟨σ, H1, I1, q1⟩) I.quiet hs
def tRet (te : TE) : TS := fun D σ H => te σ H D.rt
theorem zr (he : PE X e te) : PS X (.Return (some e) pos) (tRet te) := by
 intro pins s σ H D I h
 exact wpAny_Return_some (thn (he pins s σ H _ I h) fun v s1 ⟨x, H1, I1, r1, q1⟩ => ⟨x, σ, H1, I1, r1, q1⟩)
def tIfS (c : TT) (t u : TS) : TS := fun D σ H => c σ H fun b H1 => if b = true then t D σ H1 else u D σ H1
theorem zQ {c : Expr} {a b : List Stmt} {tc : TT} (hc : PT X c tc) (ha : PSs X a t) (hb : PSs X b u) : PS X (.If c a b pos) (tIfS tc t u) := by
 intro pins s σ H D I h
 refine wpAny_If (thn (hc pins s σ H _ I h) fun d s1 ⟨H1, I1, q1⟩ => ?_)
 cases d with
 | true => exact ha pins s1 σ H1 D I1 q1
 | false => exact hb pins s1 σ H1 D I1 q1
end
abbrev TG := V → St → Hp → (St → Hp → Prop) → Prop
abbrev TGs := List V → St → Hp → (St → Hp → Prop) → Prop
def PG (X : Cx) (target : Expr) (t : TG) : Prop :=
 ∀ (pins : List (Addr × Obj)) (s : Shared) (σ : St) (H : Hp) (v : V) (u : Value) (Q : St → Hp → Prop), Inv X pins σ H s → RelV v u → t v σ H Q →
  wpAny (model X.prog X.w) X.A (assign target X.env u) (fun _ s' => ∃ σ' H', Inv X pins σ' H' s' ∧ Q σ' H') X.xe s
def PGs (X : Cx) (ts : List Expr) (t : TGs) : Prop :=
 ∀ (pins : List (Addr × Obj)) (s : Shared) (σ : St) (H : Hp) (vs : List V) (us : List Value) (Q : St → Hp → Prop), Inv X pins σ H s → Vals vs us → t vs σ H Q →
  wpAny (model X.prog X.w) X.A (assignInOrder ((assignEach ts X.env).map (·.2)) us) (fun _ s' => ∃ σ' H', Inv X pins σ' H' s' ∧ Q σ' H') X.xe s
abbrev TSet := V → V → V → Hp → (Hp → Prop) → Prop
def PSet (X : Cx) (t : TSet) : Prop :=
 ∀ (pins : List (Addr × Obj)) (s : Shared) (σ : St) (H : Hp) (o i v : V) (ov iv u : Value) (Q : Hp → Prop), Inv X pins σ H s → RelV o ov → RelV i iv → RelV v u → t o i v H Q →
  wpAny (model X.prog X.w) X.A (setItem ov iv u) (fun _ s' => ∃ H', Inv X pins σ H' s' ∧ Q H') X.xe s
section
variable {X : Cx} {pos : Pos}
def zB (i : Nat) : TG := fun v σ H Q => Q (σ.set i (some v)) H
theorem wL {i : Nat} {x : Str} (hN : X.N.Nodup) (hi : X.N[i]? = some x) (hx : Loc X.env.scope x) (hf : X.fn x = true ∨ X.env.scope.names.lookup x = some .local := by first | exact .inl rfl | exact .inr rfl | assumption) : PG X (.Name x pos) (zB i) := by
 intro pins s σ H v u Q I r h
 exact wpAny_assign_Name (Zf I hN hi hx r (fun s' I' => ⟨_, H, I', h⟩) hf)
def gNil : TGs := fun vs σ H Q => vs = [] ∧ Q σ H
def z0 (t : TG) (u : TGs) : TGs := fun vs σ H Q => ∃ v r, vs = v :: r ∧ t v σ H fun σ' H' => u r σ' H' Q
theorem zO : PGs X [] gNil := by
 intro pins s σ H vs us Q I r h
 obtain ⟨e, h⟩ := h
 subst e
 cases r
 exact assignInOrder_nil ⟨σ, H, I, h⟩
theorem zn {e : Expr} {es : List Expr} {t : TG} {u : TGs} (h1 : PG X e t) (h2 : PGs X es u)
  (hs : (assignEach (e :: es) X.env).map (·.2) = assign e X.env :: (assignEach es X.env).map (·.2) := by rfl) : PGs X (e :: es) (z0 t u) := by
 intro pins s σ H vs us Q I r h
 obtain ⟨v, vr, e1, h⟩ := h
 subst e1
 cases r with
 | cons r rr =>
  rw [hs]
  refine assignInOrder_cons (thn (h1 pins s σ H _ _ _ I r h) fun _ s1 ⟨σ1, H1, I1, q1⟩ => ?_)
  exact h2 pins s1 σ1 H1 _ _ Q I1 rr q1
def gTup (K : W.Frag) (n : Nat) (t : TGs) : TG := fun v σ H Q => ∃ a xs, v = .ref a ∧ SqT K H a xs ∧ xs.length = n ∧ t xs σ H Q
theorem vQ {es : List Expr} {k : Nat} {t : TGs} {n : Nat} (hc : X.calm = true) (h : PGs X es t)
  (hn : (assignEach es X.env).length = n := by rfl) (hst : (assignEach es X.env).findIdx? (·.1) = none := by rfl) : PG X (.Tuple es k pos) (gTup X.K n t) := by
 intro pins s σ H v u Q I r hw
 obtain ⟨a, xs, e1, hq, hl, hw⟩ := hw
 subst e1
 cases r
 obtain ⟨its, rv, ht, hz⟩ := I.tuple hq
 refine assign_Tuple_tuple (I.ok.hd hc) ht (by simp [hn, ← hl, rv.length]) hst fun h' hx => ?_
 have I1 : Inv X pins σ H { s with heap := h' } := I.kept (t' := s.toks) fun b o e => hx b o (Nat.ne_of_lt (Heap.lt_size e)) e
 exact h pins _ σ H xs _ Q I1 (by simpa using rv) hw
def gSub (to ti : TE) (t : TSet) : TG := fun v σ H Q => to σ H fun o H1 => ti σ H1 fun i H2 => t o i v H2 fun H3 => Q σ H3
theorem xn {o i : Expr} {to ti : TE} {t : TSet} (ho : PE X o to) (hi : PE X i ti) (hs : PSet X t)
  (ha : ∀ v, assign (.Subscript o i pos) X.env v = (do
   let ov ← holding [v] (eval o X.env)
   let iv ← holding [v, ov] (eval i X.env)
   standAt pos
   holding [v, ov, iv] (setItem ov iv v)
   release [v, ov, iv] []) := by intro _; rfl) : PG X (.Subscript o i pos) (gSub to ti t) := by
 intro pins s σ H v u Q I r h
 rw [ha]
 refine wpAny_bind (wpAny_holding (thn (ho pins s σ H _ I h) fun ov s1 ⟨x, H1, I1, r1, q1⟩ => ?_))
 refine wpAny_bind (wpAny_holding (thn (hi pins s1 σ H1 _ I1 q1) fun iv s2 ⟨y, H2, I2, r2, q2⟩ => ?_))
 refine wpAny_bind (wpAny_standAt (wpAny_bind (wpAny_holding (thn (hs pins s2 σ H2 x y v ov iv u _ I2 r1 r2 r q2) fun _ s3 ⟨H3, I3, q3⟩ => ?_))))
 exact wpAny_release ⟨σ, H3, I3, q3⟩
def tAsg (te : TE) (g : TG) : TS := fun D σ H => te σ H fun x H1 => g x σ H1 D.nx
theorem xm {tg e : Expr} {te : TE} {g : TG} (he : PE X e te) (hg : PG X tg g) (hs : swapsWithSole [tg] e pos.line X.env = pure false := by rfl) (hw : swappedStores [tg] e X.env = pure none := by rfl)
  (h1 : (assignEach [tg] X.env).map (·.2) = [assign tg X.env] := by rfl) : PS X (.Assign [tg] e pos) (tAsg te g) := by
 intro pins s σ H D I h
 refine wpAny_Assign_stores (thn (he pins s σ H _ I h) fun v s1 ⟨x, H1, I1, r1, q1⟩ => ?_) hs hw
 rw [h1]
 exact thn (hg pins s1 σ H1 x v _ I1 r1 q1) fun _ s2 q => q
theorem xA {i : Nat} {x : Str} {e : Expr} {te : TE} {pos' : Pos} (hN : X.N.Nodup) (hi : X.N[i]? = some x) (hx : Loc X.env.scope x) (he : PE X e te) (hs : swapsWith e (some (.Name x pos')) pos.line X.env = pure false := by rfl) (hf : X.fn x = true ∨ X.env.scope.names.lookup x = some .local := by first | exact .inl rfl | exact .inr rfl | assumption) :
  PS X (.Assign [.Name x pos'] e pos) (tAsg te (zB i)) := by
 intro pins s σ H D I h
 refine wpAny_Assign_Name (thn (he pins s σ H _ I h) fun v s1 ⟨y, H1, I1, r1, q1⟩ => ?_) hs
 exact Zf I1 hN hi hx r1 (fun s2 I2 => ⟨_, H1, I2, q1⟩) hf
def Yx (c : TT) (tb : TS) : TS := fun D σ H => ∃ W : Nat → St → Hp → Prop, (∃ m, W m σ H) ∧ ∀ m σ H, W m σ H →
 c σ H fun b H1 => if b = true then ∃ N : St → Hp → Prop, (∀ σ' H', N σ' H' → ∃ m', m' < m ∧ W m' σ' H') ∧ tb { D with nx := N, ct := N, bk := D.nx } σ H1 else D.nx σ H1
theorem Zi {c : Expr} {body : List Stmt} {tc : TT} {tb : TS} (hp : PassesOwn (model X.prog X.w) X.A X.env X.xe) (hc : PT X c tc) (hb : PSs X body tb) : PS X (.While c body [] pos) (Yx tc tb) := by
 intro pins s σ H D I h
 obtain ⟨W, ⟨m0, w0⟩, turn⟩ := h
 refine wpAny_While (codeAny_whileLoop (fun n s' => ∃ σ' H', Inv X pins σ' H' s' ∧ W n σ' H') ?_ m0 ⟨σ, H, I, w0⟩)
 rintro n s1 ⟨σ1, H1, I1, w1⟩
 refine wpAny_passesOwn hp (thn (hc pins s1 σ1 H1 _ I1 (turn n σ1 H1 w1)) fun b s2 ⟨H2, I2, q2⟩ => ?_)
 cases b with
 | true =>
  obtain ⟨N, hN, q2⟩ := q2
  rw [if_pos rfl]
  refine wpAny_passesOwn hp (thn (hb pins s2 σ1 H2 _ I2 q2) fun f s3 q3 => ?_)
  cases f with
  | next =>
   obtain ⟨σ3, H3, I3, n3⟩ := q3
   obtain ⟨m', hm, w3⟩ := hN σ3 H3 n3
   exact ⟨m', hm, σ3, H3, I3, w3⟩
  | cont =>
   obtain ⟨σ3, H3, I3, n3⟩ := q3
   obtain ⟨m', hm, w3⟩ := hN σ3 H3 n3
   exact ⟨m', hm, σ3, H3, I3, w3⟩
  | brk => exact q3
  | ret v => exact q3
 | false =>
  rw [if_neg Bool.false_ne_true]
  exact wpAny_execs_nil ⟨σ1, H2, I2, q2⟩
end
structure It where
 go : Nat → Hp → Prop
 yld : Nat → Hp → V → Hp → Prop
 stop : Nat → Hp → Prop
def FpOk (X : Cx) (pins : List (Addr × Obj)) (H : Hp) (b : Addr) : Prop :=
 H b = none ∧ b ≠ X.env.locals ∧ b ∉ X.fs ∧ (b ∈ X.ex ∨ X.s₀.heap.objs.size ≤ b) ∧ (∀ x c, X.env.cells.lookup x = some c → c ≠ b) ∧ ∀ p ∈ X.pn ++ pins, p.1 ≠ b
theorem Inv.fpOk {X : Cx} {pins : List (Addr × Obj)} {σ : St} {H H' : Hp} {s : Shared} {b : Addr} (I : Inv X pins σ H s) (hb : s.heap.objs.size ≤ b) (hn : H' b = none) : FpOk X pins H' b := by
 refine ⟨hn, Nat.ne_of_gt (Nat.lt_of_lt_of_le I.lt hb), I.nofs hb, .inr (Nat.le_trans I.sz hb), fun x c e z => ?_, fun p hp z => ?_⟩
 ·obtain ⟨v, q⟩ := I.cell x c e
  exact absurd (Nat.lt_of_lt_of_le q.lt (by rw [z]; exact hb)) (Nat.lt_irrefl _)
 ·exact absurd (Nat.lt_of_lt_of_le (Heap.lt_size (I.pin p hp).1) (by rw [z]; exact hb)) (Nat.lt_irrefl _)
structure Turn (P : Program) (w : World) (K : W.Frag) (tg : Expr) (J : It) (fp : List Addr) (it : Addr) (tn : Nat → Heap → Prop) : Prop where
 mem : it ∈ fp
 obj : ∀ i h, tn i h → ∀ b ∈ fp, ∃ o, h.get? b = some o ∧ ∀ v, o.data ≠ .cell v
 keep : ∀ i h h', tn i h → (∀ b ∈ fp, ∀ o, h.get? b = some o → h'.get? b = some o) → tn i h'
 item : ∀ (X : Cx), X.prog = P → X.w = w → X.K = K → X.calm = true → ∀ (i : Nat) (pins : List (Addr × Obj)) (s : Shared) (σ : St) (H : Hp) (E : Value → Shared → Prop), Inv X pins σ H s → (∀ b ∈ fp, FpOk X pins H b) → tn i s.heap → J.go i H →
  wpAny (model P w) X.A (pyNext (.ref it)) (fun r s1 => ∃ u, r = some u ∧
   wpAny (model P w) X.A (letOwnedTupleGo tg (.ref it) u) (fun _ s2 => ∃ x H', Inv X pins σ H' s2 ∧ RelV x u ∧ J.yld i H x H' ∧ tn (i + 1) s2.heap ∧ ∀ b ∈ fp, H' b = none) E s1) E s
 done : ∀ (X : Cx), X.prog = P → X.w = w → X.K = K → X.calm = true → ∀ (i : Nat) (pins : List (Addr × Obj)) (s : Shared) (σ : St) (H : Hp) (E : Value → Shared → Prop), Inv X pins σ H s → (∀ b ∈ fp, FpOk X pins H b) → tn i s.heap → J.stop i H →
  wpAny (model P w) X.A (pyNext (.ref it)) (fun r s1 => r = none ∧ Inv X pins σ H s1) E s
 self : ∀ (A : Around) (i : Nat) (s : Shared) (Q : Value → Shared → Prop) (E : Value → Shared → Prop), tn i s.heap → Q (.ref it) s → wpAny (model P w) A (pyIter (.ref it)) Q E s
abbrev TI := St → Hp → (It → Hp → Prop) → Prop
def PIE (X : Cx) (pins : List (Addr × Obj)) (σ : St) (tg : Expr) (R : It → Hp → Prop) (itv : Value) (s2 : Shared) : Prop :=
 ∃ (it : Addr) (fp : List Addr) (tn : Nat → Heap → Prop) (J : It) (H' : Hp), itv = .ref it ∧ Inv X pins σ H' s2 ∧ Turn X.prog X.w X.K tg J fp it tn ∧ tn 0 s2.heap ∧ (∀ b ∈ fp, FpOk X pins H' b) ∧ R J H'
def PI (X : Cx) (tg iter : Expr) (wi : TI) : Prop :=
 ∀ (pins : List (Addr × Obj)) (s : Shared) (σ : St) (H : Hp) (R : It → Hp → Prop), Inv X pins σ H s → wi σ H R →
  wpAny (model X.prog X.w) X.A (eval iter X.env) (fun v s1 => wpAny (model X.prog X.w) X.A (pyIter v) (PIE X pins σ tg R) X.xe s1) X.xe s
theorem Y2 {M : Model} {A : Around} {E : Value → Shared → Prop} {s : Shared} {tg : Expr} {it : Addr} {u : Value} {o : Obj} {n : String} {vs : Array Value} {Q : Unit → Shared → Prop} (ho : s.heap.get? it = some o) (hc : o.cls = .type n) (hd : o.data = .fields vs)
    (hn : ["enumerate", "zip", "dict_itemiterator", "dict_reverseitemiterator", "odict_iterator", "itertools.zip_longest", "itertools.pairwise"].contains n = false) (hQ : Q () s) : wpAny M A (letOwnedTupleGo tg (.ref it) u) Q E s := by
  unfold letOwnedTupleGo
  cases tg <;> first
    | exact wpAny_pure hQ
    | (cases u <;> first
        | exact wpAny_pure hQ
        | (refine wpAny_bind (wpAny_load ho ?_)
           rw [hc, hd]
           show wpAny M A (if (["enumerate", "zip", "dict_itemiterator", "dict_reverseitemiterator", "odict_iterator", "itertools.zip_longest", "itertools.pairwise"].contains n && vs[0]? == some (rawInt _)) = true then _ else _) Q E s
           rw [if_neg (by intro h; rw [hn, Bool.false_and] at h; cases h)]
           exact wpAny_pure hQ))
def Itl (K : W.Frag) (a : Addr) : It :=
 ⟨fun i H => ∃ xs x, SqL K H a xs ∧ xs[i]? = some x, fun i H x H' => H' = H ∧ ∀ xs, SqL K H a xs → xs[i]? = some x, fun i H => ∃ xs, SqL K H a xs ∧ xs.length ≤ i⟩
def Itt (K : W.Frag) (a : Addr) : It :=
 ⟨fun i H => ∃ xs x, SqT K H a xs ∧ xs[i]? = some x, fun i H x H' => H' = H ∧ ∀ xs, SqT K H a xs → xs[i]? = some x, fun i H => ∃ xs, SqT K H a xs ∧ xs.length ≤ i⟩
def Itr (lo : Int) (n : Nat) : It := ⟨fun i _ => i < n, fun i H x H' => H' = H ∧ x = .int (lo + i), fun i _ => n ≤ i⟩
theorem turn_list {P : Program} {w : World} {K : W.Frag} {tg : Expr} (a it : Addr) : Turn P w K tg (Itl K a) [it] it (fun i h => h.IsListIter it a i) where
 mem := by simp
 obj := fun i h st b hb => by
  have e : b = it := by simpa using hb
  subst e
  obtain ⟨o, e, c, d⟩ := st
  exact ⟨o, e, fun v z => by rw [d] at z; cases z⟩
 keep := fun i h h' st k => st.at fun o e => k it (by simp) o e
 item := by
  intro X hP hw hK hc i pins s σ H E I hf st hg
  subst hP hw hK
  obtain ⟨xs, x, hq, hx⟩ := hg
  obtain ⟨its, rv, p, hz⟩ := I.list hq
  obtain ⟨u, hu, ru⟩ := rv.get hx
  obtain ⟨f0, f1, f2, f3, f4, f5⟩ := hf it (by simp)
  refine wpAny_pyNext_list_item st p.isList (x := u) (by simpa using hu) fun h' st' sb => ?_
  have I1 : Inv X pins σ H { s with heap := h' } := I.turned (t' := s.toks) (fun b o hb e => (sb.2 b hb).trans e) f0 f1 f3 f4 f5
  obtain ⟨o, e, c, d⟩ := id st'
  exact ⟨u, rfl, Y2 (s := { s with heap := h' }) e c d (by decide) ⟨x, H, I1, ru, ⟨rfl, fun ys hy => by rw [I.list_inj hy hq]; exact hx⟩, st', fun b hb => (hf b hb).1⟩⟩
 done := by
  intro X hP hw hK hc i pins s σ H E I hf st hg
  subst hP hw hK
  obtain ⟨xs, hq, hx⟩ := hg
  obtain ⟨its, rv, p, hz⟩ := I.list hq
  obtain ⟨f0, f1, f2, f3, f4, f5⟩ := hf it (by simp)
  have hl := rv.length
  exact wpAny_pyNext_list_end (I.ok.hd hc) st p.isList (by simp; omega) fun h' eb => ⟨rfl, I.turned (t' := s.toks) (fun b o hb e => eb b o hb e) f0 f1 f3 f4 f5⟩
 self := fun _ _ _ _ _ st h => wpAny_pyIter_listiter st h
theorem turn_tuple {P : Program} {w : World} {K : W.Frag} {tg : Expr} (a it : Addr) : Turn P w K tg (Itt K a) [it] it (fun i h => h.IsTupleIter it a i) where
 mem := by simp
 obj := fun i h st b hb => by
  have e : b = it := by simpa using hb
  subst e
  obtain ⟨o, e, c, d⟩ := st
  exact ⟨o, e, fun v z => by rw [d] at z; cases z⟩
 keep := fun i h h' st k => st.at fun o e => k it (by simp) o e
 item := by
  intro X hP hw hK hc i pins s σ H E I hf st hg
  subst hP hw hK
  obtain ⟨xs, x, hq, hx⟩ := hg
  obtain ⟨its, rv, p, hz⟩ := I.tuple hq
  obtain ⟨u, hu, ru⟩ := rv.get hx
  obtain ⟨f0, f1, f2, f3, f4, f5⟩ := hf it (by simp)
  refine wpAny_pyNext_tuple_item st (show s.heap.IsTuple a its.toArray from p) (x := u) (by simpa using hu) fun h' st' sb => ?_
  have I1 : Inv X pins σ H { s with heap := h' } := I.turned (t' := s.toks) (fun b o hb e => (sb.2 b hb).trans e) f0 f1 f3 f4 f5
  obtain ⟨o, e, c, d⟩ := id st'
  exact ⟨u, rfl, Y2 (s := { s with heap := h' }) e c d (by decide) ⟨x, H, I1, ru, ⟨rfl, fun ys hy => by rw [I.tuple_inj hy hq]; exact hx⟩, st', fun b hb => (hf b hb).1⟩⟩
 done := by
  intro X hP hw hK hc i pins s σ H E I hf st hg
  subst hP hw hK
  obtain ⟨xs, hq, hx⟩ := hg
  obtain ⟨its, rv, p, hz⟩ := I.tuple hq
  obtain ⟨f0, f1, f2, f3, f4, f5⟩ := hf it (by simp)
  have hl := rv.length
  exact wpAny_pyNext_tuple_end (I.ok.hd hc) st (show s.heap.IsTuple a its.toArray from p) (by simp; omega) fun h' eb => ⟨rfl, I.turned (t' := s.toks) (fun b o hb e => eb b o hb e) f0 f1 f3 f4 f5⟩
 self := fun _ _ _ _ _ st h => wpAny_pyIter_tupleiter st h
theorem turn_range {P : Program} {w : World} {K : W.Frag} {tg : Expr} (it : Addr) (lo : Int) (n : Nat) : Turn P w K tg (Itr lo n) [it] it (fun i h => IsRangeIter h it (lo + (i : Nat) * 1) ((n : Int) - (i : Nat)) 1) where
 mem := by simp
 obj := fun i h st b hb => by
  have e : b = it := by simpa using hb
  subst e
  exact ⟨_, st, fun v z => by
   have z' : Data.fields _ = Data.cell v := z
   cases z'⟩
 keep := fun i h h' st k => k it (by simp) _ st
 item := by
  intro X hP hw hK hc i pins s σ H E I hf st hg
  subst hP hw hK
  obtain ⟨f0, f1, f2, f3, f4, f5⟩ := hf it (by simp)
  have W := Walks.range (prog := X.prog) (w := X.w) (I.ok.hd hc) it lo 1 n
  refine W.item i s _ _ hg st fun v h' tk hv st' kk => ?_
  obtain ⟨t, rfl⟩ := hv
  have I1 : Inv X pins σ H { s with heap := h', toks := tk } := I.turned (fun b o hb e => kk b o (by simpa using hb) e) f0 f1 f3 f4 f5
  refine ⟨_, rfl, Y2 (s := { s with heap := h', toks := tk }) (n := "range_iterator") st' rfl rfl (by decide) ⟨.int (lo + i), H, I1, ⟨t, ?_⟩, ⟨rfl, rfl⟩, st', fun b hb => (hf b hb).1⟩⟩
  rw [Int.mul_one]
 done := by
  intro X hP hw hK hc i pins s σ H E I hf st hg
  subst hP hw hK
  obtain ⟨f0, f1, f2, f3, f4, f5⟩ := hf it (by simp)
  exact wpAny_pyNext_range_end (I.ok.hd hc) st (by have : n ≤ i := hg; omega) fun h' eb => ⟨rfl, I.turned (t' := s.toks) (fun b o hb e => eb b o hb e) f0 f1 f3 f4 f5⟩
 self := fun _ _ _ _ _ st h => wpAny_pyIter_rangeiter st h
section
variable {X : Cx} {tg : Expr}
def Ym (K : W.Frag) (tl : TE) : TI := fun σ H R => tl σ H fun x H1 => ∃ a, x = .ref a ∧ (∃ xs, SqL K H1 a xs) ∧ R (Itl K a) H1
def iTup (K : W.Frag) (tl : TE) : TI := fun σ H R => tl σ H fun x H1 => ∃ a, x = .ref a ∧ (∃ xs, SqT K H1 a xs) ∧ R (Itt K a) H1
theorem zP {l : Expr} {tl : TE} (hl : PE X l tl) : PI X tg l (Ym X.K tl) := by
 intro pins s σ H R I h
 refine thn (hl pins s σ H _ I h) fun v s1 ⟨x, H1, I1, r1, q1⟩ => ?_
 obtain ⟨a, e, ⟨xs, hq⟩, q⟩ := q1
 subst e
 cases r1
 obtain ⟨its, rv, p, hz⟩ := I1.list hq
 refine wpAny_pyIter_list p.isList ?_
 refine ⟨s1.heap.objs.size, [s1.heap.objs.size], _, _, H1, rfl, I1.kept (t' := s1.toks) fun b o e => Heap.get?_push_of_some _ e, turn_list a _, ⟨_, Heap.get?_push_size _ rfl, rfl, rfl⟩, fun b hb => ?_, q⟩
 have e : b = s1.heap.objs.size := by simpa using hb
 subst e
 exact I1.fpOk (Nat.le_refl _) (I1.hok.fresh (Nat.le_refl _))
theorem x8 {l : Expr} {tl : TE} (hl : PE X l tl) : PI X tg l (iTup X.K tl) := by
 intro pins s σ H R I h
 refine thn (hl pins s σ H _ I h) fun v s1 ⟨x, H1, I1, r1, q1⟩ => ?_
 obtain ⟨a, e, ⟨xs, hq⟩, q⟩ := q1
 subst e
 cases r1
 obtain ⟨its, rv, p, hz⟩ := I1.tuple hq
 refine wpAny_pyIter_tuple (show s1.heap.IsTuple a its.toArray from p) ?_
 refine ⟨s1.heap.objs.size, [s1.heap.objs.size], _, _, H1, rfl, I1.kept (t' := s1.toks) fun b o e => Heap.get?_push_of_some _ e, turn_tuple a _, ⟨_, Heap.get?_push_size _ rfl, rfl, rfl⟩, fun b hb => ?_, q⟩
 have e : b = s1.heap.objs.size := by simpa using hb
 subst e
 exact I1.fpOk (Nat.le_refl _) (I1.hok.fresh (Nat.le_refl _))
theorem range_it {pins : List (Addr × Obj)} {σ : St} {H : Hp} {s : Shared} {R : It → Hp → Prop} {E : Value → Shared → Prop} {lo hi : Int} {t u v : Tok} {tk : Nat} (I : Inv X pins σ H s) (h1 : -(2 ^ 62) ≤ lo) (h2 : lo < 2 ^ 62) (h3 : -(2 ^ 62) ≤ hi) (h4 : hi < 2 ^ 62)
  (q : R (Itr lo (hi - lo).toNat) H) : wpAny (model X.prog X.w) X.A (pyIter (.ref s.heap.objs.size)) (PIE X pins σ tg R) E { s with heap := s.heap.push { cls := .type "range", data := .fields #[.int lo t, .int hi u, .int 1 v] }, toks := tk } := by
 refine wpAny_pyIter_range (IsRange.new ..) (small_one h1 h2 h3 h4) ?_
 have I1 : Inv X pins σ H { s with heap := s.heap.push { cls := .type "range", data := .fields #[.int lo t, .int hi u, .int 1 v] }, toks := tk } := I.kept fun b o e => Heap.get?_push_of_some _ e
 refine ⟨(s.heap.push { cls := .type "range", data := .fields #[.int lo t, .int hi u, .int 1 v] }).objs.size, [(s.heap.push { cls := .type "range", data := .fields #[.int lo t, .int hi u, .int 1 v] }).objs.size], _, _, H, rfl,
  I1.kept (t' := tk) fun b o e => Heap.get?_push_of_some _ e, turn_range _ lo (hi - lo).toNat, ?_, fun b hb => ?_, q⟩
 ·have e1 : lo + ((0 : Nat) : Int) * 1 = lo := by simp
  have e2 : (((hi - lo).toNat : Nat) : Int) - ((0 : Nat) : Int) = Builtin.Range.rangeSize lo hi 1 := by rw [rangeSize_one]; split <;> omega
  show IsRangeIter _ _ (lo + ((0 : Nat) : Int) * 1) ((((hi - lo).toNat : Nat) : Int) - ((0 : Nat) : Int)) 1
  rw [e1, e2]
  exact Heap.get?_push_size _ rfl
 ·have e : b = (s.heap.push { cls := .type "range", data := .fields #[.int lo t, .int hi u, .int 1 v] }).objs.size := by simpa using hb
  subst e
  exact I1.fpOk (Nat.le_refl _) (I1.hok.fresh (Nat.le_refl _))
def Yl (ta : TA) : TI := fun σ H R => ta σ H fun vs H1 => ∃ j : Int, vs = [.int j] ∧ -(2 ^ 62) ≤ j ∧ j < 2 ^ 62 ∧ R (Itr 0 j.toNat) H1
theorem pi_range1 {a : Expr} {ta : TA} {p pos : Pos} (hg : Gl X "range") (hm : X.mg "range" = none) (ha : PA X [a] ta) (hs : starEach [a] X.env = [(false, eval a X.env)] := by rfl) : PI X tg (.Call (.Name "range" p) [a] [] pos) (Yl ta) := by
 intro pins s σ H R I h
 refine Call_ (xC I hg hm boot_range (PyProof.Rows.callWith_type1 (thn (ha pos pins s σ H _ I h) fun us s1 ⟨vs, H1, I1, r1, q1⟩ => ?_) hs rfl))
 obtain ⟨j, e, q1, q2, q⟩ := q1
 subst e
 cases r1 with
 | cons r rr =>
  cases rr
  obtain ⟨t, rfl⟩ := r
  exact call_range_1 (range_it I1 (by omega) (by omega) q1 q2 (by simpa using q))
def tFor (wi : TI) (g : TG) (tb : TS) : TS := fun D σ H => wi σ H fun J H1 => ∃ W : Nat → Nat → St → Hp → Prop, (∃ m, W 0 m σ H1) ∧ ∀ i m σ H, W i m σ H →
 (J.stop i H ∧ D.nx σ H) ∨ (J.go i H ∧ ∃ N : St → Hp → Prop, (∀ σ' H', N σ' H' → ∃ m', m' < m ∧ W (i + 1) m' σ' H') ∧ ∀ x H', J.yld i H x H' → g x σ H' fun σ2 H2 => tb { D with nx := N, ct := N, bk := D.nx } σ2 H2)
def x6 (fp : List Addr) (h : Heap) : List (Addr × Obj) := fp.filterMap fun b => (h.get? b).map fun o => (b, o)
theorem yh {fp : List Addr} {h : Heap} {b : Addr} {o : Obj} (hb : b ∈ fp) (e : h.get? b = some o) : (b, o) ∈ x6 fp h := List.mem_filterMap.mpr ⟨b, hb, by rw [e]; rfl⟩
theorem of_pinsAt {fp : List Addr} {h : Heap} {p : Addr × Obj} (hp : p ∈ x6 fp h) : p.1 ∈ fp ∧ h.get? p.1 = some p.2 := by
 obtain ⟨b, hb, e⟩ := List.mem_filterMap.mp hp
 cases q : h.get? b with
 | none => rw [q] at e; cases e
 | some o =>
  rw [q] at e
  have e' : (b, o) = p := Option.some.inj e
  subst e'
  exact ⟨hb, q⟩
theorem Inv.pinned {pins : List (Addr × Obj)} {σ : St} {H : Hp} {s : Shared} {fp : List Addr} (I : Inv X pins σ H s) (hf : ∀ b ∈ fp, FpOk X pins H b) (ho : ∀ b ∈ fp, ∃ o, s.heap.get? b = some o ∧ ∀ v, o.data ≠ .cell v) : Inv X (pins ++ x6 fp s.heap) σ H s :=
 I.pins_of fun p hp => (List.mem_append.mp hp).elim (fun z => I.pin p (List.mem_append_right _ z)) fun z => by
  obtain ⟨hb, e⟩ := of_pinsAt z
  obtain ⟨f0, f1, f2, _⟩ := hf p.1 hb
  obtain ⟨o, e', d⟩ := ho p.1 hb
  rw [e] at e'; cases e'
  exact ⟨e, f0, f1, f2, d⟩
theorem Inv.unpinned {pins pl : List (Addr × Obj)} {σ : St} {H : Hp} {s : Shared} (I : Inv X (pins ++ pl) σ H s) : Inv X pins σ H s := I.pins_of fun p hp => I.pin p (List.mem_append_right _ (List.mem_append_left _ hp))
theorem yR {iter : Expr} {body : List Stmt} {wi : TI} {g : TG} {tb : TS} {pos : Pos} (hp : PassesOwn (model X.prog X.w) X.A X.env X.xe) (hc : X.calm = true) (hi : PI X tg iter wi) (hg : PG X tg g) (hb : PSs X body tb)
  (hs : ∀ x, foldedSetIterable iter X.env x = pure x := by intro _; rfl) : PS X (.For tg iter body [] pos) (tFor wi g tb) := by
 intro pins s σ H D I h
 refine wpAny_For (thn (hi pins s σ H _ I h) fun v s1 h1 => thn h1 fun itv s2 h2 => ?_) hs
 obtain ⟨it, fp, tn, J, H2, e, I2, T, st2, f2, W, ⟨m0, w0⟩, turn⟩ := h2
 subst e
 -- what stays true of the iterator's objects through the loop
 have stat : ∀ {H' : Hp}, (∀ b ∈ fp, H' b = none) → ∀ b ∈ fp, FpOk X pins H' b := fun hn b hb => ⟨hn b hb, (f2 b hb).2⟩
 refine codeAny_forLoop_any (fun n s' => ∃ i σ' H', Inv X pins σ' H' s' ∧ tn i s'.heap ∧ (∀ b ∈ fp, H' b = none) ∧ W i n σ' H') ?_ m0 ⟨0, σ, H2, I2, st2, fun b hb => (f2 b hb).1, w0⟩
 rintro n s3 ⟨i, σ3, H3, I3, st3, fr3, w3⟩
 rcases turn i n σ3 H3 w3 with ⟨stop, qn⟩ | ⟨go, N, hN, step⟩
 ·refine wpAny_passesOwn hp (thn (T.done X rfl rfl rfl hc i pins s3 σ3 H3 X.xe I3 (stat fr3) st3 stop) fun r s4 ⟨hr, I4⟩ => ?_)
  subst hr
  exact wpAny_execs_nil ⟨σ3, H3, I4, qn⟩
 ·refine wpAny_passesOwn hp (thn (T.item X rfl rfl rfl hc i pins s3 σ3 H3 X.xe I3 (stat fr3) st3 go) fun r s4 ⟨u, hr, h4⟩ => ?_)
  subst hr
  refine wpAny_passesOwn hp (thn h4 fun _ s5 ⟨x, H5, I5, r5, y5, st5, fr5⟩ => ?_)
  have I5' := I5.pinned (stat fr5) (T.obj _ _ st5)
  refine wpAny_passesOwn hp (thn (hg _ s5 σ3 H5 x u _ I5' r5 (step x H5 y5)) fun _ s6 ⟨σ6, H6, I6, q6⟩ => ?_)
  refine wpAny_passesOwn hp (thn (hb _ s6 σ6 H6 _ I6 q6) fun f s7 q7 => ?_)
  have again : ∀ {σ7 : St} {H7 : Hp}, Inv X (pins ++ x6 fp s5.heap) σ7 H7 s7 → N σ7 H7 → ∃ m, m < n ∧ ∃ i σ' H', Inv X pins σ' H' s7 ∧ tn i s7.heap ∧ (∀ b ∈ fp, H' b = none) ∧ W i m σ' H' := fun {σ7 H7} I7 n7 => by
   obtain ⟨m', hm, w7⟩ := hN σ7 H7 n7
   refine ⟨m', hm, i + 1, σ7, H7, I7.unpinned, T.keep _ _ _ st5 fun b hb o e => (I7.pin (b, o) (List.mem_append_right _ (List.mem_append_right _ (yh hb e)))).1, fun b hb => ?_, w7⟩
   obtain ⟨o, e, d⟩ := T.obj _ _ st5 b hb
   exact (I7.pin (b, o) (List.mem_append_right _ (List.mem_append_right _ (yh hb e)))).2.1
  cases f with
  | next => obtain ⟨σ7, H7, I7, n7⟩ := q7; exact again I7 n7
  | cont => obtain ⟨σ7, H7, I7, n7⟩ := q7; exact again I7 n7
  | brk => obtain ⟨σ7, H7, I7, q7⟩ := q7; exact ⟨σ7, H7, I7.unpinned, q7⟩
  | ret v => obtain ⟨x7, σ7, H7, I7, r7, q7⟩ := q7; exact ⟨x7, σ7, H7, I7.unpinned, r7, q7⟩
end
theorem for_list {K : W.Frag} {a : Addr} {xs : List V} {g : TG} {tb : TS} {D : Ends} {σ : St} {H : Hp} (Pv : Nat → St → Hp → Prop) (h0 : Pv 0 σ H) (hl : ∀ i σ H, i ≤ xs.length → Pv i σ H → SqL K H a xs)
  (hs : ∀ i x σ H, xs[i]? = some x → Pv i σ H → g x σ H fun σ2 H2 => tb { D with nx := Pv (i + 1), ct := Pv (i + 1), bk := D.nx } σ2 H2) (hd : ∀ σ H, Pv xs.length σ H → D.nx σ H) :
  ∃ W : Nat → Nat → St → Hp → Prop, (∃ m, W 0 m σ H) ∧ ∀ i m σ H, W i m σ H →
   ((Itl K a).stop i H ∧ D.nx σ H) ∨ ((Itl K a).go i H ∧ ∃ N : St → Hp → Prop, (∀ σ' H', N σ' H' → ∃ m', m' < m ∧ W (i + 1) m' σ' H') ∧ ∀ x H', (Itl K a).yld i H x H' → g x σ H' fun σ2 H2 => tb { D with nx := N, ct := N, bk := D.nx } σ2 H2) := by
 refine ⟨fun i m σ H => m = xs.length - i ∧ i ≤ xs.length ∧ Pv i σ H, ⟨xs.length, by simp, Nat.zero_le _, h0⟩, ?_⟩
 rintro i m σ H ⟨rfl, hi, p⟩
 have q := hl i σ H hi p
 by_cases hlt : i < xs.length
 ·refine .inr ⟨⟨xs, xs[i], q, by simp [hlt]⟩, Pv (i + 1), fun σ' H' p' => ⟨xs.length - (i + 1), by omega, rfl, hlt, p'⟩, fun x H' y => ?_⟩
  obtain ⟨e, y⟩ := y
  subst e
  exact hs i x σ _ (y xs q) p
 ·have e : i = xs.length := by omega
  subst e
  exact .inl ⟨⟨xs, q, Nat.le_refl _⟩, hd σ H p⟩
theorem yu {lo : Int} {n : Nat} {g : TG} {tb : TS} {D : Ends} {σ : St} {H : Hp} (Pv : Nat → St → Hp → Prop) (h0 : Pv 0 σ H)
  (hs : ∀ i σ H, i < n → Pv i σ H → g (.int (lo + i)) σ H fun σ2 H2 => tb { D with nx := Pv (i + 1), ct := Pv (i + 1), bk := D.nx } σ2 H2) (hd : ∀ σ H, Pv n σ H → D.nx σ H) :
  ∃ W : Nat → Nat → St → Hp → Prop, (∃ m, W 0 m σ H) ∧ ∀ i m σ H, W i m σ H →
   ((Itr lo n).stop i H ∧ D.nx σ H) ∨ ((Itr lo n).go i H ∧ ∃ N : St → Hp → Prop, (∀ σ' H', N σ' H' → ∃ m', m' < m ∧ W (i + 1) m' σ' H') ∧ ∀ x H', (Itr lo n).yld i H x H' → g x σ H' fun σ2 H2 => tb { D with nx := N, ct := N, bk := D.nx } σ2 H2) := by
 refine ⟨fun i m σ H => m = n - i ∧ i ≤ n ∧ Pv i σ H, ⟨n, by simp, Nat.zero_le _, h0⟩, ?_⟩
 rintro i m σ H ⟨rfl, hi, p⟩
 by_cases hlt : i < n
 ·refine .inr ⟨hlt, Pv (i + 1), fun σ' H' p' => ⟨n - (i + 1), by omega, rfl, hlt, p'⟩, fun x H' y => ?_⟩
  obtain ⟨e, y⟩ := y
  subst e y
  exact hs i σ _ hlt p
 ·have e : i = n := by omega
  subst e
  exact .inl ⟨Nat.le_refl _, hd σ H p⟩
abbrev R2 := V → V → Hp → VK → Prop
def OpR (X : Cx) (f : Value → Value → Sem Value) (r : R2) : Prop :=
 ∀ (pins : List (Addr × Obj)) (s : Shared) (σ : St) (H : Hp) (x y : V) (v u : Value) (Q : VK), Inv X pins σ H s → RelV x v → RelV y u → r x y H Q →
  wpAny (model X.prog X.w) X.A (f v u) (EP X pins σ Q) X.xe s
def UnR (X : Cx) (f : Value → Sem Value) (r : V → Hp → VK → Prop) : Prop :=
 ∀ (pins : List (Addr × Obj)) (s : Shared) (σ : St) (H : Hp) (x : V) (v : Value) (Q : VK), Inv X pins σ H s → RelV x v → r x H Q →
  wpAny (model X.prog X.w) X.A (f v) (EP X pins σ Q) X.xe s
def zT (X : Cx) (f : Value) (r : List V → Hp → VK → Prop) : Prop :=
 ∀ (pins : List (Addr × Obj)) (s : Shared) (σ : St) (H : Hp) (xs : List V) (us : List Value) (Q : VK), Inv X pins σ H s → Vals xs us → r xs H Q →
  wpAny (model X.prog X.w) X.A (call f us) (EP X pins σ Q) X.xe s
def tOp (r : R2) (ta tb : TE) : TE := fun σ H Q => ta σ H fun x H1 => tb σ H1 fun y H2 => r x y H2 Q
def tUn (r : V → Hp → VK → Prop) (ta : TE) : TE := fun σ H Q => ta σ H fun x H1 => r x H1 Q
def rI (C : Int → Int → Prop) (g : Int → Int → V) : R2 := fun x y H Q => ∃ i j, x = .int i ∧ y = .int j ∧ C i j ∧ Q (g i j) H
def rI0 (g : Int → Int → V) : R2 := fun x y H Q => ∃ i j, x = .int i ∧ y = .int j ∧ Q (g i j) H
def rU (g : Int → V) : V → Hp → VK → Prop := fun x H Q => ∃ i, x = .int i ∧ Q (g i) H
section
variable {X : Cx} {a b c : Expr} {ta tb tc : TE} {pos : Pos}
theorem binT (ha : PE X a ta) (hb : PE X b tb) {pins : List (Addr × Obj)} {s : Shared} {σ : St} {H : Hp} {R : V → V → Hp → Prop} (I : Inv X pins σ H s)
  (h : ta σ H fun x H1 => tb σ H1 fun y H2 => R x y H2) {Q : Value → Shared → Prop} {f : Value → Value → Sem Value}
  (hf : ∀ v u s2 x y H2, Inv X pins σ H2 s2 → RelV x v → RelV y u → R x y H2 → wpAny (model X.prog X.w) X.A (f v u) Q X.xe s2) :
  wpAny (model X.prog X.w) X.A (eval a X.env) (fun v s₁ => wpAny (model X.prog X.w) X.A (eval b X.env) (fun u s₂ => wpAny (model X.prog X.w) X.A (f v u) Q X.xe s₂) X.xe s₁) X.xe s := by
 refine thn (ha pins s σ H _ I h) fun v s1 ⟨x, H1, I1, r1, q1⟩ => ?_
 refine thn (hb pins s1 σ H1 _ I1 q1) fun u s2 ⟨y, H2, I2, r2, q2⟩ => ?_
 exact hf v u s2 x y H2 I2 r1 r2 q2
theorem zk {op : Operator} {r : R2} (ho : OpR X (binaryOp op) r) (ha : PE X a ta) (hb : PE X b tb) : PE X (.BinOp a op b pos) (tOp r ta tb) := by
 intro pins s σ H Q I h
 exact wpAny_BinOp (binT ha hb I h fun v u s2 x y H2 I2 rx ry q => ho pins s2 σ H2 x y v u Q I2 rx ry q)
theorem xo {op : UnaryOp} {r : V → Hp → VK → Prop} (ho : UnR X (unaryOp op) r) (ha : PE X a ta) : PE X (.UnaryOp op a pos) (tUn r ta) := by
 intro pins s σ H Q I h
 exact UnaryOp_ (thn (ha pins s σ H _ I h) fun v s1 ⟨x, H1, I1, r1, q1⟩ => ho pins s1 σ H1 x v Q I1 r1 q1)
theorem opI {f : Value → Value → Sem Value} {C : Int → Int → Prop} {g : Int → Int → Int}
  (rule : ∀ (i j : Int) (t u : Tok) (s : Shared) (Q : Value → Shared → Prop) (E : Value → Shared → Prop), C i j → Q (.int (g i j) s.toks) { s with toks := s.toks + 1 } → wpAny (model X.prog X.w) X.A (f (.int i t) (.int j u)) Q E s) :
  OpR X f (rI C fun i j => .int (g i j)) := by
 intro pins s σ H x y v u Q I rx ry h
 obtain ⟨i, j, rfl, rfl, hc, q⟩ := h
 obtain ⟨t, rfl⟩ := rx
 obtain ⟨t', rfl⟩ := ry
 exact rule i j t t' s _ _ hc ⟨.int (g i j), H, I.tok _, ⟨_, rfl⟩, q⟩
theorem opI0 {f : Value → Value → Sem Value} {g : Int → Int → Int}
  (rule : ∀ (i j : Int) (t u : Tok) (s : Shared) (Q : Value → Shared → Prop) (E : Value → Shared → Prop), Q (.int (g i j) s.toks) { s with toks := s.toks + 1 } → wpAny (model X.prog X.w) X.A (f (.int i t) (.int j u)) Q E s) :
  OpR X f (rI0 fun i j => .int (g i j)) := by
 intro pins s σ H x y v u Q I rx ry h
 obtain ⟨i, j, rfl, rfl, q⟩ := h
 obtain ⟨t, rfl⟩ := rx
 obtain ⟨t', rfl⟩ := ry
 exact rule i j t t' s _ _ ⟨.int (g i j), H, I.tok _, ⟨_, rfl⟩, q⟩
theorem opB0 {f : Value → Value → Sem Value} {g : Int → Int → Bool}
  (rule : ∀ (i j : Int) (t u : Tok) (s : Shared) (Q : Value → Shared → Prop) (E : Value → Shared → Prop), Q (.bool (g i j)) s → wpAny (model X.prog X.w) X.A (f (.int i t) (.int j u)) Q E s) :
  OpR X f (rI0 fun i j => .bl (g i j)) := by
 intro pins s σ H x y v u Q I rx ry h
 obtain ⟨i, j, rfl, rfl, q⟩ := h
 obtain ⟨t, rfl⟩ := rx
 obtain ⟨t', rfl⟩ := ry
 exact rule i j t t' s _ _ ⟨.bl (g i j), H, I, rfl, q⟩
def CDiv (i j : Int) : Prop := 0 < j ∧ j < 1073741824
def CPow (i j : Int) : Prop := 0 ≤ j ∧ j ≤ 1000000 ∧ i.natAbs < 2 ^ 64
def CMul (i j : Int) : Prop := (-(2 ^ 64) < i ∧ i < 2 ^ 64) ∨ (-(2 ^ 64) < j ∧ j < 2 ^ 64)
theorem CMul.ok {i j : Int} (h : CMul i j) : IntMulOk i j := by
 rcases h with ⟨h1, h2⟩ | ⟨h1, h2⟩
 ·exact .of_left (intBits_le_64 h1 h2)
 ·exact .of_right (intBits_le_64 h1 h2)
theorem zS : OpR X (binaryOp .Add) (rI0 fun i j => .int (i + j)) := opI0 fun _ _ _ _ _ _ _ q => add_int q
theorem yq : OpR X (binaryOp .Sub) (rI0 fun i j => .int (i - j)) := opI0 fun _ _ _ _ _ _ _ q => sub_int q
theorem xB : OpR X (binaryOp .Mult) (rI CMul fun i j => .int (i * j)) := opI fun _ _ _ _ _ _ _ hc q => mul_int q hc.ok
theorem wN : OpR X (binaryOp .FloorDiv) (rI CDiv fun i j => .int (i / j)) := opI fun i j _ _ _ _ _ hc q => by
 have h1 : (0 : Int) < j := hc.1
 have h2 : j < 1073741824 := hc.2
 exact floordiv_int (by omega) (by rw [Int.fdiv_eq_ediv_of_nonneg i (by omega)]; exact q) (.inl (PyProof.noPylong_small (by omega)))
theorem yT : OpR X (binaryOp .Mod) (rI (fun _ j => 0 < j) fun i j => .int (i % j)) := opI fun i j _ _ _ _ _ hc q => by
 have h1 : (0 : Int) < j := hc
 exact mod_int' (by omega) (by rw [Int.fmod_eq_emod_of_nonneg i (by omega)]; exact q)
theorem ZI : OpR X (binaryOp .Pow) (rI CPow fun i j => .int (i ^ j.toNat)) := opI fun _ _ _ _ _ _ _ hc q => pow_int_small hc.1 hc.2.1 hc.2.2 q
theorem unI {f : Value → Sem Value} {g : Int → Int}
  (rule : ∀ (i : Int) (t : Tok) (s : Shared) (Q : Value → Shared → Prop) (E : Value → Shared → Prop), Q (.int (g i) s.toks) { s with toks := s.toks + 1 } → wpAny (model X.prog X.w) X.A (f (.int i t)) Q E s) :
  UnR X f (rU fun i => .int (g i)) := by
 intro pins s σ H x v Q I rx h
 obtain ⟨i, rfl, q⟩ := h
 obtain ⟨t, rfl⟩ := rx
 exact rule i t s _ _ ⟨.int (g i), H, I.tok _, ⟨_, rfl⟩, q⟩
theorem yw : UnR X (unaryOp .USub) (rU fun i => .int (-i)) := unI fun _ _ _ _ _ q => neg_int q
def scal : V → V → Bool
 | .non, .non => true | .non, .int _ => true | .int _, .non => true | .non, .bl _ => true | .bl _, .non => true | .non, .str _ => true | .str _, .non => true
 | .int _, .int _ => true | .bl _, .bl _ => true | .str _, .str _ => true | .byt _, .byt _ => true
 | .int _, .str _ => true | .str _, .int _ => true | .bl _, .str _ => true | .str _, .bl _ => true
 | _, _ => false
def rEq : R2 := fun x y H Q => scal x y = true ∧ Q (.bl (decide (x = y))) H
def rNe : R2 := fun x y H Q => scal x y = true ∧ Q (.bl (!decide (x = y))) H
theorem Yq {i j : Int} : decide (V.int i = V.int j) = (i == j) := by
 rw [Bool.eq_iff_iff]
 simp
theorem Y6 {i j : Bool} : decide (V.bl i = V.bl j) = (i == j) := by
 rw [Bool.eq_iff_iff]
 simp
theorem Yp {i j : Str} : decide (V.str i = V.str j) = (i == j) := by
 rw [Bool.eq_iff_iff]
 simp
theorem Yr {i j : Array UInt8} : decide (V.byt i = V.byt j) = (i.toList == j.toList) := by
 rw [Bool.eq_iff_iff]
 cases i
 cases j
 simp
theorem zz {pins : List (Addr × Obj)} {σ : St} {H : Hp} {s : Shared} {Q : VK} {k k' : Bool} (I : Inv X pins σ H s) (q : Q (.bl k) H) (e : k = k') : EP X pins σ Q (.bool k') s := by
 subst e
 exact ⟨.bl k, H, I, rfl, q⟩
theorem Zj : OpR X (compareOp .Eq) rEq := by
 intro pins s σ H x y v u Q I rx ry h
 obtain ⟨hs, q⟩ := h
 cases x with
 | non =>
  cases rx
  cases y with
  | non => cases ry; exact PySem.EqNone.eq_none_none (zz I q (by simp))
  | bl j => cases ry; exact PySem.EqNone.eq_none_bool (zz I q (by simp))
  | int j => obtain ⟨t', rfl⟩ := ry; exact PySem.EqNone.eq_none_int (zz I q (by simp))
  | str j => obtain ⟨t', rfl⟩ := ry; exact PySem.EqNone.eq_none_str (zz I q (by simp))
  | _ => exact absurd (show false = true from hs) Bool.false_ne_true
 | bl i =>
  cases rx
  cases y with
  | non => cases ry; exact PySem.EqNone.eq_bool_none (zz I q (by simp))
  | bl j => cases ry; exact eq_bool (zz I q Y6)
  | str j => obtain ⟨t', rfl⟩ := ry; exact PySem.EqMixed.eq_bool_str (zz I q (by simp))
  | _ => exact absurd (show false = true from hs) Bool.false_ne_true
 | int i =>
  obtain ⟨t, rfl⟩ := rx
  cases y with
  | non => cases ry; exact PySem.EqNone.eq_int_none (zz I q (by simp))
  | int j => obtain ⟨t', rfl⟩ := ry; exact eq_int (zz I q Yq)
  | str j => obtain ⟨t', rfl⟩ := ry; exact PySem.EqMixed.eq_int_str (zz I q (by simp))
  | _ => exact absurd (show false = true from hs) Bool.false_ne_true
 | str i =>
  obtain ⟨t, rfl⟩ := rx
  cases y with
  | non => cases ry; exact PySem.EqNone.eq_str_none (zz I q (by simp))
  | bl j => cases ry; exact PySem.EqMixed.eq_str_bool (zz I q (by simp))
  | int j => obtain ⟨t', rfl⟩ := ry; exact PySem.EqMixed.eq_str_int (zz I q (by simp))
  | str j => obtain ⟨t', rfl⟩ := ry; exact eq_str (zz I q Yp)
  | _ => exact absurd (show false = true from hs) Bool.false_ne_true
 | byt i =>
  obtain ⟨t, rfl⟩ := rx
  cases y with
  | byt j => obtain ⟨t', rfl⟩ := ry; exact PySem.W.eq_bytes (zz I q Yr)
  | _ => exact absurd (show false = true from hs) Bool.false_ne_true
 | _ => cases y <;> exact absurd (show false = true from hs) Bool.false_ne_true
theorem yX : OpR X (compareOp .NotEq) rNe := by
 intro pins s σ H x y v u Q I rx ry h
 obtain ⟨hs, q⟩ := h
 cases x with
 | non =>
  cases rx
  cases y with
  | non => cases ry; exact PySem.EqNone.ne_none_none (zz I q (by simp))
  | bl j => cases ry; exact PySem.EqNone.ne_none_bool (zz I q (by simp))
  | int j => obtain ⟨t', rfl⟩ := ry; exact PySem.EqNone.ne_none_int (zz I q (by simp))
  | str j => obtain ⟨t', rfl⟩ := ry; exact PySem.EqNone.ne_none_str (zz I q (by simp))
  | _ => exact absurd (show false = true from hs) Bool.false_ne_true
 | bl i =>
  cases rx
  cases y with
  | non => cases ry; exact PySem.EqNone.ne_bool_none (zz I q (by simp))
  | bl j => cases ry; exact ne_bool (zz I q (congrArg not Y6))
  | str j => obtain ⟨t', rfl⟩ := ry; exact PySem.EqMixed.ne_bool_str (zz I q (by simp))
  | _ => exact absurd (show false = true from hs) Bool.false_ne_true
 | int i =>
  obtain ⟨t, rfl⟩ := rx
  cases y with
  | non => cases ry; exact PySem.EqNone.ne_int_none (zz I q (by simp))
  | int j => obtain ⟨t', rfl⟩ := ry; exact ne_int (zz I q (congrArg not Yq))
  | str j => obtain ⟨t', rfl⟩ := ry; exact PySem.EqMixed.ne_int_str (zz I q (by simp))
  | _ => exact absurd (show false = true from hs) Bool.false_ne_true
 | str i =>
  obtain ⟨t, rfl⟩ := rx
  cases y with
  | non => cases ry; exact PySem.EqNone.ne_str_none (zz I q (by simp))
  | bl j => cases ry; exact PySem.EqMixed.ne_str_bool (zz I q (by simp))
  | int j => obtain ⟨t', rfl⟩ := ry; exact PySem.EqMixed.ne_str_int (zz I q (by simp))
  | str j => obtain ⟨t', rfl⟩ := ry; exact ne_str (zz I q (congrArg not Yp))
  | _ => exact absurd (show false = true from hs) Bool.false_ne_true
 | byt i =>
  obtain ⟨t, rfl⟩ := rx
  cases y with
  | byt j => obtain ⟨t', rfl⟩ := ry; exact PySem.W.ne_bytes (zz I q (congrArg not Yr))
  | _ => exact absurd (show false = true from hs) Bool.false_ne_true
 | _ => cases y <;> exact absurd (show false = true from hs) Bool.false_ne_true
theorem xq : OpR X (compareOp .Lt) (rI0 fun i j => .bl (decide (i < j))) := opB0 fun _ _ _ _ _ _ _ q => lt_int q
theorem op_le : OpR X (compareOp .LtE) (rI0 fun i j => .bl (decide (i ≤ j))) := opB0 fun _ _ _ _ _ _ _ q => le_int q
theorem wC : OpR X (compareOp .Gt) (rI0 fun i j => .bl (decide (j < i))) := opB0 fun _ _ _ _ _ _ _ q => gt_int q
theorem YS : OpR X (compareOp .GtE) (rI0 fun i j => .bl (decide (j ≤ i))) := opB0 fun _ _ _ _ _ _ _ q => ge_int q
theorem zo (b : Expr) {op : CmpOp} (h : op ≠ .In := by decide) (h2 : op ≠ .NotIn := by decide) : behindInMarks op b = false := by
 have e1 : (op == CmpOp.In) = false := by cases op <;> first | rfl | exact absurd rfl h
 have e2 : (op == CmpOp.NotIn) = false := by cases op <;> first | rfl | exact absurd rfl h2
 cases b <;> simp [behindInMarks, e1, e2]
theorem yF {op : CmpOp} {r : R2} (ho : OpR X (compareOp op) r) (ha : PE X a ta) (hb : PE X b tb) (hm : behindInMarks op b = false) : PE X (.Compare a [op] [b] pos) (tOp r ta tb) := by
 intro pins s σ H Q I h
 exact wpAny_Compare1 (binT ha hb I h fun v u s2 x y H2 I2 rx ry q => ho pins s2 σ H2 x y v u Q I2 rx ry q) hm
def Xd (t : TE) : TT := fun σ H Q => t σ H fun x H' => ∃ k, x = .bl k ∧ Q k H'
theorem zm {op : CmpOp} {r : R2} (ho : OpR X (compareOp op) r) (ha : PE X a ta) (hb : PE X b tb) (hm : behindInMarks op b = false) : PT X (.Compare a [op] [b] pos) (Xd (tOp r ta tb)) := by
 intro pins s σ H Q I h
 refine wpAny_isTrue_Compare1 (thn (ha pins s σ H _ I h) fun v s1 ⟨x, H1, I1, r1, q1⟩ => thn (hb pins s1 σ H1 _ I1 q1) fun u s2 ⟨y, H2, I2, r2, q2⟩ =>
  thn (ho pins s2 σ H2 x y v u _ I2 r1 r2 q2) fun c s3 ⟨z, H3, I3, r3, k, e, q3⟩ => ?_) hm
 subst e
 cases r3
 exact wpAny_truthy_bool ⟨H3, I3, q3⟩
theorem va : (sizeLine : Nat) < 2 ^ 63 := by rw [sizeLine_eq]; decide
theorem vo {x : V} {us : List Value} (r : Vals [x] us) : ∃ u, us = [u] ∧ RelV x u := by
 cases r with
 | cons r1 r2 => cases r2; exact ⟨_, rfl, r1⟩
theorem ZB : zT X (.builtin "abs") (fun xs H Q => ∃ i, xs = [.int i] ∧ Q (.int (if i < 0 then -i else i)) H) := by
 intro pins s σ H xs us Q I r h
 obtain ⟨i, rfl, q⟩ := h
 obtain ⟨u, rfl, t, rfl⟩ := vo r
 exact call_abs_int fun u tk => ⟨.int (if i < 0 then -i else i), H, I.tok _, ⟨_, rfl⟩, q⟩
theorem we : zT X (.type "int") (fun xs H Q => (∃ i, xs = [.int i] ∧ Q (.int i) H) ∨ ∃ k, xs = [.bl k] ∧ Q (.int (if k then 1 else 0)) H) := by
 intro pins s σ H xs us Q I r h
 rcases h with ⟨i, rfl, q⟩ | ⟨k, rfl, q⟩
 ·obtain ⟨u, rfl, t, rfl⟩ := vo r
  exact call_int_int ⟨.int i, H, I, ⟨_, rfl⟩, q⟩
 ·obtain ⟨u, rfl, r1⟩ := vo r
  cases r1
  exact call_int_bool ⟨.int (if k then 1 else 0), H, I.tok _, ⟨_, rfl⟩, q⟩
end
structure ObjM (h : Heap) (x dx C : Addr) (mA : Str → Option Value) : Prop where
 obj : h.get? x = some (PySem.W.instObj C dx)
 ns : h.Ns1 dx mA
 ne : dx ≠ x
theorem lookIn_ns {h : Heap} {dx : Addr} {mA : Str → Option Value} (n : h.Ns1 dx mA) : ∃ od, h.get? dx = some od ∧ ∀ name, PySem.W.lookIn name od = some (mA name) := by
 obtain ⟨o, es, ep, ho, hd, hk, _, hm⟩ := n
 refine ⟨o, ho, fun name => ?_⟩
 have e := hm name
 unfold nsFind findBy at e
 rw [← Array.find?_toList] at e
 unfold PySem.W.lookIn
 rw [hd]
 dsimp only
 split
 ·rename_i y q
  rw [q] at e
  exact congrArg some e
 ·rename_i q
  rw [q] at e
  have a : es.toList.any (·.refKey) = false := by
   rw [List.any_eq_false]
   intro y hy
   obtain ⟨z, t, hkey⟩ := hk y (Array.mem_toList_iff.mp hy)
   simp [DictEntry.refKey, hkey]
  have a' : ¬ es.toList.any (·.refKey) = true := by rw [a]; exact Bool.false_ne_true
  rw [if_neg a']
  exact congrArg some e
theorem ObjM.look {h : Heap} {x dx C : Addr} {mA : Str → Option Value} (I : ObjM h x dx C mA) : ∃ od, PySem.W.InstAt h x (PySem.W.instObj C dx) C (some od) ∧ ∀ name, PySem.W.lookIn name od = some (mA name) :=
 let ⟨od, ho, hl⟩ := lookIn_ns I.ns
 ⟨od, ⟨I.obj, rfl, rfl, ho⟩, hl⟩
section
variable {prog : Program} {w : World} {A : Around} {E : Value → Shared → Prop} {s : Shared} {K : W.Frag} {x dx C f : Addr} {mA : Str → Option Value} {name : Str} {v : Value}
theorem get_map {expr : Bool} {Q : Value → Shared → Prop} (X : K.In s.heap) (I : ObjM s.heap x dx C mA) (hg : PySem.W.plainGet K C name = true) (hh : PySem.W.hasDictIn K C = true)
  (ha : PySem.W.findIn K (.ref C) name = some none) (hv : mA name = some v) (hv' : PySem.W.handedIn v = true) (h : Q v { s with toks := s.toks + 1 }) :
  wpAny (model prog w) A (getAttr (.ref x) name expr) Q E s := by
 obtain ⟨od, J, hl⟩ := I.look
 exact PySem.W.get_value X J (PySem.W.plainGet_of hg).1 (PySem.W.findObj_own hh ha rfl (by rw [hl, hv])) hv' h
theorem get_meth {pl : Sem Bool} {Q : Value × List Value → Shared → Prop} (X : K.In s.heap) (I : ObjM s.heap x dx C mA) (hg : PySem.W.plainGet K C name = true)
  (hf : PySem.W.findIn K (.ref C) name = some (some (.ref f))) (ht : PySem.W.isFn K (.ref f) = true) (hv : mA name = none) (h : Q (.ref f, [.ref x]) s) :
  wpAny (model prog w) A (getMethod (.ref x) name pl) Q E s := by
 obtain ⟨od, J, hl⟩ := I.look
 exact PySem.W.method_fn X J (PySem.W.plainGet_of hg).1 (PySem.W.plainGet_of hg).2 hf (beq_iff_eq.mp ht) (by show (PySem.W.lookIn name od).map (·.isSome) = some false; rw [hl, hv]; rfl) h
theorem set_map {ns : List Str} {Q : Unit → Shared → Prop} (X : K.In s.heap) (I : ObjM s.heap x dx C mA)
  (hs : PySem.W.findIn K (.ref C) "__setattr__" = some (some (.builtin "object.__setattr__"))) (hp : PySem.W.plainOver K C = true) (ht : PySem.W.takerIn K C name = some none) (hh : PySem.W.hasDictIn K C = true)
  (hw : PySem.Within mA ns) (hsz : ns.length ≤ sizeLine)
  (h : ∀ h', ObjM h' x dx C (fun y => if y = name then some v else mA y) → Heap.SameBut dx s.heap h' → Q () { s with heap := h', toks := s.toks + 2 }) :
  wpAny (model prog w) A (setAttr (.ref x) name v) Q E s := by
 obtain ⟨od, J, hl⟩ := I.look
 refine PySem.W.set_plain X J hs (PySem.W.osa_open (s := { s with toks := s.toks + 1 }) (r := none) X J hp ht fun b => ?_)
 obtain ⟨cd, hc, hd'⟩ := PySem.W.any_some hh
 have hx : s.heap.get? x = some ⟨.ref C, some dx, .plain, #[]⟩ := I.obj
 refine wpAny_bind (wpAny_pure (wpAny_bind (wpAny_bind (wpAny_loadPart hx (wpAny_bind (PySem.W.Looks.here (s := { s with toks := s.toks + 1 }) (PySem.W.looks_clsIn X hc) ?_))))))
 rw [hd']
 refine wpAny_pure (a := some dx) (wpAny_bind (wpAny_pure (wpAny_bind ?_)))
 refine wpAny_nsSet1 (s := { s with toks := s.toks + 1 }) I.ns fun h' hn2 hs2 => ?_
 obtain ⟨oD, esD, epD, hoD, hdD, hcD⟩ := hn2.count (PySem.Within.cons name v hw)
 refine wpAny_bind (wpAny_lookBehind hoD (by rw [hdD]; exact pastItsLine_dict (Nat.le_trans hcD (by rw [List.length_cons]; omega))) ?_)
 exact wpAny_pure (h _ ⟨(hs2.2 _ (Ne.symm I.ne)).trans I.obj, hn2, I.ne⟩ hs2)
theorem make_map {R : Result → Shared → Prop} {vs : List Value} {kw : List (Str × Value)} (X : K.In s.heap) (hm : PySem.W.makesIn K C = true)
  (hi : PySem.W.findIn K (.ref C) "__init__" = some (some (.ref f))) (hf : PySem.W.typeIn K (.ref f) = some (.type "function"))
  (h : codeAny (model prog w) (A.under (.builtin "type.__call__" ⟨.ref C :: vs, kw⟩)) (.call (.ref f) ⟨.ref (s.heap.objs.size + 1) :: vs, kw⟩) (PySem.W.InitBack (s.heap.objs.size + 1) R)
   { s with heap := (s.heap.push PySem.W.emptyDict).push (PySem.W.instObj C s.heap.objs.size) }) :
  codeAny (model prog w) A (.call (.ref C) ⟨vs, kw⟩) R s := by
 obtain ⟨hh, g, d, t, os⟩ := s
 exact PySem.W.make_core (PySem.W.makes_of X hm) (PySem.W.looks_findIn X hi) (fun self => PySem.W.bind_fn X self hf) (.inl rfl) h
end
def putF (f : Str) (v : V) : List (Str × V) → List (Str × V)
 | [] => [(f, v)]
 | (g, x) :: r => if g = f then (g, v) :: r else (g, x) :: putF f v r
theorem wD (f g : Str) (v : V) : ∀ fs : List (Str × V), (putF f v fs).lookup g = if g = f then some v else fs.lookup g
 | [] => by
  show List.lookup g [(f, v)] = _
  by_cases h : g = f
  ·have hb : (g == f) = true := beq_iff_eq.mpr h
   simp only [List.lookup, hb, if_pos h]
  ·have hb : (g == f) = false := beq_eq_false_iff_ne.mpr h
   simp only [List.lookup, hb, if_neg h]
 | (k, x) :: r => by
  have ih := wD f g v r
  rw [show putF f v ((k, x) :: r) = (if k = f then (k, v) :: r else (k, x) :: putF f v r) from rfl]
  by_cases hk : k = f
  ·rw [if_pos hk]
   by_cases h : g = k
   ·have hb : (g == k) = true := beq_iff_eq.mpr h
    simp only [List.lookup, hb, if_pos (h.trans hk)]
   ·have hb : (g == k) = false := beq_eq_false_iff_ne.mpr h
    simp only [List.lookup, hb, if_neg (fun e : g = f => h (e.trans hk.symm))]
  ·rw [if_neg hk]
   by_cases h : g = k
   ·have hb : (g == k) = true := beq_iff_eq.mpr h
    simp only [List.lookup, hb, if_neg (fun e : g = f => hk (h.symm.trans e))]
   ·have hb : (g == k) = false := beq_eq_false_iff_ne.mpr h
    simp only [List.lookup, hb]
    exact ih
theorem wb (f : Str) (v : V) : ∀ fs : List (Str × V), f ∈ (putF f v fs).map (·.1) ∧ ∀ g, g ∈ fs.map (·.1) → g ∈ (putF f v fs).map (·.1)
 | [] => ⟨by simp [putF], fun g h => by simp at h⟩
 | (k, x) :: r => by
  obtain ⟨i1, i2⟩ := wb f v r
  rw [show putF f v ((k, x) :: r) = (if k = f then (k, v) :: r else (k, x) :: putF f v r) from rfl]
  by_cases hk : k = f
  ·rw [if_pos hk]
   subst hk
   exact ⟨by simp, fun g h => by simpa using h⟩
  ·rw [if_neg hk]
   refine ⟨?_, fun g h => ?_⟩
   ·rw [List.map_cons]
    exact List.mem_cons_of_mem _ i1
   ·rw [List.map_cons] at h ⊢
    rcases List.mem_cons.mp h with e | e
    ·exact List.mem_cons.mpr (.inl e)
    ·exact List.mem_cons_of_mem _ (i2 g e)
theorem wE (f : Str) (v : V) : ∀ fs : List (Str × V), (putF f v fs).length ≤ fs.length + 1
 | [] => by simp [putF]
 | (k, x) :: r => by
  have ih := wE f v r
  rw [show putF f v ((k, x) :: r) = (if k = f then (k, v) :: r else (k, x) :: putF f v r) from rfl]
  by_cases hk : k = f
  ·rw [if_pos hk, List.length_cons, List.length_cons]; omega
  ·rw [if_neg hk, List.length_cons, List.length_cons]; omega
theorem RelO.some_of {v : V} {o : Option Value} (r : RelO (some v) o) : ∃ u, o = some u ∧ RelV v u := by
 cases o with
 | none => exact (show False from r).elim
 | some u => exact ⟨u, rfl, r⟩
theorem RelO.none_of {o : Option Value} (r : RelO none o) : o = none := by
 cases o with
 | none => rfl
 | some u => exact (show False from r).elim
theorem handed_of {v : V} {u : Value} (r : RelV v u) : PySem.W.handedIn u = true := by
 cases v with
 | non => cases (show u = Value.none from r); rfl
 | bl b => cases (show u = Value.bool b from r); rfl
 | int i => obtain ⟨t, e⟩ := (show ∃ t, u = Value.int i t from r); cases e; rfl
 | str x => obtain ⟨t, e⟩ := (show ∃ t, u = Value.str x t from r); cases e; rfl
 | byt b => obtain ⟨t, e⟩ := (show ∃ t, u = Value.bytes b t from r); cases e; rfl
 | flt b => obtain ⟨t, e⟩ := (show ∃ t, u = Value.float b t from r); cases e; rfl
 | ref a => cases (show u = Value.ref a from r); rfl
 | ty n => cases (show u = Value.type n from r); rfl
section
variable {P : Program} {w : World} {H H' : Hp} {h h' : Heap} {a C dx : Addr} {fs fs' : List (Str × V)}
theorem wO (hok : HOk P w H h) (e : H a = some (.ins C dx fs)) : ∃ mA, ObjM h a dx C mA ∧ (∀ f, RelO (fs.lookup f) (mA f)) ∧ PySem.Within mA (fs.map (·.1)) ∧ fs.length ≤ 1000 ∧ H dx = some (.own a) := by
 obtain ⟨d, z, ne, ob, mA, n, r, q⟩ := (show ObjOk P w H h a (.ins C dx fs) from hok a _ e)
 exact ⟨mA, ⟨ob, n, ne⟩, r, q, z, d⟩
end
structure Cls (K : W.Frag) (C : Addr) : Prop where
 pg : PySem.W.plainGet K C Str.empty = true
 hd : PySem.W.hasDictIn K C = true
 po : PySem.W.plainOver K C = true
 sa : PySem.W.findIn K (.ref C) "__setattr__" = some (some (.builtin "object.__setattr__"))
theorem Cls.get {K : W.Frag} {C : Addr} (c : Cls K C) (f : Str) : PySem.W.plainGet K C f = true := c.pg
def NoAttr (K : W.Frag) (C : Addr) (f : Str) : Prop := PySem.W.findIn K (.ref C) f = some none
theorem NoAttr.taker {K : W.Frag} {C : Addr} {f : Str} (n : NoAttr K C f) : PySem.W.takerIn K C f = some none := by
 unfold PySem.W.takerIn
 rw [show PySem.W.findIn K (.ref C) f = some none from n]
 rfl
structure Con (K : W.Frag) (C : Addr) (f : Str) (v : V) (u : Value) : Prop where
 at_ : PySem.W.findIn K (.ref C) f = some (some u)
 rel : RelV v u
 get : PySem.W.specialIn K u "__get__" = some none
 cp : PySem.W.copiedNames.contains f = false
structure Meth (K : W.Frag) (C : Addr) (m : Str) (f : Addr) : Prop where
 at_ : PySem.W.findIn K (.ref C) m = some (some (.ref f))
 fn : PySem.W.isFn K (.ref f) = true
 kp : PySem.W.keepIn K (.ref f) = true
section
variable {X : Cx} {pins : List (Addr × Obj)} {σ : St} {H : Hp} {s : Shared} {a C dx : Addr} {fs : List (Str × V)} {f : Str} {v : V} {A : Around} {E : Value → Shared → Prop}
theorem ve {b : Bool} {Q : Value → Shared → Prop} (I : Inv X pins σ H s) (e : H a = some (.ins C dx fs)) (c : Cls X.K C) (n : NoAttr X.K C f) (l : fs.lookup f = some v)
  (h : ∀ u s', Inv X pins σ H s' → RelV v u → Q u s') : wpAny (model X.prog X.w) A (getAttr (.ref a) f b) Q E s := by
 obtain ⟨mA, O, r, _, _, _⟩ := wO I.hok e
 obtain ⟨u, hu, ru⟩ := RelO.some_of (v := v) (o := mA f) (by rw [← l]; exact r f)
 exact get_map I.kIn O (c.get f) c.hd n hu (handed_of ru) (h u _ (I.tok _) ru)
theorem vd {m : Str} {g : Addr} {pl : Sem Bool} {Q : Value × List Value → Shared → Prop} (I : Inv X pins σ H s) (e : H a = some (.ins C dx fs)) (c : Cls X.K C) (k : Meth X.K C m g) (l : fs.lookup m = none)
  (h : Q (.ref g, [.ref a]) s) : wpAny (model X.prog X.w) A (getMethod (.ref a) m pl) Q E s := by
 obtain ⟨mA, O, r, _, _, _⟩ := wO I.hok e
 have hn : mA m = none := RelO.none_of (by rw [← l]; exact r m)
 exact get_meth I.kIn O (c.get m) k.at_ k.fn hn h
theorem wV {y : V} {u : Value} {Q : Unit → Shared → Prop} (I : Inv X pins σ H s) (e : H a = some (.ins C dx fs)) (c : Cls X.K C) (n : NoAttr X.K C f) (hl : fs.length < 1000) (ry : RelV y u)
  (h : ∀ s', Inv X pins σ (upd H a (.ins C dx (putF f y fs))) s' → Q () s') : wpAny (model X.prog X.w) A (setAttr (.ref a) f u) Q E s := by
 obtain ⟨mA, O, r, wi, _, ho⟩ := wO I.hok e
 have hz : (fs.map (·.1)).length ≤ sizeLine := by rw [List.length_map, sizeLine_eq]; omega
 refine set_map I.kIn O c.sa c.po n.taker c.hd wi hz fun h' O' sb => h _ ?_
 have hd : ∃ o, h'.get? dx = some o := let ⟨o, _, _, e', _⟩ := O'.ns; ⟨o, e'⟩
 refine I.write (x := a) (e := dx) (by rw [e]; exact True.intro) (.inr ho) (fun b q hb z => (sb.2 b hb).trans z) hd ?_
 refine ⟨by rw [zh O.ne]; exact ho, ?_, O.ne, O'.obj, _, O'.ns, fun g => ?_, fun g hg => ?_⟩
 ·have := wE f y fs; omega
 ·show RelO ((putF f y fs).lookup g) (if g = f then some u else mA g)
  rw [wD]
  by_cases q : g = f
  ·rw [if_pos q, if_pos q]; exact ry
  ·rw [if_neg q, if_neg q]; exact r g
 ·by_cases q : g = f
  ·rw [q]; exact (wb f y fs).1
  ·refine (wb f y fs).2 g (wi g fun z => hg ?_)
   show (if g = f then some u else mA g) = none
   rw [if_neg q]; exact z
theorem Inv.made (I : Inv X pins σ H s) : Inv X pins σ (upd (upd H s.heap.objs.size (.own (s.heap.objs.size + 1))) (s.heap.objs.size + 1) (.ins C s.heap.objs.size []))
  { s with heap := (s.heap.push PySem.W.emptyDict).push (PySem.W.instObj C s.heap.objs.size) } := by
 have e1 : (s.heap.push PySem.W.emptyDict).get? s.heap.objs.size = some PySem.W.emptyDict := Heap.get?_push_size s.heap rfl
 have e2 : ((s.heap.push PySem.W.emptyDict).push (PySem.W.instObj C s.heap.objs.size)).get? (s.heap.objs.size + 1) = some (PySem.W.instObj C s.heap.objs.size) := by
  have := Heap.get?_push_size (s.heap.push PySem.W.emptyDict) (o := PySem.W.instObj C s.heap.objs.size) rfl
  rwa [Heap.size_push] at this
 have e3 : (s.heap.push PySem.W.emptyDict).Ns s.heap.objs.size (fun _ => none) := ⟨PySem.W.emptyDict, #[], _, e1, rfl, (fun e he => absurd he (by simp)), fun _ => rfl⟩
 have I1 := I.laid (a := s.heap.objs.size) (o := .own (s.heap.objs.size + 1)) (h' := s.heap.push PySem.W.emptyDict) (t' := s.toks) (fun b u q => Heap.get?_push_of_some _ q) (Nat.le_refl _) ⟨_, e1⟩
 refine I1.laid (a := s.heap.objs.size + 1) (o := .ins C s.heap.objs.size []) (t' := s.toks) (fun b u q => Heap.get?_push_of_some _ q) (Nat.le_of_eq (Heap.size_push _ _)) ?_
 have ne : s.heap.objs.size ≠ s.heap.objs.size + 1 := Nat.ne_of_lt (Nat.lt_succ_self _)
 refine ⟨by rw [zh ne, zf], Nat.zero_le _, ne, e2, fun _ => none, (Heap.Ns1.of_empty e3).at fun o q => Heap.get?_push_of_some _ q, fun _ => True.intro, fun y hy => absurd rfl hy⟩
theorem attr_of {prog : Program} {w : World} {env : Env} {e : Expr} {f : Str} {pos : Pos} {s : Shared} {Q : Value → Shared → Prop} (hb : attributeBase e f env (eval e env) = eval e env)
  (h : wpAny (model prog w) A (eval e env) (fun o s₁ => wpAny (model prog w) A (getAttr o f true) Q E s₁) E s) : wpAny (model prog w) A (eval (.Attribute e f pos) env) Q E s :=
 Attribute_any_ h (by rw [arm_eval_Attribute, hb])
end
def tFld (K : W.Frag) (ta : TE) (f : Str) : TE := fun σ H Q => ta σ H fun x H1 => ∃ a C dx fs v, x = .ref a ∧ H1 a = some (.ins C dx fs) ∧ Cls K C ∧ NoAttr K C f ∧ fs.lookup f = some v ∧ Q v H1
def sFld (K : W.Frag) (ta tv : TE) (f : Str) : TS := fun D σ H => tv σ H fun y H1 => ta σ H1 fun x H2 => ∃ a C dx fs, x = .ref a ∧ H2 a = some (.ins C dx fs) ∧ Cls K C ∧ NoAttr K C f ∧ fs.length < 1000 ∧
 D.nx σ (upd H2 a (.ins C dx (putF f y fs)))
def InOp (X : Cx) (op : Operator) (rd : V → V → Hp → VK → Prop) : Prop :=
 ∀ (pins : List (Addr × Obj)) (s : Shared) (σ : St) (H : Hp) (x y : V) (u v : Value) (Q : VK), Inv X pins σ H s → RelV x u → RelV y v → rd x y H Q → wpAny (model X.prog X.w) X.A (inplaceOp op u v) (EP X pins σ Q) X.xe s
def Z2 (K : W.Frag) (ta tv : TE) (rd : V → V → Hp → VK → Prop) (f : Str) : TS := fun D σ H => ta σ H fun x H1 => ∃ a C dx fs v, x = .ref a ∧ H1 a = some (.ins C dx fs) ∧ Cls K C ∧ NoAttr K C f ∧ fs.lookup f = some v ∧
 tv σ H1 fun y H2 => rd v y H2 fun z H3 => ∃ dx' fs', H3 a = some (.ins C dx' fs') ∧ fs'.length < 1000 ∧ D.nx σ (upd H3 a (.ins C dx' (putF f z fs')))
section
variable {X : Cx} {o e value : Expr} {f : Str} {pos pos' tpos : Pos} {ta tv : TE}
theorem zw (he : PE X e ta) (hb : attributeBase e f X.env (eval e X.env) = eval e X.env) : PE X (.Attribute e f pos) (tFld X.K ta f) := by
 intro pins s σ H Q I h
 refine attr_of hb (thn (he pins s σ H _ I h) fun u s1 ⟨x, H1, I1, rx, a, C, dx, fs, v, ex, ea, c, n, l, q⟩ => ?_)
 subst ex
 obtain rfl : u = Value.ref a := rx
 exact ve I1 ea c n l fun u' s2 I2 ru => ⟨v, H1, I2, ru, q⟩
theorem xl (ha : PE X o ta) (hv : PE X value tv) (hs : swapsWith value (some (.Attribute o f pos')) pos.line X.env = pure false) : PS X (.Assign [.Attribute o f pos'] value pos) (sFld X.K ta tv f) := by
 intro pins s σ H D I h
 refine plainObj_wpAny_Assign_Attribute (thn (hv pins s σ H _ I h) fun u s1 ⟨y, H1, I1, ry, q⟩ => thn (ha pins s1 σ H1 _ I1 q) fun ov s2 ⟨x, H2, I2, rx, a, C, dx, fs, ex, ea, c, n, l, q2⟩ => ?_) hs
 subst ex
 obtain rfl : ov = Value.ref a := rx
 exact wV I2 ea c n l ry fun s3 I3 => ⟨σ, _, I3, q2⟩
theorem ps_fldaug {op : Operator} {rd : V → V → Hp → VK → Prop} (ha : PE X o ta) (hv : PE X value tv) (hop : InOp X op rd) : PS X (.AugAssign (.Attribute o f tpos) op value pos) (Z2 X.K ta tv rd f) := by
 intro pins s σ H D I h
 refine wpAny_AugAssign_AttributeAny (thn (ha pins s σ H _ I h) fun ov s1 ⟨x, H1, I1, rx, a, C, dx, fs, v, ex, ea, c, n, l, q⟩ => ?_)
 subst ex
 obtain rfl : ov = Value.ref a := rx
 refine ve I1 ea c n l fun u s2 I2 ru => thn (hv pins s2 σ H1 _ I2 q) fun w3 s3 ⟨y, H2, I3, ry, q3⟩ => thn (hop pins s3 σ H2 v y u w3 _ I3 ru ry q3) fun w4 s4 ⟨z, H3, I4, rz, dx', fs', ea', l', q4⟩ => ?_
 exact wV I4 ea' c n l' rz fun s5 I5 => ⟨σ, _, I5, q4⟩
def rAdd : V → V → Hp → VK → Prop := fun x y H Q => ∃ i j, x = .int i ∧ y = .int j ∧ Q (.int (i + j)) H
theorem in_add : InOp X .Add rAdd := by
 rintro pins s σ H x y u v Q I rx ry ⟨i, j, rfl, rfl, q⟩
 obtain ⟨t, rfl⟩ := (show ∃ t, u = Value.int i t from rx)
 obtain ⟨t', rfl⟩ := (show ∃ t', v = Value.int j t' from ry)
 exact PyProof.Rows.iadd_int ⟨.int (i + j), H, I.tok _, ⟨_, rfl⟩, q⟩
end
section
variable {X : Cx} {pins : List (Addr × Obj)} {σ : St} {H : Hp} {s : Shared} {A : Around} {E : Value → Shared → Prop} {Q : Value → Shared → Prop} {c : Value} {b : Bool}
inductive TyOf (K : W.Frag) (H : Hp) : V → Value → Prop where
 | non : TyOf K H .non (.type "NoneType")
 | bl (x : Bool) : TyOf K H (.bl x) (.type "bool")
 | int (i : Int) : TyOf K H (.int i) (.type "int")
 | str (x : Str) : TyOf K H (.str x) (.type "str")
 | flt (x : UInt64) : TyOf K H (.flt x) (.type "float")
 | lst {a : Addr} {xs : List V} (e : H a = some (.lst xs)) : TyOf K H (.ref a) (.type "list")
 | frz {a : Addr} {o : Obj} {xs : List V} (e : H a = some (.frz o (.lst xs))) : TyOf K H (.ref a) (.type "list")
 | tup {a : Addr} {xs : List V} (e : H a = some (.tup xs)) : TyOf K H (.ref a) (.type "tuple")
 | dK {a : Addr} {kvs : List (Key × V)} (e : H a = some (.dK kvs)) : TyOf K H (.ref a) (.type "dict")
 | dT {a : Addr} {kvs : List (List Key × V)} (e : H a = some (.dT kvs)) : TyOf K H (.ref a) (.type "dict")
 | ins {a C dx : Addr} {fs : List (Str × V)} (e : H a = some (.ins C dx fs)) (cl : Cls K C) (ha : PySem.W.findIn K (.ref C) "__class__" = some (some (.builtin "object.__class__")))
   (hn : PySem.W.specialIn K (.builtin "object.__class__") "__get__" = some (some (.builtin "getset_descriptor.__get__"))) (htk : PySem.W.takesIn K (.builtin "object.__class__") = some true)
   (hm : PySem.W.mroIn K C (.type "object") = some true) : TyOf K H (.ref a) (.ref C)
theorem isinst_ok {x : V} {u t : Value} (I : Inv X pins σ H s) (rx : RelV x u) (ty : TyOf X.K H x t) (e : PySem.W.kitOne X.K t c = some b) (h : ∀ tk, Q (.bool b) { s with toks := tk }) :
  wpAny (model X.prog X.w) A (call (.builtin "isinstance") [u, c]) Q E s := by
 cases ty with
 | non => cases (show u = Value.none from rx); exact PySem.W.kia_one PySem.W.kitx_none I.kIn True.intro e (fun z => nomatch z) h
 | bl y => cases (show u = Value.bool y from rx); exact PySem.W.kia_one PySem.W.kitx_bool I.kIn True.intro e (fun z => nomatch z) h
 | int i => obtain ⟨t, q⟩ := (show ∃ t, u = Value.int i t from rx); cases q; exact PySem.W.kia_one PySem.W.kitx_int I.kIn True.intro e (fun z => nomatch z) h
 | str y => obtain ⟨t, q⟩ := (show ∃ t, u = Value.str y t from rx); cases q; exact PySem.W.kia_one PySem.W.kitx_str I.kIn True.intro e (fun z => nomatch z) h
 | flt y => obtain ⟨t, q⟩ := (show ∃ t, u = Value.float y t from rx); cases q; exact PySem.W.kia_one PySem.W.kitx_float I.kIn True.intro e (fun z => nomatch z) h
 | @lst a xs ea =>
  cases (show u = Value.ref a from rx)
  obtain ⟨_, _, n, _, h1⟩ := (show ObjOk X.prog X.w H s.heap a (.lst xs) from I.hok a _ ea)
  exact PySem.W.kia_one PySem.W.kitx_list I.kIn ⟨_, h1, rfl⟩ e (fun z => nomatch z) h
 | @frz a ob xs ea =>
  cases (show u = Value.ref a from rx)
  obtain ⟨_, _, _, n, _, h1⟩ := (show ObjOk X.prog X.w H s.heap a (.frz ob (.lst xs)) from I.hok a _ ea)
  exact PySem.W.kia_one PySem.W.kitx_list I.kIn ⟨_, h1, rfl⟩ e (fun z => nomatch z) h
 | @tup a xs ea =>
  cases (show u = Value.ref a from rx)
  obtain ⟨_, _, _, p⟩ := (show ObjOk X.prog X.w H s.heap a (.tup xs) from I.hok a _ ea)
  obtain ⟨o, h1, h2, _⟩ := p
  exact PySem.W.kia_one PySem.W.kitx_tuple I.kIn ⟨o, h1, h2⟩ e (fun z => nomatch z) h
 | @dK a kvs ea =>
  cases (show u = Value.ref a from rx)
  obtain ⟨_, _, vs, _, p⟩ := (show ObjOk X.prog X.w H s.heap a (.dK kvs) from I.hok a _ ea)
  obtain ⟨o, es, ep, h1, h2, _⟩ := p
  exact PySem.W.kia_one PySem.W.kitx_dict I.kIn ⟨o, h1, h2.1⟩ e (fun z => nomatch z) h
 | @dT a kvs ea =>
  cases (show u = Value.ref a from rx)
  obtain ⟨_, _, xs, _, o, es, ep, h1, h2, _⟩ := (show ObjOk X.prog X.w H s.heap a (.dT kvs) from I.hok a _ ea)
  exact PySem.W.kia_one PySem.W.kitx_dict I.kIn ⟨o, h1, h2.1⟩ e (fun z => nomatch z) h
 | @ins a C dx fs ea cl ha hn htk hm =>
  cases (show u = Value.ref a from rx)
  obtain ⟨mA, O, _⟩ := wO I.hok ea
  obtain ⟨od, J, _⟩ := O.look
  exact PySem.W.kia_one (PySem.W.kitx_own (cl.get _) cl.hd ha hn htk hm) I.kIn J e (fun z => nomatch z) h
end
structure Room (k : Nat) (A : Around) : Prop where
 hd : A.handled = none
 dp : A.depth + 3 * k + 5 < recursionLimit
 un : A.units + 16 * k + 200 < cLine
 gd : A.guards = some []
theorem Room.mono {j k : Nat} {A : Around} (r : Room k A) (h : j ≤ k) : Room j A := ⟨r.hd, by have := r.dp; omega, by have := r.un; omega, r.gd⟩
theorem Room.deeper {k : Nat} {A : Around} (r : Room (k + 1) A) (env : Env) : Room k (A.deeper env) :=
 ⟨r.hd, by have := r.dp; show A.depth + 1 + 3 * k + 5 < _; omega, by have := r.un; show A.units + 3 + 16 * k + 200 < _; omega, r.gd⟩
theorem make_depth {A : Around} {C : Addr} {us : List Value} {kw : List (Str × Value)} : (A.under (.builtin "type.__call__" ⟨.ref C :: us, kw⟩)).depth = A.depth + 1 := by
 first | rfl | simp [Around.under, Code.weight, Code.isCreation, Code.isGuard, Code.isCaller, Code.frames, Code.isFrame, guardIds]
theorem make_units {A : Around} {C : Addr} {us : List Value} {kw : List (Str × Value)} : (A.under (.builtin "type.__call__" ⟨.ref C :: us, kw⟩)).units = A.units + 1 := by
 first | rfl | simp [Around.under, Code.cUnits, Code.frames, Code.isFrame]
theorem Room.make {k : Nat} {A : Around} (r : Room (k + 1) A) (C : Addr) (us : List Value) (kw : List (Str × Value)) : Room k (A.under (.builtin "type.__call__" ⟨.ref C :: us, kw⟩)) :=
 ⟨r.hd, by have := r.dp; rw [make_depth]; omega, by have := r.un; rw [make_units]; omega, by first | exact r.gd | simpa [Around.under, Code.isGuard, Code.isFrame, guardIds] using r.gd⟩
theorem Room.depth {k : Nat} {A : Around} (r : Room k A) : A.depth < recursionLimit := by have := r.dp; omega
theorem Room.units {k : Nat} {A : Around} (r : Room k A) : A.units + 64 < cLine := by have := r.un; omega
def tNil : TA := fun _ H Q => Q [] H
def xi (ta : TE) (tr : TA) : TA := fun σ H Q => ta σ H fun x H1 => tr σ H1 fun xs H2 => Q (x :: xs) H2
section
variable {X : Cx} {e : Expr} {es : List Expr} {te : TE} {t : TA} {pos : Pos}
theorem yz : PA X [] tNil := fun _ _ _ _ H Q I h => Calls.spliced_nil ⟨[], H, I, .nil, h⟩
theorem yS (ha : PE X e te) (hr : PA X es t) (hs : starEach (e :: es) X.env = (false, eval e X.env) :: starEach es X.env := by rfl) : PA X (e :: es) (xi te t) := by
 intro pos pins s σ H Q I h
 rw [hs]
 show wpAny _ _ (spliced ((false, eval e X.env) :: backTo pos (starEach es X.env))) _ _ s
 refine Calls.spliced_cons (thn (ha pins s σ H _ I h) fun u s1 ⟨x, H1, I1, r1, q1⟩ => ?_)
 exact thn (hr pos pins s1 σ H1 _ I1 q1) fun us s2 ⟨xs, H2, I2, r2, q2⟩ => ⟨x :: xs, H2, I2, .cons r1 r2, q2⟩
def tTup (t : TA) : TE := fun σ H Q => t σ H fun xs H1 => xs.length ≤ sizeLine ∧ ∀ p, H1 p = none → Q (.ref p) (upd H1 p (.tup xs))
def tLst (t : TA) : TE := fun σ H Q => t σ H fun xs H1 => xs.length ≤ sizeLine ∧ ∀ p, H1 p = none → Q (.ref p) (upd H1 p (.lst xs))
theorem zR {x1} (h : PA X es t) : PE X (.Tuple es x1 pos) (tTup t) := by
 intro pins s σ H Q I hq
 refine wpAny_Tuple_spliced (thn (h pos pins s σ H _ I hq) fun us s1 ⟨xs, H1, I1, r, z, q⟩ => ⟨by rw [← r.length]; exact z, ?_⟩)
 have hf : H1 s1.heap.objs.size = none := I1.hok.fresh (Nat.le_refl _)
 refine ⟨.ref s1.heap.objs.size, upd H1 s1.heap.objs.size (.tup xs), I1.laid (t' := s1.toks) (fun b u e => Heap.get?_push_of_some _ e) (Nat.le_refl _) ?_, rfl, q _ hf⟩
 exact ⟨z, us, r, ⟨_, Heap.get?_push_size _ rfl, rfl, _, rfl⟩⟩
theorem yp (h : PA X es t) : PE X (.List es pos) (tLst t) := by
 intro pins s σ H Q I hq
 refine wpAny_List_spliced (thn (h pos pins s σ H _ I hq) fun us s1 ⟨xs, H1, I1, r, z, q⟩ => ⟨by rw [← r.length]; exact z, ?_⟩)
 have hf : H1 s1.heap.objs.size = none := I1.hok.fresh (Nat.le_refl _)
 refine ⟨.ref s1.heap.objs.size, upd H1 s1.heap.objs.size (.lst xs), I1.laid (t' := s1.toks) (fun b u e => Heap.get?_push_of_some _ e) (Nat.le_refl _) ?_, rfl, q _ hf⟩
 exact ⟨z, us, 0, r, Heap.get?_push_size _ rfl⟩
end
abbrev Sp := List V → Hp → VK → XK → Prop
abbrev CXT := List Env → Hp → Shared → XK → Value → Shared → Prop
structure Env0 (P : Program) (w : World) (K : W.Frag) (mg : Str → Option Value) (base : Heap) (A : Around) (outer : List Env) (s : Shared) (H : Hp) : Prop where
 frames : A.frames = some outer
 mod : Mod K mg base
 bs : ∀ b o, base.get? b = some o → s.heap.get? b = some o ∧ H b = none
 bsz : base.objs.size ≤ s.heap.objs.size
 funs : s.heap.FunFrames base outer
 frf : ∀ b ∈ frs outer, H b = none
 hok : HOk P w H s.heap
 bare : AllBare s.gens
def CE (outer : List Env) (P : Program) (w : World) (H : Hp) (s : Shared) (Q : VK) (u : Value) (s' : Shared) : Prop :=
 ∃ v H', s'.os = s.os ∧ AllBare s'.gens ∧ Un (frs outer) [] H H' s.heap s'.heap ∧ HOk P w H' s'.heap ∧ RelV v u ∧ Q v H'
def CR (CX : CXT) (outer : List Env) (P : Program) (w : World) (H : Hp) (s : Shared) (Q : VK) (E : XK) (r : Result) (s' : Shared) : Prop :=
 match r with
 | .ok (.ret u) => CE outer P w H s Q u s'
 | .ok _ => False
 | .error e => CX outer H s E e s'
structure FnOk (P : Program) (w : World) (K : W.Frag) (mg : Str → Option Value) (base : Heap) (CX : CXT) (k : Nat) (f : Addr) (fd : FuncData) (ps : List Str) (sp : Sp) : Prop where
 len : ∀ vs H Q E, sp vs H Q E → vs.length = ps.length
 run : ∀ (A : Around) (outer : List Env) (s : Shared) (H : Hp) (args : Args) (us : List Value) (vs : List V) (Q : VK) (E : XK), Room k A → Env0 P w K mg base A outer s H → BindsTo s fd args (ps.zip us) → Vals vs us → sp vs H Q E →
  codeAny (model P w) A (.call (.ref f) args) (CR CX outer P w H s Q E) s
theorem Env0.make {P : Program} {w : World} {K : W.Frag} {mg : Str → Option Value} {base : Heap} {A : Around} {outer : List Env} {s : Shared} {H : Hp} (e : Env0 P w K mg base A outer s H) (C : Addr) (us : List Value) (kw : List (Str × Value)) :
  Env0 P w K mg base (A.under (.builtin "type.__call__" ⟨.ref C :: us, kw⟩)) outer s H := ⟨by first | exact e.frames | (simpa [Around.under, Code.envs, Code.isFrame, pushEnvs] using e.frames), e.mod, e.bs, e.bsz, e.funs, e.frf, e.hok, e.bare⟩
section
variable {X : Cx} {pins : List (Addr × Obj)} {σ : St} {H : Hp} {s s' : Shared}
theorem Inv.env0 (I : Inv X pins σ H s) : Env0 X.prog X.w X.K X.mg X.base X.A X.stack s H :=
 ⟨I.ok.frames, I.ok.mod, I.bs, Nat.le_trans I.ok.bsz I.sz, I.stack, I.stkFree, I.hok, I.bare⟩
theorem Inv.after {Q : VK} {u : Value} (I : Inv X pins σ H s) (h : CE X.stack X.prog X.w H s Q u s') : EP X pins σ Q u s' := by
 obtain ⟨v, H', os, bare, un, hok, r, q⟩ := h
 obtain ⟨hh, g, d, t, os'⟩ := s'
 obtain rfl : os' = s.os := os
 exact ⟨v, H', I.call (h' := hh) (g' := g) (d' := d) (t' := t) (ch := []) un hok bare (fun b z => absurd z (by simp)), r, q⟩
end
def ZW (sp : Sp) (dvs : List V) (E : XK) (t : TA) : TE := fun σ H Q => t σ H fun vs H1 => sp (vs ++ dvs) H1 Q E
def Ze (C : Addr) (m : Str) (sp : Sp) (dvs : List V) (E : XK) (ta : TE) (t : TA) : TE := fun σ H Q => ta σ H fun x H1 => ∃ a dx fs, x = .ref a ∧ H1 a = some (.ins C dx fs) ∧ fs.lookup m = none ∧
 t σ H1 fun vs H2 => sp (x :: (vs ++ dvs)) H2 Q E
def Yy (C : Addr) (sp : Sp) (dvs : List V) (E : XK) (t : TA) : TE := fun σ H Q => t σ H fun vs H1 => ∀ x dx, H1 x = none → H1 dx = none → dx ≠ x →
 sp (.ref x :: (vs ++ dvs)) (upd (upd H1 dx (.own x)) x (.ins C dx [])) (fun v H2 => v = .non ∧ Q (.ref x) H2) E
def Binds (K : W.Frag) (fd : FuncData) (ps : List Str) (ds : List Value) : Prop :=
 ∀ (s : Shared) (us : List Value), K.In s.heap → (us ++ ds).length = ps.length → BindsTo s fd ⟨us, []⟩ (ps.zip (us ++ ds))
theorem Binds.all {K : W.Frag} {fd : FuncData} {ps : List Str} (h : ∀ us : List Value, us.length = ps.length → bindArgs fd ⟨us, []⟩ = pure (ps.zip us)) : Binds K fd ps [] := fun s us _ hl => by
 rw [List.append_nil] at hl ⊢
 exact .of_eq (h us hl)
def xE (CX : CXT) (X : Cx) (E : XK) : Prop := ∀ (pins : List (Addr × Obj)) (σ : St) (H : Hp) (s : Shared) (e : Value) (s' : Shared), Inv X pins σ H s → CX X.stack H s E e s' → X.xe e s'
section
variable {X : Cx} {CX : CXT} {k : Nat} {f C : Addr} {fd : FuncData} {ps : List Str} {sp : Sp} {dvs : List V} {ds : List Value} {E : XK} {x m : Str} {p pos apos : Pos} {e o : Expr} {es : List Expr} {ta : TE} {t : TA}
theorem ZF {pins : List (Addr × Obj)} {σ : St} {H : Hp} {s : Shared} {Q : VK} {us : List Value} {vs : List V} (F : FnOk X.prog X.w X.K X.mg X.base CX k f fd ps sp) (hr : Room k X.A) (hb : Binds X.K fd ps ds) (hd : Vals dvs ds) (hx : xE CX X E)
  (I : Inv X pins σ H s) (r : Vals vs us) (h : sp (vs ++ dvs) H Q E) : wpAny (model X.prog X.w) X.A (call (.ref f) us) (EP X pins σ Q) X.xe s := by
 have r2 : Vals (vs ++ dvs) (us ++ ds) := r.append hd
 have hl : (us ++ ds).length = ps.length := by rw [← r2.length]; exact F.len _ _ _ _ h
 refine wpAny_call (codeAny_mono (F.run X.A X.stack s H ⟨us, []⟩ (us ++ ds) (vs ++ dvs) Q E hr I.env0 (hb s us I.kIn hl) r2 h) fun r s' hq => ?_)
 cases r with
 | error e => exact hx pins σ H s e s' I hq
 | ok fl =>
  cases fl with
  | ret u => exact I.after hq
  | next => exact False.elim hq
  | brk => exact False.elim hq
  | cont => exact False.elim hq
theorem pe_call (F : FnOk X.prog X.w X.K X.mg X.base CX k f fd ps sp) (hr : Room k X.A) (hg : Gl X x) (hm : X.mg x = some (.ref f)) (hk : PySem.W.keepIn X.K (.ref f) = true) (hb : Binds X.K fd ps ds) (hd : Vals dvs ds) (hx : xE CX X E)
  (ha : PA X (e :: es) t) (hdb : (x == ("__debug__" : Str)) = false := by decide) (he : starEach (e :: es) X.env = (false, eval e X.env) :: starEach es X.env := by rfl) (hpl : (backTo pos (starEach es X.env)).any (·.1) = false := by rfl) :
  PE X (.Call (.Name x p) (e :: es) [] pos) (ZW sp dvs E t) := by
 intro pins s σ H Q I h
 refine wpAny_Call_Name_kw (vV I hg hm ?_ hdb)
 refine PySem.W.callWith_K (h₀ := X.base) I.ok.mod.kin hk (thn (ha pos pins s σ H _ I h) fun us s1 ⟨vs, H1, I1, r, q⟩ => ⟨I1.kIn, ?_⟩) he hpl
 exact ZF F hr hb hd hx I1 r q
theorem pe_meth {pl : Sem Bool} (he : PE X o ta) (c : Cls X.K C) (hm : Meth X.K C m f) (F : FnOk X.prog X.w X.K X.mg X.base CX k f fd ps sp) (hr : Room k X.A) (hb : Binds X.K fd ps ds) (hd : Vals dvs ds) (hx : xE CX X E) (ha : PA X (e :: es) t)
  (hst : starEach (e :: es) X.env = (false, eval e X.env) :: starEach es X.env := by rfl) (hpl : (backTo pos (starEach es X.env)).any (·.1) = false := by rfl)
  (ht : eval (.Call (.Attribute o m apos) (e :: es) [] pos) X.env = (do
   let ov ← eval o X.env
   standAt apos.atName
   let (f, first) ← holding [ov] (getMethod ov m pl)
   callWith pos f first (backTo pos (starEach (e :: es) X.env)) (backToKw pos (keywordEach [] X.env))) := by rfl) :
  PE X (.Call (.Attribute o m apos) (e :: es) [] pos) (Ze C m sp dvs E ta t) := by
 intro pins s σ H Q I h
 refine PySem.W.methodCall_KW (pl := pl) (thn (he pins s σ H _ I h) fun u s1 ⟨x, H1, I1, rx, a, dx, fs, ex, ea, l, q⟩ => ?_) ht
 subst ex
 obtain rfl : u = Value.ref a := rx
 refine vd I1 ea c hm l ?_
 refine PySem.W.callWith_K (first := [.ref a]) (h₀ := X.base) I.ok.mod.kin hm.kp (thn (ha pos pins s1 σ H1 _ I1 q) fun us s2 ⟨vs, H2, I2, r, q2⟩ => ⟨I2.kIn, ?_⟩) hst hpl
 exact ZF (us := .ref a :: us) (vs := .ref a :: vs) F hr hb hd hx I2 (.cons rfl r) q2
theorem pe_meth0 {pl : Sem Bool} (he : PE X o ta) (c : Cls X.K C) (hm : Meth X.K C m f) (F : FnOk X.prog X.w X.K X.mg X.base CX k f fd ps sp) (hr : Room k X.A) (hb : Binds X.K fd ps ds) (hd : Vals dvs ds) (hx : xE CX X E)
  (ht : eval (.Call (.Attribute o m apos) [] [] pos) X.env = (do
   let ov ← eval o X.env
   standAt apos.atName
   let (f, first) ← holding [ov] (getMethod ov m pl)
   callWith pos f first (backTo pos (starEach [] X.env)) (backToKw pos (keywordEach [] X.env))) := by rfl) :
  PE X (.Call (.Attribute o m apos) [] [] pos) (Ze C m sp dvs E ta tNil) := by
 intro pins s σ H Q I h
 refine PySem.W.methodCall_KW (pl := pl) (thn (he pins s σ H _ I h) fun u s1 ⟨x, H1, I1, rx, a, dx, fs, ex, ea, l, q⟩ => ?_) ht
 subst ex
 obtain rfl : u = Value.ref a := rx
 refine vd I1 ea c hm l ?_
 exact PySem.W.callWith_K0 (first := [.ref a]) I1.kIn hm.kp (ZF (us := [.ref a]) (vs := [.ref a]) F hr hb hd hx I1 (.cons rfl .nil) q)
structure Mk (K : W.Frag) (C f : Addr) : Prop where
 makes : PySem.W.makesIn K C = true
 init : PySem.W.findIn K (.ref C) "__init__" = some (some (.ref f))
 fn : PySem.W.isFn K (.ref f) = true
 kp : PySem.W.keepIn K (.ref C) = true
theorem run_make {pins : List (Addr × Obj)} {σ : St} {H : Hp} {s : Shared} {Q : VK} {us : List Value} {vs : List V} (M : Mk X.K C f) (F : FnOk X.prog X.w X.K X.mg X.base CX k f fd ps sp) (hr : Room (k + 1) X.A) (hb : Binds X.K fd ps ds) (hd : Vals dvs ds)
  (hx : xE CX X E) (I : Inv X pins σ H s) (r : Vals vs us)
  (h : ∀ x dx, H x = none → H dx = none → dx ≠ x → sp (.ref x :: (vs ++ dvs)) (upd (upd H dx (.own x)) x (.ins C dx [])) (fun v H2 => v = .non ∧ Q (.ref x) H2) E) :
  wpAny (model X.prog X.w) X.A (call (.ref C) us) (EP X pins σ Q) X.xe s := by
 have hq := h (s.heap.objs.size + 1) s.heap.objs.size (I.hok.fresh (Nat.le_succ _)) (I.hok.fresh (Nat.le_refl _)) (Nat.ne_of_lt (Nat.lt_succ_self _))
 have I2 := Inv.made (C := C) I
 have r2 : Vals (V.ref (s.heap.objs.size + 1) :: (vs ++ dvs)) (Value.ref (s.heap.objs.size + 1) :: (us ++ ds)) := .cons rfl (r.append hd)
 have hl : (Value.ref (s.heap.objs.size + 1) :: us ++ ds).length = ps.length := by
  have e := r2.length
  rw [F.len _ _ _ _ hq] at e
  exact e.symm
 refine wpAny_call (make_map (f := f) I.kIn M.makes M.init (beq_iff_eq.mp M.fn) (codeAny_mono (F.run _ X.stack _ _ ⟨Value.ref (s.heap.objs.size + 1) :: us, []⟩ (Value.ref (s.heap.objs.size + 1) :: (us ++ ds)) _ _ E (hr.make C us [])
  (I2.env0.make C us []) (hb _ (Value.ref (s.heap.objs.size + 1) :: us) I2.kIn hl) r2 hq) fun r s' hq' => ?_))
 cases r with
 | error e => exact hx pins σ _ _ e s' I2 hq'
 | ok fl =>
  cases fl with
  | ret u =>
   obtain ⟨v, H', I3, rv, ev, q3⟩ := I2.after hq'
   subst ev
   exact ⟨rv, ⟨V.ref (s.heap.objs.size + 1), H', I3, rfl, q3⟩⟩
  | next => exact False.elim hq'
  | brk => exact False.elim hq'
  | cont => exact False.elim hq'
theorem pe_make (M : Mk X.K C f) (F : FnOk X.prog X.w X.K X.mg X.base CX k f fd ps sp) (hr : Room (k + 1) X.A) (hg : Gl X x) (hm : X.mg x = some (.ref C)) (hb : Binds X.K fd ps ds) (hd : Vals dvs ds) (hx : xE CX X E)
  (ha : PA X (e :: es) t) (hdb : (x == ("__debug__" : Str)) = false := by decide) (he : starEach (e :: es) X.env = (false, eval e X.env) :: starEach es X.env := by rfl) (hpl : (backTo pos (starEach es X.env)).any (·.1) = false := by rfl) :
  PE X (.Call (.Name x p) (e :: es) [] pos) (Yy C sp dvs E t) := by
 intro pins s σ H Q I h
 refine wpAny_Call_Name_kw (vV I hg hm ?_ hdb)
 refine PySem.W.callWith_K (h₀ := X.base) I.ok.mod.kin M.kp (thn (ha pos pins s σ H _ I h) fun us s1 ⟨vs, H1, I1, r, q⟩ => ⟨I1.kIn, ?_⟩) he hpl
 exact run_make M F hr hb hd hx I1 r q
end
def PK (X : Cx) (kws : List Keyword) (t : TA) : Prop :=
 ∀ (pos : Pos) (pins : List (Addr × Obj)) (s : Shared) (σ : St) (H : Hp) (Q : List V → Hp → Prop), Inv X pins σ H s → t σ H Q → wpAny (model X.prog X.w) X.A (evalAll ((backToKw pos (keywordEach kws X.env)).map (·.2))) (AP X pins σ Q) X.xe s
section
variable {X : Cx} {CX : CXT} {k : Nat} {f C : Addr} {fd : FuncData} {ps ks : List Str} {sp : Sp} {E : XK} {x m : Str} {p pos apos kpos : Pos} {e o : Expr} {es : List Expr} {kws : List Keyword} {te ta : TE} {t tk : TA} {nm : Option Str}
theorem YK : PK X [] tNil := fun _ _ _ _ H Q I h => wpAny_evalAll_nil ⟨[], H, I, .nil, h⟩
theorem wK (ha : PE X e te) (hr : PK X kws t) : PK X (⟨nm, e, kpos⟩ :: kws) (xi te t) := by
 intro pos pins s σ H Q I h
 show wpAny _ _ (evalAll ((do let v ← eval e X.env; standAt pos; pure v) :: (backToKw pos (keywordEach kws X.env)).map (·.2))) _ _ s
 refine wpAny_evalAll_cons (wpAny_bind (thn (ha pins s σ H _ I h) fun u s1 ⟨x, H1, I1, r1, q1⟩ => wpAny_bind (wpAny_standAt (wpAny_pure ?_))))
 exact thn (hr pos pins s1 σ H1 _ I1 q1) fun us s2 ⟨xs, H2, I2, r2, q2⟩ => ⟨x :: xs, H2, I2, .cons r1 r2, q2⟩
structure KBinds (K : W.Frag) (fd : FuncData) (ps ks : List Str) (g : List Value → List Value → List Value) (gV : List V → List V → List V) : Prop where
 to : ∀ (s : Shared) (us ws : List Value), K.In s.heap → (g us ws).length = ps.length → BindsTo s fd ⟨us, ks.zip ws⟩ (ps.zip (g us ws))
 rel : ∀ {vs : List V} {us : List Value} {zs : List V} {ws : List Value}, Vals vs us → Vals zs ws → Vals (gV vs zs) (g us ws)
variable {g : List Value → List Value → List Value} {gV : List V → List V → List V}
end
structure FnScope (N P : List Str) (sc : Scope) : Prop where
 kind : sc.kind = .function
 co : sc.isCoroutine = false
 gen : sc.isGenerator = false
 nd : N.Nodup
 pre : N.take P.length = P
 par : ∀ x ∈ P, sc.names.lookup x = some .local ∨ sc.names.lookup x = some .cell
 nofree : ∀ y ∈ sc.names, y.2 ≠ .free
theorem vC {kindOf : Str → Option NameKind} {x : Str} : ∀ {binds : List (Str × Value)} {m : Str → Option Value}, (∀ v, (x, v) ∉ binds) → bindL kindOf binds m x = m x
 | [], _, _ => rfl
 | (n, v) :: r, m, h => by
  unfold bindL
  rw [vC fun w hw => h w (List.mem_cons_of_mem _ hw)]
  split
  ·have : x ≠ n := by rintro rfl; exact h v List.mem_cons_self
   simp [this]
  ·rfl
theorem vE {kindOf : Str → Option NameKind} {x : Str} : ∀ {binds : List (Str × Value)} {m : Str → Option Value}, (∀ v, (x, v) ∉ binds) → bindC kindOf binds m x = m x
 | [], _, _ => rfl
 | (n, v) :: r, m, h => by
  unfold bindC
  rw [vE fun w hw => h w (List.mem_cons_of_mem _ hw)]
  split
  ·rfl
  ·have : x ≠ n := by rintro rfl; exact h v List.mem_cons_self
   simp [this]
theorem vD {kindOf : Str → Option NameKind} {x : Str} {v : Value} : ∀ {P : List Str} {vs : List Value} {i : Nat} {m : Str → Option Value}, P.Nodup → P[i]? = some x → vs[i]? = some v → kindOf x = some .local →
  bindL kindOf (P.zip vs) m x = some v
 | [], _, _, _, _, h, _, _ => by simp at h
 | _ :: _, [], _, _, _, _, h, _ => by simp at h
 | p :: P, w :: vs, 0, m, nd, h1, h2, hk => by
  simp at h1 h2; subst h1; subst h2
  show bindL kindOf ((p, w) :: P.zip vs) m p = _
  unfold bindL
  rw [vC fun v hv => (List.nodup_cons.mp nd).1 (List.of_mem_zip hv).1, if_pos hk]
  simp
 | p :: P, w :: vs, i + 1, m, nd, h1, h2, hk => by
  show bindL kindOf ((p, w) :: P.zip vs) m x = _
  unfold bindL
  exact vD (i := i) (List.nodup_cons.mp nd).2 (by simpa using h1) (by simpa using h2) hk
theorem vF {kindOf : Str → Option NameKind} {x : Str} {v : Value} : ∀ {P : List Str} {vs : List Value} {i : Nat} {m : Str → Option Value}, P.Nodup → P[i]? = some x → vs[i]? = some v → kindOf x ≠ some .local →
  bindC kindOf (P.zip vs) m x = some v
 | [], _, _, _, _, h, _, _ => by simp at h
 | _ :: _, [], _, _, _, _, h, _ => by simp at h
 | p :: P, w :: vs, 0, m, nd, h1, h2, hk => by
  simp at h1 h2; subst h1; subst h2
  show bindC kindOf ((p, w) :: P.zip vs) m p = _
  unfold bindC
  rw [vE fun v hv => (List.nodup_cons.mp nd).1 (List.of_mem_zip hv).1, if_neg hk]
  simp
 | p :: P, w :: vs, i + 1, m, nd, h1, h2, hk => by
  show bindC kindOf ((p, w) :: P.zip vs) m x = _
  unfold bindC
  exact vF (i := i) (List.nodup_cons.mp nd).2 (by simpa using h1) (by simpa using h2) hk
def xF (N : List Str) (vs : List V) : St := vs.map some ++ List.replicate (N.length - vs.length) none
def cxOf (CX : CXT) (P : Program) (w : World) (K : W.Frag) (mg : Str → Option Value) (base : Heap) (N : List Str) (qual : Str) (scope : Scope) (f : Addr) (cd : Value) (A : Around) (outer : List Env) (s : Shared) (H : Hp) (E : XK) : Cx where
 prog := P
 w := w
 K := K
 mg := mg
 base := base
 A := A.deeper (envOfC qual scope s.heap.objs.size f cd)
 N := N
 s₀ := s
 H₀ := H
 env := envOfC qual scope s.heap.objs.size f cd
 outer := outer
 stack := envOfC qual scope s.heap.objs.size f cd :: outer
 ex := []
 calm := true
 fn := fun _ => true
 pn := []
 xe := fun e s' => wpAny (model P w) (A.deeper (envOfC qual scope s.heap.objs.size f cd)) (leaving (envOfC qual scope s.heap.objs.size f cd) e) (fun _ s'' => CX outer H s E e s'') (fun e' s'' => CX outer H s E e' s'') s'
theorem xU {sc : Scope} {n : Nat} {x : Str} (h : sc.names.lookup x = some .cell) : ∃ c, (cellsFrom n sc.names []).lookup x = some c := by
 have q := PySem.W.cellsFrom_some sc.names n [] (.inl h)
 exact Option.isSome_iff_exists.mp q
theorem inv_start {CX : CXT} {P : Program} {w : World} {K : W.Frag} {mg : Str → Option Value} {base : Heap} {N ps : List Str} {qual : Str} {scope : Scope} {f : Addr} {cd : Value} {A : Around} {outer : List Env} {s s1 : Shared} {H : Hp} {E : XK} {us : List Value} {vs : List V}
  (S : FnScope N ps scope) (hd : A.handled = none) (e0 : Env0 P w K mg base A outer s H) (hl : vs.length = ps.length) (r : Vals vs us)
  (x : InCallC s s.heap.objs.size (bindL (envOfC qual scope s.heap.objs.size f cd).kindOf (ps.zip us) fun _ => none) (cellsFrom (s.heap.objs.size + 1) scope.names []) (bindC (envOfC qual scope s.heap.objs.size f cd).kindOf (ps.zip us) fun _ => none) s1) :
  Inv (cxOf CX P w K mg base N qual scope f cd A outer s H E) [] (xF N vs) H s1 := by
 have hpl : ps.length ≤ N.length := by have := congrArg List.length S.pre; rw [List.length_take] at this; omega
 obtain ⟨h1, tk, rfl, hk⟩ := x.done
 have noA : ∀ b : Addr, b ∉ (cxOf CX P w K mg base N qual scope f cd A outer s H E).ex := fun b z => absurd (show b ∈ ([] : List Addr) from z) (by simp)
 refine ⟨⟨e0.mod, S.kind, rfl, rfl, Nat.le_refl _, fun y z c h1 h2 => ?_, fun y hy => ?_, fun y c _ h => ?_, fun _ => hd, Around.frames_deeper e0.frames, .inr ⟨rfl, rfl⟩, fun b z => absurd z (noA b), e0.bs, e0.bsz, fun b _ _ => noA b, fun b z => absurd z (noA b), e0.funs, e0.frf⟩,
  rfl, e0.bare, Un.kept hk, ⟨_, x.toInCall.ns, fun i y v h1 h2 h3 => ?_⟩, fun y c h => ⟨_, x.cell y c h⟩, e0.hok.fresh (Nat.le_refl _), fun y c h => ?_, fun p hp => absurd (show p ∈ ([] : List (Addr × Obj)) from hp) (by simp), e0.hok.kept hk, ?_⟩
 ·exact name_of_addr x.apart (PySem.mem_of_lookup h1) (PySem.mem_of_lookup h2)
 ·have hy : scope.names.lookup y = some .cell ∨ scope.names.lookup y = some .free := hy
  rcases hy with hy | hy
  ·exact xU hy
  ·exact absurd rfl (S.nofree _ (PySem.mem_of_lookup hy))
 ·exact Nat.le_of_lt (x.above y c (PySem.mem_of_lookup h))
 ·have hi : i < vs.length := by
   unfold xF at h2
   by_cases hi : i < vs.length
   ·exact hi
   ·rw [List.getElem?_append_right (by simpa using hi)] at h2
    rw [List.getElem?_replicate] at h2
    split at h2 <;> cases h2
  have ha : vs[i]? = some v := by
   unfold xF at h2
   rw [List.getElem?_append_left (by simpa using hi), List.getElem?_map] at h2
   cases e : vs[i]? with
   | none => rw [e] at h2; cases h2
   | some a => rw [e] at h2; cases h2; rfl
  obtain ⟨u, hu, rv⟩ := r.get ha
  have hp : ps[i]? = some y := by
   rw [← S.pre, List.getElem?_take_of_lt (by omega)]; exact h1
  have ndP : ps.Nodup := by rw [← S.pre]; exact S.nd.sublist (List.take_sublist _ _)
  refine ⟨u, rv, ?_⟩
  rcases S.par y (List.mem_of_getElem? hp) with k | k
  ·exact .inl ⟨k, vD ndP hp hu k⟩
  ·obtain ⟨c, e⟩ := xU (n := s.heap.objs.size + 1) k
   refine .inr ⟨.inl k, c, e, ?_⟩
   have q := x.cell y c e
   rw [vF ndP hp hu (by show scope.names.lookup y ≠ _; rw [k]; decide)] at q
   exact q
 ·exact e0.hok.fresh (Nat.le_of_lt (x.above y c (PySem.mem_of_lookup h)))
 ·unfold xF
  show _ = N.length
  rw [List.length_append, List.length_map, List.length_replicate]
  omega
theorem Xz {CX : CXT} {P : Program} {w : World} {K : W.Frag} {mg : Str → Option Value} {base : Heap} {k : Nat} {f : Addr} {name qual : Str} {params : Arguments} {body : List Stmt} {scope : Scope} {dV kV doc pm cdv ct oc : Value} {an od : Option Addr}
  {osl : Array (Option Value)} {N ps : List Str} {sp : Sp} (lk : K.lookup f = some ⟨oc, od, .func (PySem.W.fnOf name qual params body scope dV kV doc pm an cdv ct), osl⟩) (hcd : PySem.W.codeIn K cdv qual = true) (S : FnScope N ps scope)
  (len : ∀ vs H Q E, sp vs H Q E → vs.length = ps.length)
  (hbody : ∀ (A : Around) (outer : List Env) (s : Shared) (H : Hp) (vs : List V) (Q : VK) (E : XK), Room k (A.deeper (envOfC qual scope s.heap.objs.size f cdv)) → sp vs H Q E →
   ∃ t, PSs (cxOf CX P w K mg base N qual scope f cdv A outer s H E) body t ∧ t { nx := fun _ H' => Q .non H', rt := Q } (xF N vs) H) :
  FnOk P w K mg base CX (k + 1) f (PySem.W.fnOf name qual params body scope dV kV doc pm an cdv ct) ps sp := by
 refine ⟨len, fun A outer s H args us vs Q E hr e0 hb r hsp => ?_⟩
 have hl := len _ _ _ _ hsp
 have KX : K.In s.heap := e0.mod.kin.keeps fun b o e => (e0.bs b o e).1
 have lim : s.heap.NoLimit := e0.mod.nolimit.keeps fun b o e => (e0.bs b o e).1
 have hkind : ∀ y ∈ ps.zip us, scope.names.lookup y.1 = some .local ∨ (scope.names.lookup y.1 = some .cell ∧ ((cellsFrom (s.heap.objs.size + 1) scope.names []).lookup y.1).isSome = true) := fun ⟨n, v⟩ hy => by
  rcases S.par n (List.of_mem_zip hy).1 with q | q
  ·exact .inl q
  ·exact .inr ⟨q, PySem.W.cellsFrom_some _ _ _ (.inl q)⟩
 refine codeAny_call_function hr.depth (KX _ _ lk) rfl S.co S.gen rfl (PySem.W.codeRec_of KX hcd) (hb _ _ _ _ ?_)
 refine wpAny_newFunctionEnv_cells S.kind hkind fun env he s1 x => ?_
 subst he
 refine ⟨lim.keeps x.toInCall.keep, codeAny_func ?_⟩
 obtain ⟨t, ht, hq⟩ := hbody A outer s H vs Q E (hr.deeper _) hsp
 have I : Inv (cxOf CX P w K mg base N qual scope f cdv A outer s H E) [] (xF N vs) H s1 := inv_start S hr.hd e0 hl r x
 refine wpAny_mono (ht [] s1 (xF N vs) H _ I hq) (fun fl s' hs => ?_) fun e s' hs => hs
 have fin : ∀ {σ' : St} {H' : Hp} {v : V} {u : Value}, Inv (cxOf CX P w K mg base N qual scope f cdv A outer s H E) [] σ' H' s' → RelV v u → Q v H' → CE outer P w H s Q u s' :=
  fun {σ' H' v u} J rv q => ⟨v, H', J.os, J.bare, J.base, J.hok, rv, q⟩
 cases fl with
 | ret u =>
  obtain ⟨v, σ', H', J, rv, q⟩ := hs
  exact fin J rv q
 | next =>
  obtain ⟨σ', H', J, q⟩ := hs
  exact fin (v := V.non) (u := Value.none) J rfl q
 | brk =>
  obtain ⟨_, _, _, q⟩ := hs
  exact False.elim q
 | cont =>
  obtain ⟨_, _, _, q⟩ := hs
  exact False.elim q
section
variable {X : Cx} {x : Str} {p pos : Pos} {e : Expr} {es : List Expr} {t : TA} {id T : String} {r : List V → Hp → VK → Prop}
def tCB (r : List V → Hp → VK → Prop) (t : TA) : TE := fun σ H Q => t σ H fun vs H1 => r vs H1 Q
theorem xL (hc : zT X (.builtin id) r) (hg : Gl X x) (hm : X.mg x = none) (hv : bootBuiltins x = some (.builtin id)) (ha : PA X (e :: es) t) (hn : x ≠ "__name__" := by decide) (hdb : (x == ("__debug__" : Str)) = false := by decide)
  (he : starEach (e :: es) X.env = (false, eval e X.env) :: starEach es X.env := by rfl) (hpl : (backTo pos (starEach es X.env)).any (·.1) = false := by rfl) : PE X (.Call (.Name x p) (e :: es) [] pos) (tCB r t) := by
 intro pins s σ H Q I h
 refine wpAny_Call_Name_kw (xC I hg hm hv ?_ hn hdb)
 exact PyProof.Rows.callWith_builtin1 (thn (ha pos pins s σ H _ I h) fun us s1 ⟨vs, H1, I1, r1, q1⟩ => hc pins s1 σ H1 vs us Q I1 r1 q1) he hpl
theorem pe_callTy (hc : zT X (.type T) r) (hg : Gl X x) (hm : X.mg x = none) (hv : bootBuiltins x = some (.type T)) (ha : PA X (e :: es) t) (hn : x ≠ "__name__" := by decide) (hdb : (x == ("__debug__" : Str)) = false := by decide)
  (he : starEach (e :: es) X.env = (false, eval e X.env) :: starEach es X.env := by rfl) (hpl : (backTo pos (starEach es X.env)).any (·.1) = false := by rfl) : PE X (.Call (.Name x p) (e :: es) [] pos) (tCB r t) := by
 intro pins s σ H Q I h
 refine wpAny_Call_Name_kw (xC I hg hm hv ?_ hn hdb)
 exact PyProof.Rows.callWith_type1 (thn (ha pos pins s σ H _ I h) fun us s1 ⟨vs, H1, I1, r1, q1⟩ => hc pins s1 σ H1 vs us Q I1 r1 q1) he hpl
end
end L2
namespace HT
open PySem PyProof.Rows
section
open PySem.SeqAt
open PySem.AutoSeq1 (wpAny_loadPart')
open PySem.MeetsSeq PySem.MeetsSeq2 PySem.MeetsSeq3
end
section
variable {prog : Program} {w : World} {A : Around} {E : Value → Shared → Prop} {s : Shared}
theorem cat_tup {t b : Addr} {vs ws : List Value} {Q : Value → Shared → Prop} (ht : IsTup s.heap t vs.toArray) (hb : IsTup s.heap b ws.toArray) (hv : vs ≠ [])
  (h1 : ws = [] → Q (.ref t) s) (h2 : ws ≠ [] → Q (.ref s.heap.objs.size) { s with heap := s.heap.push { cls := .type "tuple", data := .seq (vs ++ ws).toArray } })
  (hsz : vs.length + ws.length ≤ sizeLine) : wpAny (model prog w) A (binaryOp .Add (.ref t) (.ref b)) Q E s := by
 obtain ⟨⟨cls, dd, data, sl⟩, ho, hc, n, hd⟩ := id ht
 obtain ⟨⟨cls2, dd2, data2, sl2⟩, ho2, hc2, n2, hd2⟩ := id hb
 simp only at hc hd hc2 hd2
 subst hc hd hc2 hd2
 have e : vs.toArray ++ ws.toArray = (vs ++ ws).toArray := by simp
 by_cases hw : ws = []
 ·exact concat_meets ⟨_, ho, rfl⟩ ⟨_, ho2, rfl⟩ noFill_tuple_add seq_tuple_add PySem.F.slot_tuple_add PySem.F.entry_tuple_add (PySem.F.args_tuple_add_2 _ _)
   (tuple_addW1 t b vs.toArray ws.toArray n n2 dd dd2 sl sl2 (by simpa using hv) (by simp [hw])) ⟨ho, ho2, h1 hw⟩
 ·refine concat_meets ⟨_, ho, rfl⟩ ⟨_, ho2, rfl⟩ noFill_tuple_add seq_tuple_add PySem.F.slot_tuple_add PySem.F.entry_tuple_add (PySem.F.args_tuple_add_2 _ _)
   (tuple_addW2 t b vs.toArray ws.toArray n n2 dd dd2 sl sl2 (by simpa using hv) (by simpa using hw) (by rw [List.size_toArray, List.size_toArray]; exact hsz)) ⟨ho, ho2, ?_⟩
  rw [e]
  exact h2 hw
def sIx (n d : Nat) : Option Int → Nat
 | none => d
 | some v => if v < 0 then (v + (n : Int)).toNat else min v.toNat n
theorem sIx_none (n d : Nat) : sIx n d none = d := rfl
theorem sIx_nat (n d k : Nat) : sIx n d (some (k : Int)) = min k n := by
 show (if (k : Int) < 0 then ((k : Int) + (n : Int)).toNat else min (k : Int).toNat n) = min k n
 rw [if_neg (by omega), Int.toNat_natCast]
theorem sIx_le (n d : Nat) (hd : d ≤ n) (o : Option Int) : sIx n d o ≤ n := by
 cases o with
 | none => exact hd
 | some v =>
  show (if v < 0 then (v + (n : Int)).toNat else min v.toNat n) ≤ n
  by_cases hv : v < 0
  ·rw [if_pos hv]; omega
  ·rw [if_neg hv]; exact Nat.min_le_right _ _
theorem Yt (v : Int) (n d : Nat) : (if v < 0 then max (v + (n : Int)) 0 else min v (n : Int)) = ((sIx n d (some v) : Nat) : Int) := by
 show (if v < 0 then max (v + (n : Int)) 0 else min v (n : Int)) = (((if v < 0 then (v + (n : Int)).toNat else min v.toNat n) : Nat) : Int)
 by_cases hv : v < 0
 ·simp only [if_pos hv]; omega
 ·simp only [if_neg hv]; omega
theorem adjust_gen (lo hi : Option Int) (n : Nat) : Builtin.Slice.sliceAdjust lo hi 1 (n : Int) = (((sIx n 0 lo : Nat) : Int), ((sIx n n hi : Nat) : Int)) := by
 have h1 : ¬ ((1 : Int) < 0) := by omega
 unfold Builtin.Slice.sliceAdjust
 simp only [h1, if_false]
 refine Prod.ext ?_ ?_
 ·cases lo with
  | none => rfl
  | some v => exact Yt v n 0
 ·cases hi with
  | none => rfl
  | some v => exact Yt v n n
theorem places_gen (i j : Nat) : Builtin.Slice.slicePlaces (i : Int) (j : Int) 1 = j - i := by
 unfold Builtin.Slice.slicePlaces
 have h1 : (1 : Int) > 0 := by omega
 simp only [h1, if_true, Int.ediv_one]
 split <;> omega
theorem wU {v : Value} {o : Option Int} {Q : Option Int → Shared → Prop} (p : IsPart v o) (h : Q o s) : wpAny (model prog w) A (Builtin.Slice.slicePartIndex v) Q E s := by
 cases p with
 | none => exact slicePart_none h
 | int i t => exact slicePart_int h
theorem yK {sl : Addr} {vl vu : Value} {lo hi : Option Int} {n : Nat} {Q : Int × Int × Nat → Shared → Prop} (hs : s.heap.IsSliceOf sl vl vu .none) (pl : IsPart vl lo) (pu : IsPart vu hi)
  (h : Q (((sIx n 0 lo : Nat) : Int), 1, sIx n n hi - sIx n 0 lo) s) : wpAny (model prog w) A (Builtin.Slice.sliceApplied (.ref sl) (pure (n : Int))) Q E s := by
 obtain ⟨os, hos, hcs, hds⟩ := id hs
 unfold Builtin.Slice.sliceApplied Builtin.Slice.sliceFields
 refine wpAny_bind (wpAny_bind (wpAny_field hos hds (x := vl) rfl (wpAny_bind (wpAny_field hos hds (x := vu) rfl (wpAny_bind (wpAny_field hos hds (x := .none) rfl (wpAny_pure ?_)))))))
 refine wpAny_bind (slicePart_none ?_)
 show wpAny _ _ (if ((1 : Int) == 0) = true then _ else _) _ _ s
 rw [if_neg (by decide)]
 refine wpAny_bind (wU pl (wpAny_bind (wU pu (wpAny_bind (wpAny_pure ?_)))))
 show wpAny _ _ (match Builtin.Slice.sliceAdjust lo hi 1 (n : Int) with | (lo, hi) => pure (lo, (1 : Int), Builtin.Slice.slicePlaces lo hi 1)) _ _ s
 rw [adjust_gen lo hi n]
 show wpAny _ _ (pure (((sIx n 0 lo : Nat) : Int), (1 : Int), Builtin.Slice.slicePlaces ((sIx n 0 lo : Nat) : Int) ((sIx n n hi : Nat) : Int) 1)) _ _ s
 rw [places_gen]
 exact wpAny_pure h
theorem pick_gen (xs : Array Value) (i k : Nat) : ((List.range k).filterMap fun (m : Nat) => xs[((i : Int) + (m : Int) * 1).toNat]?).toArray = ((xs.toList.drop i).take k).toArray := by
 have e : (fun (m : Nat) => xs[((i : Int) + (m : Int) * 1).toNat]?) = fun m => xs[i + m]? := by
  funext m
  have : ((i : Int) + (m : Int) * 1).toNat = i + m := by omega
  rw [this]
 rw [e]
 have := pick_run xs i k
 rw [List.filterMap_map] at this
 have e2 : ((fun x => xs[x]?) ∘ fun x => i + x) = fun m => xs[i + m]? := rfl
 rw [e2] at this
 rw [this]
theorem getItem_tuple_cut {t sl : Addr} {items : Array Value} {vl vu : Value} {lo hi : Option Int} {Q : Value → Shared → Prop} (ht : IsTup s.heap t items) (hs : s.heap.IsSliceOf sl vl vu .none) (pl : IsPart vl lo) (pu : IsPart vu hi)
  (hw : ¬ (sIx items.size 0 lo = 0 ∧ sIx items.size items.size hi = items.size))
  (h : Q (.ref s.heap.objs.size) { s with heap := s.heap.push { cls := .type "tuple", data := .seq ((items.toList.drop (sIx items.size 0 lo)).take (sIx items.size items.size hi - sIx items.size 0 lo)).toArray } })
  (hsz : items.size ≤ sizeLine) : wpAny (model prog w) A (getItem (.ref t) (.ref sl)) Q E s := by
 have htake : sizeOk (.seq ((items.toList.drop (sIx items.size 0 lo)).take (sIx items.size items.size hi - sIx items.size 0 lo)).toArray) := by
  show ((items.toList.drop (sIx items.size 0 lo)).take (sIx items.size items.size hi - sIx items.size 0 lo)).toArray.size ≤ sizeLine
  rw [List.size_toArray, List.length_take, List.length_drop, Array.length_toList]
  omega
 have hj : sIx items.size items.size hi ≤ items.size := sIx_le _ _ (Nat.le_refl _) hi
 obtain ⟨os, hos, hcs, hds⟩ := id hs
 have hTs : s.TypeIs (.ref sl) "slice" := ⟨os, hos, hcs⟩
 unfold getItem
 try with_reducible refine wpAny_holding ?_
 first | refine wpAny_bind (wpAny_pure ?_) | skip
 refine wpAny_bind (wpAny_sequenceKey ht.typeIs (by decide) ?_)
 refine wpAny_bind (wpAny_callSpecial?_slot (name := Str.ofString "__getitem__") ht.typeIs PyProof.Rows.slot_tuple_getitem
  (wpAny_call_entry PyProof.Rows.slot_tuple_getitem ht.typeIs entry_tuple_getitem ?_ (args_tuple_getitem _ _)))
 show wpAny _ _ (Builtin.Tuple.tupleItemsOf (.ref t) >>= _) _ _ s
 refine wpAny_bind (tupleItemsOf_ ht ?_)
 refine wpAny_bind (wpAny_typeOf hTs ?_)
 rw [if_pos (by decide)]
 refine wpAny_bind (yK hs pl pu ?_)
 have hno : ¬ ((((sIx items.size 0 lo : Nat) : Int) == 0 && (1 : Int) == 1 && (sIx items.size items.size hi - sIx items.size 0 lo) == items.size) = true) := by
  intro q
  rw [Bool.and_eq_true, Bool.and_eq_true] at q
  have q1 : ((sIx items.size 0 lo : Nat) : Int) = 0 := eq_of_beq q.1.1
  have q2 : sIx items.size items.size hi - sIx items.size 0 lo = items.size := eq_of_beq q.2
  exact hw ⟨by omega, by omega⟩
 show wpAny _ _ (if (((sIx items.size 0 lo : Nat) : Int) == 0 && (1 : Int) == 1 && (sIx items.size items.size hi - sIx items.size 0 lo) == items.size) = true then _ else _) _ _ s
 rw [if_neg hno, pick_gen]
 first
  | exact wpAny_bind (m := Builtin.Tuple.tupleExact _) (wpAny_newObj_type (wpAny_pure ⟨_, rfl, wpAny_pure h⟩) htake)
  | exact wpAny_bind (m := Builtin.Tuple.tupleExact _) (wpAny_newObj_type (wpAny_bind (wpAny_pure (wpAny_pure ⟨_, rfl, wpAny_pure h⟩))) htake)
  | exact wpAny_bind (wpAny_bind (m := Builtin.Tuple.tupleExact _) (wpAny_newObj_type (wpAny_pure (wpAny_pure ⟨_, rfl, wpAny_pure h⟩)) htake))
  | exact wpAny_bind (wpAny_bind (m := Builtin.Tuple.tupleExact _) (wpAny_newObj_type (wpAny_pure ⟨_, rfl, wpAny_pure h⟩) htake))
end
end HT
namespace L2
open PySem PySem.Spec PyProof.Rows
abbrev TO := St → Hp → (Option Int → Hp → Prop) → Prop
def PO (X : Cx) (e : Option Expr) (t : TO) : Prop :=
 ∀ (pins : List (Addr × Obj)) (s : Shared) (σ : St) (H : Hp) (Q : Option Int → Hp → Prop), Inv X pins σ H s → t σ H Q →
  wpAny (model X.prog X.w) X.A (evalPart e X.env) (fun u s' => ∃ o H', Inv X pins σ H' s' ∧ IsPart u o ∧ Q o H') X.xe s
def ZV : TO := fun _ H Q => Q none H
def Xf (t : TE) : TO := fun σ H Q => t σ H fun x H1 => ∃ i, x = .int i ∧ Q (some i) H1
section
variable {X : Cx} {e : Expr} {te : TE} {lo hi : Option Expr} {tl th : TO} {pos p2 : Pos}
theorem wJ : PO X none ZV := by
 intro pins s σ H Q I h
 rw [evalPart_none]
 exact wpAny_pure ⟨none, H, I, .none, h⟩
theorem xJ (h : PE X e te) : PO X (some e) (Xf te) := by
 intro pins s σ H Q I hw
 rw [evalPart_some]
 refine thn (h pins s σ H _ I hw) fun u s1 ⟨x, H1, I1, r1, q1⟩ => ?_
 obtain ⟨i, rfl, q⟩ := q1
 obtain ⟨t, rfl⟩ := r1
 exact ⟨some i, H1, I1, .int i t, q⟩
def SlR (X : Cx) (r : V → Option Int → Option Int → Hp → VK → Prop) : Prop :=
 ∀ (pins : List (Addr × Obj)) (s : Shared) (σ : St) (H : Hp) (x : V) (v vl vu : Value) (lo hi : Option Int) (sl : Addr) (Q : VK), Inv X pins σ H s → RelV x v → s.heap.IsSliceOf sl vl vu .none → IsPart vl lo → IsPart vu hi → r x lo hi H Q →
  ∃ T id, typeLookup (.type T) "__getitem__" = pure (some (.builtin id)) ∧ s.TypeIs v T ∧ wpAny (model X.prog X.w) X.A (getItem v (.ref sl)) (EP X pins σ Q) X.xe s
def tSl (r : V → Option Int → Option Int → Hp → VK → Prop) (te : TE) (tl th : TO) : TE := fun σ H Q => te σ H fun x H1 => tl σ H1 fun l H2 => th σ H2 fun u H3 => r x l u H3 Q
theorem xK {r : V → Option Int → Option Int → Hp → VK → Prop} (hr : SlR X r) (he : PE X e te) (hl : PO X lo tl) (hu : PO X hi th) : PE X (.Subscript e (.Slice lo hi none p2) pos) (tSl r te tl th) := by
 intro pins s σ H Q I h
 refine Subscript_ (thn (he pins s σ H _ I h) fun v s1 ⟨x, H1, I1, r1, q1⟩ => ?_)
 refine wpAny_Slice (thn (hl pins s1 σ H1 _ I1 q1) fun vl s2 ⟨l, H2, I2, pl, q2⟩ => thn (hu pins s2 σ H2 _ I2 q2) fun vu s3 ⟨u, H3, I3, pu, q3⟩ => ?_)
 rw [evalPart_none]
 refine wpAny_pure ?_
 have I4 : Inv X pins σ H3 { s3 with heap := s3.heap.push { cls := .type "slice", data := .fields #[vl, vu, .none] } } := I3.kept (t' := s3.toks) fun b ob q => Heap.get?_push_of_some _ q
 obtain ⟨T, id, hT, ht, hg⟩ := hr pins { s3 with heap := s3.heap.push { cls := .type "slice", data := .fields #[vl, vu, .none] } } σ H3 x v vl vu l u s3.heap.objs.size Q I4 r1 (Heap.IsSliceOf.new ..) pl pu q3
 show wpAny (model X.prog X.w) X.A (subscriptTail e (.Slice lo hi none p2) v (.ref s3.heap.objs.size)) (EP X pins σ Q) X.xe { s3 with heap := s3.heap.push { cls := .type "slice", data := .fields #[vl, vu, .none] } }
 exact tail_any (ops := [.ref s3.heap.objs.size, v]) ht hT hg (by with_unfolding_all rfl)
def cutV (xs : List V) (lo hi : Option Int) : List V := (xs.drop (HT.sIx xs.length 0 lo)).take (HT.sIx xs.length xs.length hi - HT.sIx xs.length 0 lo)
theorem wF (xs : List V) (lo hi : Option Int) : (cutV xs lo hi).length ≤ xs.length := by
 unfold cutV
 rw [List.length_take, List.length_drop]
 omega
def rSlT (K : W.Frag) : V → Option Int → Option Int → Hp → VK → Prop := fun x lo hi H Q => ∃ a xs, x = .ref a ∧ SqT K H a xs ∧
 ¬ (HT.sIx xs.length 0 lo = 0 ∧ HT.sIx xs.length xs.length hi = xs.length) ∧ ∀ p, H p = none → Q (.ref p) (upd H p (.tup (cutV xs lo hi)))
theorem sl_tup : SlR X (rSlT X.K) := by
 intro pins s σ H x v vl vu lo hi sl Q I rx hs pl pu h
 obtain ⟨a, xs, rfl, hx, hw, q⟩ := h
 cases rx
 obtain ⟨its, r, ht, hz⟩ := I.tuple hx
 have hlen : its.toArray.size = xs.length := by rw [List.size_toArray]; exact r.length.symm
 refine ⟨"tuple", _, PyProof.Rows.slot_tuple_getitem.lookup, ht.typeIs, ?_⟩
 refine HT.getItem_tuple_cut ht hs pl pu (by rw [hlen]; exact hw) ?_ (by rw [hlen]; exact hz)
 rw [hlen]
 refine ⟨.ref s.heap.objs.size, _, I.laid (t' := s.toks) (o := .tup (cutV xs lo hi)) (fun b ob q => Heap.get?_push_of_some _ q) (Nat.le_refl _) ?_, rfl, q _ (I.hok.fresh (Nat.le_refl _))⟩
 exact ⟨Nat.le_trans (wF xs lo hi) hz, _, (r.drop (HT.sIx xs.length 0 lo)).take (HT.sIx xs.length xs.length hi - HT.sIx xs.length 0 lo), IsTup.new _ _⟩
def rCatT (K : W.Frag) : R2 := fun x y H Q => ∃ a b xs ys, x = .ref a ∧ y = .ref b ∧ SqT K H a xs ∧ SqT K H b ys ∧ xs ≠ [] ∧ xs.length + ys.length ≤ sizeLine ∧
 (ys = [] → Q (.ref a) H) ∧ (ys ≠ [] → ∀ p, H p = none → Q (.ref p) (upd H p (.tup (xs ++ ys))))
theorem Vals.nil_iff {xs : List V} {us : List Value} (r : Vals xs us) : us = [] ↔ xs = [] := by
 cases r with
 | nil => simp
 | cons _ _ => simp
theorem op_catT : OpR X (binaryOp .Add) (rCatT X.K) := by
 intro pins s σ H x y v u Q I rx ry h
 obtain ⟨a, b, xs, ys, rfl, rfl, ha, hb, hx, hz, q1, q2⟩ := h
 cases rx
 cases ry
 obtain ⟨its, r1, p1, _⟩ := I.tuple ha
 obtain ⟨its2, r2, p2, _⟩ := I.tuple hb
 refine HT.cat_tup p1 p2 (fun z => hx (r1.nil_iff.mp z)) (fun z => ⟨.ref a, H, I, rfl, q1 (r2.nil_iff.mp z)⟩) (fun z => ?_) (by rw [← r1.length, ← r2.length]; exact hz)
 refine ⟨.ref s.heap.objs.size, _, I.laid (t' := s.toks) (o := .tup (xs ++ ys)) (fun b ob q => Heap.get?_push_of_some _ q) (Nat.le_refl _) ?_, rfl, q2 (fun w => z (r2.nil_iff.mpr w)) _ (I.hok.fresh (Nat.le_refl _))⟩
 exact ⟨by rw [List.length_append]; exact hz, _, r1.append r2, IsTup.new _ _⟩
end
def ixN (n : Nat) (i : Int) : Option Nat := if 0 ≤ i then (if i < n then some i.toNat else none) else if -(n : Int) ≤ i then some (i + n).toNat else none
def atI {α : Type} (xs : List α) (i : Int) : Option α := (ixN xs.length i).bind fun j => xs[j]?
theorem Yh {n : Nat} {i : Int} {j : Nat} (h : ixN n i = some j) : seqIndex? i n = some j ∧ j < n ∧ -(n : Int) ≤ i ∧ i < n := by
 unfold ixN at h
 by_cases h0 : 0 ≤ i
 ·rw [if_pos h0] at h
  by_cases h1 : i < n
  ·rw [if_pos h1] at h
   have e : i.toNat = j := Option.some.inj h
   exact ⟨by rw [seqIndex_of h0 h1, e], by omega, by omega, h1⟩
  ·rw [if_neg h1] at h; cases h
 ·rw [if_neg h0] at h
  by_cases h1 : -(n : Int) ≤ i
  ·rw [if_pos h1] at h
   have e : (i + n).toNat = j := Option.some.inj h
   exact ⟨by rw [seqIndex_neg (by omega) h1, e], by omega, h1, by omega⟩
  ·rw [if_neg h1] at h; cases h
theorem v8 {α : Type} {xs : List α} {i : Int} {v : α} (h : atI xs i = some v) : ∃ j, seqIndex? i xs.length = some j ∧ xs[j]? = some v ∧ j < xs.length ∧ -(xs.length : Int) ≤ i ∧ i < xs.length := by
 unfold atI at h
 cases e : ixN xs.length i with
 | none => rw [e] at h; cases h
 | some j =>
  rw [e] at h
  obtain ⟨h1, h2, h3, h4⟩ := Yh e
  exact ⟨j, h1, h, h2, h3, h4⟩
theorem zu {α : Type} {xs : List α} {j : Nat} {v : α} (h : xs[j]? = some v) : atI xs (j : Int) = some v := by
 have hj : j < xs.length := (List.getElem?_eq_some_iff.mp h).1
 have e : ixN xs.length (j : Int) = some j := by
  unfold ixN
  rw [if_pos (by omega), if_pos (by omega)]; simp
 unfold atI; rw [e]; exact h
def PlainIx (b : Expr) : Prop := ∀ o i, subscripted b false o i = operate [o, i] (getItem o i)
def IxR (X : Cx) (r : R2) : Prop :=
 ∀ (value slice : Expr) (pins : List (Addr × Obj)) (s : Shared) (σ : St) (H : Hp) (x y : V) (v u : Value) (Q : VK), Inv X pins σ H s → RelV x v → RelV y u → r x y H Q →
  subscripted slice false v u = operate [v, u] (getItem v u) → wpAny (model X.prog X.w) X.A (subscriptTail value slice v u) (EP X pins σ Q) X.xe s
def MtR (X : Cx) (id : String) (r : V → List V → Hp → VK → Prop) : Prop :=
 ∀ (pins : List (Addr × Obj)) (s : Shared) (σ : St) (H : Hp) (x : V) (xs : List V) (v : Value) (us : List Value) (Q : VK), Inv X pins σ H s → RelV x v → Vals xs us → r x xs H Q →
  wpAny (model X.prog X.w) X.A (call (.builtin id) (v :: us)) (EP X pins σ Q) X.xe s
section
variable {X : Cx} {a b : Expr} {ta tb : TE} {pos : Pos}
theorem IxR.or {r r' : R2} (h : IxR X r) (h' : IxR X r') : IxR X (fun x y H Q => r x y H Q ∨ r' x y H Q) := by
 intro value slice pins s σ H x y v u Q I rx ry q hs
 rcases q with q | q
 ·exact h value slice pins s σ H x y v u Q I rx ry q hs
 ·exact h' value slice pins s σ H x y v u Q I rx ry q hs
theorem zp {r : R2} (hr : IxR X r) (ha : PE X a ta) (hb : PE X b tb) (hs : PlainIx b) : PE X (.Subscript a b pos) (tOp r ta tb) := by
 intro pins s σ H Q I h
 exact Subscript_ (binT ha hb I h fun v u s2 x y H2 I2 rx ry q => hr a b pins s2 σ H2 x y v u Q I2 rx ry q (hs _ _))
def rIxL (K : W.Frag) : R2 := fun x y H Q => ∃ p xs i v, x = .ref p ∧ y = .int i ∧ SqL K H p xs ∧ atI xs i = some v ∧ Q v H
def rIxT (K : W.Frag) : R2 := fun x y H Q => ∃ p xs i v, x = .ref p ∧ y = .int i ∧ SqT K H p xs ∧ atI xs i = some v ∧ Q v H
def rIxS : R2 := fun x y H Q => ∃ z i c, x = .str z ∧ y = .int i ∧ z.length ≤ sizeLine ∧ atI z.cps.toList i = some c ∧ Q (.str ⟨#[c]⟩) H
theorem ix_list : IxR X (rIxL X.K) := by
 intro value slice pins s σ H x y v u Q I rx ry h hs
 obtain ⟨p, xs, i, z, rfl, rfl, hq, he, q⟩ := h
 cases rx
 obtain ⟨t, rfl⟩ := ry
 obtain ⟨its, r, pl, hz⟩ := I.list hq
 obtain ⟨j, h1, h2, h3, h4, h5⟩ := v8 he
 obtain ⟨w, ew, rw'⟩ := r.get h2
 have hl := r.length
 have hn := va
 have fin : EP X pins σ Q w s := ⟨z, H, I, rw', q⟩
 by_cases h0 : 0 ≤ i
 ·have hj : i.toNat = j := by
   rw [seqIndex_of h0 h5] at h1
   exact Option.some.inj h1
  exact item_listR pl.isList h0 (by omega) (by rw [hj]; simpa using ew) fin hs
 ·have hj : (i + (its.toArray.size : Int)).toNat = j := by
   rw [seqIndex_neg (by omega) h4] at h1
   rw [List.size_toArray, ← hl]
   exact Option.some.inj h1
  exact subscriptTail_builtinR (x := w) pl.isList.typeIs slot_list_getitem.lookup
   (wpAny_getItem_list_neg (Q := fun r s' => r = w ∧ EP X pins σ Q r s') pl.isList (by omega) (by rw [List.size_toArray] <;> omega) (by omega) (by rw [hj]; simpa using ew) ⟨rfl, fin⟩) hs
theorem ix_tup : IxR X (rIxT X.K) := by
 intro value slice pins s σ H x y v u Q I rx ry h hs
 obtain ⟨p, xs, i, z, rfl, rfl, hq, he, q⟩ := h
 cases rx
 obtain ⟨t, rfl⟩ := ry
 obtain ⟨its, r, pl, hz⟩ := I.tuple hq
 obtain ⟨j, h1, h2, h3, h4, h5⟩ := v8 he
 obtain ⟨w, ew, rw'⟩ := r.get h2
 have hl := r.length
 have hn := va
 have fin : EP X pins σ Q w s := ⟨z, H, I, rw', q⟩
 exact subscriptTail_builtinR (x := w) pl.typeIs slot_tuple_getitem.lookup
  (getItem_tuple (j := j) (Q := fun r s' => r = w ∧ EP X pins σ Q r s') pl (by omega) (by omega) (by rw [List.size_toArray, ← hl]; exact h1) (by simpa using ew) ⟨rfl, fin⟩) hs
theorem ix_str : IxR X rIxS := by
 intro value slice pins s σ H x y v u Q I rx ry h hs
 obtain ⟨z, i, c, rfl, rfl, hz, he, q⟩ := h
 obtain ⟨t, rfl⟩ := rx
 obtain ⟨t', rfl⟩ := ry
 obtain ⟨j, h1, h2, h3, h4, h5⟩ := v8 he
 have hl : z.cps.toList.length = z.length := by simp [Str.length]
 rw [hl] at h1 h4 h5
 have hn := va
 exact tail_any (typeIs_str s z t) slot_str_getitem.lookup (getItem_str (c := c) (by
  have e1 : decide (i < -(2 ^ 63 : Int)) = false := decide_eq_false (by omega)
  have e2 : decide (i ≥ 2 ^ 63) = false := decide_eq_false (by omega)
  rw [e1, e2, Bool.or_false]) (by rw [h1]; simpa using h2) ⟨.str ⟨#[c]⟩, H, I.tok _, ⟨_, rfl⟩, q⟩) hs
def rIx (K : W.Frag) : R2 := fun x y H Q => rIxL K x y H Q ∨ rIxT K x y H Q ∨ rIxS x y H Q
theorem ix_seq : IxR X (rIx X.K) := ix_list.or (ix_tup.or ix_str)
theorem mapSeq_set (its : List Value) (n j : Nat) (u : Value) : Obj.mapSeq (·.setIfInBounds j u) { cls := .type "list", data := .seq its.toArray n } = { cls := .type "list", data := .seq (its.set j u).toArray n } := by
 simp [Obj.mapSeq]
theorem Inv.lst {pins : List (Addr × Obj)} {σ : St} {H : Hp} {s : Shared} {p : Addr} {xs : List V} (I : Inv X pins σ H s) (h : H p = some (.lst xs)) :
  ∃ (its : List Value) (n : Nat), Vals xs its ∧ s.heap.get? p = some { cls := .type "list", data := .seq its.toArray n } ∧ xs.length ≤ sizeLine := by
 obtain ⟨z, its, n, r, e⟩ := I.hok p _ h
 exact ⟨its, n, r, e, z⟩
theorem Inv.lstUpd {pins : List (Addr × Obj)} {σ : St} {H : Hp} {s : Shared} {p : Addr} {xs ys : List V} {its its' : List Value} {n n' : Nat} {f : Obj → Obj} (I : Inv X pins σ H s) (h : H p = some (.lst xs))
  (ho : s.heap.get? p = some { cls := .type "list", data := .seq its.toArray n }) (hf : f { cls := .type "list", data := .seq its.toArray n } = { cls := .type "list", data := .seq its'.toArray n' }) (r : Vals ys its') (hz : ys.length ≤ sizeLine) (t : Nat) :
  Inv X pins σ (upd H p (.lst ys)) { s with heap := s.heap.update p f, toks := t } := by
 have e : (s.heap.update p f).get? p = some { cls := .type "list", data := .seq its'.toArray n' } := by
  rw [Heap.get?_update_self f ho (by rw [hf] <;> rfl), hf]
 refine I.write (x := p) (e := p) (by rw [h]; trivial) (.inl rfl) (fun b u hb q => (Heap.get?_update_other _ _ (Ne.symm hb)).trans q) ⟨_, e⟩ ?_
 exact ⟨hz, its', n', r, e⟩
def YH : V → V → V → Hp → (Hp → Prop) → Prop := fun o i v H Q => ∃ p xs k j, o = .ref p ∧ i = .int k ∧ H p = some (.lst xs) ∧ ixN xs.length k = some j ∧ Q (upd H p (.lst (xs.set j v)))
theorem set_list : PSet X YH := by
 intro pins s σ H o i v ov iv u Q I ro ri rv h
 obtain ⟨p, xs, k, j, rfl, rfl, hp, hj, q⟩ := h
 cases ro
 obtain ⟨t, rfl⟩ := ri
 obtain ⟨its, n, r, ho, hz⟩ := I.lst hp
 obtain ⟨h1, h2, h3, h4⟩ := Yh hj
 have hl := r.length
 have hn := va
 have I' : Inv X pins σ (upd H p (.lst (xs.set j v))) { s with heap := s.heap.update p (Obj.mapSeq (·.setIfInBounds j u)) } :=
  I.lstUpd hp ho (mapSeq_set its n j u) (r.set rv j) (by rw [List.length_set]; exact hz) s.toks
 by_cases h0 : 0 ≤ k
 ·have hk : k.toNat = j := by
   rw [seqIndex_of h0 h4] at h1
   exact Option.some.inj h1
  exact PySem.W.ki_setAt ho h0 (by omega) (by rw [List.size_toArray, ← hl]; exact h4) (by rw [hk]; exact ⟨_, I', q⟩)
 ·have hk : (k + (its.toArray.size : Int)).toNat = j := by
   rw [seqIndex_neg (by omega) h3] at h1
   rw [List.size_toArray, ← hl]
   exact Option.some.inj h1
  exact PySem.W.ki_setBack ho (by omega) (by rw [List.size_toArray, ← hl]; exact h3) (by omega) (by rw [hk]; exact ⟨_, I', q⟩)
theorem slice_bounds (lo hi : Option Int) (n : Nat) : (sliceBounds lo hi none n).1 = ((HT.sIx n 0 lo : Nat) : Int) ∧ (sliceBounds lo hi none n).2.1 = ((HT.sIx n n hi : Nat) : Int) ∧ (sliceBounds lo hi none n).2.2 = 1 := by
 refine ⟨?_, ?_, rfl⟩
 ·cases lo with
  | none => simp [sliceBounds, HT.sIx]
  | some i =>
   simp only [sliceBounds, HT.sIx, Option.getD_none, show (1 : Int) > 0 by decide, if_true]
   by_cases h : i < 0
   ·simp only [h, if_true] <;> omega
   ·simp only [h, if_false] <;> omega
 ·cases hi with
  | none => simp [sliceBounds, HT.sIx]
  | some i =>
   simp only [sliceBounds, HT.sIx, Option.getD_none, show (1 : Int) > 0 by decide, if_true]
   by_cases h : i < 0
   ·simp only [h, if_true] <;> omega
   ·simp only [h, if_false] <;> omega
theorem slicePick_cut (its : List Value) (lo hi : Option Int) : slicePick its.toArray lo hi none = ((its.drop (HT.sIx its.length 0 lo)).take (HT.sIx its.length its.length hi - HT.sIx its.length 0 lo)).toArray := by
 obtain ⟨h1, h2, h3⟩ := slice_bounds lo hi its.toArray.size
 unfold slicePick
 rw [h1, h2, h3]
 simp only [sliceRange_one, pick_run, List.size_toArray] <;> rfl
def rSlL (K : W.Frag) : V → Option Int → Option Int → Hp → VK → Prop := fun x lo hi H Q => ∃ a xs, x = .ref a ∧ SqL K H a xs ∧ ∀ p, H p = none → Q (.ref p) (upd H p (.lst (cutV xs lo hi)))
theorem vN : SlR X (rSlL X.K) := by
 intro pins s σ H x v vl vu lo hi sl Q I rx hs pl pu h
 obtain ⟨a, xs, rfl, hx, q⟩ := h
 cases rx
 obtain ⟨its, r, ht, hz⟩ := I.list hx
 have hlen := r.length
 refine ⟨"list", _, slot_list_getitem.lookup, ht.isList.typeIs, ?_⟩
 refine wpAny_getItem_list_slice ht.isList hs pl pu .none (by simp) ?_ (by rw [List.size_toArray] <;> omega)
 rw [slicePick_cut, ← hlen]
 refine ⟨.ref s.heap.objs.size, _, I.laid (t' := s.toks) (o := .lst (cutV xs lo hi)) (fun b ob q => Heap.get?_push_of_some _ q) (Nat.le_refl _) ?_, rfl, q _ (I.hok.fresh (Nat.le_refl _))⟩
 exact ⟨Nat.le_trans (wF xs lo hi) hz, _, 0, (r.drop (HT.sIx xs.length 0 lo)).take (HT.sIx xs.length xs.length hi - HT.sIx xs.length 0 lo), Heap.get?_push_size _ rfl⟩
def xx : V → Bool
 | .non => true
 | .bl _ => true
 | .int _ => true
 | .str _ => true
 | _ => false
def eqV : V → V → Bool
 | .non, .non => true
 | .bl a, .bl b => a == b
 | .bl a, .int b => (if a then 1 else 0) == b
 | .int a, .bl b => a == (if b then 1 else 0)
 | .int a, .int b => a == b
 | .str a, .str b => a == b
 | _, _ => false
theorem eqAt_V {A : Around} {s : Shared} {y x : V} {u v : Value} (ry : RelV y u) (rx : RelV x v) (fy : xx y = true) (fx : xx x = true) : SeqAt.EqAt A s u v (eqV y x) := by
 cases y with
 | non =>
  cases ry
  cases x with
  | non => cases rx; exact SeqAt.EqAt.same _
  | bl b => cases rx; exact SeqAt.EqAt.none_bool b
  | int b => obtain ⟨t, rfl⟩ := rx; exact SeqAt.EqAt.none_int b t
  | str b => obtain ⟨t, rfl⟩ := rx; exact SeqAt.EqAt.none_str b t
  | _ => exact absurd (show false = true from fx) Bool.false_ne_true
 | bl a =>
  cases ry
  cases x with
  | non => cases rx; exact SeqAt.EqAt.bool_none a
  | bl b => cases rx; exact SeqAt.EqAt.bool_bool a b
  | int b => obtain ⟨t, rfl⟩ := rx; exact SeqAt.EqAt.bool_int a b t
  | str b => obtain ⟨t, rfl⟩ := rx; exact SeqAt.EqAt.bool_str a b t
  | _ => exact absurd (show false = true from fx) Bool.false_ne_true
 | int a =>
  obtain ⟨t', rfl⟩ := ry
  cases x with
  | non => cases rx; exact SeqAt.EqAt.int_none a t'
  | bl b => cases rx; exact SeqAt.EqAt.int_bool a t' b
  | int b => obtain ⟨t, rfl⟩ := rx; exact SeqAt.EqAt.int_int a t' b t
  | str b => obtain ⟨t, rfl⟩ := rx; exact SeqAt.EqAt.int_str a t' b t
  | _ => exact absurd (show false = true from fx) Bool.false_ne_true
 | str a =>
  obtain ⟨t', rfl⟩ := ry
  cases x with
  | non => cases rx; exact SeqAt.EqAt.str_none a t'
  | bl b => cases rx; exact SeqAt.EqAt.str_bool a t' b
  | int b => obtain ⟨t, rfl⟩ := rx; exact SeqAt.EqAt.str_int a t' b t
  | str b => obtain ⟨t, rfl⟩ := rx; exact SeqAt.EqAt.str_str a t' b t
  | _ => exact absurd (show false = true from fx) Bool.false_ne_true
 | _ => exact absurd (show false = true from fy) Bool.false_ne_true
def eqU (x : V) (u : Value) : Bool := match u with
 | .none => eqV .non x
 | .bool b => eqV (.bl b) x
 | .int i _ => eqV (.int i) x
 | .str z _ => eqV (.str z) x
 | _ => false
theorem Y4 {x y : V} {u : Value} (r : RelV y u) (f : xx y = true) : eqU x u = eqV y x := by
 cases y with
 | non => cases r; rfl
 | bl b => cases r; rfl
 | int i => obtain ⟨t, rfl⟩ := r; rfl
 | str z => obtain ⟨t, rfl⟩ := r; rfl
 | _ => exact absurd (show false = true from f) Bool.false_ne_true
theorem Za {x : V} : ∀ {xs : List V} {us : List Value}, Vals xs us → xs.all xx = true → us.any (eqU x) = xs.any fun y => eqV y x
 | _, _, .nil, _ => rfl
 | y :: xs, u :: us, .cons r t, f => by
  rw [List.all_cons, Bool.and_eq_true] at f
  rw [List.any_cons, List.any_cons, Y4 r f.1, Za t f.2]
theorem w9 {A : Around} {s : Shared} {x : V} {v : Value} (rx : RelV x v) (fx : xx x = true) : ∀ {xs : List V} {us : List Value}, Vals xs us → xs.all xx = true → ∀ u ∈ us, SeqAt.EqAt A s u v (eqU x u)
 | _, _, .nil, _ => fun u hu => by cases hu
 | y :: xs, u :: us, .cons r t, f => fun u' hu => by
  rw [List.all_cons, Bool.and_eq_true] at f
  rcases List.mem_cons.mp hu with rfl | hu
  ·rw [Y4 r f.1]; exact eqAt_V r rx f.1 fx
  ·exact w9 rx fx t f.2 u' hu
def inV (x : V) (xs : List V) : Bool := xs.any fun y => eqV y x
def rIn (K : W.Frag) (neg : Bool) : R2 := fun x y H Q => ∃ p xs, y = .ref p ∧ (SqL K H p xs ∨ SqT K H p xs) ∧ xx x = true ∧ xs.all xx = true ∧ Q (.bl (if neg then !inV x xs else inV x xs)) H
theorem wa : OpR X (compareOp .In) (rIn X.K false) := by
 intro pins s σ H x y v u Q I rx ry h
 obtain ⟨p, xs, rfl, hq, fx, fs, q⟩ := h
 cases ry
 rcases hq with hq | hq
 ·obtain ⟨its, r, pl, hz⟩ := I.list hq
  refine SeqAt.in_listAt (eqU x) pl.isList (fun w hw => w9 rx fx r fs w (by simpa using hw)) ⟨.bl _, H, I, rfl, ?_⟩
  rw [show its.toArray.any (eqU x) = its.any (eqU x) by simp, Za r fs]
  exact q
 ·obtain ⟨its, r, pl, hz⟩ := I.tuple hq
  refine SeqAt.in_tupleAt (eqU x) pl (fun w hw => w9 rx fx r fs w (by simpa using hw)) ⟨.bl _, H, I, rfl, ?_⟩
  rw [show its.toArray.any (eqU x) = its.any (eqU x) by simp, Za r fs]
  exact q
theorem zt : zT X (.builtin "len") (fun xs H Q => ∃ p ys, xs = [.ref p] ∧ (SqL X.K H p ys ∨ SqT X.K H p ys) ∧ Q (.int ys.length) H) := by
 intro pins s σ H xs us Q I r h
 obtain ⟨p, ys, rfl, hq, q⟩ := h
 obtain ⟨u, rfl, rx⟩ := vo r
 cases rx
 have hn := va
 rcases hq with hq | hq
 ·obtain ⟨its, r', pl, hz⟩ := I.list hq
  have hlen := r'.length
  exact Calls.call_len_list pl.isList (by simp only [List.size_toArray] <;> omega) ⟨.int ys.length, H, I.tok _, ⟨s.toks + 1, by rw [List.size_toArray, hlen]⟩, q⟩
 ·obtain ⟨its, r', pl, hz⟩ := I.tuple hq
  have hlen := r'.length
  exact len_tuple pl (by simp only [List.size_toArray] <;> omega) ⟨.int ys.length, H, I.tok _, ⟨s.toks + 1, by rw [List.size_toArray, hlen]⟩, q⟩
theorem call_list_of : zT X (.type "list") (fun xs H Q => ∃ p ys, xs = [.ref p] ∧ (SqL X.K H p ys ∨ SqT X.K H p ys) ∧ ∀ l, H l = none → Q (.ref l) (upd H l (.lst ys))) := by
 intro pins s σ H xs us Q I r h
 obtain ⟨p, ys, rfl, hq, q⟩ := h
 obtain ⟨u, rfl, rx⟩ := vo r
 cases rx
 have fin : ∀ (its : List Value), Vals ys its → ys.length ≤ sizeLine → ∀ (h' : Heap) (c' : Nat), (∀ b o', s.heap.get? b = some o' → h'.get? b = some o') →
   h'.get? s.heap.objs.size = some { cls := .type "list", dict := none, data := .seq its.toArray c', slots := #[] } → EP X pins σ Q (.ref s.heap.objs.size) { s with heap := h' } := fun its r' hz h' c' kp e =>
  ⟨.ref s.heap.objs.size, _, I.laid (t' := s.toks) kp (Nat.le_refl _) (show ObjOk X.prog X.w _ h' _ (.lst ys) from ⟨hz, its, c', r', e⟩), rfl, q _ (I.hok.fresh (Nat.le_refl _))⟩
 rcases hq with hq | hq
 ·obtain ⟨its, r', pl, hz⟩ := I.list hq
  have hlen := r'.length
  obtain ⟨o, ho, hc, n, hd⟩ := pl.isList
  exact call_list_seq p (.inl rfl) ho hc hd (fun h' c' kp e => fin its r' hz h' c' kp e) (by simp only [List.size_toArray] <;> omega)
 ·obtain ⟨its, r', pl, hz⟩ := I.tuple hq
  have hlen := r'.length
  obtain ⟨o, ho, hc, n, hd⟩ := pl
  exact call_list_seq p (.inr rfl) ho hc hd (fun h' c' kp e => fin its r' hz h' c' kp e) (by simp only [List.size_toArray] <;> omega)
theorem call_tuple_of : zT X (.type "tuple") (fun xs H Q => ∃ p ys, xs = [.ref p] ∧ ((SqL X.K H p ys ∧ ∀ l, H l = none → Q (.ref l) (upd H l (.tup ys))) ∨ (SqT X.K H p ys ∧ Q (.ref p) H))) := by
 intro pins s σ H xs us Q I r h
 obtain ⟨p, ys, rfl, h⟩ := h
 obtain ⟨u, rfl, rx⟩ := vo r
 cases rx
 rcases h with ⟨hq, q⟩ | ⟨hq, q⟩
 ·obtain ⟨its, r', pl, hz⟩ := I.list hq
  have hlen := r'.length
  refine call_tuple_list pl.isList (fun h' kp => ?_) (by simp only [List.size_toArray] <;> omega)
  have I1 : Inv X pins σ H { s with heap := h' } := I.kept (t' := s.toks) kp
  have I2 : Inv X pins σ (upd H h'.objs.size (.tup ys)) { s with heap := h'.push { cls := .type "tuple", data := .seq its.toArray } } :=
   I1.laid (t' := s.toks) (fun b o e => Heap.get?_push_of_some _ e) (Nat.le_refl _) (show ObjOk X.prog X.w _ _ _ (.tup ys) from ⟨hz, its, r', IsTup.new _ _⟩)
  exact ⟨.ref h'.objs.size, _, I2, rfl, q _ (I1.hok.fresh (Nat.le_refl _))⟩
 ·obtain ⟨its, r', pl, hz⟩ := I.tuple hq
  exact call_tuple_same pl ⟨.ref p, H, I, rfl, q⟩
def tyV (K : W.Frag) (T : String) (x : V) (H : Hp) : Prop := match x with
 | .str _ => T = "str"
 | .int _ => T = "int"
 | .ref p => (T = "list" ∧ ∃ xs, SqL K H p xs) ∨ (T = "tuple" ∧ ∃ o, K.lookup p = some o ∧ o.cls = .type "tuple" ∧ o.dict = none) ∨
   (T = "dict" ∧ ((∃ kvs, H p = some (.dK kvs)) ∨ ∃ kvs, H p = some (.dT kvs))) ∨ (T = "set" ∧ ∃ S n, H p = some (.set S n))
 | _ => False
theorem tyV_is {pins : List (Addr × Obj)} {σ : St} {H : Hp} {s : Shared} {T : String} {x : V} {v : Value} (I : Inv X pins σ H s) (r : RelV x v) (ty : tyV X.K T x H) :
  s.TypeIs v T ∧ ∀ a, v = .ref a → ∃ ob, s.heap.get? a = some ob ∧ ob.dict = none := by
 cases x with
 | str z =>
  obtain ⟨t, rfl⟩ := r
  cases (show T = "str" from ty)
  exact ⟨typeIs_str s z t, fun _ e => nomatch e⟩
 | int i =>
  obtain ⟨t, rfl⟩ := r
  cases (show T = "int" from ty)
  exact ⟨typeIs_int s i t, fun _ e => nomatch e⟩
 | ref p =>
  cases r
  rcases ty with ⟨rfl, xs, hq⟩ | ⟨rfl, o, hk, hc, hd⟩ | ⟨rfl, hk⟩ | ⟨rfl, S, n, hk⟩
  ·obtain ⟨its, _, pl, _⟩ := I.list hq
   refine ⟨pl.isList.typeIs, fun a e => ?_⟩
   cases e
   obtain ⟨o, n, e, c, hd, _⟩ := pl
   exact ⟨o, e, hd⟩
  ·refine ⟨⟨o, I.kIn p o hk, hc⟩, fun a e => ?_⟩
   cases e
   exact ⟨o, I.kIn _ o hk, hd⟩
  ·have z : ∃ o, s.heap.get? p = some o ∧ o.ExactDict := by
    rcases hk with ⟨kvs, hk⟩ | ⟨kvs, hk⟩
    ·obtain ⟨_, _, _, _, o, _, _, e, ex, _⟩ := I.hok p _ hk
     exact ⟨o, e, ex⟩
    ·obtain ⟨_, _, _, _, o, _, _, e, ex, _⟩ := I.hok p _ hk
     exact ⟨o, e, ex⟩
   obtain ⟨o, e, ex⟩ := z
   refine ⟨⟨o, e, ex.1⟩, fun a e2 => ?_⟩
   cases e2
   exact ⟨o, e, ex.2.1⟩
  ·obtain ⟨o, _, _, _, e, ex, _⟩ := I.hok p _ hk
   refine ⟨⟨o, e, ex.1⟩, fun a e2 => ?_⟩
   cases e2
   exact ⟨o, e, ex.2.1⟩
 | _ => exact False.elim ty
def tBM (K : W.Frag) (T : String) (r : V → List V → Hp → VK → Prop) (to : TE) (t : TA) : TE := fun σ H Q => to σ H fun x H1 => tyV K T x H1 ∧ t σ H1 fun xs H2 => r x xs H2 Q
variable {o e : Expr} {es : List Expr} {to : TE} {t : TA} {name : Str} {apos cpos : Pos} {T id : String} {r : V → List V → Hp → VK → Prop}
theorem xM (pa : PlainAttrs T) (slot : Slot T name id) (hty : typeOf (.builtin id) = pure (.type "method_descriptor")) (hm : MtR X id r) (ho : PE X o to) (ha : PA X (e :: es) t)
  (hbase : attributeBase o name X.env (eval o X.env) = eval o X.env := by rfl)
  (hfew : ((backTo cpos (starEach (e :: es) X.env)).all (fun x => !x.1) && (backToKw cpos (keywordEach [] X.env)).all (fun x => x.1.isSome)
   && decide ((e :: es).length + ([] : List Keyword).length + (if ([] : List Keyword).isEmpty then 0 else 1) < 30)) = true := by rfl)
  (hline : (apos.endLine == cpos.line) = true := by rfl) (hs : starEach (e :: es) X.env = (false, eval e X.env) :: starEach es X.env := by rfl) (hplain : (backTo cpos (starEach es X.env)).any (·.1) = false := by rfl) :
  PE X (.Call (.Attribute o name apos) (e :: es) [] cpos) (tBM X.K T r to t) := by
 intro pins s σ H Q I h
 refine wpAny_Call_method_late hbase hfew hline rfl (thn (ho pins s σ H _ I h) fun v s1 ⟨x, H1, I1, r1, ty, q1⟩ => ?_)
 obtain ⟨h1, h2⟩ := tyV_is I1 r1 ty
 refine ⟨T, id, pa, slot, hty, h1, h2, ?_⟩
 have hA := ha cpos pins s1 σ H1 _ I1 q1
 rw [hs] at hA ⊢
 refine Calls.callWith_builtin (by show (false || (backTo cpos (starEach es X.env)).any (·.1)) = false; rw [hplain] <;> rfl) (Calls.evalArgs_plain ?_)
 exact thn hA fun us s2 ⟨vs, H2, I2, r2, q2⟩ => hm pins s2 σ H2 x vs v us Q I2 r1 r2 q2
/- xs.append(e), list.index on a module's tuple .. are MtR facts of 06m -/
end
def MtM (X : Cx) (id : String) (r : V → List V → Hp → VK → Prop) : Prop :=
 ∀ (pins : List (Addr × Obj)) (s : Shared) (σ : St) (H : Hp) (x : V) (xs : List V) (v : Value) (us : List Value) (Q : VK), Inv X pins σ H s → RelV x v → Vals xs us → r x xs H Q →
  wpAny (model X.prog X.w) X.A (call (.builtin id) (v :: us)) (EP X pins σ Q) X.xe s
theorem Vals.one : ∀ {x : V} {us : List Value}, Vals [x] us → ∃ u, us = [u] ∧ RelV x u
 | _, _, .cons r .nil => ⟨_, rfl, r⟩
theorem Vals.reverse {xs : List V} {us : List Value} (h : Vals xs us) : Vals xs.reverse us.reverse := by
 induction h with
 | nil => exact .nil
 | cons r t ih => rw [List.reverse_cons, List.reverse_cons]; exact Vals.append ih (.cons r .nil)
theorem Vals.rep {xs : List V} {us : List Value} (h : Vals xs us) : ∀ k : Nat, Vals (List.replicate k xs).flatten (List.replicate k us).flatten
 | 0 => .nil
 | k + 1 => by
  rw [List.replicate_succ, List.replicate_succ, List.flatten_cons, List.flatten_cons]
  exact Vals.append h (Vals.rep h k)
theorem vx (its : List Value) : ∀ (k : Nat) (acc : List Value),
  List.foldl (fun x1 x2 => x1 ++ x2) acc.toArray (List.replicate k its.toArray) = (acc ++ (List.replicate k its).flatten).toArray
 | 0, acc => by simp
 | k + 1, acc => by
  have e : acc.toArray ++ its.toArray = (acc ++ its).toArray := by simp
  have e2 : (acc ++ its) ++ (List.replicate k its).flatten = acc ++ (List.replicate (k + 1) its).flatten := by
   rw [List.replicate_succ, List.flatten_cons, List.append_assoc]
  rw [← e2, ← vx its k (acc ++ its), ← e, List.replicate_succ, List.foldl_cons]
section
variable {X : Cx} {pins : List (Addr × Obj)} {σ : St} {H : Hp} {s : Shared} {l b : Addr} {xs ys zs : List V}
theorem Inv.lset {its its' : List Value} {n : Nat} {f : Array Value → Array Value} {t' : Nat} (I : Inv X pins σ H s) (hH : H l = some (.lst xs))
  (e : s.heap.get? l = some { cls := .type "list", data := .seq its.toArray n }) (hf : f its.toArray = its'.toArray) (hv : Vals ys its') (hz : ys.length ≤ sizeLine) :
  Inv X pins σ (upd H l (.lst ys)) { s with heap := s.heap.update l (Obj.mapSeq f), toks := t' } := by
 have q := PySem.IsL.update e f
 rw [hf] at q
 refine I.write (x := l) (e := l) (by rw [hH]; exact trivial) (.inl rfl) (fun b' u hb hu => (Heap.get?_update_other s.heap (Obj.mapSeq f) (Ne.symm hb)).trans hu) ⟨_, q⟩ ?_
 exact ⟨hz, its', _, hv, q⟩
theorem Inv.lnew {its : List Value} {t' : Nat} (I : Inv X pins σ H s) (hv : Vals ys its) (hz : ys.length ≤ sizeLine) :
  Inv X pins σ (upd H s.heap.objs.size (.lst ys)) { s with heap := s.heap.push { cls := .type "list", data := .seq its.toArray }, toks := t' } :=
 I.laid (fun _ _ q => Heap.get?_push_of_some _ q) (Nat.le_refl _) ⟨hz, its, 0, hv, Heap.get?_push_size _ rfl⟩
theorem Inv.fresh (I : Inv X pins σ H s) : H s.heap.objs.size = none := I.hok.fresh (Nat.le_refl _)
theorem Inv.lstM (I : Inv X pins σ H s) (hH : H l = some (.lst xs)) : xs.length ≤ sizeLine ∧ ∃ (its : List Value) (n : Nat), Vals xs its ∧ xs.length = its.length ∧ s.heap.get? l = some { cls := .type "list", data := .seq its.toArray n } := by
 obtain ⟨z, its, n, r, e⟩ := I.hok l _ hH
 exact ⟨z, its, n, r, r.length, e⟩
theorem notLongL {n : Nat} (h : n ≤ sizeLine) : Builtin.List.listTooLong n = false := by
 unfold Builtin.List.listTooLong
 exact decide_eq_false (by omega)
end
section
variable {X : Cx}
def Z4 : V → List V → Hp → VK → Prop := fun x vs H Q => ∃ l xs y, x = .ref l ∧ vs = [y] ∧ H l = some (.lst xs) ∧ xs.length < sizeLine ∧ Q .non (upd H l (.lst (xs ++ [y])))
theorem zZ : MtM X "list.append" Z4 := by
 intro pins s σ H x vs v us Q I rx rv h
 obtain ⟨l, xs, y, rfl, rfl, hH, hz, q⟩ := h
 cases rx
 obtain ⟨u, rfl, ru⟩ := rv.one
 obtain ⟨z, its, n, r, hl, e⟩ := I.lstM hH
 refine call_meets F.slot_list_append ⟨_, e, rfl⟩ F.entry_list_append (F.args_list_append_2 _ _) (PySem.list_append l its.toArray n u (by rw [List.size_toArray]; omega)) ⟨e, ?_⟩
 refine ⟨.non, _, I.lset (its' := its ++ [u]) hH e (by simp) (r.append (.cons ru .nil)) ?_, rfl, q⟩
 rw [List.length_append, List.length_singleton]
 omega
def rExtend : V → List V → Hp → VK → Prop := fun x vs H Q => ∃ l b xs zs, x = .ref l ∧ vs = [.ref b] ∧ H l = some (.lst xs) ∧ H b = some (.lst zs) ∧ xs.length + zs.length ≤ sizeLine ∧ Q .non (upd H l (.lst (xs ++ zs)))
theorem mt_extend : MtM X "list.extend" rExtend := by
 intro pins s σ H x vs v us Q I rx rv h
 obtain ⟨l, b, xs, zs, rfl, rfl, hH, hB, hz, q⟩ := h
 cases rx
 obtain ⟨u, rfl, ru⟩ := rv.one
 cases ru
 obtain ⟨z, its, n, r, hl, e⟩ := I.lstM hH
 obtain ⟨z2, its2, n2, r2, hl2, e2⟩ := I.lstM hB
 have hsz : its.toArray.size + its2.toArray.size ≤ sizeLine := by rw [List.size_toArray, List.size_toArray]; omega
 have hlong : ¬ (!its.toArray.isEmpty && Builtin.List.listTooLong (its.toArray.size + its2.toArray.size)) = true := by
  rw [notLongL hsz, Bool.and_false]
  exact Bool.false_ne_true
 refine call_meets F.slot_list_extend ⟨_, e, rfl⟩ F.entry_list_extend (F.args_list_extend_2 _ _)
  (AutoSeq1.list_extend_list_list_0 l its.toArray n b its2.toArray n2 hlong (by rw [List.size_toArray]; omega) (by omega)) ⟨e, e2, ?_⟩
 refine ⟨.non, _, I.lset (its' := its ++ its2) hH e (by simp) (r.append r2) ?_, rfl, q⟩
 rw [List.length_append]
 omega
def rCat : R2 := fun x y H Q => ∃ l b xs zs, x = .ref l ∧ y = .ref b ∧ H l = some (.lst xs) ∧ H b = some (.lst zs) ∧ xs.length + zs.length ≤ sizeLine ∧ ∀ p, H p = none → Q (.ref p) (upd H p (.lst (xs ++ zs)))
theorem vT : OpR X (binaryOp .Add) rCat := by
 intro pins s σ H x y v u Q I rx ry h
 obtain ⟨l, b, xs, zs, rfl, rfl, hH, hB, hz, q⟩ := h
 cases rx
 cases ry
 obtain ⟨z, its, n, r, hl, e⟩ := I.lstM hH
 obtain ⟨z2, its2, n2, r2, hl2, e2⟩ := I.lstM hB
 refine PySem.P.add_list e e2 ?_ (by rw [List.size_toArray, List.size_toArray]; omega)
 have ea : its.toArray ++ its2.toArray = (its ++ its2).toArray := by simp
 rw [ea]
 exact ⟨.ref _, _, I.lnew (t' := s.toks) (r.append r2) (by rw [List.length_append]; omega), rfl, q _ I.fresh⟩
theorem vU {α : Type} (xs : List α) (k : Nat) : (List.replicate k xs).flatten.length = k * xs.length := by
 induction k with
 | zero => simp
 | succ k ih => rw [List.replicate_succ, List.flatten_cons, List.length_append, ih, Nat.succ_mul, Nat.add_comm]
end
end L2
namespace Att
open PySem PySem.W PySem.Calls PyProof.Rows
theorem ints_of_wellAll {P : Params} {h : Heap} : ∀ (ns : List Int) (vs : List Value), WellAll P h vs (ns.map WData.int) → IntsAre vs ns := by
 intro ns
 induction ns with
 | nil =>
  intro vs w
  rw [List.map_nil] at w
  cases w
  exact .nil
 | cons n ns ih =>
  intro vs w
  rw [List.map_cons] at w
  cases w with
  | cons a b =>
   cases a
   exact .cons _ _ (ih _ b)
theorem script_of {l : OpenLaw} {n : Nat} (hn : l.most = some n) {P : Params} {h : Heap} {args : List WData} {vals : List Value}
  (hpre : l.row.toRowW.claim.pre args = true) (hwl : WellAll P h vals args) :
  ∃ a vs ns, vals = [Value.ref a] ∧ args = [WData.list (ns.map WData.int)] ∧ h.get? a = some { cls := .type "list", data := .seq vs.toArray } ∧ IntsAre vs ns ∧ ns.length ≤ n := by
 have hsh : WShape.hasAll [] args [.list .int] = true := (pre_splitW hpre).1
 have hc : l.pre.holds [] { args := args } = true := (pre_splitW hpre).2
 obtain ⟨d, r, rfl, h1, h2⟩ := hasAllW_cons hsh
 obtain rfl := hasAllW_nil h2
 obtain ⟨xs, rfl, h3⟩ := hasW_list h1
 obtain ⟨ns, rfl⟩ := items_int h3
 have hlen : ns.length ≤ n := by
  unfold OpenLaw.pre at hc
  have h4 : (WTm.not (.lt (.lit (.int (n : Int))) (.len (.arg 0)))).holds [] { args := [.list (ns.map .int)] } = true := by
   have h4 := (holds_andW hc).1
   rw [hn] at h4
   exact h4
  have h5 := condW_of h4 (w_not (w_lt w_lit (w_len_list (w_arg rfl))))
  rw [List.length_map] at h5
  refine Nat.le_of_not_lt fun q => ?_
  have q' : (n : Int) < ((ns.length : Nat) : Int) := by omega
  first
   | (rw [decide_eq_true q'] at h5; exact absurd h5 (by decide))
   | (simp at h5; omega)
 cases hwl with
 | cons w1 w2 =>
  cases w2
  cases w1 with
  | list ho hall => exact ⟨_, _, ns, rfl, rfl, ho, ints_of_wellAll ns _ hall, hlen⟩
theorem post_true (l : OpenLaw) (args : List WData) : l.row.toRowW.claim.post args (.bool true) args = true :=
 postW_of (r := l.row.toRowW) (X := (true == true))
  (show WShape.has [] (.bool true) .bool = true by first | rfl | decide | simp [WShape.has, WShape.arms, WShape.armsAll])
  (show (WTm.eq .res (.lit (.bool true))).value [] { args := args, res := some (.bool true), after := args } = some (.bool (true == true)) from w_eq_bool (w_res rfl) w_lit) rfl
theorem attach_call {l : OpenLaw} {n : Nat} {q : Program} {loose : List Str} {XP : (Str → Option Value) → Heap → Prop} {YP : World → Heap → Prop} {d : DefRec}
  (hn : l.most = some n) (hdf : d.params.defaults = [])
  (call : ∀ (w : World) (s₀ s₁ : Shared) (mg mb : Str → Option Value) (fa : Addr) (o : Obj) (pm cd doc : Value) (a : Addr) (vs : List Value) (ns : List Int),
   Ground q loose [] XP w s₀ mg mb s₁.heap → YP w s₁.heap →
   s₁.heap.get? fa = some o → o.data = .func (docDef d.name d.params d.body d.scope pm cd doc) → s₁.heap.CodeRec cd d.name → mg d.name = some (.ref fa) →
   s₁.heap.get? a = some { cls := .type "list", data := .seq vs.toArray } → IntsAre vs ns → ns.length ≤ n → s₁.gens = #[] →
   codeAny (model l.prog w) callerA (.call (.ref fa) ⟨[.ref a], []⟩) (fun r s' => r = .ok (.ret (.bool true)) ∧ OldK s₁.heap s'.heap ∧ s'.os = s₁.os ∧ AllBare s'.gens) s₁) :
  WalkO q loose XP YP l.row.toRowW d [] (fun f vs => PySem.call f vs) := by
 intro w s₀ s₁ mg mb G Y fa o pm cd doc dV kV ho hd hcd hD hmg hg args vals as hpre hlay hrd hwl hlo
 obtain rfl : dV = .none := Dflts.none hD hdf
 obtain rfl : kV = .none := Dflts.noKw hD
 obtain ⟨a, vs, ns, rfl, rfl, hobj, hints, hlen⟩ := script_of hn hpre hwl
 refine enter_call (codeAny_mono (call w s₀ s₁ mg mb fa o pm cd doc a vs ns G Y ho (fd_plain hd) hcd hmg hobj hints hlen hg) fun r s' hq => ?_)
 obtain ⟨rfl, h2, h3, h4⟩ := hq
 exact ⟨.inl ⟨.bool true, .bool true, [], rfl, fun _ => rfl, .bool true, post_true l _, fun _ => ⟨List.Pairwise.nil, fun _ hm => (nomatch hm)⟩⟩, h2, h3, h4⟩
end Att
namespace L2
open PySem PySem.Spec PyProof.Rows
theorem xW : ∀ {vs : List Value} {ns : List Int}, IntsAre vs ns → Vals (ns.map V.int) vs
 | _, _, .nil => .nil
 | _, _, .cons n t h => .cons ⟨t, rfl⟩ (xW h)
def Only (H : Hp) : Prop := ∀ b, H b = none ∨ ∃ o xs, H b = some (.frz o (.lst xs))
theorem law_call {P : Program} {w : World} {K : W.Frag} {mg mb : Str → Option Value} {CX : CXT} {k : Nat} {fa a : Addr} {fd : FuncData} {x : Str} {sp : Sp} {s₁ : Shared} {vs : List Value} {ns : List Int}
  (KX : K.In s₁.heap) (hns : s₁.heap.Ns mainGlobals mg) (hb : s₁.heap.Ns builtinsNs mb) (hbb : ∀ x : Str, x ≠ "__name__" → mb x = bootBuiltins x) (hlim : s₁.heap.NoLimit) (hg : s₁.gens = #[])
  (ha : s₁.heap.get? a = some { cls := .type "list", data := .seq vs.toArray }) (hi : IntsAre vs ns) (hl : ns.length ≤ sizeLine) (hr : Room k callerA)
  (F : ∀ base : Heap, K.In base → base.Ns mainGlobals mg → FnOk P w K mg base CX k fa fd [x] sp) (hbind : ∀ (s : Shared) (u : Value), BindsTo s fd ⟨[u], []⟩ [(x, u)])
  (hsp : ∀ H : Hp, Only H → SqL K H a (ns.map V.int) → sp [.ref a] H (fun v _ => v = .bl true) fun _ _ _ => False)
  (hCX : ∀ H e s', CX [] H s₁ (fun _ _ _ => False) e s' → False) :
  codeAny (model P w) callerA (.call (.ref fa) ⟨[.ref a], []⟩) (fun r s' => r = .ok (.ret (.bool true)) ∧ OldK s₁.heap s'.heap ∧ s'.os = s₁.os ∧ AllBare s'.gens) s₁ := by
 have rv := xW hi
 have lenV := hi.length
 -- from an abstract heap in which nothing but the script may be tracked
 have core : ∀ H : Hp, Only H → SqL K H a (ns.map V.int) → HOk P w H s₁.heap → (∀ b, H b ≠ none → b = a) → (H a ≠ none → K.lookup a = none) →
   codeAny (model P w) callerA (.call (.ref fa) ⟨[.ref a], []⟩) (fun r s' => r = .ok (.ret (.bool true)) ∧ OldK s₁.heap s'.heap ∧ s'.os = s₁.os ∧ AllBare s'.gens) s₁ := by
  intro H hO hS hok hA hK
  have base_of : ∀ {b : Addr} {o : Obj}, s₁.heap.get? b = some o → H b = none → (hidT s₁.heap H).get? b = some o := fun e n => Zr e n
  have noA : ∀ {b : Addr} {o : Obj} {es : Array DictEntry} {ep : Nat}, s₁.heap.get? b = some o → o.data = .dict es ep → H b = none := fun {b o es ep} e d => by
   cases q : H b with
   | none => rfl
   | some u =>
    have e' : b = a := hA b (by rw [q]; simp)
    subst e'
    rw [ha] at e; cases e
    have d' : Data.seq vs.toArray _ = Data.dict es ep := d
    cases d'
  have nsK : ∀ {b : Addr} {m : Str → Option Value}, s₁.heap.Ns b m → (hidT s₁.heap H).Ns b m := fun {b m} ⟨o, es, ep, e, d, r⟩ => ⟨o, es, ep, base_of e (noA e d), d, r⟩
  have hKb : K.In (hidT s₁.heap H) := fun b o e => base_of (KX b o e) (by
   cases q : H b with
   | none => rfl
   | some u =>
    have e' : b = a := hA b (by rw [q]; simp)
    subst e'
    rw [hK (by rw [q]; simp)] at e; cases e)
  have hM : Mod K mg (hidT s₁.heap H) := ⟨hKb, nsK hns, ⟨mb, nsK hb, hbb⟩, let ⟨mc, h1, h2⟩ := hlim; ⟨mc, nsK h1, h2⟩⟩
  have e0 : Env0 P w K mg (hidT s₁.heap H) callerA [] s₁ H := ⟨rfl, hM, fun b o e => Z9 e, Nat.le_of_eq (vv _ _), trivial, fun b hb => absurd (show b ∈ ([] : List Addr) from hb) (by simp), hok, .of_eq hg⟩
  refine codeAny_mono ((F _ hKb (nsK hns)).run callerA [] s₁ H ⟨[.ref a], []⟩ [.ref a] [.ref a] _ _ hr e0 (hbind s₁ (.ref a)) (.cons rfl .nil) (hsp H hO hS)) fun r s' h => ?_
  cases r with
  | error e => exact (hCX H e s' h).elim
  | ok fl =>
   cases fl with
   | next => exact False.elim h
   | brk => exact False.elim h
   | cont => exact False.elim h
   | ret u =>
    obtain ⟨v, H', os, bare, un, hok', r', q⟩ := h
    have q' : v = .bl true := q
    subst q'
    obtain rfl : u = Value.bool true := r'
    refine ⟨rfl, OldK.of_keep fun b o e => ?_, os, bare⟩
    cases q : H b with
    | none => exact un.keep b o e q (by intro z; exact absurd (show b ∈ ([] : List Addr) from z) (by simp)) (by simp)
    | some u =>
     rcases hO b with z | ⟨ob, xs, z⟩
     ·rw [q] at z; cases z
     ·have z2 := un.frzs b ob _ z
      obtain ⟨e1, _⟩ := hok b _ z
      obtain ⟨e2, _⟩ := hok' b _ z2
      rw [e] at e1; cases e1
      exact e2
 cases hk : K.lookup a with
 | some o =>
  -- the script is one of the module's own objects
  have e := KX a o hk
  rw [ha] at e
  cases e
  refine core (fun _ => none) (fun _ => .inl rfl) (.inr ⟨_, vs.toArray, _, hk, rfl, rfl, rfl, by rw [List.size_toArray, lenV]; exact hl, by simpa using rv⟩) (fun b u z => by have z' : (none : Option HO) = some u := z; cases z') (fun b z => absurd rfl z) fun z => absurd rfl z
 | none =>
  refine core (fun b => if b = a then some (.frz { cls := .type "list", data := .seq vs.toArray } (.lst (ns.map V.int))) else none) (fun b => ?_) (.inl (.inr ⟨{ cls := .type "list", data := .seq vs.toArray }, if_pos rfl⟩)) (fun b u z => ?_) (fun b z => ?_) fun _ => hk
  ·by_cases hb : b = a
   ·exact .inr ⟨_, _, if_pos hb⟩
   ·exact .inl (if_neg hb)
  ·by_cases hb : b = a
   ·have z' := (if_pos hb).symm.trans z
    cases z'
    subst hb
    exact ⟨ha, by rw [List.length_map]; exact hl, vs, _, rv, ha⟩
   ·have z' := (if_neg hb).symm.trans z
    cases z'
  ·by_cases hb : b = a
   ·exact hb
   ·exact absurd (if_neg hb) z
abbrev KOf {K : W.Frag} {h : Heap} (_ : K.In h) : W.Frag := K
theorem walk_of {l : PySem.W.OpenLaw} {n k : Nat} {q : Program} {loose : List Str} {XP : (Str → Option Value) → Heap → Prop} {YP : World → Heap → Prop} {d : DefRec} {K : Params → W.Frag} {CX : World → CXT} {sp : World → Sp} {x : Str}
  (hn : l.most = some n) (hn2 : n ≤ sizeLine) (hdf : d.params.defaults = []) (hr : Room k callerA)
  (hY : ∀ (w : World) (h : Heap), YP w h → (K w.params).In h)
  (F : ∀ (w : World) (mg : Str → Option Value) (fa : Addr) (h : Heap), (K w.params).In h → h.Ns mainGlobals mg → mg d.name = some (.ref fa) →
   ∃ fd : FuncData, (∀ (s : Shared) (u : Value), BindsTo s fd ⟨[u], []⟩ [(x, u)]) ∧
    ∀ base : Heap, (K w.params).In base → base.Ns mainGlobals mg → FnOk l.prog w (K w.params) mg base (CX w) k fa fd [x] (sp w))
  (hsp : ∀ (w : World) (H : Hp) (a : Addr) (ns : List Int), ns.length ≤ n → Only H → SqL (K w.params) H a (ns.map V.int) → sp w [.ref a] H (fun v _ => v = .bl true) fun _ _ _ => False)
  (hCX : ∀ (w : World) (H : Hp) (s : Shared) (e : Value) (s' : Shared), CX w [] H s (fun _ _ _ => False) e s' → False) :
  PySem.W.WalkO q loose XP YP l.row.toRowW d [] (fun f vs => PySem.call f vs) := by
 refine Att.attach_call hn hdf fun w s₀ s₁ mg mb fa o pm cd doc a vs ns G Y ho hd hcd hmg hobj hints hlen hg => ?_
 have KX := hY w _ Y
 obtain ⟨fd, hb, hF⟩ := F w mg fa _ KX G.T.g hmg
 exact law_call KX G.T.g G.T.b G.T.builtins G.T.nolimit hg hobj hints (Nat.le_trans hlen hn2) hr hF hb (fun H hO hS => hsp w H a ns hlen hO hS) fun H e s' => hCX w H s₁ e s'
end L2
/- THE LAST THEOREM (shape; LID, My.* are yours):
   My.Adr: a structure of the addresses that your layer names (classes, functions); My.Txt K t: a structure (Prop) of the equations over K;
   My.txt_mk : {K} {implicit addresses ..} (e1 : nsIn K mainGlobals "law" = some (some (.ref f))) (e2 : K.lookup f = some ⟨oc, od, .func (fnOf "law" "law" params body scope dV kV doc pm an cdv ct), sl⟩) (e3 : codeIn K cdv "law" = true) .. : ∃ t, My.Txt K t
set_option maxRecDepth 100000 in
set_option maxHeartbeats 0 in
theorem PySem.Challenge.cw_LID_holds : PySem.Challenge.rw_LID.Holds := by
 w_on; o_law; k_head; (case hw => w_witness2)
 k_fill
 refine L2.walk_of (l := PySem.Challenge.rw_LID) (n := 63) (k := 40) (x := "script") (CX := fun w => ..) (sp := fun _ => My.sp_law) rfl (by decide) rfl ⟨rfl, by decide, by decide⟩ (fun w h Y => PySem.W.kIn_of Y) ?F ?S ?C
 case F =>
  intro w mg fa h KX G hmg
  have T : ∃ t, My.Txt (L2.KOf KX) t := by
   dsimp only [L2.KOf]                          -- K must stand as «<heap const> w.params» for k_is
   refine' My.txt_mk ?e1 ?e2 ?e3 ..
   (case e1 => PySem.W.k_is)                    -- in the order: a name -> its address -> its object -> its parts
   (case e2 => PySem.W.k_is)
   ..
  obtain ⟨t, T⟩ := T
  have e0 := hmg.symm.trans (PySem.W.mg_of KX G T.law)
  cases e0                                       -- fa is the law's own address
  exact ⟨_, fun s u => .of_eq rfl, fun base kb nb => My.law_fn T kb nb⟩     -- if «.of_eq rfl» comes too early: refine' ⟨_, ?b, fun base kb nb => My.law_fn T kb nb⟩; exact fun s u => .of_eq rfl
 case S => exact fun w H a ns hl hO hS => ..
 case C => exact ..
(the tactic k_is has no namespace: write k_is) -/
namespace L2
open PySem PySem.Spec PyProof.Rows
def zJ (s : Stmt) : Arguments := match s with
 | .FunctionDef _ a _ _ _ _ _ _ _ _ => a
 | _ => { posonlyargs := [], args := [], vararg := none, kwonlyargs := [], kw_defaults := [], kwarg := none, defaults := [] }
def zj (s : Stmt) : List Stmt := match s with
 | .FunctionDef _ _ b _ _ _ _ _ _ _ => b
 | _ => []
def nsc : PySem.Scope := { kind := .function, names := [], isGenerator := false, isCoroutine := false }
def zc (s : Stmt) : Scope := match s with
 | .FunctionDef _ _ _ _ _ _ sc _ _ _ => sc
 | _ => nsc
abbrev CX0 : CXT := fun _ _ _ _ _ _ => False
abbrev E0 : XK := fun _ _ _ => False
theorem Z6 {X : Cx} : xE CX0 X E0 := fun _ _ _ _ _ _ _ h => h.elim
structure Fun (K : W.Frag) (x qual : Str) (st : Stmt) (f : Addr) (fd : FuncData) : Prop where
 ex : ∃ (oc : Value) (od : Option Addr) (kV doc pm : Value) (an : Option Addr) (cdv ct : Value) (osl : Array (Option Value)),
  fd = PySem.W.fnOf x qual (zJ st) (zj st) (zc st) .none kV doc pm an cdv ct ∧ K.lookup f = some ⟨oc, od, .func fd, osl⟩ ∧ PySem.W.codeIn K cdv qual = true
 kp : PySem.W.keepIn K (.ref f) = true
section
variable {P : Program} {w : World} {K : W.Frag} {mg : Str → Option Value} {base : Heap}
theorem Fun.ok {x qual : Str} {st : Stmt} {f : Addr} {fd : FuncData} {N ps : List Str} {k : Nat} {sp : Sp} (F : Fun K x qual st f fd) (S : FnScope N ps (zc st)) (len : ∀ vs H Q E, sp vs H Q E → vs.length = ps.length)
  (hbody : ∀ (cdv : Value) (A : Around) (outer : List Env) (s : Shared) (H : Hp) (vs : List V) (Q : VK) (E : XK), Room k (A.deeper (envOfC qual (zc st) s.heap.objs.size f cdv)) → sp vs H Q E →
   ∃ t, PSs (cxOf CX0 P w K mg base N qual (zc st) f cdv A outer s H E).nox (zj st) t ∧ t { nx := fun _ H' => Q .non H', rt := Q } (xF N vs) H) : FnOk P w K mg base CX0 (k + 1) f fd ps sp := by
 obtain ⟨oc, od, kV, doc, pm, an, cdv, ct, osl, rfl, lk, hcd⟩ := F.ex
 refine Xz lk hcd S len fun A outer s H vs Q E hr hsp => ?_
 obtain ⟨t, h, q⟩ := hbody cdv A outer s H vs Q E hr hsp
 exact ⟨t, h.nox, q⟩
theorem Fun.binds {x qual : Str} {st : Stmt} {f : Addr} {fd : FuncData} {ps : List Str} (F : Fun K x qual st f fd)
  (h : ∀ (kV doc pm : Value) (an : Option Addr) (cdv ct : Value) (us : List Value), us.length = ps.length → bindArgs (PySem.W.fnOf x qual (zJ st) (zj st) (zc st) .none kV doc pm an cdv ct) ⟨us, []⟩ = pure (ps.zip us)) : Binds K fd ps [] := by
 obtain ⟨oc, od, kV, doc, pm, an, cdv, ct, osl, rfl, lk, hcd⟩ := F.ex
 exact .all (h kV doc pm an cdv ct)
theorem vZ {x qual : Str} {st : Stmt} {f : Addr} {oc : Value} {od an : Option Addr} {osl : Array (Option Value)} {kV doc pm cdv ct : Value} (l : K.lookup f = some ⟨oc, od, .func (PySem.W.fnOf x qual (zJ st) (zj st) (zc st) .none kV doc pm an cdv ct), osl⟩)
  (c : PySem.W.codeIn K cdv qual = true) (k : PySem.W.keepIn K (.ref f) = true) : Fun K x qual st f (PySem.W.fnOf x qual (zJ st) (zj st) (zc st) .none kV doc pm an cdv ct) := ⟨⟨oc, od, kV, doc, pm, an, cdv, ct, osl, rfl, l, c⟩, k⟩
end
theorem zA {n : Nat} (h : n ≤ 1000) : n < sizeLine := Nat.lt_of_le_of_lt h (by decide)
section
variable {X : Cx}
theorem pv (i : Nat) {x : Str} {pos : Pos} (hN : X.N[i]? = some x := by rfl) (hv : Vis X.env.scope x := by first | exact Or.inl rfl | exact Or.inr (Or.inl rfl) | exact Or.inr (Or.inr rfl)) (hd : (x == ("__debug__" : Str)) = false := by decide)
  (hcd : (x == ("__classdict__" : Str)) = false := by decide) : PE X (.Name x pos) (tVar i) := wX hN hv hd hcd
end
theorem iteF {A B : Prop} (h : B) : if false = true then A else B := by
 rw [if_neg Bool.false_ne_true]
 exact h
theorem iteT {A B : Prop} (h : A) : if true = true then A else B := by
 rw [if_pos rfl]
 exact h
def Same (H H' : Hp) : Prop := ∀ b o, H b = some o → H' b = some o
theorem Same.refl (H : Hp) : Same H H := fun _ _ h => h
theorem Same.trans {H H1 H2 : Hp} (a : Same H H1) (b : Same H1 H2) : Same H H2 := fun c o h => b c o (a c o h)
theorem Same.free {H H' : Hp} (e : Same H H') {l : Addr} (h : H' l = Option.none) : H l = Option.none := by
 cases q : H l with
 | none => rfl
 | some o =>
  rw [e l o q] at h
  cases h
end L2
namespace L2
open PySem
def yU (s : Stmt) (i : Nat) : Stmt := match s with
 | .ClassDef _ _ _ body _ _ _ _ _ _ _ => body.getD i (.Pass ⟨0, 0, 0, 0⟩)
 | _ => .Pass ⟨0, 0, 0, 0⟩
end L2
namespace K11
open PySem L2
def top (i : Nat) : Stmt := PySem.Challenge.pw_dropsums_k11_problems_weighed.main.body.getD i (.Pass ⟨0, 0, 0, 0⟩)
def dEo (P : Params) (x : Str) (t : Nat) (v : Value) : DictEntry := ⟨PyData.keyHash P x, .str x t, v⟩
def cO (n : Str) (t : Nat) (q : Str) (t1 t2 : Nat) (l a f : Int) (r s x y z : Value) (k : Int) (t3 : Nat) : Obj :=
 ⟨.type "code", none, .fields #[.str n t, .str q t1, .str "/claim/cut.py" t2, .int l 0, .int a 0, .int 0 0, .int 0 0, .int f 0, r, .bool true, .int 181 0, s, .none, x, y, z, .int k 0, .int l 0, .str "/claim/cut.py" t3], #[]⟩
def fO (n q : Str) (s : Stmt) (m : Str) (t c : Nat) : Obj := ⟨.type "function", none, .func (PySem.W.fnOf n q (zJ s) (zj s) (zc s) .none .none .none (.str m t) none (.ref c) .none), #[]⟩
def KK : Params → W.Frag := fun P =>
 (nat_lit 3, ⟨(.type "dict"), none, (.dict #[dEo P "__name__" 165 (.str "law_dropsums_k11_problems_weighed" 301), dEo P "__doc__" 166 .none, dEo P "__package__" 167 .none, dEo P "__loader__" 168 (.builtin "__main__.__loader__#opaque"), dEo P "__spec__" 169 .none, dEo P "__annotations__" 170 (.ref 6), dEo P "__builtins__" 171 (.ref 4), dEo P "__file__" 173 (.str "/claim/cut.py" 172), dEo P "__cached__" 174 .none, dEo P "common_divisor" 199 (.ref 21), dEo P "QUICK_TURNS" 203 (.int 200 202), dEo P "Tableau" 287 (.ref 80), dEo P "weighed" 300 (.ref 91), dEo P "_law_feed" 312 (.ref 98), dEo P "_law_draw" 322 (.ref 105), dEo P "_law_row" 328 (.ref 110), dEo P "_law_dot" 334 (.ref 115), dEo P "_law_round" 340 (.ref 120), dEo P "_law_no" 346 (.ref 125), dEo P "_law_problem" 358 (.ref 132), dEo P "_law_whole" 365 (.ref 139), dEo P "_law_is_numbers" 371 (.ref 144), dEo P "_law_is_weights" 377 (.ref 149), dEo P "_law_kind" 387 (.ref 156), dEo P "law" 393 (.ref 161)] 25), #[]⟩) ::
 (nat_lit 20, cO "common_divisor" 189 "common_divisor" 190 191 2 1 3 (.ref 15) (.ref 16) (.ref 17) (.ref 18) (.ref 19) 197 198) ::
 (nat_lit 21, fO "common_divisor" "common_divisor" (top 1) "dropsums.wholes" 187 20) ::
 (nat_lit 32, cO "__init__" 216 "Tableau.__init__" 217 218 15 3 3 (.ref 29) (.ref 30) .none .none (.ref 31) 219 220) ::
 (nat_lit 33, fO "__init__" "Tableau.__init__" (yU (top 4) 0) "dropsums.tableau" 200 32) ::
 (nat_lit 37, cO "low_row" 222 "Tableau.low_row" 223 224 23 1 3 (.ref 34) (.ref 35) .none .none (.ref 36) 225 226) ::
 (nat_lit 38, fO "low_row" "Tableau.low_row" (yU (top 4) 1) "dropsums.tableau" 200 37) ::
 (nat_lit 44, cO "is_low" 228 "Tableau.is_low" 229 230 29 2 3 (.ref 39) (.ref 40) (.ref 41) (.ref 42) (.ref 43) 233 234) ::
 (nat_lit 45, fO "is_low" "Tableau.is_low" (yU (top 4) 2) "dropsums.tableau" 200 44) ::
 (nat_lit 49, cO "column_for" 236 "Tableau.column_for" 237 238 32 2 3 (.ref 46) (.ref 47) .none .none (.ref 48) 239 240) ::
 (nat_lit 50, fO "column_for" "Tableau.column_for" (yU (top 4) 3) "dropsums.tableau" 200 49) ::
 (nat_lit 56, cO "is_sought" 242 "Tableau.is_sought" 243 244 41 2 3 (.ref 51) (.ref 52) (.ref 53) (.ref 54) (.ref 55) 247 248) ::
 (nat_lit 57, fO "is_sought" "Tableau.is_sought" (yU (top 4) 4) "dropsums.tableau" 200 56) ::
 (nat_lit 61, cO "turn" 250 "Tableau.turn" 251 252 44 3 3 (.ref 58) (.ref 59) .none .none (.ref 60) 253 254) ::
 (nat_lit 62, fO "turn" "Tableau.turn" (yU (top 4) 5) "dropsums.tableau" 200 61) ::
 (nat_lit 66, cO "turned" 256 "Tableau.turned" 257 258 57 5 3 (.ref 63) (.ref 64) .none .none (.ref 65) 259 260) ::
 (nat_lit 67, fO "turned" "Tableau.turned" (yU (top 4) 6) "dropsums.tableau" 200 66) ::
 (nat_lit 71, cO "met" 262 "Tableau.met" 263 264 64 1 3 (.ref 68) (.ref 69) .none .none (.ref 70) 265 266) ::
 (nat_lit 72, fO "met" "Tableau.met" (yU (top 4) 7) "dropsums.tableau" 200 71) ::
 (nat_lit 76, cO "borne" 268 "Tableau.borne" 269 270 72 2 3 (.ref 73) (.ref 74) .none .none (.ref 75) 271 272) ::
 (nat_lit 77, fO "borne" "Tableau.borne" (yU (top 4) 8) "dropsums.tableau" 200 76) ::
 (nat_lit 79, ⟨(.type "dict"), none, (.dict #[dEo P "__module__" 211 (.str "dropsums.tableau" 200), dEo P "__firstlineno__" 215 (.int 13 214), dEo P "__init__" 221 (.ref 33), dEo P "low_row" 227 (.ref 38), dEo P "is_low" 235 (.ref 45), dEo P "column_for" 241 (.ref 50), dEo P "is_sought" 249 (.ref 57), dEo P "turn" 255 (.ref 62), dEo P "turned" 261 (.ref 67), dEo P "met" 267 (.ref 72), dEo P "borne" 273 (.ref 77), dEo P "__static_attributes__" 280 (.ref 78), dEo P "__dict__" 282 (.ref 81), dEo P "__weakref__" 284 (.ref 82), dEo P "__doc__" 285 .none] 4), #[]⟩) ::
 (nat_lit 80, ⟨(.type "type"), none, (.cls ⟨"Tableau", [(.type "object")], [(.ref 80), (.type "object")], 79, "Tableau", true, [], [], false, none, false⟩), #[none, none, (some (.str "Tableau" 204)), (some (.str "Tableau" 212)), (some (.builtin "object.__new__")), (some (.bool true))]⟩) ::
 (nat_lit 90, cO "weighed" 290 "weighed" 291 292 80 2 3 (.ref 85) (.ref 86) (.ref 87) (.ref 88) (.ref 89) 298 299) ::
 (nat_lit 91, fO "weighed" "weighed" (top 6) "dropsums.weighing" 288 90) ::
 (nat_lit 97, cO "_law_feed" 303 "_law_feed" 304 305 91 2 3 (.ref 92) (.ref 93) (.ref 94) (.ref 95) (.ref 96) 310 311) ::
 (nat_lit 98, fO "_law_feed" "_law_feed" (top 8) "law_dropsums_k11_problems_weighed" 301 97) ::
 (nat_lit 104, cO "_law_draw" 313 "_law_draw" 314 315 97 2 3 (.ref 99) (.ref 100) (.ref 101) (.ref 102) (.ref 103) 320 321) ::
 (nat_lit 105, fO "_law_draw" "_law_draw" (top 9) "law_dropsums_k11_problems_weighed" 301 104) ::
 (nat_lit 109, cO "_law_row" 323 "_law_row" 324 325 106 2 3 (.ref 106) (.ref 107) .none .none (.ref 108) 326 327) ::
 (nat_lit 110, fO "_law_row" "_law_row" (top 10) "law_dropsums_k11_problems_weighed" 301 109) ::
 (nat_lit 114, cO "_law_dot" 329 "_law_dot" 330 331 108 2 3 (.ref 111) (.ref 112) .none .none (.ref 113) 332 333) ::
 (nat_lit 115, fO "_law_dot" "_law_dot" (top 11) "law_dropsums_k11_problems_weighed" 301 114) ::
 (nat_lit 119, cO "_law_round" 335 "_law_round" 336 337 110 3 3 (.ref 116) (.ref 117) .none .none (.ref 118) 338 339) ::
 (nat_lit 120, fO "_law_round" "_law_round" (top 12) "law_dropsums_k11_problems_weighed" 301 119) ::
 (nat_lit 124, cO "_law_no" 341 "_law_no" 342 343 117 3 3 (.ref 121) (.ref 122) .none .none (.ref 123) 344 345) ::
 (nat_lit 125, fO "_law_no" "_law_no" (top 13) "law_dropsums_k11_problems_weighed" 301 124) ::
 (nat_lit 131, cO "_law_problem" 347 "_law_problem" 348 349 127 3 3 (.ref 126) (.ref 127) (.ref 128) (.ref 129) (.ref 130) 356 357) ::
 (nat_lit 132, fO "_law_problem" "_law_problem" (top 14) "law_dropsums_k11_problems_weighed" 301 131) ::
 (nat_lit 138, cO "_law_whole" 359 "_law_whole" 360 361 141 1 3 (.ref 133) (.ref 134) (.ref 135) (.ref 136) (.ref 137) 363 364) ::
 (nat_lit 139, fO "_law_whole" "_law_whole" (top 15) "law_dropsums_k11_problems_weighed" 301 138) ::
 (nat_lit 143, cO "_law_is_numbers" 366 "_law_is_numbers" 367 368 143 3 3 (.ref 140) (.ref 141) .none .none (.ref 142) 369 370) ::
 (nat_lit 144, fO "_law_is_numbers" "_law_is_numbers" (top 16) "law_dropsums_k11_problems_weighed" 301 143) ::
 (nat_lit 148, cO "_law_is_weights" 372 "_law_is_weights" 373 374 149 3 3 (.ref 145) (.ref 146) .none .none (.ref 147) 375 376) ::
 (nat_lit 149, fO "_law_is_weights" "_law_is_weights" (top 17) "law_dropsums_k11_problems_weighed" 301 148) ::
 (nat_lit 155, cO "_law_kind" 378 "_law_kind" 379 380 163 2 3 (.ref 150) (.ref 151) (.ref 152) (.ref 153) (.ref 154) 385 386) ::
 (nat_lit 156, fO "_law_kind" "_law_kind" (top 18) "law_dropsums_k11_problems_weighed" 301 155) ::
 (nat_lit 160, cO "law" 388 "law" 389 390 171 1 3 (.ref 157) (.ref 158) .none .none (.ref 159) 391 392) ::
 (nat_lit 161, fO "law" "law" (top 19) "law_dropsums_k11_problems_weighed" 301 160) :: []
def KB : W.Frag := (nat_lit 35, PySem.W.tabObj #[]) :: (nat_lit 47, PySem.W.tabObj #[]) :: []
def KT : Params → W.Frag := fun P => KK P ++ KB
def KA : List Addr := 3 :: 20 :: 21 :: 32 :: 33 :: 37 :: 38 :: 44 :: 45 :: 49 :: 50 :: 56 :: 57 :: 61 :: 62 :: 66 :: 67 :: 71 :: 72 :: 76 :: 77 :: 79 :: 80 :: 90 :: 91 :: 97 :: 98 :: 104 :: 105 :: 109 :: 110 :: 114 :: 115 :: 119 :: 120 :: 124 :: 125 :: 131 :: 132 :: 138 :: 139 :: 143 :: 144 :: 148 :: 149 :: 155 :: 156 :: 160 :: 161 :: 35 :: 47 :: []
theorem ke : ∀ P, KA = (KT P).map (·.1) := fun _ => by kernel_rfl
def VW : Program := { PySem.Challenge.pw_dropsums_k11_problems_weighed with main := { PySem.Challenge.pw_dropsums_k11_problems_weighed.main with body := ([1, 3, 4, 6, 8, 9, 10, 11, 12, 13, 14, 15, 16, 17, 18, 19] : List Nat).map top } }
abbrev RR := PySem.Challenge.rw_dropsums_k11_problems_weighed.row
theorem said0 : PySem.Challenge.rw_dropsums_k11_problems_weighed.wellSaid = true := by decide +kernel
theorem left0 : PySem.W.LeftO RR.prog VW [] (fun s => PySem.W.xlAt VW [] s && PySem.W.recOk (PySem.W.RowW.records RR.toRowW) s) (PySem.W.Hook.obs (PySem.W.kHook KT KA ke)) (PySem.W.Hook.val (PySem.W.kHook KT KA ke)) 1940 := fun w => by kernel_rfl
end K11
namespace L2
open PySem PySem.Spec PyProof.Rows
section
variable {P : Program} {w : World} {A : Around} {R : Result → Shared → Prop} {s : Shared}
theorem vA {elt tgt iter : Expr} {ifs : List Expr} {scope : Scope} {pos : Pos} {it acc : Value} {env : Env} (J : Nat → Shared → Prop)
  (turn : ∀ n s, J n s → wpAny (model P w) A (pyNext it) (fun r c₁ => match r with
   | none => R (.ok .next) c₁
   | some v => wpAny (model P w) A (letOwnedTupleGo tgt it v) (fun _ d₁ => wpAny (model P w) A (assign tgt env v) (fun _ c₂ =>
     wpAny (model P w) A (forIn ifs true fun c r => if r = true then do let ok ← isTrue c env (eval c env); pure (ForInStep.yield ok) else pure (ForInStep.yield r)) (fun ok c₃ =>
      if ok = true then wpAny (model P w) A (eval elt env) (fun x c₄ =>
       wpAny (model P w) A (call (.builtin "list.append") [acc, x]) (fun _ c₅ => ∃ m, m < n ∧ J m c₅) (notedBy (model P w) A env fun e s' => R (.error e) s') c₄) (notedBy (model P w) A env fun e s' => R (.error e) s') c₃
      else ∃ m, m < n ∧ J m c₃) (notedBy (model P w) A env fun e s' => R (.error e) s') c₂) (notedBy (model P w) A env fun e s' => R (.error e) s') d₁) (notedBy (model P w) A env fun e s' => R (.error e) s') c₁) (notedBy (model P w) A env fun e s' => R (.error e) s') s)
  (n : Nat) (hn : J n s) :
  codeAny (model P w) A (.compLoop (.ListComp elt [⟨tgt, iter, ifs, 0⟩] scope pos) 0 it acc env) R s := by
 refine codeAny_loop rfl J (fun n s hJ => ?_) n hn
 show wpAny _ A ((compTurn (.ListComp elt [⟨tgt, iter, ifs, 0⟩] scope pos) 0 it acc env).onRaise (fun x => do noteFrame x env; theTreesLotGoes x)) _ _ s
 refine wpAny_noted ?_
 rw [compTurn_list]
 refine wpAny_bind (wpAny_standAt (wpAny_bind (wpAny_mono (turn n s hJ) (fun r c₁ e₁ => ?_) fun _ _ z => z)))
 cases r with
 | none => exact wpAny_pure e₁
 | some v =>
  refine wpAny_bind (wpAny_mono e₁ (fun _ d₁ f₁ => ?_) fun _ _ z => z)
  refine wpAny_bind (wpAny_mono f₁ (fun _ c₂ e₂ => wpAny_bind (wpAny_mono e₂ (fun ok c₃ e₃ => ?_) fun _ _ z => z)) fun _ _ z => z)
  cases ok with
  | false => exact wpAny_pure ⟨rfl, e₃⟩
  | true =>
   exact wpAny_bind (wpAny_bind (wpAny_mono e₃ (fun x c₄ e₄ => wpAny_bind (wpAny_mono e₄ (fun _ c₅ e₅ => wpAny_pure (wpAny_pure ⟨rfl, e₅⟩)) fun _ _ z => z)) fun _ _ z => z))
end
def cloF (env : Env) : List (Str × NameKind) → List (Str × Addr) → List (Str × Addr)
 | [], acc => acc
 | (n, k) :: r, acc => if k = .free then cloF env r ((n, (env.cells.lookup n).getD 0) :: acc) else cloF env r acc
theorem vm {env : Env} : ∀ (names : List (Str × NameKind)) (acc : List (Str × Addr)), (∀ x ∈ names, x.2 = .free → ∃ c, env.cells.lookup x.1 = some c) →
  (forIn names acc (fun (x : Str × NameKind) (cs : List (Str × Addr)) => (if (x.2 == NameKind.free) = true then do let a ← cellOf env x.1; pure (ForInStep.yield ((x.1, a) :: cs)) else pure (ForInStep.yield cs) : Sem (ForInStep (List (Str × Addr))))) : Sem (List (Str × Addr))) = pure (cloF env names acc)
 | [], acc, _ => by simp [cloF]
 | (n, k) :: r, acc, h => by
  have ih := fun acc => vm (env := env) r acc fun x hx => h x (List.mem_cons_of_mem _ hx)
  rw [List.forIn_cons]
  by_cases hk : k = .free
  ·subst hk
   obtain ⟨c, hc⟩ := h (n, .free) List.mem_cons_self rfl
   have hc' : env.cells.lookup n = some c := hc
   have e : cellOf env n = pure c := by unfold cellOf; rw [hc']
   simp only [cloF, if_true, hc', Option.getD_some, beq_self_eq_true, e, pure_bind]
   exact ih _
  ·have hb : (k == NameKind.free) = false := by simpa using hk
   simp only [cloF, hk, if_false, hb, Bool.false_eq_true, pure_bind]
   exact ih _
theorem xD {env : Env} {scope : Scope} (h : ∀ x ∈ scope.names, x.2 = .free → ∃ c, env.cells.lookup x.1 = some c) : closureFor scope env = pure (cloF env scope.names []) := by
 rw [← vm scope.names [] h]
 unfold closureFor
 simp only [bind_pure]
theorem zN {env : Env} {y : Str} : ∀ (names : List (Str × NameKind)) (acc : List (Str × Addr)), (cloF env names acc).lookup y = if (y, NameKind.free) ∈ names then some ((env.cells.lookup y).getD 0) else acc.lookup y
 | [], acc => by simp [cloF]
 | (n, k) :: r, acc => by
  unfold cloF
  by_cases hk : k = .free
  ·subst hk
   rw [if_pos rfl, zN r]
   by_cases hy : y = n
   ·subst hy
    simp [List.lookup_cons]
   ·have hb : (y == n) = false := by simpa using hy
    simp [List.lookup_cons, hb, hy]
  ·rw [if_neg hk, zN r]
   have : ¬ ((y, NameKind.free) = (n, k)) := by
    intro e
    exact hk (Prod.mk.inj e).2.symm
   simp [this]
structure CScope (o sc : Scope) (TN F : List Str) : Prop where
 okind : o.kind = .function
 kind : sc.kind = .function
 nocell : ∀ y ∈ sc.names, y.2 ≠ .cell
 names : ∀ y ∈ sc.names, y.2 = .local → sc.names.lookup y.1 = some .local
 fr : ∀ y ∈ sc.names, y.2 = .free → o.names.lookup y.1 = some .cell ∧ sc.names.lookup y.1 = some .free
 ff : ∀ y ∈ F, (y, NameKind.free) ∈ sc.names
theorem yO {env : Env} {y : Str} (hk : env.scope.kind = .function) (hc : env.kindOf y = some .cell) : ∀ {names : List (Str × NameKind)}, names.lookup y = some .free →
  (names.map fun (n, k) => if (k == NameKind.free && env.scope.kind == .function && env.kindOf n == some .cell) then (n, NameKind.cell) else (n, k)).lookup y = some .cell
 | [], h => by simp at h
 | (n, k) :: r, h => by
  have ih := @yO env y hk hc r
  show List.lookup y ((if (k == NameKind.free && env.scope.kind == .function && env.kindOf n == some .cell) = true then (n, NameKind.cell) else (n, k)) :: _) = _
  cases hx : y == n with
  | true =>
   rw [List.lookup_cons, hx] at h
   cases h
   have e : y = n := by simpa using hx
   subst e
   rw [if_pos (by simp [hk, hc])]
   simp [List.lookup_cons]
  | false =>
   rw [List.lookup_cons, hx] at h
   by_cases hc' : (k == NameKind.free && env.scope.kind == .function && env.kindOf n == some .cell) = true
   ·rw [if_pos hc']; simp only [List.lookup_cons, hx]; exact ih h
   ·rw [if_neg hc']; simp only [List.lookup_cons, hx]; exact ih h
theorem xH {env : Env} {y : Str} : ∀ {names : List (Str × NameKind)}, (∀ z ∈ names, z.2 ≠ .cell) →
    ((names.map fun (n, k) => if (k == NameKind.free && env.scope.kind == .function && env.kindOf n == some .cell) then (n, NameKind.cell) else (n, k)).lookup y = some .cell ∨
     (names.map fun (n, k) => if (k == NameKind.free && env.scope.kind == .function && env.kindOf n == some .cell) then (n, NameKind.cell) else (n, k)).lookup y = some .free) → (y, NameKind.free) ∈ names
  | [], _, h => by simp at h
  | (n, k) :: r, hn, h => by
    have ih := @xH env y r fun z hz => hn z (List.mem_cons_of_mem _ hz)
    have h' : List.lookup y ((if (k == NameKind.free && env.scope.kind == .function && env.kindOf n == some .cell) = true then (n, NameKind.cell) else (n, k)) :: (r.map fun (n, k) => if (k == NameKind.free && env.scope.kind == .function && env.kindOf n == some .cell) then (n, NameKind.cell) else (n, k))) = some .cell ∨
      List.lookup y ((if (k == NameKind.free && env.scope.kind == .function && env.kindOf n == some .cell) = true then (n, NameKind.cell) else (n, k)) :: (r.map fun (n, k) => if (k == NameKind.free && env.scope.kind == .function && env.kindOf n == some .cell) then (n, NameKind.cell) else (n, k))) = some .free := h
    clear h
    cases hx : y == n with
    | true =>
      have e : y = n := by simpa using hx
      subst e
      by_cases hc' : (k == NameKind.free && env.scope.kind == .function && env.kindOf y == some .cell) = true
      · have hk : k = .free := by
          have := (Bool.and_eq_true _ _ ▸ (Bool.and_eq_true _ _ ▸ hc').1).1
          simpa using this
        subst hk
        exact List.mem_cons_self
      · rw [if_neg hc'] at h'
        simp only [List.lookup_cons, beq_self_eq_true] at h'
        rcases h' with h' | h'
        · cases h'
          exact absurd rfl (hn _ List.mem_cons_self)
        · cases h'
          exact List.mem_cons_self
    | false =>
      by_cases hc' : (k == NameKind.free && env.scope.kind == .function && env.kindOf n == some .cell) = true
      · rw [if_pos hc'] at h'; simp only [List.lookup_cons, hx] at h'; exact List.mem_cons_of_mem _ (ih h')
      · rw [if_neg hc'] at h'; simp only [List.lookup_cons, hx] at h'; exact List.mem_cons_of_mem _ (ih h')
def cxC (X : Cx) (N : List Str) (sc : Scope) (cl : List (Str × Addr)) (C : Addr) (fp : List Addr) (s₃ : Shared) (H₃ : Hp) (xe : Value → Shared → Prop) : Cx :=
 { X with N := N, s₀ := s₃, H₀ := H₃, env := compEnvC sc cl C X.env, outer := X.stack, ex := fp, fn := fun _ => false, pn := [], xe := xe }
def sub (ix : List Nat) (σ : St) : St := ix.map fun i => (σ[i]?).join
theorem inv_comp {X : Cx} {pins : List (Addr × Obj)} {σ : St} {H : Hp} {s : Shared} {sc : Scope} {TN F : List Str} {ix : List Nat} {fp : List Addr} {h4 : Heap} {tk : Nat} {m : Str → Option Value} {xe : Value → Shared → Prop}
  (S : CScope X.env.scope sc TN F) (hix : ix.map (fun i => X.N[i]?) = F.map some) (I : Inv X pins σ H s) (hf : ∀ b ∈ fp, FpOk X pins H b) (ho : ∀ b ∈ fp, ∃ o, s.heap.get? b = some o)
  (hk : ∀ b o, s.heap.get? b = some o → h4.get? b = some o) (hn : h4.Ns s.heap.objs.size m) :
  Inv (cxC X (TN ++ F) sc (cloF X.env sc.names []) s.heap.objs.size fp s H xe) [] (List.replicate TN.length none ++ sub ix σ) H { s with heap := h4, toks := tk } := by
 have cl : ∀ x c, (cloF X.env sc.names []).lookup x = some c → X.env.cells.lookup x = some c := fun x c e => by
  rw [zN] at e
  by_cases hx : (x, NameKind.free) ∈ sc.names
  ·rw [if_pos hx] at e
   obtain ⟨c', hc'⟩ := I.ok.has x (.inl (S.fr _ hx rfl).1)
   rw [hc'] at e ⊢
   exact e
  ·rw [if_neg hx] at e
   cases e
 have cl' : ∀ x, (x, NameKind.free) ∈ sc.names → (cloF X.env sc.names []).lookup x = X.env.cells.lookup x := fun x hx => by
  rw [zN, if_pos hx]
  obtain ⟨c', hc'⟩ := I.ok.has x (.inl (S.fr _ hx rfl).1)
  rw [hc']
  rfl
 have hlen : ix.length = F.length := by
  have := congrArg List.length hix
  simpa using this
 refine ⟨⟨I.ok.mod, S.kind, I.ok.glob, I.ok.blt, Nat.le_refl _, fun x y c h1 h2 => I.ok.inj x y c (cl x c h1) (cl y c h2), fun x hx => ?_, fun x c z => (nomatch z), I.ok.hd, I.ok.frames, .inl rfl, fun b hb => ⟨?_, fun x c e => (hf b hb).2.2.2.2.1 x c (cl x c e)⟩,
  I.bs, Nat.le_trans I.ok.bsz I.sz, fun b o e hb => ?_, fun b hb hfs => ?_, I.stack, I.stkFree⟩, rfl, I.bare, Un.kept hk, ⟨m, hn, fun i x v h1 h2 h3 => ?_⟩, fun x c e => ?_, I.hok.fresh (Nat.le_refl _), fun x c e => I.freeC x c (cl x c e), fun p hp => absurd (show p ∈ ([] : List (Addr × Obj)) from hp) (by simp), I.hok.kept hk, ?_⟩
 ·have hx' : (x, NameKind.free) ∈ sc.names := xH (env := X.env) S.nocell hx
  obtain ⟨c, hc⟩ := I.ok.has x (.inl (S.fr _ hx' rfl).1)
  exact ⟨c, (cl' x hx').trans hc⟩
 ·obtain ⟨o, e⟩ := ho b hb
  exact Nat.ne_of_lt (Heap.lt_size e)
 ·rcases (hf b hb).2.2.2.1 with z | z
  ·exact I.ok.noex b o e z
  ·exact absurd (Nat.lt_of_lt_of_le (Heap.lt_size e) (Nat.le_trans I.ok.bsz z)) (Nat.lt_irrefl _)
 ·rcases List.mem_cons.mp (I.stkSub b hfs) with z | z
  ·exact (hf b hb).2.1 z
  ·exact (hf b hb).2.2.1 z
 ·have hi : TN.length ≤ i := by
   apply Nat.le_of_not_lt
   intro hlt
   rw [List.getElem?_append_left (by simpa using hlt), List.getElem?_replicate] at h2
   split at h2 <;> cases h2
  rw [List.getElem?_append_right (by simpa using hi), List.length_replicate] at h2
  have h1' : F[i - TN.length]? = some x := by
   have : (TN ++ F)[i]? = some x := h1
   rw [List.getElem?_append_right hi] at this
   exact this
  have e3 := congrArg (fun l => l[i - TN.length]?) hix
  simp only [List.getElem?_map, h1', Option.map_some] at e3
  unfold sub at h2
  rw [List.getElem?_map] at h2
  cases ej : ix[i - TN.length]? with
  | none => rw [ej] at h2; cases h2
  | some k =>
   rw [ej] at h2 e3
   have h2' : (σ[k]?).join = some v := Option.some.inj h2
   have e3' : X.N[k]? = some x := Option.some.inj e3
   have hσ : σ[k]? = some (some v) := by
    cases e : σ[k]? with
    | none => rw [e] at h2'; cases h2'
    | some q =>
     rw [e] at h2'
     have : q = some v := h2'
     rw [this]
   have hfr := S.ff x (List.mem_of_getElem? h1')
   have hcell := (S.fr _ hfr rfl).1
   obtain ⟨m0, hn0, hl0⟩ := I.loc
   obtain ⟨u, r, l⟩ := hl0 k x v e3' hσ (.inr (.inl hcell))
   refine ⟨u, r, ?_⟩
   rcases l with ⟨l1, _⟩ | ⟨_, c, hc, o, ho', hd⟩
   ·have l1' : X.env.scope.names.lookup x = some .local := l1
    rw [hcell] at l1'
    cases l1'
   ·exact .inr ⟨.inl (yO (env := X.env) S.okind hcell (S.fr _ hfr rfl).2), c, (cl' x hfr).trans hc, o, hk c o ho', hd⟩
 ·obtain ⟨v, o, ho', hd⟩ := I.cell x c (cl x c e)
  exact ⟨v, o, hk c o ho', hd⟩
 ·show _ = (TN ++ F).length
  rw [List.length_append, List.length_append, List.length_replicate]
  unfold sub
  rw [List.length_map, hlen]
def PTs (X : Cx) (ifs : List Expr) (tc : TT) : Prop :=
 ∀ (pins : List (Addr × Obj)) (s : Shared) (σ : St) (H : Hp) (Q : Bool → Hp → Prop), Inv X pins σ H s → tc σ H Q →
  wpAny (model X.prog X.w) X.A (forIn ifs true fun c r => if r = true then do let ok ← isTrue c X.env (eval c X.env); pure (ForInStep.yield ok) else pure (ForInStep.yield r)) (TP X pins σ Q) X.xe s
def tAll : TT := fun _ H Q => Q true H
theorem zy {X : Cx} : PTs X [] tAll := fun _ _ _ H _ I h => wpAny_tests_nil ⟨H, I, h⟩
theorem xI {X : Cx} {c : Expr} {tc : TT} (hc : PT X c tc) : PTs X [c] tc := fun pins s σ H Q I h => wpAny_tests_one (hc pins s σ H Q I h)
def CGo (J : It) (D : Addr) (g : TG) (tc : TT) (te : TE) (Q : VK) (σ : St) (H : Hp) : Prop :=
 ∃ W : Nat → Nat → St → List V → Hp → Prop, (∃ m, W 0 m σ [] (upd H D (.lst []))) ∧ ∀ i m τ ys H, W i m τ ys H → H D = some (.lst ys) ∧
  ((J.stop i H ∧ Q (.ref D) H) ∨ (J.go i H ∧ ∀ v H', J.yld i H v H' → g v τ H' fun τ2 H2 => tc τ2 H2 fun b H3 =>
   if b = true then te τ2 H3 fun y H4 => H4 D = some (.lst ys) ∧ ys.length < sizeLine ∧ ∃ m', m' < m ∧ W (i + 1) m' τ2 (ys ++ [y]) (upd H4 D (.lst (ys ++ [y])))
   else ∃ m', m' < m ∧ W (i + 1) m' τ2 ys H3))
def wS (wi : TI) (n : Nat) (ix : List Nat) (g : TG) (tc : TT) (te : TE) : TE := fun σ H Q => wi σ H fun J H1 => ∀ D, H1 D = none → CGo J D g tc te Q (List.replicate n none ++ sub ix σ) H1
theorem vG {X : Cx} {pins : List (Addr × Obj)} {σ : St} {H : Hp} {s : Shared} {D : Addr} {ys : List V} {y : V} {u : Value} {Q : Value → Shared → Prop} {E : Value → Shared → Prop} (I : Inv X pins σ H s) (hD : H D = some (.lst ys)) (hz : ys.length < sizeLine) (r : RelV y u)
  (h : ∀ s', Inv X pins σ (upd H D (.lst (ys ++ [y]))) s' → Q .none s') : wpAny (model X.prog X.w) X.A (call (.builtin "list.append") [.ref D, u]) Q E s := by
 obtain ⟨z, its, n, rr, hl, e⟩ := I.lstM hD
 refine call_meets F.slot_list_append ⟨_, e, rfl⟩ F.entry_list_append (F.args_list_append_2 _ _) (PySem.list_append D its.toArray n u (by rw [List.size_toArray]; omega)) ⟨e, ?_⟩
 refine h _ (I.lset (its' := its ++ [u]) hD e (by simp) (rr.append (.cons r .nil)) ?_)
 rw [List.length_append, List.length_singleton]
 omega
theorem vi {X : Cx} {pins : List (Addr × Obj)} {σ : St} {H : Hp} {s : Shared} {sc : Scope} {TN F : List Str} {ix : List Nat} {elt tg iter : Expr} {ifs : List Expr} {pos : Pos} {g : TG} {tc : TT} {te : TE} {J : It} {fp : List Addr} {it : Addr} {tn : Nat → Heap → Prop} {Q : VK}
  {RR : Value → Addr → Result → Shared → Prop} {E : Value → Shared → Prop}
  (S : CScope X.env.scope sc TN F) (hix : ix.map (fun i => X.N[i]?) = F.map some) (hc : X.calm = true) (I : Inv X pins σ H s) (T : Turn X.prog X.w X.K tg J fp it tn) (st : tn 0 s.heap) (hf : ∀ b ∈ fp, FpOk X pins H b)
  (hg : ∀ cl C fp s3 H3 xe, PG (cxC X (TN ++ F) sc cl C fp s3 H3 xe) tg g) (ht : ∀ cl C fp s3 H3 xe, PTs (cxC X (TN ++ F) sc cl C fp s3 H3 xe) ifs tc) (he : ∀ cl C fp s3 H3 xe, PE (cxC X (TN ++ F) sc cl C fp s3 H3 xe) elt te)
  (hW : ∀ D, H D = none → CGo J D g tc te Q (List.replicate TN.length none ++ sub ix σ) H)
  (fin : ∀ D C H' s', Inv X pins σ H' s' → (∃ m, s'.heap.Ns C m) → H' C = none → C ≠ X.env.locals → X.s₀.heap.objs.size ≤ C → (∀ x c, X.env.cells.lookup x = some c → c ≠ C) → (∀ p ∈ X.pn ++ pins, p.1 ≠ C) → Q (.ref D) H' → RR (.ref D) C (.ok .next) s') :
  wpAny (model X.prog X.w) X.A (newList []) (fun acc s₃ => wpAny (model X.prog X.w) X.A (newFunctionEnv sc X.env.globals (cloF X.env sc.names []) [] X.env.qual none .none (some X.env)) (fun cenv s₄ =>
   codeAny (model X.prog X.w) X.A (.compStart (.ListComp elt [⟨tg, iter, ifs, 0⟩] sc pos) 0 (.ref it) acc { cenv with scope := relabel sc X.env }) (RR acc cenv.locals) s₄) E s₃) E s := by
 have hfo : ∀ b ∈ fp, ∃ o, s.heap.get? b = some o := fun b hb => let ⟨o, e, _⟩ := T.obj 0 _ st b hb; ⟨o, e⟩
 refine wpAny_newObj_type ?_
 obtain ⟨W, ⟨m0, w0⟩, go⟩ := hW s.heap.objs.size I.fresh
 have I3 : Inv X pins σ (upd H s.heap.objs.size (.lst [])) { s with heap := s.heap.push { cls := .type "list", data := .seq ([] : List Value).toArray } } := I.lnew (its := []) (ys := []) (t' := s.toks) .nil (Nat.zero_le _)
 generalize hs3 : ({ s with heap := s.heap.push { cls := .type "list", data := .seq ([] : List Value).toArray } } : Shared) = s3 at I3
 have hk3 : ∀ b o, s.heap.get? b = some o → s3.heap.get? b = some o := fun b o e => by
  rw [← hs3]
  exact Heap.get?_push_of_some _ e
 have hf3 : ∀ b ∈ fp, FpOk X pins (upd H s.heap.objs.size (.lst [])) b := fun b hb => by
  obtain ⟨o, e⟩ := hfo b hb
  exact ⟨by rw [zh (Nat.ne_of_lt (Heap.lt_size e))]; exact (hf b hb).1, (hf b hb).2⟩
 have st3 : tn 0 s3.heap := T.keep 0 _ _ st fun b hb o e => hk3 b o e
 show wpAny _ _ _ _ _ s3
 refine wpAny_newFunctionEnv S.nocell (by intro y hy; simp at hy) (fun h4 hn4 hsb => ?_) S.kind
 have hk4 : ∀ b o, s3.heap.get? b = some o → h4.get? b = some o := fun b o e => (hsb.2 b (Nat.ne_of_lt (Heap.lt_size e))).trans (Heap.get?_push_of_some _ e)
 generalize hR : RR (.ref s.heap.objs.size) s3.heap.objs.size = R
 have loop : ∀ s4 : Shared, s4 = { s3 with heap := h4, toks := s3.toks + ([] : List (Str × Value)).length } →
   codeAny (model X.prog X.w) X.A (.compLoop (.ListComp elt [⟨tg, iter, ifs, 0⟩] sc pos) 0 (.ref it) (.ref s.heap.objs.size) (compEnvC sc (cloF X.env sc.names []) s3.heap.objs.size X.env)) R s4 := by
  rintro s4 rfl
  let X' : Cx := cxC X (TN ++ F) sc (cloF X.env sc.names []) s3.heap.objs.size fp s3 (upd H s.heap.objs.size (.lst [])) (notedBy (model X.prog X.w) X.A (compEnvC sc (cloF X.env sc.names []) s3.heap.objs.size X.env) fun e s' => R (.error e) s')
  have I4 : Inv X' [] (List.replicate TN.length none ++ sub ix σ) (upd H s.heap.objs.size (.lst [])) { s3 with heap := h4, toks := s3.toks + ([] : List (Str × Value)).length } :=
   inv_comp S hix I3 hf3 (fun b hb => let ⟨o, e⟩ := hfo b hb; ⟨o, hk3 b o e⟩) hk4 hn4
  have fpx : ∀ {H' : Hp}, (∀ b ∈ fp, H' b = none) → ∀ b ∈ fp, FpOk X' [] H' b := fun {H'} hn b hb => by
   refine ⟨hn b hb, (I4.ok.exf b hb).1, fun z => I4.ok.exfs b hb z, .inl hb, fun x c e => (I4.ok.exf b hb).2 x c e, fun p hp => absurd (show p ∈ ([] : List (Addr × Obj)) from hp) (by simp)⟩
  refine vA (fun n s' => ∃ i τ ys H', Inv X' [] τ H' s' ∧ tn i s'.heap ∧ (∀ b ∈ fp, H' b = none) ∧ W i n τ ys H') ?_ m0 ⟨0, _, [], _, I4, T.keep 0 _ _ st3 fun b hb o e => hk4 b o e, fun b hb => (hf3 b hb).1, w0⟩
  rintro n s5 ⟨i, τ, ys, H5, I5, st5, fr5, w5⟩
  obtain ⟨hD, hgo⟩ := go i n τ ys H5 w5
  rcases hgo with ⟨stop, q⟩ | ⟨hgo, step⟩
  ·refine thn (T.done X' rfl rfl rfl hc i [] s5 τ H5 X'.xe I5 (fpx fr5) st5 stop) fun r s6 ⟨hr, I6⟩ => ?_
   subst hr
   show R (.ok .next) s6
   rw [← hR]
   have J6 : Inv X pins σ H5 s6 := I3.call' (ch := fp) I6.os I6.base I6.hok I6.bare fun b hb => ⟨(hf3 b hb).2.2.2.1, (hf3 b hb).2.1, (hf3 b hb).2.2.2.2.1, (hf3 b hb).2.2.2.2.2⟩
   refine fin s.heap.objs.size s3.heap.objs.size H5 s6 J6 (let ⟨m, hn, _⟩ := I6.loc; ⟨m, hn⟩) I6.free (Nat.ne_of_gt I3.lt) I3.sz (fun x c e z => ?_) (fun p hp z => ?_) q
   ·obtain ⟨v, o, ho, _⟩ := I3.cell x c e
    exact absurd (Heap.lt_size ho) (by rw [z]; exact Nat.lt_irrefl _)
   ·exact absurd (Heap.lt_size (I3.pin p hp).1) (by rw [z]; exact Nat.lt_irrefl _)
  ·refine thn (T.item X' rfl rfl rfl hc i [] s5 τ H5 X'.xe I5 (fpx fr5) st5 hgo) fun r s6 ⟨u, hr, h6⟩ => ?_
   subst hr
   refine thn h6 fun _ s7 ⟨v, H7, I7, r7, y7, st7, fr7⟩ => ?_
   have I7' := I7.pinned (fpx fr7) (T.obj _ _ st7)
   refine thn (hg _ _ _ _ _ _ _ s7 τ H7 v u _ I7' r7 (step v H7 y7)) fun _ s8 ⟨τ8, H8, I8, q8⟩ => ?_
   refine thn (ht _ _ _ _ _ _ _ s8 τ8 H8 _ I8 q8) fun ok s9 ⟨H9, I9, q9⟩ => ?_
   have again : ∀ {ys' : List V} {H' : Hp} {s' : Shared}, Inv X' ([] ++ x6 fp s7.heap) τ8 H' s' → (∃ m', m' < n ∧ W (i + 1) m' τ8 ys' H') → ∃ m, m < n ∧ ∃ i τ ys H'', Inv X' [] τ H'' s' ∧ tn i s'.heap ∧ (∀ b ∈ fp, H'' b = none) ∧ W i m τ ys H'' := fun {ys' H' s'} I' ⟨m', hm, w'⟩ => by
    refine ⟨m', hm, i + 1, τ8, ys', H', I'.unpinned, T.keep _ _ _ st7 fun b hb o e => (I'.pin (b, o) (List.mem_append_right _ (List.mem_append_right _ (yh hb e)))).1, fun b hb => ?_, w'⟩
    obtain ⟨o, e, d⟩ := T.obj _ _ st7 b hb
    exact (I'.pin (b, o) (List.mem_append_right _ (List.mem_append_right _ (yh hb e)))).2.1
   cases ok with
   | false =>
    exact again I9 q9
   | true =>
    refine thn (he _ _ _ _ _ _ _ s9 τ8 H9 _ I9 q9) fun x s10 ⟨y, H10, I10, r10, hD10, hz10, q10⟩ => ?_
    exact vG (X := X') I10 hD10 hz10 r10 fun s11 I11 => again I11 q10
 subst hR
 exact codeAny_compStart_list (loop _ rfl) (T.self X.A 0 _ _ _ (T.keep 0 _ _ st3 fun b hb o e => hk4 b o e) (loop _ rfl))
section
variable {X : Cx} {sc : Scope} {TN F : List Str} {ix : List Nat} {elt tg iter : Expr} {ifs : List Expr} {pos : Pos} {g : TG} {tc : TT} {te : TE} {wi : TI}
theorem vj (S : CScope X.env.scope sc TN F) {pins : List (Addr × Obj)} {σ : St} {H : Hp} {s : Shared} (I : Inv X pins σ H s) : closureFor sc X.env = pure (cloF X.env sc.names []) :=
 xD fun x hx hk => I.ok.has x.1 (.inl (S.fr x hx hk).1)
theorem zI (S : CScope X.env.scope sc TN F) (hix : ix.map (fun i => X.N[i]?) = F.map some) (hc : X.calm = true) (hi : PI X tg iter wi)
  (hg : ∀ cl C fp s3 H3 xe, PG (cxC X (TN ++ F) sc cl C fp s3 H3 xe) tg g) (ht : ∀ cl C fp s3 H3 xe, PTs (cxC X (TN ++ F) sc cl C fp s3 H3 xe) ifs tc) (he : ∀ cl C fp s3 H3 xe, PE (cxC X (TN ++ F) sc cl C fp s3 H3 xe) elt te)
  (hs : ∀ x, foldedSetIterable iter X.env x = pure x := by intro _; rfl) : PE X (.ListComp elt [⟨tg, iter, ifs, 0⟩] sc pos) (wS wi TN.length ix g tc te) := by
 intro pins s σ H Q I h
 rw [eval_ListComp]
 refine wpAny_comprehension_free (use := none) rfl hs (vj S I) S.kind S.names (thn (hi pins s σ H _ I h) fun v s1 h1 => thn h1 fun itv s2 h2 => ?_)
 obtain ⟨it, fp, tn, J, H2, e, I2, T, st2, f2, q2⟩ := h2
 subst e
 refine vi (RR := fun acc C => compPost (model X.prog X.w) X.A X.xe none (EP X pins σ Q) acc C) S hix hc I2 T st2 f2 hg ht he q2 fun D C H' s' I' hn hC1 hC2 hC3 hC4 hC5 q => ?_
 obtain ⟨m, hn⟩ := hn
 exact ⟨m, hn, fun h' hs' => ⟨.ref D, H', I'.turned (t' := s'.toks) (fun b o hb e => (hs'.2 b hb).trans e) hC1 hC2 (.inr hC3) hC4 hC5, rfl, q⟩⟩
theorem yk {i : Nat} {y : Str} {py spos : Pos} (hN : X.N.Nodup) (hiy : X.N[i]? = some y) (hy : X.env.scope.names.lookup y = some .local) (S : CScope X.env.scope sc TN F) (hix : ix.map (fun i => X.N[i]?) = F.map some) (hc : X.calm = true) (hi : PI X tg iter wi)
  (hg : ∀ cl C fp s3 H3 xe, PG (cxC X (TN ++ F) sc cl C fp s3 H3 xe) tg g) (ht : ∀ cl C fp s3 H3 xe, PTs (cxC X (TN ++ F) sc cl C fp s3 H3 xe) ifs tc) (he : ∀ cl C fp s3 H3 xe, PE (cxC X (TN ++ F) sc cl C fp s3 H3 xe) elt te)
  (hsw : swapsWith (.ListComp elt [⟨tg, iter, ifs, 0⟩] sc pos) (some (.Name y py)) spos.line X.env = pure true := by rfl)
  (hs : ∀ x, foldedSetIterable iter X.env x = pure x := by intro _; rfl) : PS X (.Assign [.Name y py] (.ListComp elt [⟨tg, iter, ifs, 0⟩] sc pos) spos) (tAsg (wS wi TN.length ix g tc te) (zB i)) := by
 intro pins s σ H D I h
 rw [exec_Assign_Name_used _ _ _ _ hsw]; refine wpAny_bind (wpAny_standAt (wpAny_bind ?_))
 show wpAny _ X.A (do let _ ← comprehension (.ListComp elt [⟨tg, iter, ifs, 0⟩] sc pos) sc X.env _ (newList []) false (eval iter X.env) (some (assign (.Name y py) X.env))) _ _ s
 refine wpAny_bind (wpAny_mono (wpAny_comprehension_free (use := some (assign (.Name y py) X.env)) (Q := fun _ s' => SP X pins D .next s') rfl hs (vj S I) S.kind S.names
  (thn (hi pins s σ H _ I h) fun v s1 h1 => thn h1 fun itv s2 h2 => ?_)) (fun _ s' hq => wpAny_pure (wpAny_pure hq)) fun _ _ e => e)
 obtain ⟨it, fp, tn, J, H2, e, I2, T, st2, f2, q2⟩ := h2
 subst e
 refine vi (RR := fun acc C => compPost (model X.prog X.w) X.A X.xe (some (assign (.Name y py) X.env)) (fun _ s' => SP X pins D .next s') acc C) S hix hc I2 T st2 f2 hg ht he q2 fun Dl C H' s' I' hn hC1 hC2 hC3 hC4 hC5 q => ?_
 obtain ⟨m, hn⟩ := hn
 show wpAny _ X.A (assign (.Name y py) X.env (.ref Dl)) _ _ _
 refine wpAny_assign_Name (xY I' hN hiy (.inl hy) (show RelV (.ref Dl) (.ref Dl) from rfl) (fun s'' I'' ⟨a, hsb, ha⟩ => ?_) (.inr hy))
 have haC : C ≠ a := by
  rcases ha with z | z
  ·rw [z]; exact hC2
  ·exact fun z' => hC4 y a z z'.symm
 refine ⟨m, hn.sameBut hsb haC, fun h' hs' => ?_⟩
 exact ⟨_, H', I''.turned (t' := s''.toks) (fun b o hb e => (hs'.2 b hb).trans e) hC1 hC2 (.inr hC3) hC4 hC5, q⟩
end
def Z0 (H : Hp) (p : Addr) : Option (List V) := match H p with
 | some (.lst xs) => some xs
 | some (.tup xs) => some xs
 | _ => none
def dAt (H : Hp) (x y : V) : Option V := match x, y with
 | .ref p, .int i => (Z0 H p).bind fun xs => atI xs i
 | _, _ => none
def rIxd : R2 := fun x y H Q => ∃ v, dAt H x y = some v ∧ Q v H
section
variable {X : Cx}
theorem ix_d : IxR X rIxd := by
 intro value slice pins s σ H x y v u Q I rx ry h hs
 refine ix_seq value slice pins s σ H x y v u Q I rx ry ?_ hs
 obtain ⟨z, e, q⟩ := h
 unfold dAt at e
 split at e
 case h_2 => cases e
 case h_1 p i =>
  unfold Z0 at e
  split at e
  case h_1 xs hp => exact .inl ⟨_, xs, _, z, rfl, rfl, SqL.of hp, e, q⟩
  case h_2 xs hp => exact .inr (.inl ⟨_, xs, _, z, rfl, rfl, SqT.of hp, e, q⟩)
  case h_3 => cases e
theorem ziq {X : Cx} {a b : Expr} {ta tb : TE} {pos : Pos} (ha : PE X a ta) (hb : PE X b tb) (hs : PlainIx b := by exact fun _ _ => rfl) : PE X (.Subscript a b pos) (tOp rIxd ta tb) := zp ix_d ha hb hs
def dSet (H : Hp) (o i v : V) : Option Hp := match o, i with
 | .ref p, .int k => match H p with
  | some (.lst xs) => (ixN xs.length k).map fun j => upd H p (.lst (xs.set j v))
  | _ => none
 | _, _ => none
def Xo : V → V → V → Hp → (Hp → Prop) → Prop := fun o i v H Q => ∃ H', dSet H o i v = some H' ∧ Q H'
theorem wB : PSet X Xo := by
 intro pins s σ H o i v ov iv u Q I ro ri rv h
 refine set_list pins s σ H o i v ov iv u Q I ro ri rv ?_
 obtain ⟨H', e, q⟩ := h
 unfold dSet at e
 split at e
 case h_2 => cases e
 case h_1 p k =>
  split at e
  case h_2 => cases e
  case h_1 xs hp =>
   cases ej : ixN xs.length k with
   | none => rw [ej] at e; cases e
   | some j =>
    rw [ej] at e
    cases e
    exact ⟨p, xs, k, j, rfl, rfl, hp, ej, q⟩
end
section
variable {σ : St} {H : Hp} {Q : VK} {D : Ends} {t u : TS} {te ta tb : TE} {tr : TA} {g : TG} {r : R2} {x y v : V} {c : TT} {QB : Bool → Hp → Prop} {QL : List V → Hp → Prop} {QG : St → Hp → Prop} {n : Nat}
theorem wm (h : t { D with nx := u D } σ H) : tSeq t u D σ H := h
theorem y8 (h : D.nx σ H) : Xi D σ H := h
theorem wy (h : te σ H fun x H1 => g x σ H1 D.nx) : tAsg te g D σ H := h
theorem yi {i : Nat} (h : QG (σ.set i (some v)) H) : zB i v σ H QG := h
theorem w_op (h : ta σ H fun x H1 => tb σ H1 fun y H2 => r x y H2 Q) : tOp r ta tb σ H Q := h
theorem wf {i : Nat} (e : σ[i]? = some (some v)) (h : Q v H) : tVar i σ H Q := ⟨v, e, h⟩
theorem w_c (h : Q v H) : tC v σ H Q := h
theorem wq {k : Int → Int → V} {i j : Int} (h : Q (k i j) H) : rI0 k (.int i) (.int j) H Q := ⟨i, j, rfl, rfl, h⟩
theorem w_rI {C : Int → Int → Prop} {k : Int → Int → V} {i j : Int} (hc : C i j) (h : Q (k i j) H) : rI C k (.int i) (.int j) H Q := ⟨i, j, rfl, rfl, hc, h⟩
theorem ww {b : TS} (h : c σ H fun b' H1 => if b' = true then t D σ H1 else b D σ H1) : tIfS c t b D σ H := h
theorem wx (h : c σ H fun b' H1 => if b' = true then ta σ H1 Q else tb σ H1 Q) : tIf c ta tb σ H Q := h
theorem yY (h : te σ H fun x H' => ∃ k, x = .bl k ∧ QB k H') : Xd te σ H QB := h
theorem w_tb (h : te σ H fun x H' => ∃ k, x = .bl k ∧ QB k H') : tB te σ H QB := h
theorem w_bl {b : Bool} {P : Bool → Prop} (h : P b) : ∃ k, V.bl b = .bl k ∧ P k := ⟨b, rfl, h⟩
theorem w_not (h : c σ H fun b H1 => QB (!b) H1) : tNot c σ H QB := h
theorem wn (h : te σ H D.rt) : tRet te D σ H := h
theorem wt (h : QL [] H) : tNil σ H QL := h
theorem xg (h : te σ H fun x H1 => tr σ H1 fun xs H2 => QL (x :: xs) H2) : xi te tr σ H QL := h
theorem wu (h : tr σ H fun xs H1 => xs.length ≤ sizeLine ∧ ∀ p, H1 p = none → Q (.ref p) (upd H1 p (.lst xs))) : tLst tr σ H Q := h
theorem wj (h : tr σ H fun xs H1 => xs.length ≤ sizeLine ∧ ∀ p, H1 p = none → Q (.ref p) (upd H1 p (.tup xs))) : tTup tr σ H Q := h
theorem w_cb {r : List V → Hp → VK → Prop} (h : tr σ H fun vs H1 => r vs H1 Q) : tCB r tr σ H Q := h
theorem xh {sp : Sp} {dvs : List V} {E : XK} (h : tr σ H fun vs H1 => sp (vs ++ dvs) H1 Q E) : ZW sp dvs E tr σ H Q := h
theorem y9 {to ti : TE} {ts : TSet} (h : to σ H fun o H1 => ti σ H1 fun i H2 => ts o i v H2 fun H3 => QG σ H3) : gSub to ti ts v σ H QG := h
theorem zv {p : Addr} {xs : List V} {i : Int} (hp : H p = some (.lst xs)) (e : atI xs i = some v) (h : Q v H) : rIxd (.ref p) (.int i) H Q := ⟨v, by simp only [dAt, Z0, hp, Option.bind_some, e], h⟩
theorem yb {p : Addr} {xs : List V} {i : Int} (hp : H p = some (.tup xs)) (e : atI xs i = some v) (h : Q v H) : rIxd (.ref p) (.int i) H Q := ⟨v, by simp only [dAt, Z0, hp, Option.bind_some, e], h⟩
theorem wk {p : Addr} {xs : List V} {i : Int} {j : Nat} {QH : Hp → Prop} (hp : H p = some (.lst xs)) (e : ixN xs.length i = some j) (h : QH (upd H p (.lst (xs.set j v)))) : Xo (.ref p) (.int i) v H QH :=
 ⟨_, by simp only [dSet, hp, e, Option.map_some], h⟩
theorem wz {c d : TT} (h : c σ H fun b H1 => if b = true then d σ H1 QB else QB false H1) : tAnd c d σ H QB := h
theorem w_or {c d : TT} (h : c σ H fun b H1 => if b = true then QB true H1 else d σ H1 QB) : tOr c d σ H QB := h
theorem iteD {p A B : Prop} [Decidable p] (h1 : p → A) (h2 : ¬ p → B) : if decide p = true then A else B := by
 by_cases h : p
 ·rw [decide_eq_true h, if_pos rfl]
  exact h1 h
 ·rw [decide_eq_false h, if_neg Bool.false_ne_true]
  exact h2 h
end
def Has (P : Program) (w : World) (K : W.Frag) (mg : Str → Option Value) (base : Heap) (k : Nat) (x : Str) (ps : List Str) (sp : Sp) : Prop :=
 ∃ f fd, FnOk P w K mg base CX0 k f fd ps sp ∧ mg x = some (.ref f) ∧ PySem.W.keepIn K (.ref f) = true ∧ Binds K fd ps []
theorem pe_fn {X : Cx} {k j : Nat} {x : Str} {ps : List Str} {sp : Sp} {e : Expr} {es : List Expr} {t : TA} {p pos : Pos} (h : Has X.prog X.w X.K X.mg X.base k x ps sp) (hr : Room j X.A) (hkj : k ≤ j) (ha : PA X (e :: es) t) (hg : Gl X x := by rfl)
  (hdb : (x == ("__debug__" : Str)) = false := by decide) (he : starEach (e :: es) X.env = (false, eval e X.env) :: starEach es X.env := by rfl) (hpl : (backTo pos (starEach es X.env)).any (·.1) = false := by rfl) :
  PE X (.Call (.Name x p) (e :: es) [] pos) (ZW sp [] E0 t) := by
 obtain ⟨f, fd, F, hm, hk, hb⟩ := h
 exact pe_call F (hr.mono hkj) hg hm hk hb .nil Z6 ha hdb he hpl
section
variable {lo : Int} {n : Nat} {D : Addr} {te : TE} {tc : TT} {Q : VK} {ρ : St} {H : Hp}
theorem wc (Pv : Nat → List V → Hp → Prop) (h0 : Pv 0 [] (upd H D (.lst [])))
  (hs : ∀ i ys H', i < n → Pv i ys H' → H' D = some (.lst ys) → ∀ (R : V → Hp → Prop) (S : Hp → Prop), (∀ y H4, H4 D = some (.lst ys) → ys.length < sizeLine → Pv (i + 1) (ys ++ [y]) (upd H4 D (.lst (ys ++ [y]))) → R y H4) → (∀ H3, H3 D = some (.lst ys) → Pv (i + 1) ys H3 → S H3) →
   tc (some (.int (lo + i)) :: ρ) H' fun b H3 => if b = true then te (some (.int (lo + i)) :: ρ) H3 R else S H3)
  (hd : ∀ ys H', Pv n ys H' → H' D = some (.lst ys) → Q (.ref D) H') : CGo (Itr lo n) D (zB 0) tc te Q (none :: ρ) H := by
 refine ⟨fun i m τ ys H' => m = n - i ∧ i ≤ n ∧ (∃ tv, τ = tv :: ρ) ∧ Pv i ys H' ∧ H' D = some (.lst ys), ⟨n, by omega, Nat.zero_le _, ⟨_, rfl⟩, h0, zf⟩, ?_⟩
 rintro i m τ ys H' ⟨rfl, hi, ⟨tv, rfl⟩, hp, hD⟩
 refine ⟨hD, ?_⟩
 by_cases hlt : i < n
 ·refine .inr ⟨hlt, ?_⟩
  rintro v H'' ⟨rfl, rfl⟩
  show tc (some (.int (lo + i)) :: ρ) _ _
  exact hs i ys _ hlt hp hD _ _ (fun y H4 a b c => ⟨a, b, n - (i + 1), by omega, rfl, hlt, ⟨_, rfl⟩, c, zf⟩) fun H3 a c => ⟨n - (i + 1), by omega, rfl, hlt, ⟨_, rfl⟩, c, a⟩
 ·have e : i = n := by omega
  subst e
  exact .inl ⟨Nat.le_refl _, hd ys _ hp hD⟩
theorem cgo_tup {K : W.Frag} {a : Addr} {xs : List V} (Pv : Nat → List V → Hp → Prop) (h0 : Pv 0 [] (upd H D (.lst []))) (hl : ∀ i ys H', i ≤ xs.length → Pv i ys H' → SqT K H' a xs)
  (hs : ∀ i x ys H', xs[i]? = some x → Pv i ys H' → H' D = some (.lst ys) → ∀ (R : V → Hp → Prop) (S : Hp → Prop), (∀ y H4, H4 D = some (.lst ys) → ys.length < sizeLine → Pv (i + 1) (ys ++ [y]) (upd H4 D (.lst (ys ++ [y]))) → R y H4) → (∀ H3, H3 D = some (.lst ys) → Pv (i + 1) ys H3 → S H3) →
   tc (some x :: ρ) H' fun b H3 => if b = true then te (some x :: ρ) H3 R else S H3)
  (hd : ∀ ys H', Pv xs.length ys H' → H' D = some (.lst ys) → Q (.ref D) H') : CGo (Itt K a) D (zB 0) tc te Q (none :: ρ) H := by
 refine ⟨fun i m τ ys H' => m = xs.length - i ∧ i ≤ xs.length ∧ (∃ tv, τ = tv :: ρ) ∧ Pv i ys H' ∧ H' D = some (.lst ys), ⟨xs.length, by omega, Nat.zero_le _, ⟨_, rfl⟩, h0, zf⟩, ?_⟩
 rintro i m τ ys H' ⟨rfl, hi, ⟨tv, rfl⟩, hp, hD⟩
 refine ⟨hD, ?_⟩
 have sq := hl i ys H' hi hp
 by_cases hlt : i < xs.length
 ·refine .inr ⟨⟨xs, xs[i], sq, by simp [hlt]⟩, ?_⟩
  rintro v H'' ⟨rfl, hv⟩
  have hv' := hv xs sq
  show tc (some v :: ρ) _ _
  exact hs i v ys _ hv' hp hD _ _ (fun y H4 a b c => ⟨a, b, xs.length - (i + 1), by omega, rfl, hlt, ⟨_, rfl⟩, c, zf⟩) fun H3 a c => ⟨xs.length - (i + 1), by omega, rfl, hlt, ⟨_, rfl⟩, c, a⟩
 ·have e : i = xs.length := by omega
  subst e
  exact .inl ⟨⟨xs, sq, Nat.le_refl _⟩, hd ys _ hp hD⟩
end
theorem yc {σ : St} {H : Hp} {Q : Bool → Hp → Prop} (h : Q true H) : tAll σ H Q := h
def ye (sc o : Scope) : Scope :=
 { sc with names := sc.names.map fun (n, k) => if (k == .free && o.kind == .function && o.names.lookup n == some .cell) then (n, .cell) else (n, k) }
instance {sc : Scope} {x : Str} : Decidable (Vis sc x) := by unfold Vis; infer_instance
structure BScope (o sc : Scope) (TN F G : List Str) : Prop extends CScope o sc TN F where
 nd : (TN ++ F).Nodup
 vis : ∀ x ∈ TN ++ F, Vis (ye sc o) x
 loc : ∀ x ∈ TN, (ye sc o).names.lookup x = some .local
 gl : ∀ x ∈ G, (ye sc o).names.lookup x = some .globalImplicit
section
variable {X : Cx} {sc : Scope} {TN F G : List Str} {cl : List (Str × Addr)} {C : Addr} {fp : List Addr} {s3 : Shared} {H3 : Hp} {xe : Value → Shared → Prop} {x : Str} {pos : Pos}
theorem pvb (S : BScope X.env.scope sc TN F G) (i : Nat) (hN : (TN ++ F)[i]? = some x := by rfl) (hd : (x == ("__debug__" : Str)) = false := by decide) (hcd : (x == ("__classdict__" : Str)) = false := by decide) : PE (cxC X (TN ++ F) sc cl C fp s3 H3 xe) (.Name x pos) (tVar i) :=
 wX hN (S.vis x (List.mem_of_getElem? hN)) hd hcd
theorem pgb (S : BScope X.env.scope sc TN F G) (i : Nat) (hN : (TN ++ F)[i]? = some x := by rfl) (hT : TN[i]? = some x := by rfl) : PG (cxC X (TN ++ F) sc cl C fp s3 H3 xe) (.Name x pos) (zB i) :=
 wL S.nd hN (.inl (S.loc x (List.mem_of_getElem? hT))) (.inr (S.loc x (List.mem_of_getElem? hT)))
theorem BScope.g (S : BScope X.env.scope sc TN F G) (i : Nat) (hG : G[i]? = some x := by rfl) : Gl (cxC X (TN ++ F) sc cl C fp s3 H3 xe) x := S.gl x (List.mem_of_getElem? hG)
end
instance {sc : Scope} {x : Str} : Decidable (Loc sc x) := by unfold Loc; infer_instance
structure Nm (N : List Str) (sc : Scope) : Prop where
 nd : N.Nodup
 loc : ∀ x ∈ N, Loc sc x
section
variable {X : Cx} {x : Str} {pos : Pos}
theorem Loc.vis {sc : Scope} (h : Loc sc x) : Vis sc x := h.elim .inl fun z => .inr (.inl z)
theorem pvd (M : Nm X.N X.env.scope) (i : Nat) (hN : X.N[i]? = some x := by rfl) (hd : (x == ("__debug__" : Str)) = false := by decide) (hcd : (x == ("__classdict__" : Str)) = false := by decide) : PE X (.Name x pos) (tVar i) :=
 wX hN (M.loc x (List.mem_of_getElem? hN)).vis hd hcd
theorem zq {e : Expr} {te : TE} {pos' : Pos} (M : Nm X.N X.env.scope) (i : Nat) (he : PE X e te) (hi : X.N[i]? = some x := by rfl) (hs : swapsWith e (some (.Name x pos')) pos.line X.env = pure false := by rfl) (hf : X.fn x = true := by rfl) :
  PS X (.Assign [.Name x pos'] e pos) (tAsg te (zB i)) := xA M.nd hi (M.loc x (List.mem_of_getElem? hi)) he hs (.inl hf)
theorem pgd (M : Nm X.N X.env.scope) (i : Nat) (hi : X.N[i]? = some x := by rfl) (hf : X.fn x = true := by rfl) : PG X (.Name x pos) (zB i) := wL M.nd hi (M.loc x (List.mem_of_getElem? hi)) (.inl hf)
end
section
variable {ta : TA} {tl : TE} {n : Nat} {ix : List Nat} {g : TG} {tc : TT} {te : TE} {σ : St} {H : Hp} {Q : VK}
theorem yC (h : ta σ H fun vs H1 => ∃ j : Int, vs = [.int j] ∧ -(2 ^ 62) ≤ j ∧ j < 2 ^ 62 ∧ ∀ D, H1 D = none → CGo (Itr 0 j.toNat) D g tc te Q (List.replicate n none ++ sub ix σ) H1) : wS (Yl ta) n ix g tc te σ H Q := h
theorem yB {K : W.Frag} (h : tl σ H fun x H1 => ∃ a, x = .ref a ∧ (∃ xs, SqT K H1 a xs) ∧ ∀ D, H1 D = none → CGo (Itt K a) D g tc te Q (List.replicate n none ++ sub ix σ) H1) : wS (iTup K tl) n ix g tc te σ H Q := h
end
def ForJ (J : It) (g : TG) (tb : TS) (D : Ends) (σ : St) (H1 : Hp) : Prop := ∃ W : Nat → Nat → St → Hp → Prop, (∃ m, W 0 m σ H1) ∧ ∀ i m σ H, W i m σ H →
 (J.stop i H ∧ D.nx σ H) ∨ (J.go i H ∧ ∃ N : St → Hp → Prop, (∀ σ' H', N σ' H' → ∃ m', m' < m ∧ W (i + 1) m' σ' H') ∧ ∀ x H', J.yld i H x H' → g x σ H' fun σ2 H2 => tb { D with nx := N, ct := N, bk := D.nx } σ2 H2)
theorem xb {ta : TA} {g : TG} {tb : TS} {D : Ends} {σ : St} {H : Hp} (h : ta σ H fun vs H1 => ∃ j : Int, vs = [.int j] ∧ -(2 ^ 62) ≤ j ∧ j < 2 ^ 62 ∧ ForJ (Itr 0 j.toNat) g tb D σ H1) : tFor (Yl ta) g tb D σ H := h
theorem xc {K : W.Frag} {tl : TE} {g : TG} {tb : TS} {D : Ends} {σ : St} {H : Hp} (h : tl σ H fun x H1 => ∃ a, x = .ref a ∧ (∃ xs, SqL K H1 a xs) ∧ ForJ (Itl K a) g tb D σ H1) : tFor (Ym K tl) g tb D σ H := h
def zV : Expr → Bool
 | .Starred .. => true
 | _ => false
theorem wA {e : Expr} {es : List Expr} {env : Env} (h : zV e = false) : starEach (e :: es) env = (false, eval e env) :: starEach es env := by
 cases e <;> first | rfl | cases h
theorem xj {env : Env} {pos : Pos} : ∀ {es : List Expr}, es.all (fun e => !zV e) = true → (backTo pos (starEach es env)).any (·.1) = false
 | [], _ => rfl
 | e :: es, h => by
  rw [List.all_cons, Bool.and_eq_true] at h; rw [wA (by simpa using h.1)]
  cases es with
  | nil => rfl
  | cons a r =>
   have ih := xj (env := env) (pos := pos) (es := a :: r) h.2
   rw [wA (by simpa using (by simpa using h.2 : zV a = false ∧ _).1)] at ih ⊢
   exact ih
section
variable {X : Cx} {e a : Expr} {es : List Expr} {te : TE} {t ta : TA} {x : Str} {p pos : Pos} {tg : Expr} {id T : String} {r : List V → Hp → VK → Prop}
theorem pa_c (ha : PE X e te) (hr : PA X es t) (h : zV e = false := by rfl) : PA X (e :: es) (xi te t) := yS ha hr (wA h)
theorem yx (hm : X.mg "range" = none) (ha : PA X [a] ta) (hg : Gl X "range" := by rfl) (h : zV a = false := by rfl) : PI X tg (.Call (.Name "range" p) [a] [] pos) (Yl ta) := pi_range1 hg hm ha (wA h)
theorem zM (hc : zT X (.builtin id) r) (hm : X.mg x = none) (hv : bootBuiltins x = some (.builtin id)) (ha : PA X (e :: es) t) (hg : Gl X x := by rfl) (h : zV e = false := by rfl) (h2 : es.all (fun e => !zV e) = true := by rfl) (hn : x ≠ "__name__" := by decide) (hdb : (x == ("__debug__" : Str)) = false := by decide) :
  PE X (.Call (.Name x p) (e :: es) [] pos) (tCB r t) := xL hc hg hm hv ha hn hdb (wA h) (xj h2)
theorem yy (hc : zT X (.type T) r) (hm : X.mg x = none) (hv : bootBuiltins x = some (.type T)) (ha : PA X (e :: es) t) (hg : Gl X x := by rfl) (h : zV e = false := by rfl) (h2 : es.all (fun e => !zV e) = true := by rfl) (hn : x ≠ "__name__" := by decide) (hdb : (x == ("__debug__" : Str)) = false := by decide) :
  PE X (.Call (.Name x p) (e :: es) [] pos) (tCB r t) := pe_callTy hc hg hm hv ha hn hdb (wA h) (xj h2)
theorem pe_f {k j : Nat} {ps : List Str} {sp : Sp} (h : Has X.prog X.w X.K X.mg X.base k x ps sp) (hr : Room j X.A) (hkj : k ≤ j) (ha : PA X (e :: es) t) (hg : Gl X x := by rfl) (h1 : zV e = false := by rfl) (h2 : es.all (fun e => !zV e) = true := by rfl)
  (hdb : (x == ("__debug__" : Str)) = false := by decide) : PE X (.Call (.Name x p) (e :: es) [] pos) (ZW sp [] E0 t) := pe_fn h hr hkj ha hg hdb (wA h1) (xj h2)
end
end L2
namespace L2
theorem pa_1 {X : Cx} {e : PySem.Expr} {te : TE} (ha : PE X e te) (h : zV e = false := by rfl) : PA X [e] (xi te tNil) := pa_c ha yz h
theorem pa_2 {X : Cx} {e e' : PySem.Expr} {te te' : TE} (ha : PE X e te) (hb : PE X e' te') (h : zV e = false := by rfl) (h' : zV e' = false := by rfl) : PA X [e, e'] (xi te (xi te' tNil)) := pa_c ha (pa_1 hb h') h
end L2
namespace L2
open PySem PySem.Spec PyProof.Rows
theorem xf {te : TE} {D : Ends} {σ : St} {H : Hp} (h : te σ H fun _ H1 => D.nx σ H1) : Xl te D σ H := h
theorem w_bm {K : W.Frag} {T : String} {r : V → List V → Hp → VK → Prop} {to : TE} {t : TA} {σ : St} {H : Hp} {Q : VK} (h : to σ H fun x H1 => tyV K T x H1 ∧ t σ H1 fun xs H2 => r x xs H2 Q) : tBM K T r to t σ H Q := h
def codH (c : Addr) (q : Str) : HO := .ext fun h => h.CodeRec (.ref c) q
def TabAt (H : Hp) (P : Addr) (q : Str) : Prop := ∃ ps : Array Value, H P = some (.tbl ps) ∧ TriplesOk ps.toList ∧ ∀ pos cv, codeAmong pos ps.toList = some cv → ∃ c, cv = .ref c ∧ H c = some (codH c q)
def SameB (P : Addr) (H H' : Hp) : Prop := ∀ a o, a ≠ P → H a = some o → H' a = some o
theorem SameB.refl {P : Addr} {H : Hp} : SameB P H H := fun _ _ _ e => e
theorem SameB.trans {P : Addr} {H H1 H2 : Hp} (a : SameB P H H1) (b : SameB P H1 H2) : SameB P H H2 := fun x o n e => b x o n (a x o n e)
theorem among_snoc {pos : Pos} {a b : Int} {c cv : Value} (l : List Value) (h : TriplesOk l) (e : codeAmong pos (l ++ [rawInt a, rawInt b, c]) = some cv) : codeAmong pos l = some cv ∨ cv = c := by
 fun_induction TriplesOk l with
 | case1 =>
  simp only [List.nil_append, codeAmong, rawInt] at e
  split at e
  ·exact .inr (Option.some.inj e).symm
  ·cases e
 | case2 a' t b' u x rest ih =>
  simp only [List.cons_append, codeAmong] at e ⊢
  split at e
  ·rename_i hc; rw [if_pos hc]; exact .inl e
  ·rename_i hc; rw [if_neg hc]; exact ih h e
 | case3 l h1 h2 => exact h.elim
structure LamOk (X : Cx) (c P : Addr) : Prop where
 code : X.env.code = .ref c
 hd : PySem.W.CodeHd X.base c P
 bm : ∃ bm ob, X.mg "__builtins__" = some (.ref bm) ∧ bm ≠ builtinsNs ∧ X.base.get? bm = some ob ∧ ob.cls = .type "module" ∧ ob.dict = some builtinsNs ∧ ob.data = .plain
abbrev lamQ (X : Cx) : Str := X.env.qual ++ "<lambda>"
def lamO (X : Cx) (ps : Arguments) (body : Expr) (sc : Scope) (pm : Value) (c : Addr) (ct : Value) : Obj := PySem.W.kla_obj "<lambda>" (lamQ X) ps body sc (cloF X.env sc.names []) pm c ct
def xy (X : Cx) (ps : Arguments) (body : Expr) (sc : Scope) (H : Hp) (f : Addr) : Prop :=
 ∃ pm c ct, H f = some (.ext fun h => h.get? f = some (lamO X ps body sc pm c ct)) ∧ H c = some (codH c (lamQ X))
def tLam (X : Cx) (ps : Arguments) (body : Expr) (sc : Scope) (P : Addr) : TE := fun _ H Q => TabAt H P (lamQ X) ∧ ∀ f H', SameB P H H' → TabAt H' P (lamQ X) → xy X ps body sc H' f → H f = none → Q (.ref f) H'
theorem TabAt.sameB {H H' : Hp} {P : Addr} {q : Str} (h : TabAt H P q) (k : SameB P H H') (e : H' P = H P) : TabAt H' P q := by
 obtain ⟨ps, h1, h2, h3⟩ := h
 refine ⟨ps, e.trans h1, h2, fun pos cv e' => ?_⟩
 obtain ⟨c, rfl, hc⟩ := h3 pos cv e'
 refine ⟨c, rfl, k c _ (fun z => ?_) hc⟩
 rw [z, h1] at hc
 cases hc
theorem TabAt.same {H H' : Hp} {P : Addr} {q : Str} (h : TabAt H P q) (k : Same H H') : TabAt H' P q := by
 obtain ⟨ps, h1, h2, h3⟩ := h
 refine ⟨ps, k _ _ h1, h2, fun pos cv e' => ?_⟩
 obtain ⟨c, rfl, hc⟩ := h3 pos cv e'
 exact ⟨c, rfl, k _ _ hc⟩
section
variable {X : Cx} {ps : Arguments} {body : Expr} {sc : Scope} {pos : Pos} {c P : Addr}
theorem ZN {φ : Heap → Prop} {a : Addr} {H : Hp} {h : Heap} (h1 : φ h) (h2 : ∃ o, h.get? a = some o) (h3 : ∀ h1 h2 : Heap, φ h1 → (∀ o, h1.get? a = some o → h2.get? a = some o) → φ h2) : ObjOk X.prog X.w H h a (.ext φ) := ⟨h1, h2, h3⟩
theorem YN (L : LamOk X c P) (hfr : ∀ y ∈ sc.names, y.2 = .free → X.env.scope.names.lookup y.1 = some .cell) (hdef : defaultsOf ps X.env = ([], []) := by rfl) : PE X (.Lambda ps body sc pos) (tLam X ps body sc P) := by
 intro pins s σ H Q I h
 obtain ⟨⟨tb, hP, ht, hc⟩, k⟩ := h
 have eP : s.heap.get? P = some (PySem.W.tabObj tb) := I.hok P _ hP
 have hcl : closureFor sc X.env = pure (cloF X.env sc.names []) := xD fun x hx hk => I.ok.has x.1 (.inl (hfr x hx hk))
 have hg := I.mod.glob.keeps I.bk
 have hgP : mainGlobals ≠ P := fun q => by
  obtain ⟨o, es, ep, e, hd, _⟩ := hg
  rw [q, eP] at e; cases e; cases hd
 obtain ⟨bm, ob, b1, b2, b3, b4, b5, b6⟩ := L.bm
 have b3' := I.bk _ _ b3
 have hbP : bm ≠ P := fun q => by rw [q, eP] at b3'; cases b3'; cases b6
 have hbG : bm ≠ mainGlobals := fun q => by
  obtain ⟨o, es, ep, e, hd, _⟩ := hg
  rw [q, e] at b3'; cases b3'; rw [hd] at b6; cases b6
 have hB : s.heap.BuiltinsAt X.mg P := ⟨bm, ob, b1, b2, hbG, hbP, b3', b4, b5, b6⟩
 refine PySem.W.kla_eval hdef ?_
 cases hf : codeAmong pos tb.toList with
 | some cv =>
  obtain ⟨c', rfl, e'⟩ := hc pos cv hf
  refine PySem.W.kla_makeFunctionHit (mg := X.mg) hcl I.ok.glob hg L.code (L.hd.keeps I.bk) eP ht hf hB fun ct h' tk hk hsz => ?_
  have hnew : H h'.objs.size = none := I.hok.fresh hsz
  have hk' : ∀ b o, s.heap.get? b = some o → (h'.push (lamO X ps body sc ((X.mg "__name__").getD .none) c' ct)).get? b = some o := fun b o e => Heap.get?_push_of_some _ (hk b o e)
  have I' := I.laid (t' := tk) (a := h'.objs.size) (o := .ext fun h => h.get? h'.objs.size = some (lamO X ps body sc ((X.mg "__name__").getD .none) c' ct)) hk' hsz
   (ZN (Heap.get?_push_size _ rfl) ⟨_, Heap.get?_push_size _ rfl⟩ fun h1 h2 e1 e2 => e2 _ e1)
  refine ⟨.ref h'.objs.size, _, I', rfl, k _ _ (fun a o _ e => ?_) ?_ ⟨_, c', ct, zf, ?_⟩ hnew⟩
  ·rw [zh (zg e hnew)]; exact e
  ·exact TabAt.sameB ⟨tb, hP, ht, hc⟩ (fun a o _ e => by rw [zh (zg e hnew)]; exact e) (by rw [zh (zg hP hnew)])
  ·rw [zh (zg e' hnew)]; exact e'
 | none =>
  refine PySem.W.kla_makeFunction (mg := X.mg) hcl I.ok.glob hg L.code (L.hd.keeps I.bk) eP ht hf hgP hB fun c' ct h' tk hx hge hlt hrec htb => ?_
  have hcn : H c' = none := I.hok.fresh hge
  have hcP : c' ≠ P := Ne.symm (zg hP hcn)
  let H1 : Hp := upd (upd H P (.tbl (tb ++ #[rawInt pos.line, rawInt pos.col, .ref c']))) c' (codH c' (lamQ X))
  have hsz : s.heap.objs.size ≤ h'.objs.size := Nat.le_trans hge (Nat.le_of_lt hlt)
  have e1c : H1 c' = some (codH c' (lamQ X)) := zf
  have e1P : H1 P = some (.tbl (tb ++ #[rawInt pos.line, rawInt pos.col, .ref c'])) := by show upd _ _ _ _ = _; rw [zh (Ne.symm hcP), zf]
  have e1 : ∀ b, b ≠ P → b ≠ c' → H1 b = H b := fun b n1 n2 => by show upd _ _ _ _ = _; rw [zh n2, zh n1]
  have e1s : ∀ b u, b ≠ P → H b = some u → H1 b = some u := fun b u n e => by rw [e1 b n (zg e hcn)]; exact e
  have nP : ∀ b, H b = none → b ≠ P := fun b e z => by rw [z, hP] at e; cases e
  have nC : ∀ b o, s.heap.get? b = some o → b ≠ c' := fun b o e => Nat.ne_of_lt (Nat.lt_of_lt_of_le (Heap.lt_size e) hge)
  have I1 : Inv X pins σ H1 { s with heap := h', toks := tk } := by
   refine I.step (g' := s.gens) (d' := s.drawn) (ch := []) (fun _ z => nomatch z) (fun b o _ _ _ e n => hx b o (nP b n) e) (fun b o _ _ _ e n => ⟨o.slots, hx b o (nP b n) e⟩) (fun b o _ e n => by rw [e1 b (nP b n) (nC b o e)]; exact n)
    (fun b o _ e => ?_) (fun b xs e => e1s b _ (fun z => by rw [z, hP] at e; cases e) e) (fun b o u e => e1s b _ (fun z => by rw [z, hP] at e; cases e) e) (fun b qs e => ?_) (fun m hm => ?_) (fun b u e => ?_) I.bare
   ·by_cases hb : b = P
    ·exact ⟨_, hb ▸ htb⟩
    ·exact ⟨o, hx b o hb e⟩
   ·by_cases hb : b = P
    ·subst hb
     rw [hP] at e
     cases e
     exact ⟨#[rawInt pos.line, rawInt pos.col, .ref c'], e1P⟩
    ·exact ⟨#[], by rw [e1s b _ hb e]; simp⟩
   ·obtain ⟨o, es, ep, eo, r⟩ := hm
    exact ⟨o, es, ep, hx _ _ (nP _ I.free) eo, r⟩
   ·by_cases hb : b = c'
    ·subst hb
     rw [e1c] at e
     cases e
     obtain ⟨c2, oc, vs, t, e2, hoc, hd, hv⟩ := hrec
     cases e2
     exact ZN ⟨b, oc, vs, t, rfl, hoc, hd, hv⟩ ⟨oc, hoc⟩ fun h1 h2 ⟨c3, oc3, vs3, t3, e3, hoc3, r3⟩ k3 => by cases e3; exact ⟨b, oc3, vs3, t3, rfl, k3 _ hoc3, r3⟩
    ·by_cases hb2 : b = P
     ·subst hb2
      rw [e1P] at e
      cases e
      exact htb
     ·rw [e1 b hb2 hb] at e
      refine (I.hok b u e).stay (fun a v ha q => hx a v (fun z => ?_) q) (fun a q => e1s a _ (fun z => by rw [z, hP] at q; cases q) q) fun a xs q => e1s a _ (fun z => by rw [z, hP] at q; cases q) q
      rcases ha with rfl | ha
      ·exact hb2 z
      ·rw [z, hP] at ha; cases ha
  have hnew : H1 h'.objs.size = none := I1.hok.fresh (Nat.le_refl _)
  have hnew0 : H h'.objs.size = none := I.hok.fresh hsz
  have I' := I1.laid (t' := tk) (a := h'.objs.size) (o := .ext fun h => h.get? h'.objs.size = some (lamO X ps body sc ((X.mg "__name__").getD .none) c' ct)) (h' := h'.push (lamO X ps body sc ((X.mg "__name__").getD .none) c' ct)) (fun b o e => Heap.get?_push_of_some _ e) (Nat.le_refl _)
   (ZN (Heap.get?_push_size _ rfl) ⟨_, Heap.get?_push_size _ rfl⟩ fun h1 h2 e1 e2 => e2 _ e1)
  have kk : SameB P H (upd H1 h'.objs.size (.ext fun h => h.get? h'.objs.size = some (lamO X ps body sc ((X.mg "__name__").getD .none) c' ct))) := fun a o n e => by
   rw [zh (zg e hnew0)]; exact e1s a o n e
  refine ⟨.ref h'.objs.size, _, I', rfl, k _ _ kk ⟨tb ++ #[rawInt pos.line, rawInt pos.col, .ref c'], ?_, ?_, fun p2 cv e2 => ?_⟩ ⟨_, c', ct, zf, ?_⟩ hnew0⟩
  ·rw [zh (zg e1P hnew)]; exact e1P
  ·have := TriplesOk_snoc pos.line pos.col (.ref c') _ ht
   simpa using this
  ·have e2' : codeAmong p2 (tb.toList ++ [rawInt pos.line, rawInt pos.col, .ref c']) = some cv := by simpa using e2
   rcases among_snoc _ ht e2' with e3 | rfl
   ·obtain ⟨c3, rfl, h3⟩ := hc p2 cv e3
    exact ⟨c3, rfl, kk _ _ (fun z => by rw [z, hP] at h3; cases h3) h3⟩
   ·exact ⟨c', rfl, by rw [zh (zg e1c hnew)]; exact e1c⟩
  ·rw [zh (zg e1c hnew)]; exact e1c
end
structure LScope (o sc : Scope) (v : Str) (F : List Str) : Prop where
 kind : sc.kind = .function
 co : sc.isCoroutine = false
 gen : sc.isGenerator = false
 nocell : ∀ y ∈ sc.names, y.2 ≠ .cell
 par : sc.names.lookup v = some .local
 fr : ∀ y ∈ sc.names, y.2 = .free → o.names.lookup y.1 = some .cell
 ff : ∀ y ∈ F, (y, NameKind.free) ∈ sc.names ∧ sc.names.lookup y = some .free
 nv : v ∉ F
abbrev lamE (X : Cx) (sc : Scope) (cl : List (Str × Addr)) (L f : Addr) (cd : Value) : Env := PySem.W.envX (lamQ X) sc L f cd cl
def cxL (X : Cx) (N : List Str) (sc : Scope) (cl : List (Str × Addr)) (L f : Addr) (cd : Value) (A : Around) (s₃ : Shared) (H₃ : Hp) (xe : Value → Shared → Prop) : Cx :=
 { X with A := A.deeper (lamE X sc cl L f cd), N := N, s₀ := s₃, H₀ := H₃, env := lamE X sc cl L f cd, outer := X.stack, stack := lamE X sc cl L f cd :: X.stack, ex := [], fn := fun _ => false, pn := [], xe := xe }
section
variable {X : Cx} {pins : List (Addr × Obj)} {σ : St} {H : Hp} {s : Shared} {sc : Scope} {v : Str} {F : List Str} {ix : List Nat}
theorem inv_lam {f : Addr} {cd : Value} {A : Around} {h4 : Heap} {tk : Nat} {m : Str → Option Value} {xe : Value → Shared → Prop} {y : V} {u : Value}
  (S : LScope X.env.scope sc v F) (hix : ix.map (fun i => X.N[i]?) = F.map some) (I : Inv X pins σ H s) (hA : A.frames = some X.stack) (hh : A.handled = none)
  (hk : ∀ b o, s.heap.get? b = some o → h4.get? b = some o) (hn : h4.Ns s.heap.objs.size m) (hm : m v = some u) (r : RelV y u) :
  Inv (cxL X (v :: F) sc (cloF X.env sc.names []) s.heap.objs.size f cd A s H xe) [] (some y :: sub ix σ) H { s with heap := h4, toks := tk } := by
 have cl : ∀ x c, (cloF X.env sc.names []).lookup x = some c → X.env.cells.lookup x = some c := fun x c e => by
  rw [zN] at e
  by_cases hx : (x, NameKind.free) ∈ sc.names
  ·rw [if_pos hx] at e
   obtain ⟨c', hc'⟩ := I.ok.has x (.inl (S.fr _ hx rfl))
   rw [hc'] at e ⊢
   exact e
  ·rw [if_neg hx] at e
   cases e
 have cl' : ∀ x, (x, NameKind.free) ∈ sc.names → (cloF X.env sc.names []).lookup x = X.env.cells.lookup x := fun x hx => by
  rw [zN, if_pos hx]
  obtain ⟨c', hc'⟩ := I.ok.has x (.inl (S.fr _ hx rfl))
  rw [hc']
  rfl
 have hlen : ix.length = F.length := by
  have := congrArg List.length hix
  simpa using this
 have noE : ∀ b : Addr, b ∉ (cxL X (v :: F) sc (cloF X.env sc.names []) s.heap.objs.size f cd A s H xe).ex := fun b z => absurd (show b ∈ ([] : List Addr) from z) (by simp)
 refine ⟨⟨I.ok.mod, S.kind, rfl, rfl, Nat.le_refl _, fun x y c h1 h2 => I.ok.inj x y c (cl x c h1) (cl y c h2), fun x hx => ?_, fun x c z => (nomatch z), fun _ => hh, Around.frames_deeper hA, .inr ⟨rfl, rfl⟩, fun b hb => absurd hb (noE b),
  I.bs, Nat.le_trans I.ok.bsz I.sz, fun b o e => noE b, fun b hb => absurd hb (noE b), I.stack, I.stkFree⟩, rfl, I.bare, Un.kept hk, ⟨m, hn, fun i x w h1 h2 h3 => ?_⟩, fun x c e => ?_, I.hok.fresh (Nat.le_refl _), fun x c e => I.freeC x c (cl x c e), fun p hp => absurd (show p ∈ ([] : List (Addr × Obj)) from hp) (by simp), I.hok.kept hk, ?_⟩
 ·have hx : sc.names.lookup x = some .cell ∨ sc.names.lookup x = some .free := hx
  rcases hx with hx | hx
  ·exact absurd rfl (S.nocell _ (PySem.mem_of_lookup hx))
  ·have hx' := PySem.mem_of_lookup hx
   obtain ⟨c, hc⟩ := I.ok.has x (.inl (S.fr _ hx' rfl))
   exact ⟨c, (cl' x hx').trans hc⟩
 ·cases i with
  | zero =>
   have e1 : v = x := Option.some.inj h1
   have e2 : y = w := Option.some.inj (Option.some.inj h2)
   subst e1; subst e2
   exact ⟨u, r, .inl ⟨S.par, hm⟩⟩
  | succ i =>
   have h1' : F[i]? = some x := h1
   have h2 : (sub ix σ)[i]? = some (some w) := h2
   have e3 := congrArg (fun l => l[i]?) hix
   simp only [List.getElem?_map, h1', Option.map_some] at e3
   unfold sub at h2
   rw [List.getElem?_map] at h2
   cases ej : ix[i]? with
   | none => rw [ej] at h2; cases h2
   | some k =>
    rw [ej] at h2 e3
    have h2' : (σ[k]?).join = some w := Option.some.inj h2
    have e3' : X.N[k]? = some x := Option.some.inj e3
    have hσ : σ[k]? = some (some w) := by
     cases e : σ[k]? with
     | none => rw [e] at h2'; cases h2'
     | some q =>
      rw [e] at h2'
      have : q = some w := h2'
      rw [this]
    have hfr := S.ff x (List.mem_of_getElem? h1')
    have hcell := S.fr _ hfr.1 rfl
    obtain ⟨m0, hn0, hl0⟩ := I.loc
    obtain ⟨u', r', l⟩ := hl0 k x w e3' hσ (.inr (.inl hcell))
    refine ⟨u', r', ?_⟩
    rcases l with ⟨l1, _⟩ | ⟨_, c, hc, o, ho', hd⟩
    ·have l1' : X.env.scope.names.lookup x = some .local := l1
     rw [hcell] at l1'
     cases l1'
    ·exact .inr ⟨.inr hfr.2, c, (cl' x hfr.1).trans hc, o, hk c o ho', hd⟩
 ·obtain ⟨v', o, ho', hd⟩ := I.cell x c (cl x c e)
  exact ⟨v', o, hk c o ho', hd⟩
 ·show _ = (v :: F).length
  rw [List.length_cons, List.length_cons]
  unfold sub
  rw [List.length_map, hlen]
theorem Zq {k : Nat} {ps : Arguments} {body : Expr} {te : TE} {f : Addr} {y : V} {u : Value} {Q : VK} {E : Value → Shared → Prop} (hr : Room k X.A) (S : LScope X.env.scope sc v F) (hix : ix.map (fun i => X.N[i]?) = F.map some)
  (hb : ∀ pm c ct u, bindArgs (PySem.W.kla_fn "<lambda>" (lamQ X) ps body sc (cloF X.env sc.names []) pm (.ref c) ct) ⟨[u], []⟩ = pure [(v, u)])
  (he : ∀ cl L f cd A s3 H3 xe, PE (cxL X (v :: F) sc cl L f cd A s3 H3 xe) body te) (I : Inv X pins σ H s) (hf : xy X ps body sc H f) (r : RelV y u) (h : te (some y :: sub ix σ) H Q) :
  wpAny (model X.prog X.w) X.A.in1 (call (.ref f) [u]) (EP X pins σ Q) E s := by
 obtain ⟨pm, c, ct, h1, h2⟩ := hf
 have ho : s.heap.get? f = some (lamO X ps body sc pm c ct) := (I.hok f _ h1).1
 have hcd : s.heap.CodeRec (.ref c) (lamQ X) := (I.hok c _ h2).1
 refine wpAny_call (PySem.W.kla_callFunE (fd := PySem.W.kla_fn "<lambda>" (lamQ X) ps body sc (cloF X.env sc.names []) pm (.ref c) ct) (body := body) hr.depth ho rfl S.co S.gen rfl hcd ?_)
 rw [hb]
 refine wpAny_pure (wpAny_newFunctionEnv S.nocell (fun x hx => ?_) (fun h4 hns hsb => ⟨I.nolimit.fresh _ hsb, ?_⟩) S.kind)
 ·rw [List.mem_singleton.mp hx]; exact S.par
 have hk : ∀ b o, s.heap.get? b = some o → h4.get? b = some o := fun b o e => hsb.extBut b o (Nat.ne_of_lt (Heap.lt_size e)) (Heap.get?_push_of_some _ e)
 show codeAny _ _ (.expr body (lamE X sc (cloF X.env sc.names []) s.heap.objs.size f (.ref c))) _ _
 refine PySem.W.kla_codeExpr ?_
 have I4 := inv_lam (f := f) (cd := .ref c) (A := X.A.in1) (tk := s.toks + [(v, u)].length) (xe := fun e' s' => wpAny (model X.prog X.w) (X.A.in1.deeper (lamE X sc (cloF X.env sc.names []) s.heap.objs.size f (.ref c))) (leaving (lamE X sc (cloF X.env sc.names []) s.heap.objs.size f (.ref c)) e') (fun _ s'' => E e' s'') (fun e'' s'' => E e'' s'') s')
  S hix I I.ok.frames hr.hd hk hns (show [(v, u)].reverse.lookup v = some u by simp) r
 refine wpAny_mono (he _ _ _ _ _ _ _ _ _ _ _ _ _ I4 h) (fun x s5 ⟨z, H5, I5, rz, q5⟩ => ?_) fun _ _ z => z
 exact ⟨z, H5, I.call' (ch := []) I5.os I5.base I5.hok I5.bare (fun _ z => nomatch z), rz, q5⟩
end
def bsK (kf : Int → Int) : Option Int → List V
 | none => []
 | some b => [.int b, .int (kf b)]
theorem xX {a b : V} {us : List Value} (r : Vals [a, b] us) : ∃ u w, us = [u, w] ∧ RelV a u ∧ RelV b w := by
 cases r with
 | cons h1 r => cases r with
  | cons h2 r => cases r; exact ⟨_, _, rfl, h1, h2⟩
theorem min_lt {prog : Program} {w : World} {A : Around} {i j : Int} {t u : Tok} {s : Shared} {Q : Value → Shared → Prop} {E : Value → Shared → Prop} (h : Q (.bool (decide (i < j))) s) : wpAny (model prog w) A (richCompare .Lt (.int i t) (.int j u)) Q E s :=
 CmpOf.ints_lt (prog := prog) (w := w) (A := A) (P := fun n v => ∃ t, v = .int ([i, j].getD n 0) t) (fun n => [i, j].getD n 0) (fun _ _ z => z) 0 1 _ _ s Q E ⟨t, rfl⟩ ⟨u, rfl⟩ h
section
variable {X : Cx} {pins : List (Addr × Obj)} {σ : St} {sc : Scope} {v : Str} {F : List Str} {ix : List Nat} {k : Nat} {ps : Arguments} {body : Expr} {te : TE} {l f it S P : Addr} {ns : List Int} {kf : Int → Int} {H0 : Hp} {R : Result → Shared → Prop}
theorem minK_loop (hr : Room k X.A) (LS : LScope X.env.scope sc v F) (hix : ix.map (fun i => X.N[i]?) = F.map some)
  (hb : ∀ pm c ct u, bindArgs (PySem.W.kla_fn "<lambda>" (lamQ X) ps body sc (cloF X.env sc.names []) pm (.ref c) ct) ⟨[u], []⟩ = pure [(v, u)])
  (he : ∀ cl L f cd A s3 H3 xe, PE (cxL X (v :: F) sc cl L f cd A s3 H3 xe) body te)
  (hte : ∀ H', Same H0 H' → ∀ i ∈ ns, te (some (.int i) :: sub ix σ) H' (fun y H'' => H'' = H' ∧ y = .int (kf i)))
  (hl0 : H0 l = some (.lst (ns.map V.int))) (hS0 : H0 S = none)
  (i1 : X.s₀.heap.objs.size ≤ it) (i2 : ∀ x c, X.env.cells.lookup x = some c → c ≠ it) (i3 : ∀ p ∈ X.pn ++ pins, p.1 ≠ it) (i4 : it ≠ X.env.locals) (i5 : it ∉ X.fs)
  (fin : ∀ ob H' s' u, Inv X pins σ H' s' → Same H0 H' → (ob = none → ns = []) → (∀ b, ob = some b → b ∈ ns ∧ ∀ i ∈ ns, kf b ≤ kf i) → RelV (ob.elim V.non V.int) u → R (.ok (.ret u)) s') :
  ∀ (r j : Nat) (ob : Option Int) (H : Hp) (s : Shared) (oI : Obj), ns.length - j = r → j ≤ ns.length → Inv X ((it, oI) :: pins) σ H s → s.heap.IsListIter it l j → Same H0 H → xy X ps body sc H f → H S = some (.lst (bsK kf ob)) →
   (∀ i ∈ ns.take j, ∃ b, ob = some b ∧ kf b ≤ kf i) → (∀ b, ob = some b → b ∈ ns) →
   codeAny (model X.prog X.w) X.A (.builtin "min.loop" ⟨[.ref it, .ref f, .ref S], [(Str.ofString "default", .none)]⟩) R s := by
 have hname : (toString "min" ++ toString ".loop" : String) = "min.loop" := by decide
 intro r
 induction r with
 | zero =>
  intro j ob H s oI hr' hj I hit hs hf hS hbest hob
  have J : Inv X pins σ H s := I.pins_of fun p hp => I.pin p (List.mem_append_right _ (List.mem_cons_of_mem _ hp))
  obtain ⟨_, p2, _⟩ := I.pin (it, oI) (List.mem_append_right _ List.mem_cons_self)
  obtain ⟨its, n, rv, eS, _⟩ := I.lst hS
  obtain ⟨vs, nl, rl, el, zl⟩ := I.lst (hs l _ hl0)
  have hL : s.heap.IsList l vs.toArray := ⟨_, el, rfl, nl, rfl⟩
  have hlen : vs.length = ns.length := by rw [← rl.length, List.length_map]
  have hli : l ≠ it := fun z => by rw [z] at hl0; have := hs it _ hl0; rw [p2] at this; cases this
  have W := Walks.list (prog := X.prog) (w := X.w) (A := X.A.in1) hr.hd it l hli vs.toArray
  refine codeAny_builtin PySem.F.entry_min_loop ?_
  rw [Around.under_plainId PySem.F.plain_min_loop _]
  show wpAny _ X.A.in1 (seqItems? (.ref S) >>= _) _ _ _
  refine wpAny_bind (wpAny_seqItems eS rfl ?_)
  show wpAny _ X.A.in1 (tryCatch (pyNext (.ref it)) _ >>= _) _ _ _
  refine wpAny_bind (wpAny_tryCatch (W.done _ _ _ ⟨by rw [List.size_toArray, hlen, show ns.length = j by omega]; exact hit, hL⟩ fun h' tk' hk' => ?_))
  have J' : Inv X pins σ H { s with heap := h', toks := tk' } := J.turned (fun b o hb' e => hk' b o (by simpa using hb') e) p2 i4 (.inr i1) i2 i3
  have hall : ns.take j = ns := List.take_of_length_le (by omega)
  rw [hall] at hbest
  cases ob with
  | none =>
   cases rv
   have hnil : ns = [] := by
    cases ns with
    | nil => rfl
    | cons a b => obtain ⟨_, e, _⟩ := hbest a List.mem_cons_self; cases e
   show wpAny _ X.A.in1 (do rule _; ret _) _ _ _
   refine wpAny_bind (wpAny_rule (wpAny_pure ?_))
   exact fin none H _ .none J' hs (fun _ => hnil) (fun b e => nomatch e) rfl
  | some b =>
   obtain ⟨u1, u2, rfl, ⟨t1, rfl⟩, ⟨t2, rfl⟩⟩ := xX rv
   have eS' := hk' S _ (by simpa using fun z : S = it => by rw [z, p2] at hS; cases hS) eS
   show wpAny _ X.A.in1 (updateSeq S (fun _ => #[]) >>= _) _ _ _
   refine wpAny_bind (wpAny_updateSeq eS' rfl (wpAny_bind (wpAny_letGo (wpAny_pure ?_))))
   have J2 := J'.lset (f := fun _ => #[]) (its' := []) (ys := []) (t' := tk') hS eS' rfl .nil (Nat.zero_le _)
   refine fin (some b) _ _ (.int b t1) J2 (fun a o e => ?_) (fun z => nomatch z) (fun b' e => ?_) ⟨t1, rfl⟩
   ·rw [zh (zg e hS0)]; exact hs a o e
   ·cases e
    refine ⟨hob b rfl, fun i hi => ?_⟩
    obtain ⟨b', e, hle⟩ := hbest i hi
    cases e
    exact hle
 | succ r ih =>
  intro j ob H s oI hr' hj I hit hs hf hS hbest hob
  have J : Inv X pins σ H s := I.pins_of fun p hp => I.pin p (List.mem_append_right _ (List.mem_cons_of_mem _ hp))
  obtain ⟨_, p2, _⟩ := I.pin (it, oI) (List.mem_append_right _ List.mem_cons_self)
  obtain ⟨its, n, rv, eS, _⟩ := I.lst hS
  obtain ⟨vs, nl, rl, el, zl⟩ := I.lst (hs l _ hl0)
  have hL : s.heap.IsList l vs.toArray := ⟨_, el, rfl, nl, rfl⟩
  have hlen : vs.length = ns.length := by rw [← rl.length, List.length_map]
  have hli : l ≠ it := fun z => by rw [z] at hl0; have := hs it _ hl0; rw [p2] at this; cases this
  have hSi : S ≠ it := fun z => by rw [z, p2] at hS; cases hS
  have W := Walks.list (prog := X.prog) (w := X.w) (A := X.A.in1) hr.hd it l hli vs.toArray
  refine codeAny_builtin PySem.F.entry_min_loop ?_
  rw [Around.under_plainId PySem.F.plain_min_loop _]
  show wpAny _ X.A.in1 (seqItems? (.ref S) >>= _) _ _ _
  refine wpAny_bind (wpAny_seqItems eS rfl ?_)
  show wpAny _ X.A.in1 (tryCatch (pyNext (.ref it)) _ >>= _) _ _ _
  refine wpAny_bind (wpAny_tryCatch (W.item j _ _ _ (by rw [List.size_toArray, hlen]; omega) ⟨hit, hL⟩ fun x h' tk' hP hst' hk' => ?_))
  have hj2 : j < ns.length := by omega
  obtain ⟨i, hi⟩ : ∃ i, ns[j]? = some i := ⟨_, List.getElem?_eq_getElem hj2⟩
  have hx : vs[j]? = some x := by simpa using hP
  obtain ⟨x', hx', rx⟩ := rl.get (i := j) (x := .int i) (by rw [List.getElem?_map, hi]; rfl)
  rw [hx] at hx'
  cases hx'
  have him : i ∈ ns := List.mem_of_getElem? hi
  have htake : ns.take (j + 1) = ns.take j ++ [i] := by rw [List.take_add_one, hi]; rfl
  have J' : Inv X pins σ H { s with heap := h', toks := tk' } := J.turned (fun b o hb' e => hk' b o (by simpa using hb') e) p2 i4 (.inr i1) i2 i3
  obtain ⟨oI', hoI', hoc, hod⟩ := id hst'.1
  have I' : Inv X ((it, oI') :: pins) σ H { s with heap := h', toks := tk' } := J'.pins_of fun p hp => by
   rcases List.mem_cons.mp hp with rfl | hp
   ·exact ⟨hoI', p2, i4, i5, fun v z => by rw [hod] at z; cases z⟩
   ·exact J'.pin p (List.mem_append_right _ hp)
  show wpAny _ X.A.in1 (tryCatch (holding [x] (call (.ref f) [x])) _ >>= _) _ _ _
  refine wpAny_bind (wpAny_tryCatch (wpAny_holding (wpAny_mono (Zq (E := fun _ _ => False) hr LS hix hb he I' hf rx (hte H hs i him)) (fun y s2 ⟨yv, H2, I2, ry, q2⟩ => ?_) fun _ _ z => z.elim)))
  obtain ⟨rfl, rfl⟩ := q2
  obtain ⟨t3, rfl⟩ := ry
  obtain ⟨hoI2, _⟩ := I2.pin (it, oI') (List.mem_append_right _ List.mem_cons_self)
  have hit2 : s2.heap.IsListIter it l (j + 1) := ⟨oI', hoI2, hoc, hod⟩
  obtain ⟨its2, n2, rv2, eS2, zz2⟩ := I2.lst hS
  have hz2 : its2.toArray.size ≤ sizeLine := by rw [List.size_toArray, ← rv2.length]; exact zz2
  obtain ⟨t0, rfl⟩ := rx
  have grow : ∀ {b' : Int} {H' : Hp} {s' : Shared}, Inv X ((it, oI') :: pins) σ H' s' → s'.heap.IsListIter it l (j + 1) → Same H0 H' → xy X ps body sc H' f → H' S = some (.lst (bsK kf (some b'))) → b' ∈ ns → (∀ i ∈ ns.take (j + 1), kf b' ≤ kf i) →
    codeAny (model X.prog X.w) X.A (.builtin "min.loop" ⟨[.ref it, .ref f, .ref S], [(Str.ofString "default", .none)]⟩) R s' := fun {b' H' s'} I3 h3 hs3 hf3 hS3 hb3 hle3 =>
   ih (j + 1) (some b') H' s' oI' (by omega) (by omega) I3 h3 hs3 hf3 hS3 (fun i hi => ⟨b', rfl, hle3 i hi⟩) fun b e => by cases e; exact hb3
  have put : ∀ {tx ty : Tok}, let s3 : Shared := { s2 with heap := s2.heap.update S (Obj.mapSeq fun _ => #[.int i tx, .int (kf i) ty]) }
    Inv X ((it, oI') :: pins) σ (upd H2 S (.lst (bsK kf (some i)))) s3 ∧ s3.heap.IsListIter it l (j + 1) ∧ Same H0 (upd H2 S (.lst (bsK kf (some i)))) ∧ xy X ps body sc (upd H2 S (.lst (bsK kf (some i)))) f := fun {tx ty} => by
   have I3 := I2.lset (f := fun _ => #[Value.int i tx, .int (kf i) ty]) (its' := [Value.int i tx, .int (kf i) ty]) (ys := bsK kf (some i)) (t' := s2.toks) hS eS2 rfl (.cons ⟨tx, rfl⟩ (.cons ⟨ty, rfl⟩ .nil)) (sz2)
   refine ⟨I3, ⟨oI', (Heap.get?_update_other s2.heap _ hSi).trans hoI2, hoc, hod⟩, fun a o e => ?_, ?_⟩
   ·rw [zh (zg e hS0)]; exact hs a o e
   ·obtain ⟨pm, c, ct, e1, e2⟩ := hf
    refine ⟨pm, c, ct, ?_, ?_⟩
    ·rw [zh (fun z => by rw [z, hS] at e1; cases e1)]; exact e1
    ·rw [zh (fun z => by rw [z, hS] at e2; cases e2)]; exact e2
  cases ob with
  | none =>
   cases rv
   have hj0 : ns.take j = [] := by
    cases e : ns.take j with
    | nil => rfl
    | cons a b => obtain ⟨_, e', _⟩ := hbest a (by rw [e]; exact List.mem_cons_self); cases e'
   show wpAny _ X.A.in1 (updateSeq S (fun _ => #[.int i t0, .int (kf i) t3]) >>= _) _ _ _
   refine wpAny_bind (wpAny_updateSeq eS2 rfl ?_ hz2)
   rw [hname]
   obtain ⟨a1, a2, a3, a4⟩ := put (tx := t0) (ty := t3)
   refine wpAny_pure ⟨plainId_quiet PySem.F.plain_min_loop _, grow a1 a2 a3 a4 zf him fun i' hi' => ?_⟩
   rw [htake, hj0] at hi'
   have e : i' = i := by simpa using hi'
   rw [e]
   exact Int.le_refl _
  | some b =>
   obtain ⟨u1, u2, rfl, ⟨t1, rfl⟩, ⟨t2, rfl⟩⟩ := xX rv
   show wpAny _ X.A.in1 (tryCatch (holding [.int i t0, .int (kf i) t3] (richCompare .Lt (.int (kf i) t3) (.int (kf b) t2) >>= _)) _ >>= _) _ _ _
   refine wpAny_bind (wpAny_tryCatch (wpAny_holding (wpAny_bind (min_lt ?_))))
   refine wpAny_bind (wpAny_holding (wpAny_truthy_bool ?_))
   refine wpAny_bind (wpAny_letGo (wpAny_pure ?_))
   by_cases hlt : kf i < kf b
   ·simp only [hlt, decide_true, if_true]
    refine wpAny_bind (wpAny_updateSeq eS2 rfl (wpAny_bind (wpAny_letGo ?_)) hz2)
    rw [hname]
    obtain ⟨a1, a2, a3, a4⟩ := put (tx := t0) (ty := t3)
    refine wpAny_pure ⟨plainId_quiet PySem.F.plain_min_loop _, grow a1 a2 a3 a4 zf him fun i' hi' => ?_⟩
    rw [htake] at hi'
    rcases List.mem_append.mp hi' with hi' | hi'
    ·obtain ⟨b', e, hle⟩ := hbest i' hi'
     cases e
     omega
    ·have e : i' = i := by simpa using hi'
     rw [e]
     exact Int.le_refl _
   ·simp only [hlt, decide_false, Bool.false_eq_true, if_false]
    refine wpAny_bind (wpAny_letGo ?_)
    rw [hname]
    refine wpAny_pure ⟨plainId_quiet PySem.F.plain_min_loop _, grow I2 hit2 hs hf hS (hob b rfl) fun i' hi' => ?_⟩
    rw [htake] at hi'
    rcases List.mem_append.mp hi' with hi' | hi'
    ·obtain ⟨b', e, hle⟩ := hbest i' hi'
     cases e
     exact hle
    ·have e : i' = i := by simpa using hi'
     rw [e]
     omega
theorem args_minK (a v d : Value) : argsOk "min" ⟨[a], [(Str.ofString "key", v), (Str.ofString "default", d)]⟩ := by unfold argsOk; kernel_rfl
def Xj (X : Cx) (P : Addr) (ix : List Nat) (ta te : TE) : TE := fun σ H Q => ta σ H fun x H1 => ∃ (l : Addr) (ns : List Int) (kf : Int → Int), x = .ref l ∧ H1 l = some (.lst (ns.map V.int)) ∧ TabAt H1 P (lamQ X) ∧
 (∀ H', SameB P H1 H' → ∀ i ∈ ns, te (some (.int i) :: sub ix σ) H' (fun y H'' => H'' = H' ∧ y = .int (kf i))) ∧
 ∀ H' ob, SameB P H1 H' → TabAt H' P (lamQ X) → (ob = none → ns = []) → (∀ b, ob = some b → b ∈ ns ∧ ∀ i ∈ ns, kf b ≤ kf i) → Q (ob.elim V.non V.int) H'
theorem vS {c : Addr} {e : Expr} {ta : TE} {p pos lp kp kp' cp : Pos} {ck : Nat} (hr : Room k X.A) (L : LamOk X c P) (LS : LScope X.env.scope sc v F) (hix : ix.map (fun i => X.N[i]?) = F.map some)
  (hb : ∀ pm c ct u, bindArgs (PySem.W.kla_fn "<lambda>" (lamQ X) ps body sc (cloF X.env sc.names []) pm (.ref c) ct) ⟨[u], []⟩ = pure [(v, u)])
  (he : ∀ cl L f cd A s3 H3 xe, PE (cxL X (v :: F) sc cl L f cd A s3 H3 xe) body te) (ha : PE X e ta) (hm : X.mg "min" = none) (hg : Gl X "min" := by rfl) (hdef : defaultsOf ps X.env = ([], []) := by rfl)
  (hst : starEach [e] X.env = [(false, eval e X.env)] := by rfl) :
  PE X (.Call (.Name "min" p) [e] [⟨some "key", .Lambda ps body sc lp, kp⟩, ⟨some "default", .Constant .none ck cp, kp'⟩] pos) (Xj X P ix ta te) := by
 have hname : (toString "min" ++ toString ".loop" : String) = "min.loop" := by decide
 intro pins s σ H Q I h
 refine wpAny_Call_Name_kw (xC I hg hm PyProof.Rows.boot_min ?_)
 refine PyProof.Rows.callWith_kw (e := e) (rest := []) ?_ (by rw [hst]; rfl) (by rw [hst]; rfl)
 rw [show backTo pos (starEach [e] X.env) = (false, eval e X.env) :: [] by rw [hst]; rfl]
 refine Calls.spliced_cons (thn (ha pins s σ H _ I h) fun u s1 ⟨x, H1, I1, r1, q1⟩ => Calls.spliced_nil ?_)
 obtain ⟨l, ns, kf, rfl, hl, hT, hte, hQ⟩ := q1
 cases r1
 have hk : PK X [⟨some "key", .Lambda ps body sc lp, kp⟩, ⟨some "default", .Constant .none ck cp, kp'⟩] (xi (tLam X ps body sc P) (xi (tC .non) tNil)) := wK (YN L LS.fr hdef) (wK vR YK)
 refine thn (hk pos pins s1 σ H1 (fun zs H2 => ∃ f, zs = [.ref f, .non] ∧ SameB P H1 H2 ∧ TabAt H2 P (lamQ X) ∧ xy X ps body sc H2 f) I1 ⟨hT, fun f H2 h1 h2 h3 _ => ⟨f, rfl, h1, h2, h3⟩⟩) fun ws s2 ⟨zs, H2, I2, rz, f, ez, k12, hT2, hf2⟩ => ?_
 subst ez
 obtain ⟨w1, w2, rfl, rfl, rfl⟩ := xX rz
 show wpAny _ X.A (call (.builtin "min") [.ref l] [(Str.ofString "key", .ref f), (Str.ofString "default", .none)]) _ _ s2
 have hlP : l ≠ P := fun z => by obtain ⟨tb, e, _⟩ := hT; rw [z, e] at hl; cases hl
 have hl2 := k12 l _ hlP hl
 obtain ⟨its, nl, rl, el, zl⟩ := I2.lst hl2
 have hL : s2.heap.IsList l its.toArray := ⟨_, el, rfl, nl, rfl⟩
 refine PyProof.Rows.kmk_tree PySem.F.kind_min PySem.F.plain_min PySem.F.entry_min (args_minK _ _ _) ?_
 show wpAny _ X.A.in1 (Builtin.Builtins.bindParams "min" ["key", "default"] 0 ⟨[], [(Str.ofString "key", .ref f), (Str.ofString "default", .none)]⟩ >>= _) _ _ s2
 refine wpAny_bind (wpAny_of_eq (show Builtin.Builtins.bindParams "min" ["key", "default"] 0 ⟨[], [(Str.ofString "key", .ref f), (Str.ofString "default", .none)]⟩ = pure [some (.ref f), some .none] from rfl) ?_)
 refine wpAny_bind (wpAny_pure ?_)
 refine wpAny_bind (wpAny_pyIter_list hL ?_)
 refine wpAny_bind (wpAny_newList ?_ (Nat.zero_le _))
 rw [hname]
 have I3 : Inv X pins σ H2 { s2 with heap := s2.heap.push { cls := .type "list_iterator", data := .fields #[.ref l, .int 0 0] } } := I2.kept (t' := s2.toks) fun b o e => Heap.get?_push_of_some _ e
 have hn : H2 s2.heap.objs.size = none := I2.fresh
 have I4 : Inv X ((s2.heap.objs.size, { cls := .type "list_iterator", data := .fields #[.ref l, .int 0 0] }) :: pins) σ H2 { s2 with heap := s2.heap.push { cls := .type "list_iterator", data := .fields #[.ref l, .int 0 0] } } := I3.pins_of fun p hp => by
  rcases List.mem_cons.mp hp with rfl | hp
  ·exact ⟨Heap.get?_push_size _ rfl, hn, Nat.ne_of_gt I2.lt, I2.nofs (Nat.le_refl _), fun v z => by cases z⟩
  ·exact I3.pin p (List.mem_append_right _ hp)
 have I5 := I4.lnew (t' := s2.toks) (its := []) (ys := []) .nil (Nat.zero_le _)
 have hS0 := I3.fresh
 refine wpAny_pure ⟨plainId_quiet PySem.F.plain_min_loop _, minK_loop (H0 := H2) (ns := ns) (kf := kf) (l := l) (f := f) hr LS hix hb he (fun H' k2 i hi => hte H' (k12.trans fun a o _ e => k2 a o e) i hi) hl2 hS0
  (it := s2.heap.objs.size) I2.sz (fun x c e z => ?_) (fun p hp z => ?_) (Nat.ne_of_gt I2.lt) (I2.nofs (Nat.le_refl _)) (fun ob H' s' u I' k' h1 h2 ru => ?_) _ 0 none _ _ _ rfl (Nat.zero_le _) I5 ⟨_, Heap.get?_push_of_some _ (Heap.get?_push_size _ rfl), rfl, rfl⟩ (fun a o e => by rw [zh (zg e hS0)]; exact e) ?_ zf (fun i hi => by simp at hi) (fun b z => nomatch z)⟩
 ·obtain ⟨v', o, ho, _⟩ := I2.cell x c e
  exact absurd (Heap.lt_size ho) (by rw [z]; exact Nat.lt_irrefl _)
 ·exact absurd (Heap.lt_size (I2.pin p hp).1) (by rw [z]; exact Nat.lt_irrefl _)
 ·exact ⟨_, H', I', ru, hQ H' ob (k12.trans fun a o _ e => k' a o e) (hT2.same k') h1 h2⟩
 ·obtain ⟨pm, c, ct, e1, e2⟩ := hf2
  exact ⟨pm, c, ct, by rw [zh (zg e1 hS0)]; exact e1, by rw [zh (zg e2 hS0)]; exact e2⟩
theorem max_lt {prog : Program} {w : World} {A : Around} {i j : Int} {t u : Tok} {s : Shared} {Q : Value → Shared → Prop} {E : Value → Shared → Prop} (h : Q (.bool (decide (i > j))) s) : wpAny (model prog w) A (richCompare .Gt (.int i t) (.int j u)) Q E s :=
 CmpOf.ints_gt (prog := prog) (w := w) (A := A) (P := fun n v => ∃ t, v = .int ([i, j].getD n 0) t) (fun n => [i, j].getD n 0) (fun _ _ z => z) 0 1 _ _ s Q E ⟨t, rfl⟩ ⟨u, rfl⟩ h
theorem maxK_loop (hr : Room k X.A) (LS : LScope X.env.scope sc v F) (hix : ix.map (fun i => X.N[i]?) = F.map some)
  (hb : ∀ pm c ct u, bindArgs (PySem.W.kla_fn "<lambda>" (lamQ X) ps body sc (cloF X.env sc.names []) pm (.ref c) ct) ⟨[u], []⟩ = pure [(v, u)])
  (he : ∀ cl L f cd A s3 H3 xe, PE (cxL X (v :: F) sc cl L f cd A s3 H3 xe) body te)
  (hte : ∀ H', Same H0 H' → ∀ i ∈ ns, te (some (.int i) :: sub ix σ) H' (fun y H'' => H'' = H' ∧ y = .int (kf i)))
  (hl0 : H0 l = some (.lst (ns.map V.int))) (hS0 : H0 S = none)
  (i1 : X.s₀.heap.objs.size ≤ it) (i2 : ∀ x c, X.env.cells.lookup x = some c → c ≠ it) (i3 : ∀ p ∈ X.pn ++ pins, p.1 ≠ it) (i4 : it ≠ X.env.locals) (i5 : it ∉ X.fs)
  (fin : ∀ ob H' s' u, Inv X pins σ H' s' → Same H0 H' → (ob = none → ns = []) → (∀ b, ob = some b → b ∈ ns ∧ ∀ i ∈ ns, kf i ≤ kf b) → RelV (ob.elim V.non V.int) u → R (.ok (.ret u)) s') :
  ∀ (r j : Nat) (ob : Option Int) (H : Hp) (s : Shared) (oI : Obj), ns.length - j = r → j ≤ ns.length → Inv X ((it, oI) :: pins) σ H s → s.heap.IsListIter it l j → Same H0 H → xy X ps body sc H f → H S = some (.lst (bsK kf ob)) →
   (∀ i ∈ ns.take j, ∃ b, ob = some b ∧ kf i ≤ kf b) → (∀ b, ob = some b → b ∈ ns) →
   codeAny (model X.prog X.w) X.A (.builtin "max.loop" ⟨[.ref it, .ref f, .ref S], [(Str.ofString "default", .none)]⟩) R s := by
 have hname : (toString "max" ++ toString ".loop" : String) = "max.loop" := by decide
 intro r
 induction r with
 | zero =>
  intro j ob H s oI hr' hj I hit hs hf hS hbest hob
  have J : Inv X pins σ H s := I.pins_of fun p hp => I.pin p (List.mem_append_right _ (List.mem_cons_of_mem _ hp))
  obtain ⟨_, p2, _⟩ := I.pin (it, oI) (List.mem_append_right _ List.mem_cons_self)
  obtain ⟨its, n, rv, eS, _⟩ := I.lst hS
  obtain ⟨vs, nl, rl, el, zl⟩ := I.lst (hs l _ hl0)
  have hL : s.heap.IsList l vs.toArray := ⟨_, el, rfl, nl, rfl⟩
  have hlen : vs.length = ns.length := by rw [← rl.length, List.length_map]
  have hli : l ≠ it := fun z => by rw [z] at hl0; have := hs it _ hl0; rw [p2] at this; cases this
  have W := Walks.list (prog := X.prog) (w := X.w) (A := X.A.in1) hr.hd it l hli vs.toArray
  refine codeAny_builtin PySem.F.entry_max_loop ?_
  rw [Around.under_plainId PySem.F.plain_max_loop _]
  show wpAny _ X.A.in1 (seqItems? (.ref S) >>= _) _ _ _
  refine wpAny_bind (wpAny_seqItems eS rfl ?_)
  show wpAny _ X.A.in1 (tryCatch (pyNext (.ref it)) _ >>= _) _ _ _
  refine wpAny_bind (wpAny_tryCatch (W.done _ _ _ ⟨by rw [List.size_toArray, hlen, show ns.length = j by omega]; exact hit, hL⟩ fun h' tk' hk' => ?_))
  have J' : Inv X pins σ H { s with heap := h', toks := tk' } := J.turned (fun b o hb' e => hk' b o (by simpa using hb') e) p2 i4 (.inr i1) i2 i3
  have hall : ns.take j = ns := List.take_of_length_le (by omega)
  rw [hall] at hbest
  cases ob with
  | none =>
   cases rv
   have hnil : ns = [] := by
    cases ns with
    | nil => rfl
    | cons a b => obtain ⟨_, e, _⟩ := hbest a List.mem_cons_self; cases e
   show wpAny _ X.A.in1 (do rule _; ret _) _ _ _
   refine wpAny_bind (wpAny_rule (wpAny_pure ?_))
   exact fin none H _ .none J' hs (fun _ => hnil) (fun b e => nomatch e) rfl
  | some b =>
   obtain ⟨u1, u2, rfl, ⟨t1, rfl⟩, ⟨t2, rfl⟩⟩ := xX rv
   have eS' := hk' S _ (by simpa using fun z : S = it => by rw [z, p2] at hS; cases hS) eS
   show wpAny _ X.A.in1 (updateSeq S (fun _ => #[]) >>= _) _ _ _
   refine wpAny_bind (wpAny_updateSeq eS' rfl (wpAny_bind (wpAny_letGo (wpAny_pure ?_))))
   have J2 := J'.lset (f := fun _ => #[]) (its' := []) (ys := []) (t' := tk') hS eS' rfl .nil (Nat.zero_le _)
   refine fin (some b) _ _ (.int b t1) J2 (fun a o e => ?_) (fun z => nomatch z) (fun b' e => ?_) ⟨t1, rfl⟩
   ·rw [zh (zg e hS0)]; exact hs a o e
   ·cases e
    refine ⟨hob b rfl, fun i hi => ?_⟩
    obtain ⟨b', e, hle⟩ := hbest i hi
    cases e
    exact hle
 | succ r ih =>
  intro j ob H s oI hr' hj I hit hs hf hS hbest hob
  have J : Inv X pins σ H s := I.pins_of fun p hp => I.pin p (List.mem_append_right _ (List.mem_cons_of_mem _ hp))
  obtain ⟨_, p2, _⟩ := I.pin (it, oI) (List.mem_append_right _ List.mem_cons_self)
  obtain ⟨its, n, rv, eS, _⟩ := I.lst hS
  obtain ⟨vs, nl, rl, el, zl⟩ := I.lst (hs l _ hl0)
  have hL : s.heap.IsList l vs.toArray := ⟨_, el, rfl, nl, rfl⟩
  have hlen : vs.length = ns.length := by rw [← rl.length, List.length_map]
  have hli : l ≠ it := fun z => by rw [z] at hl0; have := hs it _ hl0; rw [p2] at this; cases this
  have hSi : S ≠ it := fun z => by rw [z, p2] at hS; cases hS
  have W := Walks.list (prog := X.prog) (w := X.w) (A := X.A.in1) hr.hd it l hli vs.toArray
  refine codeAny_builtin PySem.F.entry_max_loop ?_
  rw [Around.under_plainId PySem.F.plain_max_loop _]
  show wpAny _ X.A.in1 (seqItems? (.ref S) >>= _) _ _ _
  refine wpAny_bind (wpAny_seqItems eS rfl ?_)
  show wpAny _ X.A.in1 (tryCatch (pyNext (.ref it)) _ >>= _) _ _ _
  refine wpAny_bind (wpAny_tryCatch (W.item j _ _ _ (by rw [List.size_toArray, hlen]; omega) ⟨hit, hL⟩ fun x h' tk' hP hst' hk' => ?_))
  have hj2 : j < ns.length := by omega
  obtain ⟨i, hi⟩ : ∃ i, ns[j]? = some i := ⟨_, List.getElem?_eq_getElem hj2⟩
  have hx : vs[j]? = some x := by simpa using hP
  obtain ⟨x', hx', rx⟩ := rl.get (i := j) (x := .int i) (by rw [List.getElem?_map, hi]; rfl)
  rw [hx] at hx'
  cases hx'
  have him : i ∈ ns := List.mem_of_getElem? hi
  have htake : ns.take (j + 1) = ns.take j ++ [i] := by rw [List.take_add_one, hi]; rfl
  have J' : Inv X pins σ H { s with heap := h', toks := tk' } := J.turned (fun b o hb' e => hk' b o (by simpa using hb') e) p2 i4 (.inr i1) i2 i3
  obtain ⟨oI', hoI', hoc, hod⟩ := id hst'.1
  have I' : Inv X ((it, oI') :: pins) σ H { s with heap := h', toks := tk' } := J'.pins_of fun p hp => by
   rcases List.mem_cons.mp hp with rfl | hp
   ·exact ⟨hoI', p2, i4, i5, fun v z => by rw [hod] at z; cases z⟩
   ·exact J'.pin p (List.mem_append_right _ hp)
  show wpAny _ X.A.in1 (tryCatch (holding [x] (call (.ref f) [x])) _ >>= _) _ _ _
  refine wpAny_bind (wpAny_tryCatch (wpAny_holding (wpAny_mono (Zq (E := fun _ _ => False) hr LS hix hb he I' hf rx (hte H hs i him)) (fun y s2 ⟨yv, H2, I2, ry, q2⟩ => ?_) fun _ _ z => z.elim)))
  obtain ⟨rfl, rfl⟩ := q2
  obtain ⟨t3, rfl⟩ := ry
  obtain ⟨hoI2, _⟩ := I2.pin (it, oI') (List.mem_append_right _ List.mem_cons_self)
  have hit2 : s2.heap.IsListIter it l (j + 1) := ⟨oI', hoI2, hoc, hod⟩
  obtain ⟨its2, n2, rv2, eS2, zz2⟩ := I2.lst hS
  have hz2 : its2.toArray.size ≤ sizeLine := by rw [List.size_toArray, ← rv2.length]; exact zz2
  obtain ⟨t0, rfl⟩ := rx
  have grow : ∀ {b' : Int} {H' : Hp} {s' : Shared}, Inv X ((it, oI') :: pins) σ H' s' → s'.heap.IsListIter it l (j + 1) → Same H0 H' → xy X ps body sc H' f → H' S = some (.lst (bsK kf (some b'))) → b' ∈ ns → (∀ i ∈ ns.take (j + 1), kf i ≤ kf b') →
    codeAny (model X.prog X.w) X.A (.builtin "max.loop" ⟨[.ref it, .ref f, .ref S], [(Str.ofString "default", .none)]⟩) R s' := fun {b' H' s'} I3 h3 hs3 hf3 hS3 hb3 hle3 =>
   ih (j + 1) (some b') H' s' oI' (by omega) (by omega) I3 h3 hs3 hf3 hS3 (fun i hi => ⟨b', rfl, hle3 i hi⟩) fun b e => by cases e; exact hb3
  have put : ∀ {tx ty : Tok}, let s3 : Shared := { s2 with heap := s2.heap.update S (Obj.mapSeq fun _ => #[.int i tx, .int (kf i) ty]) }
    Inv X ((it, oI') :: pins) σ (upd H2 S (.lst (bsK kf (some i)))) s3 ∧ s3.heap.IsListIter it l (j + 1) ∧ Same H0 (upd H2 S (.lst (bsK kf (some i)))) ∧ xy X ps body sc (upd H2 S (.lst (bsK kf (some i)))) f := fun {tx ty} => by
   have I3 := I2.lset (f := fun _ => #[Value.int i tx, .int (kf i) ty]) (its' := [Value.int i tx, .int (kf i) ty]) (ys := bsK kf (some i)) (t' := s2.toks) hS eS2 rfl (.cons ⟨tx, rfl⟩ (.cons ⟨ty, rfl⟩ .nil)) (sz2)
   refine ⟨I3, ⟨oI', (Heap.get?_update_other s2.heap _ hSi).trans hoI2, hoc, hod⟩, fun a o e => ?_, ?_⟩
   ·rw [zh (zg e hS0)]; exact hs a o e
   ·obtain ⟨pm, c, ct, e1, e2⟩ := hf
    refine ⟨pm, c, ct, ?_, ?_⟩
    ·rw [zh (fun z => by rw [z, hS] at e1; cases e1)]; exact e1
    ·rw [zh (fun z => by rw [z, hS] at e2; cases e2)]; exact e2
  cases ob with
  | none =>
   cases rv
   have hj0 : ns.take j = [] := by
    cases e : ns.take j with
    | nil => rfl
    | cons a b => obtain ⟨_, e', _⟩ := hbest a (by rw [e]; exact List.mem_cons_self); cases e'
   show wpAny _ X.A.in1 (updateSeq S (fun _ => #[.int i t0, .int (kf i) t3]) >>= _) _ _ _
   refine wpAny_bind (wpAny_updateSeq eS2 rfl ?_ hz2)
   rw [hname]
   obtain ⟨a1, a2, a3, a4⟩ := put (tx := t0) (ty := t3)
   refine wpAny_pure ⟨plainId_quiet PySem.F.plain_max_loop _, grow a1 a2 a3 a4 zf him fun i' hi' => ?_⟩
   rw [htake, hj0] at hi'
   have e : i' = i := by simpa using hi'
   rw [e]
   exact Int.le_refl _
  | some b =>
   obtain ⟨u1, u2, rfl, ⟨t1, rfl⟩, ⟨t2, rfl⟩⟩ := xX rv
   show wpAny _ X.A.in1 (tryCatch (holding [.int i t0, .int (kf i) t3] (richCompare .Gt (.int (kf i) t3) (.int (kf b) t2) >>= _)) _ >>= _) _ _ _
   refine wpAny_bind (wpAny_tryCatch (wpAny_holding (wpAny_bind (max_lt ?_))))
   refine wpAny_bind (wpAny_holding (wpAny_truthy_bool ?_))
   refine wpAny_bind (wpAny_letGo (wpAny_pure ?_))
   by_cases hlt : kf i > kf b
   ·simp only [hlt, decide_true, if_true]
    refine wpAny_bind (wpAny_updateSeq eS2 rfl (wpAny_bind (wpAny_letGo ?_)) hz2)
    rw [hname]
    obtain ⟨a1, a2, a3, a4⟩ := put (tx := t0) (ty := t3)
    refine wpAny_pure ⟨plainId_quiet PySem.F.plain_max_loop _, grow a1 a2 a3 a4 zf him fun i' hi' => ?_⟩
    rw [htake] at hi'
    rcases List.mem_append.mp hi' with hi' | hi'
    ·obtain ⟨b', e, hle⟩ := hbest i' hi'
     cases e
     omega
    ·have e : i' = i := by simpa using hi'
     rw [e]
     exact Int.le_refl _
   ·simp only [hlt, decide_false, Bool.false_eq_true, if_false]
    refine wpAny_bind (wpAny_letGo ?_)
    rw [hname]
    refine wpAny_pure ⟨plainId_quiet PySem.F.plain_max_loop _, grow I2 hit2 hs hf hS (hob b rfl) fun i' hi' => ?_⟩
    rw [htake] at hi'
    rcases List.mem_append.mp hi' with hi' | hi'
    ·obtain ⟨b', e, hle⟩ := hbest i' hi'
     cases e
     exact hle
    ·have e : i' = i := by simpa using hi'
     rw [e]
     omega
theorem args_maxK (a v d : Value) : argsOk "max" ⟨[a], [(Str.ofString "key", v), (Str.ofString "default", d)]⟩ := by unfold argsOk; kernel_rfl
def Xk (X : Cx) (P : Addr) (ix : List Nat) (ta te : TE) : TE := fun σ H Q => ta σ H fun x H1 => ∃ (l : Addr) (ns : List Int) (kf : Int → Int), x = .ref l ∧ H1 l = some (.lst (ns.map V.int)) ∧ TabAt H1 P (lamQ X) ∧
 (∀ H', SameB P H1 H' → ∀ i ∈ ns, te (some (.int i) :: sub ix σ) H' (fun y H'' => H'' = H' ∧ y = .int (kf i))) ∧
 ∀ H' ob, SameB P H1 H' → TabAt H' P (lamQ X) → (ob = none → ns = []) → (∀ b, ob = some b → b ∈ ns ∧ ∀ i ∈ ns, kf i ≤ kf b) → Q (ob.elim V.non V.int) H'
theorem pe_maxK {c : Addr} {e : Expr} {ta : TE} {p pos lp kp kp' cp : Pos} {ck : Nat} (hr : Room k X.A) (L : LamOk X c P) (LS : LScope X.env.scope sc v F) (hix : ix.map (fun i => X.N[i]?) = F.map some)
  (hb : ∀ pm c ct u, bindArgs (PySem.W.kla_fn "<lambda>" (lamQ X) ps body sc (cloF X.env sc.names []) pm (.ref c) ct) ⟨[u], []⟩ = pure [(v, u)])
  (he : ∀ cl L f cd A s3 H3 xe, PE (cxL X (v :: F) sc cl L f cd A s3 H3 xe) body te) (ha : PE X e ta) (hm : X.mg "max" = none) (hg : Gl X "max" := by rfl) (hdef : defaultsOf ps X.env = ([], []) := by rfl)
  (hst : starEach [e] X.env = [(false, eval e X.env)] := by rfl) :
  PE X (.Call (.Name "max" p) [e] [⟨some "key", .Lambda ps body sc lp, kp⟩, ⟨some "default", .Constant .none ck cp, kp'⟩] pos) (Xk X P ix ta te) := by
 have hname : (toString "max" ++ toString ".loop" : String) = "max.loop" := by decide
 intro pins s σ H Q I h
 refine wpAny_Call_Name_kw (xC I hg hm PyProof.Rows.boot_max ?_)
 refine PyProof.Rows.callWith_kw (e := e) (rest := []) ?_ (by rw [hst]; rfl) (by rw [hst]; rfl)
 rw [show backTo pos (starEach [e] X.env) = (false, eval e X.env) :: [] by rw [hst]; rfl]
 refine Calls.spliced_cons (thn (ha pins s σ H _ I h) fun u s1 ⟨x, H1, I1, r1, q1⟩ => Calls.spliced_nil ?_)
 obtain ⟨l, ns, kf, rfl, hl, hT, hte, hQ⟩ := q1
 cases r1
 have hk : PK X [⟨some "key", .Lambda ps body sc lp, kp⟩, ⟨some "default", .Constant .none ck cp, kp'⟩] (xi (tLam X ps body sc P) (xi (tC .non) tNil)) := wK (YN L LS.fr hdef) (wK vR YK)
 refine thn (hk pos pins s1 σ H1 (fun zs H2 => ∃ f, zs = [.ref f, .non] ∧ SameB P H1 H2 ∧ TabAt H2 P (lamQ X) ∧ xy X ps body sc H2 f) I1 ⟨hT, fun f H2 h1 h2 h3 _ => ⟨f, rfl, h1, h2, h3⟩⟩) fun ws s2 ⟨zs, H2, I2, rz, f, ez, k12, hT2, hf2⟩ => ?_
 subst ez
 obtain ⟨w1, w2, rfl, rfl, rfl⟩ := xX rz
 show wpAny _ X.A (call (.builtin "max") [.ref l] [(Str.ofString "key", .ref f), (Str.ofString "default", .none)]) _ _ s2
 have hlP : l ≠ P := fun z => by obtain ⟨tb, e, _⟩ := hT; rw [z, e] at hl; cases hl
 have hl2 := k12 l _ hlP hl
 obtain ⟨its, nl, rl, el, zl⟩ := I2.lst hl2
 have hL : s2.heap.IsList l its.toArray := ⟨_, el, rfl, nl, rfl⟩
 refine PyProof.Rows.kmk_tree PySem.F.kind_max PySem.F.plain_max PySem.F.entry_max (args_maxK _ _ _) ?_
 show wpAny _ X.A.in1 (Builtin.Builtins.bindParams "max" ["key", "default"] 0 ⟨[], [(Str.ofString "key", .ref f), (Str.ofString "default", .none)]⟩ >>= _) _ _ s2
 refine wpAny_bind (wpAny_of_eq (show Builtin.Builtins.bindParams "max" ["key", "default"] 0 ⟨[], [(Str.ofString "key", .ref f), (Str.ofString "default", .none)]⟩ = pure [some (.ref f), some .none] from rfl) ?_)
 refine wpAny_bind (wpAny_pure ?_)
 refine wpAny_bind (wpAny_pyIter_list hL ?_)
 refine wpAny_bind (wpAny_newList ?_ (Nat.zero_le _))
 rw [hname]
 have I3 : Inv X pins σ H2 { s2 with heap := s2.heap.push { cls := .type "list_iterator", data := .fields #[.ref l, .int 0 0] } } := I2.kept (t' := s2.toks) fun b o e => Heap.get?_push_of_some _ e
 have hn : H2 s2.heap.objs.size = none := I2.fresh
 have I4 : Inv X ((s2.heap.objs.size, { cls := .type "list_iterator", data := .fields #[.ref l, .int 0 0] }) :: pins) σ H2 { s2 with heap := s2.heap.push { cls := .type "list_iterator", data := .fields #[.ref l, .int 0 0] } } := I3.pins_of fun p hp => by
  rcases List.mem_cons.mp hp with rfl | hp
  ·exact ⟨Heap.get?_push_size _ rfl, hn, Nat.ne_of_gt I2.lt, I2.nofs (Nat.le_refl _), fun v z => by cases z⟩
  ·exact I3.pin p (List.mem_append_right _ hp)
 have I5 := I4.lnew (t' := s2.toks) (its := []) (ys := []) .nil (Nat.zero_le _)
 have hS0 := I3.fresh
 refine wpAny_pure ⟨plainId_quiet PySem.F.plain_max_loop _, maxK_loop (H0 := H2) (ns := ns) (kf := kf) (l := l) (f := f) hr LS hix hb he (fun H' k2 i hi => hte H' (k12.trans fun a o _ e => k2 a o e) i hi) hl2 hS0
  (it := s2.heap.objs.size) I2.sz (fun x c e z => ?_) (fun p hp z => ?_) (Nat.ne_of_gt I2.lt) (I2.nofs (Nat.le_refl _)) (fun ob H' s' u I' k' h1 h2 ru => ?_) _ 0 none _ _ _ rfl (Nat.zero_le _) I5 ⟨_, Heap.get?_push_of_some _ (Heap.get?_push_size _ rfl), rfl, rfl⟩ (fun a o e => by rw [zh (zg e hS0)]; exact e) ?_ zf (fun i hi => by simp at hi) (fun b z => nomatch z)⟩
 ·obtain ⟨v', o, ho, _⟩ := I2.cell x c e
  exact absurd (Heap.lt_size ho) (by rw [z]; exact Nat.lt_irrefl _)
 ·exact absurd (Heap.lt_size (I2.pin p hp).1) (by rw [z]; exact Nat.lt_irrefl _)
 ·exact ⟨_, H', I', ru, hQ H' ob (k12.trans fun a o _ e => k' a o e) (hT2.same k') h1 h2⟩
 ·obtain ⟨pm, c, ct, e1, e2⟩ := hf2
  exact ⟨pm, c, ct, by rw [zh (zg e1 hS0)]; exact e1, by rw [zh (zg e2 hS0)]; exact e2⟩
end
mutual
inductive RdV (H : Hp) : V → PyData → Prop
 | non : RdV H .non .none
 | bl (b : Bool) : RdV H (.bl b) (.bool b)
 | int (i : Int) : RdV H (.int i) (.int i)
 | str (x : Str) : RdV H (.str x) (.str x)
 | lst {p : Addr} {xs : List V} {ds : List PyData} : H p = some (.lst xs) → RdVs H xs ds → RdV H (.ref p) (.list ds)
 | tup {p : Addr} {xs : List V} {ds : List PyData} : H p = some (.tup xs) → RdVs H xs ds → RdV H (.ref p) (.tuple ds)
 | ftup {p : Addr} {o : Obj} {xs : List V} {ds : List PyData} : H p = some (.frz o (.tup xs)) → RdVs H xs ds → RdV H (.ref p) (.tuple ds)
inductive RdVs (H : Hp) : List V → List PyData → Prop
 | nil : RdVs H [] []
 | cons {v : V} {d : PyData} {vs : List V} {ds : List PyData} : RdV H v d → RdVs H vs ds → RdVs H (v :: vs) (d :: ds)
end
section
variable {X : Cx} {pins : List (Addr × Obj)} {σ : St} {H : Hp} {s : Shared}
mutual
theorem RdV.reads (I : Inv X pins σ H s) {v : V} {d : PyData} : RdV H v d → ∀ {u : Value}, RelV v u → ∃ as, Reads s.heap u d as
 | .non, u, r => by
  cases r
  exact ⟨[], .none⟩
 | .bl b, u, r => by
  cases r
  exact ⟨[], .bool b⟩
 | .int i, u, r => by
  obtain ⟨t, rfl⟩ := r
  exact ⟨[], .int i t⟩
 | .str x, u, r => by
  obtain ⟨t, rfl⟩ := r
  exact ⟨[], .str x t⟩
 | .lst (p := p) hp h, u, r => by
  cases r
  obtain ⟨its, n, rv, e, z⟩ := I.lst hp
  obtain ⟨as, q⟩ := RdVs.reads I h rv
  exact ⟨p :: as, .list e rfl rfl (by simpa using q)⟩
 | .tup (p := p) hp h, u, r => by
  cases r
  obtain ⟨z, its, rv, o, e, c, n, d⟩ := I.hok p _ hp
  obtain ⟨as, q⟩ := RdVs.reads I h rv
  exact ⟨as, .tuple e c d (by simpa using q)⟩
 | .ftup (p := p) hp h, u, r => by
  cases r
  obtain ⟨_, z, its, rv, o, e, c, n, d⟩ := I.hok p _ hp
  obtain ⟨as, q⟩ := RdVs.reads I h rv
  exact ⟨as, .tuple e c d (by simpa using q)⟩
theorem RdVs.reads (I : Inv X pins σ H s) {vs : List V} {ds : List PyData} : RdVs H vs ds → ∀ {us : List Value}, Vals vs us → ∃ as, ReadsAll s.heap us ds as
 | .nil, us, r => by
  cases r
  exact ⟨[], .nil⟩
 | .cons h hs, us, r => by
  cases r with
  | cons r1 r2 =>
   obtain ⟨as, q⟩ := RdV.reads I h r1
   obtain ⟨bs, q2⟩ := RdVs.reads I hs r2
   exact ⟨as ++ bs, .cons q q2⟩
end
end
theorem vO {H : Hp} : ∀ (ns : List Int), RdVs H (ns.map V.int) (ns.map PyData.int)
 | [] => .nil
 | n :: ns => .cons (.int n) (vO ns)
section
variable {X : Cx} {k : Nat}
def rRepr : List V → Hp → VK → Prop := fun xs H Q => ∃ v d, xs = [v] ∧ RdV H v d ∧ d.showable = true ∧ d.hasDict = false ∧ d.depth ≤ 50 ∧ d.shown.length ≤ sizeLine ∧ Q (.str d.shown) H
theorem vB (hr : Room k X.A) : zT X (.builtin "repr") rRepr := by
 intro pins s σ H xs us Q I r h
 obtain ⟨v, d, rfl, hv, h1, h2, h3, h4, q⟩ := h
 obtain ⟨u, rfl, ru⟩ := r.one
 have hu := hr.units
 cases hv with
 | non =>
  cases ru
  exact PySem.P.repr_of_none ⟨.str _, H, I.tok _, ⟨_, rfl⟩, q⟩
 | bl b =>
  cases ru
  exact PySem.P.repr_of_bool ⟨.str _, H, I.tok _, ⟨_, rfl⟩, q⟩
 | int i =>
  obtain ⟨t, rfl⟩ := ru
  exact PySem.P.repr_of_int (by simpa [PyData.showable] using h1) ⟨.str _, H, I.tok _, ⟨_, rfl⟩, q⟩
 | str x =>
  obtain ⟨t, rfl⟩ := ru
  exact PySem.P.repr_of_str ⟨.str _, H, I.tok _, ⟨_, rfl⟩, q⟩ h4
 | lst hp hs =>
  obtain ⟨as, ra⟩ := RdV.reads I (.lst hp hs) ru
  cases ru
  exact repr_of_reads' ra h1 (fun z => by rw [h2] at z; cases z) hr.gd (by omega) (fun _ _ e => e) (fun h' u tk hk => ⟨.str _, H, I.kept hk, ⟨_, rfl⟩, q⟩) h4
 | tup hp hs =>
  obtain ⟨as, ra⟩ := RdV.reads I (.tup hp hs) ru
  cases ru
  exact repr_of_reads' ra h1 (fun z => by rw [h2] at z; cases z) hr.gd (by omega) (fun _ _ e => e) (fun h' u tk hk => ⟨.str _, H, I.kept hk, ⟨_, rfl⟩, q⟩) h4
 | ftup hp hs =>
  obtain ⟨as, ra⟩ := RdV.reads I (.ftup hp hs) ru
  cases ru
  exact repr_of_reads' ra h1 (fun z => by rw [h2] at z; cases z) hr.gd (by omega) (fun _ _ e => e) (fun h' u tk hk => ⟨.str _, H, I.kept hk, ⟨_, rfl⟩, q⟩) h4
end
theorem Zu : ∀ (ns ms : List Int), PyData.eqvAll (ns.map PyData.int) (ms.map PyData.int) = decide (ns = ms)
 | [], [] => by simp only [List.map_nil, PyData.eqvAll, decide_true]
 | [], m :: ms => by simp [PyData.eqvAll]
 | n :: ns, [] => by simp [PyData.eqvAll]
 | n :: ns, m :: ms => by
  simp only [List.map_cons, PyData.eqvAll, PyData.eqv, Zu ns ms]
  by_cases h : n = m
  ·subst h; simp
  ·simp [h]
theorem vb : ∀ (ns : List Int), PyData.canLayAll0 (ns.map PyData.int) = true
 | [] => rfl
 | n :: ns => by simp [PyData.canLayAll0, PyData.canLay0, vb ns]
theorem vh : ∀ (ns : List Int), PyData.depthAll (ns.map PyData.int) = 0
 | [] => rfl
 | n :: ns => by simp [PyData.depthAll, PyData.depth, vh ns]
section
variable {X : Cx}
theorem ZT : ∀ {xs : List V} {us : List Value}, xs.length = us.length → (∀ (j : Nat) (x : V) (u : Value), xs[j]? = some x → us[j]? = some u → RelV x u) → Vals xs us
 | [], [], _, _ => .nil
 | [], v :: vs, h, _ => absurd h (by simp)
 | v :: vs, [], h, _ => absurd h (by simp)
 | x :: xs, u :: us, h, k => .cons (k 0 x u rfl rfl) (ZT (by simpa using h) fun j y v e1 e2 => k (j + 1) y v (by simpa using e1) (by simpa using e2))
def rRange : List V → Hp → VK → Prop := fun xs H Q => ∃ j : Int, xs = [.int j] ∧ ∀ r, H r = none → Q (.ref r) (upd H r (.rng 0 j))
theorem call_rangeV : zT X (.type "range") rRange := by
 intro pins s σ H xs us Q I r h
 obtain ⟨j, rfl, q⟩ := h
 obtain ⟨u, rfl, ru⟩ := r.one
 obtain ⟨t, rfl⟩ := ru
 refine call_range_1 ⟨.ref _, _, I.laid (fun b o e => Heap.get?_push_of_some _ e) (Nat.le_refl _) ?_, rfl, q _ I.fresh⟩
 exact ⟨_, _, _, Heap.get?_push_size _ rfl⟩
def rListR : List V → Hp → VK → Prop := fun xs H Q => ∃ (p : Addr) (n : Nat), xs = [.ref p] ∧ H p = some (.rng 0 (n : Int)) ∧ n ≤ 1000 ∧ ∀ l, H l = none → Q (.ref l) (upd H l (.lst ((List.range n).map fun (i : Nat) => V.int (i : Int))))
theorem call_listRng (hc : X.calm = true) : zT X (.type "list") rListR := by
 intro pins s σ H xs us Q I r h
 obtain ⟨p, n, rfl, hp, hn, q⟩ := h
 obtain ⟨u, rfl, ru⟩ := r.one
 cases ru
 obtain ⟨t, u, v, e⟩ := I.hok p _ hp
 refine call_list_range (n := n) (I.ok.hd hc) e (small_one (by omega) (by omega) (by omega) (by omega)) (by rw [rangeSize_one]; split <;> omega) (by omega) fun h' tk acc' c' hk hS hacc => ?_
 refine ⟨.ref _, _, I.laid (t' := tk) hk (Nat.le_refl _) ?_, rfl, q _ I.fresh⟩
 obtain ⟨hsz, hit⟩ := hacc
 refine ⟨by rw [List.length_map, List.length_range]; exact Nat.le_of_lt (zA hn), acc'.toList, c', ZT (by simp [hsz]) fun j x u ex eu => ?_, hS⟩
 have hj : j < n := by
  have := (List.getElem?_eq_some_iff.mp ex).1
  simpa using this
 rw [List.getElem?_map, List.getElem?_range hj] at ex
 have ex' : V.int (j : Int) = x := Option.some.inj ex
 subst ex'
 obtain ⟨t, ht⟩ := hit j u (by simpa using eu)
 exact ⟨t, by rw [ht]; congr 1; omega⟩
theorem Yk : ∀ {ns : List Int} {us : List Value}, Vals (ns.map V.int) us → ∃ xs : List (Int × Tok), us = xs.map (fun q => Value.int q.1 q.2) ∧ xs.map (·.1) = ns
 | [], us, r => by
  cases r
  exact ⟨[], rfl, rfl⟩
 | n :: ns, us, r => by
  cases r with
  | cons r1 r2 =>
   obtain ⟨t, rfl⟩ := r1
   obtain ⟨xs, rfl, e⟩ := Yk r2
   exact ⟨(n, t) :: xs, rfl, by simp [e]⟩
def rSum : List V → Hp → VK → Prop := fun xs H Q => ∃ (p : Addr) (ns : List Int), xs = [.ref p] ∧ H p = some (.lst (ns.map V.int)) ∧ Q (.int ns.sum) H
theorem xr (hc : X.calm = true) : zT X (.builtin "sum") rSum := by
 intro pins s σ H xs us Q I r h
 obtain ⟨p, ns, rfl, hp, q⟩ := h
 obtain ⟨u, rfl, ru⟩ := r.one
 cases ru
 obtain ⟨its, n, rv, e, z⟩ := I.lst hp
 obtain ⟨ys, rfl, hy⟩ := Yk rv
 have hl : s.heap.IsList p (intItems ys.toArray) := ⟨_, e, rfl, n, by simp [intItems]⟩
 refine sum_intListG (I.ok.hd hc) hl fun h' tk t' hk => ⟨.int ns.sum, H, I.kept hk, ⟨t', ?_⟩, q⟩
 congr 1
 have hlen : ys.length = ns.length := by rw [← hy, List.length_map]
 rw [preSum_eq]
 simp [hy, hlen]
end
section
variable {X : Cx} {pins : List (Addr × Obj)} {σ : St} {H : Hp} {s : Shared}
theorem Inv.turnNew {h' : Heap} {tk : Nat} {ch : List Addr} {T : Addr} {xs : List V} {vals : List Value} (I : Inv X pins σ H s) (hf : ∀ b ∈ ch, FpOk X pins H b) (k : ∀ b o, b ∉ ch → s.heap.get? b = some o → h'.get? b = some o) (ht : ∀ b ∈ ch, ∃ o, h'.get? b = some o)
  (hT : s.heap.objs.size ≤ T) (r : Vals xs vals) (hz : xs.length ≤ sizeLine) (hv : h'.IsTuple T vals.toArray) : Inv X pins σ (upd H T (.tup xs)) { s with heap := h', toks := tk } := by
 have hn : H T = none := I.hok.fresh hT
 have nT : ∀ b o, s.heap.get? b = some o → b ≠ T := fun b o e z => absurd (Nat.lt_of_lt_of_le (Heap.lt_size e) (z ▸ hT)) (Nat.lt_irrefl _)
 have nc : ∀ b u, H b = some u → b ∉ ch := fun b u e z => by rw [(hf b z).1] at e; cases e
 refine I.step (g' := s.gens) (d' := s.drawn) (ch := ch) (fun b hb => ⟨(hf b hb).2.2.2.1, (hf b hb).2.1, (hf b hb).2.2.2.2.1, (hf b hb).2.2.2.2.2⟩) (fun b o _ _ hc e _ => k b o hc e) (fun b o _ _ hc e _ => ⟨o.slots, k b o hc e⟩)
  (fun b o _ e n => by rw [zh (nT b o e)]; exact n) (fun b o hc e => ⟨o, k b o hc e⟩) (fun b ys e => by rw [zh (zg e hn)]; exact e) (fun b o u e => by rw [zh (zg e hn)]; exact e)
  (fun b ps e => ⟨#[], by rw [zh (zg e hn), e]; simp⟩) (fun m hm => ?_) (fun b u e => ?_) I.bare
 ·obtain ⟨o, es, ep, ho, q⟩ := hm
  exact ⟨o, es, ep, k _ o (fun z => (hf _ z).2.1 rfl) ho, q⟩
 ·by_cases hb : b = T
  ·subst hb
   rw [zf] at e
   cases e
   exact ⟨hz, vals, r, hv⟩
  ·rw [zh hb] at e
   refine (I.hok b u e).stay (fun c v hc q => k c v ?_ q) (fun c q => by rw [zh (zg q hn)]; exact q) fun c ys q => by rw [zh (zg q hn)]; exact q
   rcases hc with z | z
   ·rw [z]; exact nc b u e
   ·exact nc c _ z
theorem Inv.turnOnly {h' : Heap} {tk : Nat} {ch : List Addr} (I : Inv X pins σ H s) (hf : ∀ b ∈ ch, FpOk X pins H b) (k : ∀ b o, b ∉ ch → s.heap.get? b = some o → h'.get? b = some o) : Inv X pins σ H { s with heap := h', toks := tk } := by
 have nc : ∀ b u, H b = some u → b ∉ ch := fun b u e z => by rw [(hf b z).1] at e; cases e
 refine I.step (g' := s.gens) (d' := s.drawn) (ch := ch) (fun b hb => ⟨(hf b hb).2.2.2.1, (hf b hb).2.1, (hf b hb).2.2.2.2.1, (hf b hb).2.2.2.2.2⟩) (fun b o _ _ hc e _ => k b o hc e) (fun b o _ _ hc e _ => ⟨o.slots, k b o hc e⟩)
  (fun b o _ e n => n) (fun b o hc e => ⟨o, k b o hc e⟩) (fun b ys e => e) (fun b o u e => e) (fun b ps e => ⟨#[], by rw [e]; simp⟩) (fun m hm => ?_) (fun b u e => ?_) I.bare
 ·obtain ⟨o, es, ep, ho, q⟩ := hm
  exact ⟨o, es, ep, k _ o (fun z => (hf _ z).2.1 rfl) ho, q⟩
 ·refine (I.hok b u e).stay (fun c v hc q => k c v ?_ q) (fun c q => q) fun c ys q => q
  rcases hc with z | z
  ·rw [z]; exact nc b u e
  ·exact nc c _ z
end
structure Apart3 (z TI TO i1 i2 i3 l1 l2 l3 : Addr) : Prop where
 nz : TI ≠ z ∧ TO ≠ z ∧ i1 ≠ z ∧ i2 ≠ z ∧ i3 ≠ z
 nI : TI ≠ TO ∧ TI ≠ i1 ∧ TI ≠ i2 ∧ TI ≠ i3
 nO : TO ≠ i1 ∧ TO ≠ i2 ∧ TO ≠ i3
 ni : i1 ≠ i2 ∧ i1 ≠ i3 ∧ i2 ≠ i3
 l1 : l1 ≠ z ∧ l1 ≠ TO ∧ l1 ≠ i1 ∧ l1 ≠ i2 ∧ l1 ≠ i3
 l2 : l2 ≠ z ∧ l2 ≠ TO ∧ l2 ≠ i1 ∧ l2 ≠ i2 ∧ l2 ≠ i3
 l3 : l3 ≠ z ∧ l3 ≠ TO ∧ l3 ≠ i1 ∧ l3 ≠ i2 ∧ l3 ≠ i3
section
variable {ta : TA} {tl : TE} {n : Nat} {ix : List Nat} {g : TG} {tc : TT} {te : TE} {σ : St} {H : Hp} {Q : VK}
theorem yD {K : W.Frag} (h : tl σ H fun x H1 => ∃ a, x = .ref a ∧ (∃ xs, SqL K H1 a xs) ∧ ∀ D, H1 D = none → CGo (Itl K a) D g tc te Q (List.replicate n none ++ sub ix σ) H1) : wS (Ym K tl) n ix g tc te σ H Q := h
end
section
variable {X : Cx}
def rIsI (K : W.Frag) : List V → Hp → VK → Prop := fun xs H Q => ∃ v n t b, xs = [v, .ty n] ∧ TyOf K H v t ∧ PySem.W.kitOne K t (.type n) = some b ∧ Q (.bl b) H
theorem ZA : zT X (.builtin "isinstance") (rIsI X.K) := by
 intro pins s σ H xs us Q I r h
 obtain ⟨v, n, t, b, rfl, ty, e, q⟩ := h
 cases r with
 | cons r1 r2 =>
  obtain ⟨u, rfl, ru⟩ := Vals.one r2
  cases ru
  exact isinst_ok I r1 ty e fun tk => ⟨.bl b, H, I.kept (t' := tk) fun _ _ e => e, rfl, q⟩
theorem kit_ii (K : W.Frag) : PySem.W.kitOne K (.type "int") (.type "int") = some true := by rfl
theorem kit_ib (K : W.Frag) : PySem.W.kitOne K (.type "int") (.type "bool") = some false := by rfl
end
section
variable {σ : St} {H : Hp} {Q : VK} {te ta tb tc : TE} {r r' : R2} {tl th : TO}
theorem w_sl {r : V → Option Int → Option Int → Hp → VK → Prop} (h : te σ H fun x H1 => tl σ H1 fun l H2 => th σ H2 fun u H3 => r x l u H3 Q) : tSl r te tl th σ H Q := h
theorem ym {QO : Option Int → Hp → Prop} (h : QO none H) : ZV σ H QO := h
theorem y0 {QO : Option Int → Hp → Prop} (h : te σ H fun x H1 => ∃ i, x = .int i ∧ QO (some i) H1) : Xf te σ H QO := h
end
theorem zX {X : Cx} {sc : Scope} {N : List Str} {cl : List (Str × Addr)} {C : Addr} {fp : List Addr} {s3 : Shared} {H3 : Hp} {xe : Value → Shared → Prop} {es : List Expr} {k n : Nat} {pos : Pos} {t : TGs} (hc : X.calm = true) (h : PGs (cxC X N sc cl C fp s3 H3 xe) es t)
  (hn : (assignEach es (cxC X N sc cl C fp s3 H3 xe).env).length = n := by rfl) (hst : (assignEach es (cxC X N sc cl C fp s3 H3 xe).env).findIdx? (·.1) = none := by rfl) : PG (cxC X N sc cl C fp s3 H3 xe) (.Tuple es k pos) (gTup X.K n t) := vQ (X := cxC X N sc cl C fp s3 H3 xe) hc h hn hst
theorem seq_post {t u : TS} {D : Ends} {σ : St} {H : Hp} (Post : St → Hp → Prop) (h2 : ∀ σ' H', Post σ' H' → u D σ' H') (h1 : (∀ σ' H', Post σ' H' → u D σ' H') → t { D with nx := u D } σ H) : tSeq t u D σ H := h1 h2
theorem wg {σ : St} {H : Hp} {Q : VK} {g : Int → V} {ta : TE} (h : ta σ H fun x H1 => ∃ i, x = .int i ∧ Q (g i) H1) : tUn (rU g) ta σ H Q := h
end L2
namespace G2
open PySem L2
structure TK (H H' : Hp) : Prop where
 t : ∀ q xs, H q = some (.tup xs) → H' q = some (.tup xs)
 f : ∀ q o u, H q = some (.frz o u) → H' q = some (.frz o u)
section
variable {p l : Addr} {H H' H'' : Hp} {o : HO}
theorem TK.lst {ys : List V} (h : H l = some (.lst ys)) : TK H (upd H l o) := ⟨fun q xs e => by rw [zh (Xq e h (by intro z; cases z))]; exact e, fun q ob u e => by rw [zh (Xq e h (by intro z; cases z))]; exact e⟩
theorem TK.same (k : Same H H') : TK H H' := ⟨fun _ _ e => k _ _ e, fun _ _ _ e => k _ _ e⟩
end
theorem _root_.L2.Same.new {H H' : Hp} {l : Addr} {o : HO} (k : Same H H') (h : H' l = none) : Same H (upd H' l o) := fun b u e => by
 rw [zh (zg (k b u e) h)]
 exact k b u e
theorem _root_.L2.Same.put {H H' : Hp} {l : Addr} {o : HO} (k : Same H H') (h : H l = none) : Same H (upd H' l o) := fun b u e => by
 rw [zh (zg e h)]
 exact k b u e
structure Tp (H : Hp) (p l : Addr) (ns : List Int) : Prop where
 ex : ∃ c e : Int, H p = some (.lst [.ref l, .int c, .int e])
 hl : H l = some (.lst (ns.map V.int))
 ne : p ≠ l
def Sm (i : Int) : Prop := -1000000000000000 < i ∧ i < 1000000000000000
theorem len_tup (ds : List PyData) : (PyData.shown (.tuple ds)).length ≤ ((PyData.shownAll ds).map (·.length)).sum + 2 * (PyData.shownAll ds).length + 3 := tupleText_len_le _
structure Shw (d : PyData) (n h : Nat) : Prop where
 s : d.showable = true
 nd : d.hasDict = false
 p : d.depth ≤ h
 l : d.shown.length ≤ n
theorem Shw.up {d : PyData} {n h m i : Nat} (x : Shw d n h) (h1 : n ≤ m) (h2 : h ≤ i) : Shw d m i := ⟨x.s, x.nd, Nat.le_trans x.p h2, Nat.le_trans x.l h1⟩
end G2
namespace L2
open PySem PySem.Spec PyProof.Rows
theorem zG {X : Cx} : OpR X (binaryOp .Mult) (rI IntMulOk fun i j => .int (i * j)) := opI fun _ _ _ _ _ _ _ hc q => mul_int q hc
end L2
namespace G2
open PySem L2
def Bg (i : Int) : Prop := i.natAbs < 10 ^ 90
theorem Bg.log {i : Int} (h : Bg i) : i.natAbs.log2 < 1920 := by
 unfold Bg at h
 by_cases h0 : i.natAbs = 0
 ·rw [h0]
  decide
 ·exact (Nat.log2_lt h0).mpr (Nat.lt_of_lt_of_le h (by decide +kernel))
theorem Bg.len {n : Int} (h : Bg n) : (PyData.shown (.int n)).length ≤ 91 := by
 have := int_text_length_le10 (a := n) (k := 90) (by decide) h
 show (Str.ofString (toString n)).length ≤ 91
 rw [ofString_length]
 exact this
theorem Shw.big {i : Int} (h : Bg i) : Shw (.int i) 91 0 := ⟨by simp only [PyData.showable, decide_eq_true h.log], rfl, Nat.zero_le _, h.len⟩
section
variable {X : Cx} {k : Nat}
def rNeD : R2 := fun x y H Q => ∃ dx dy, RdV H x dx ∧ RdV H y dy ∧ dx.canLay0 = true ∧ dy.canLay0 = true ∧ dx.depth ≤ 60 ∧ Q (.bl (!PyData.eqv dx dy)) H
theorem op_neD (hr : Room k X.A) : OpR X (compareOp .NotEq) rNeD := by
 intro pins s σ H x y v u Q I rx ry h
 obtain ⟨dx, dy, hx, hy, cx, cy, hd, q⟩ := h
 obtain ⟨as, ra⟩ := hx.reads I rx
 obtain ⟨bs, rb⟩ := hy.reads I ry
 have := hr.units
 exact SeqAt.compareNe_reads ra rb cx cy (by omega) ⟨.bl _, H, I, rfl, q⟩
end
structure Fm where
 ins : List Int
 sts : List Int
 plus : Int
structure FmOk (n m : Nat) (B : Int) (f : Fm) : Prop where
 li : f.ins.length = n
 ls : f.sts.length = m
 bi : ∀ x ∈ f.ins, -B ≤ x ∧ x ≤ B
 bs : ∀ x ∈ f.sts, -B ≤ x ∧ x ≤ B
 bp : -B ≤ f.plus ∧ f.plus ≤ B
end G2
namespace L2
open PySem PySem.Spec PyProof.Rows
def isI (i : Int) : Value → Bool
 | .int a _ => a == i
 | _ => false
theorem Zz {D : Addr} {tc : TT} {te : TE} {Q : VK} {ρ : St} {H : Hp} {K : W.Frag} {a : Addr} {xs : List V} (Pv : Nat → List V → Hp → Prop) (h0 : Pv 0 [] (upd H D (.lst []))) (hl : ∀ i ys H', i ≤ xs.length → Pv i ys H' → SqL K H' a xs)
  (hs : ∀ i x ys H', xs[i]? = some x → Pv i ys H' → H' D = some (.lst ys) → ∀ (R : V → Hp → Prop) (S : Hp → Prop), (∀ y H4, H4 D = some (.lst ys) → ys.length < sizeLine → Pv (i + 1) (ys ++ [y]) (upd H4 D (.lst (ys ++ [y]))) → R y H4) → (∀ H3, H3 D = some (.lst ys) → Pv (i + 1) ys H3 → S H3) →
   tc (some x :: ρ) H' fun b H3 => if b = true then te (some x :: ρ) H3 R else S H3)
  (hd : ∀ ys H', Pv xs.length ys H' → H' D = some (.lst ys) → Q (.ref D) H') : CGo (Itl K a) D (zB 0) tc te Q (none :: ρ) H := by
 refine ⟨fun i m τ ys H' => m = xs.length - i ∧ i ≤ xs.length ∧ (∃ tv, τ = tv :: ρ) ∧ Pv i ys H' ∧ H' D = some (.lst ys), ⟨xs.length, by omega, Nat.zero_le _, ⟨_, rfl⟩, h0, zf⟩, ?_⟩
 rintro i m τ ys H' ⟨rfl, hi, ⟨tv, rfl⟩, hp, hD⟩
 refine ⟨hD, ?_⟩
 have sq := hl i ys H' hi hp
 by_cases hlt : i < xs.length
 ·refine .inr ⟨⟨xs, xs[i], sq, by simp [hlt]⟩, ?_⟩
  rintro v H'' ⟨rfl, hv⟩
  have hv' := hv xs sq
  show tc (some v :: ρ) _ _
  exact hs i v ys _ hv' hp hD _ _ (fun y H4 a b c => ⟨a, b, xs.length - (i + 1), by omega, rfl, hlt, ⟨_, rfl⟩, c, zf⟩) fun H3 a c => ⟨xs.length - (i + 1), by omega, rfl, hlt, ⟨_, rfl⟩, c, a⟩
 ·have e : i = xs.length := by omega
  subst e
  exact .inl ⟨⟨xs, sq, Nat.le_refl _⟩, hd ys _ hp hD⟩
def Itzl (K : W.Frag) (a b : Addr) : It :=
 ⟨fun i H => ∃ xs ys x y, SqL K H a xs ∧ SqL K H b ys ∧ xs[i]? = some x ∧ ys[i]? = some y, fun i H v H' => ∃ p x y, v = .ref p ∧ H p = none ∧ H' = upd H p (.tup [x, y]) ∧ (∀ xs, SqL K H a xs → xs[i]? = some x) ∧ ∀ ys, SqL K H b ys → ys[i]? = some y,
  fun i H => ∃ xs ys, SqL K H a xs ∧ SqL K H b ys ∧ (xs.length ≤ i ∨ ys.length ≤ i)⟩
theorem turn_zpl {P : Program} {w : World} {K : W.Frag} {es : List Expr} {kt : Nat} {pt : Pos} (a b z TI TO i1 i2 : Addr) (D : ZipApart z TI TO i1 i2 a b) :
  Turn P w K (.Tuple es kt pt) (Itzl K a b) [z, TI, TO, i1, i2] z (fun i h => IsZip h z TI TO .none ∧ IsPair h TI (.ref i1) (.ref i2) ∧ (∃ u v, IsPair h TO u v) ∧ h.IsListIter i1 a i ∧ h.IsListIter i2 b i) where
 mem := by simp
 obj := fun i h st q hq => by
  obtain ⟨hz, hI, ⟨u, v, hO⟩, ⟨o1, e1, c1, d1⟩, ⟨o2, e2, c2, d2⟩⟩ := st
  simp only [List.mem_cons, List.not_mem_nil, or_false] at hq
  rcases hq with rfl | rfl | rfl | rfl | rfl
  ·exact ⟨_, hz, fun v y => by have y' : Data.fields _ = Data.cell v := y; cases y'⟩
  ·exact ⟨_, hI, fun v y => by have y' : Data.seq _ _ = Data.cell v := y; cases y'⟩
  ·exact ⟨_, hO, fun v y => by have y' : Data.seq _ _ = Data.cell v := y; cases y'⟩
  ·exact ⟨o1, e1, fun v y => by rw [d1] at y; cases y⟩
  ·exact ⟨o2, e2, fun v y => by rw [d2] at y; cases y⟩
 keep := fun i h h' st k => ⟨k z (by simp) _ st.1, k TI (by simp) _ st.2.1, let ⟨u, v, q⟩ := st.2.2.1; ⟨u, v, k TO (by simp) _ q⟩, st.2.2.2.1.at fun o x => k i1 (by simp) o x, st.2.2.2.2.at fun o x => k i2 (by simp) o x⟩
 item := by
  intro X hP hw hK hc i pins s σ H E I hf st hg
  subst hP hw hK
  obtain ⟨xs, ys, x, y, hqa, hqb, hx, hy⟩ := hg
  obtain ⟨ia, rva, pa, za⟩ := I.list hqa
  obtain ⟨ib, rvb, pb, zb⟩ := I.list hqb
  obtain ⟨u, hu, ru⟩ := rva.get hx
  obtain ⟨v, hv, rv⟩ := rvb.get hy
  obtain ⟨hz, hI, ⟨ou, ov, hO⟩, h1, h2⟩ := st
  refine wpAny_pyNext_zip_item D hz hI hO h1 h2 pa.isList pb.isList (x := u) (y := v) (by simpa using hu) (by simpa using hv) fun h' z' o' a' b' t' _ k' => ?_
  refine ⟨_, rfl, wpAny_letOwnedTupleGo_zip z' fun h'' z'' sb => ?_⟩
  have nz : s.heap.objs.size ≠ z := Nat.ne_of_gt (Heap.lt_size hz)
  have nTO : s.heap.objs.size ≠ TO := Nat.ne_of_gt (Heap.lt_size hO)
  have nTI : s.heap.objs.size ≠ TI := Nat.ne_of_gt (Heap.lt_size hI)
  have n1 : s.heap.objs.size ≠ i1 := by obtain ⟨o, e, _⟩ := h1; exact Nat.ne_of_gt (Heap.lt_size e)
  have n2 : s.heap.objs.size ≠ i2 := by obtain ⟨o, e, _⟩ := h2; exact Nat.ne_of_gt (Heap.lt_size e)
  have up : ∀ q o, q ≠ z → h'.get? q = some o → h''.get? q = some o := fun q o hq e => (sb.2 q hq).trans e
  have hI'' : IsPair h'' TI (.ref i1) (.ref i2) := up _ _ D.TIz (k' TI _ D.TIz D.TITO D.TIi1 D.TIi2 hI)
  have I2 : Inv X pins σ (upd H s.heap.objs.size (.tup [x, y])) { s with heap := h'', toks := s.toks } := I.turnNew (ch := [z, TI, TO, i1, i2]) hf (fun q o hq e => by
   simp only [List.mem_cons, List.not_mem_nil, or_false, not_or] at hq
   exact up q o hq.1 (k' q o hq.1 hq.2.2.1 hq.2.2.2.1 hq.2.2.2.2 e)) (fun q hq => by
   simp only [List.mem_cons, List.not_mem_nil, or_false] at hq
   rcases hq with rfl | rfl | rfl | rfl | rfl
   ·exact ⟨_, z''⟩
   ·exact ⟨_, hI''⟩
   ·exact ⟨_, up _ _ D.TOz o'⟩
   ·obtain ⟨o, e, _⟩ := a'; exact ⟨o, up _ o D.i1z e⟩
   ·obtain ⟨o, e, _⟩ := b'; exact ⟨o, up _ o D.i2z e⟩) (Nat.le_refl _) (vals := [u, v]) (.cons ru (.cons rv .nil)) (sz2) ⟨_, up _ _ nz t', rfl, _, rfl⟩
  refine ⟨.ref s.heap.objs.size, _, I2, rfl, ⟨_, x, y, rfl, I.fresh, rfl, fun zs hzs => by rw [I.list_inj hzs hqa]; exact hx, fun zs hzs => by rw [I.list_inj hzs hqb]; exact hy⟩,
   ⟨z'', hI'', ⟨_, _, up _ _ D.TOz o'⟩, a'.at fun o e => up _ o D.i1z e, b'.at fun o e => up _ o D.i2z e⟩, fun q hq => ?_⟩
  have hq0 := (hf q hq).1
  simp only [List.mem_cons, List.not_mem_nil, or_false] at hq
  rw [zh]
  ·exact hq0
  ·rcases hq with rfl | rfl | rfl | rfl | rfl
   ·exact Ne.symm nz
   ·exact Ne.symm nTI
   ·exact Ne.symm nTO
   ·exact Ne.symm n1
   ·exact Ne.symm n2
 done := by
  intro X hP hw hK hc i pins s σ H E I hf st hg
  subst hP hw hK
  obtain ⟨xs, ys, hqa, hqb, hx⟩ := hg
  obtain ⟨ia, rva, pa, za⟩ := I.list hqa
  obtain ⟨ib, rvb, pb, zb⟩ := I.list hqb
  obtain ⟨hz, hI, ⟨ou, ov, hO⟩, h1, h2⟩ := st
  have la := rva.length
  have lb := rvb.length
  refine wpAny_pyNext_zip_end (I.ok.hd hc) D hz hI hO h1 h2 pa.isList pb.isList (hx.elim (fun q => .inl (by simp; omega)) fun q => .inr (by simp; omega)) fun h' k' => ?_
  refine ⟨rfl, I.turnOnly (tk := s.toks) hf fun q o hq e => ?_⟩
  simp only [List.mem_cons, List.not_mem_nil, or_false, not_or] at hq
  exact k' q o hq.1 hq.2.2.1 hq.2.2.2.1 hq.2.2.2.2 e
 self := fun _ _ s _ _ st h => wpAny_pyIter_zip st.1 h
section
variable {X : Cx} {es : List Expr} {kt : Nat} {pt : Pos}
def iZpl (K : W.Frag) (ta : TA) : TI := fun σ H R => ta σ H fun vs H1 => ∃ a b, vs = [.ref a, .ref b] ∧ (∃ xs, SqL K H1 a xs) ∧ (∃ ys, SqL K H1 b ys) ∧ R (Itzl K a b) H1
theorem ZH {e e' : Expr} {ta : TA} {p pos : Pos} (hm : X.mg "zip" = none) (ha : PA X [e, e'] ta) (hg : Gl X "zip" := by rfl) (h : zV e = false := by rfl) (h' : zV e' = false := by rfl) : PI X (.Tuple es kt pt) (.Call (.Name "zip" p) [e, e'] [] pos) (iZpl X.K ta) := by
 intro pins s σ H R I hh
 refine Call_ (xC I hg hm boot_zip (PyProof.Rows.callWith_type1 (thn (ha pos pins s σ H _ I hh) fun us s1 ⟨vs, H1, I1, r1, q1⟩ => ?_) (wA h) (xj (by simp [h']))))
 obtain ⟨a, b, rfl, ⟨xs, hqa⟩, ⟨ys, hqb⟩, q⟩ := q1
 cases r1 with
 | cons ru r2 =>
  cases r2 with
  | cons rv r3 =>
   cases r3
   cases ru
   cases rv
   obtain ⟨ia, rva, pa, za⟩ := I1.list hqa
   obtain ⟨ib, rvb, pb, zb⟩ := I1.list hqb
   have la : a < s1.heap.objs.size := by obtain ⟨o, _, e, _⟩ := pa; exact Heap.lt_size e
   have lb : b < s1.heap.objs.size := by obtain ⟨o, _, e, _⟩ := pb; exact Heap.lt_size e
   refine call_zip_2 (xs := ia.toArray) (ys := ib.toArray) pa.isList pb.isList fun g hz hI hO j1 j2 _ hk => wpAny_pyIter_zip hz ?_
   refine ⟨_, [s1.heap.objs.size + 4, s1.heap.objs.size + 2, s1.heap.objs.size + 3, s1.heap.objs.size, s1.heap.objs.size + 1], _, _, H1, rfl, I1.kept (t' := s1.toks) hk, turn_zpl a b _ _ _ _ _ (zipApart_new la lb), ⟨hz, hI, ⟨_, _, hO⟩, j1, j2⟩, fun q hq => ?_, by assumption⟩
   have hq' : s1.heap.objs.size ≤ q := by
    simp only [List.mem_cons, List.not_mem_nil, or_false] at hq
    rcases hq with z | z | z | z | z <;> rw [z] <;> first | exact Nat.le_refl _ | exact Nat.le_add_right _ _
   exact I1.fpOk hq' (I1.hok.fresh hq')
end
section
variable {D : Addr} {te : TE} {tc : TT} {Q : VK} {ρ : St} {H : Hp}
theorem cgo_zpl {K : W.Frag} {a b : Addr} {xs zs : List V} {n : Nat} (n1 : n ≤ xs.length) (n2 : n ≤ zs.length) (n3 : xs.length ≤ n ∨ zs.length ≤ n) (Pv : Nat → List V → Hp → Prop) (h0 : Pv 0 [] (upd H D (.lst []))) (hl : ∀ i ys H', i ≤ n → Pv i ys H' → SqL K H' a xs ∧ SqL K H' b zs)
  (hs : ∀ i x z ys H' p, i < n → xs[i]? = some x → zs[i]? = some z → Pv i ys H' → H' D = some (.lst ys) → H' p = none → ∀ (R : V → Hp → Prop) (S : Hp → Prop), (∀ y H4, H4 D = some (.lst ys) → ys.length < sizeLine → Pv (i + 1) (ys ++ [y]) (upd H4 D (.lst (ys ++ [y]))) → R y H4) → (∀ H3, H3 D = some (.lst ys) → Pv (i + 1) ys H3 → S H3) →
   tc (some x :: some z :: ρ) (upd H' p (.tup [x, z])) fun b H3 => if b = true then te (some x :: some z :: ρ) H3 R else S H3)
  (hd : ∀ ys H', Pv n ys H' → H' D = some (.lst ys) → Q (.ref D) H') : CGo (Itzl K a b) D (gTup K 2 (z0 (zB 0) (z0 (zB 1) gNil))) tc te Q (none :: none :: ρ) H := by
 refine ⟨fun i m τ ys H' => m = n - i ∧ i ≤ n ∧ (∃ tv tw, τ = tv :: tw :: ρ) ∧ Pv i ys H' ∧ H' D = some (.lst ys), ⟨n, by omega, Nat.zero_le _, ⟨_, _, rfl⟩, h0, zf⟩, ?_⟩
 rintro i m τ ys H' ⟨rfl, hi, ⟨tv, tw, rfl⟩, hp, hD⟩
 refine ⟨hD, ?_⟩
 obtain ⟨sq, sq'⟩ := hl i ys H' hi hp
 by_cases hlt : i < n
 ·have hlt' : i < zs.length := by omega
  have hlt0 : i < xs.length := by omega
  refine .inr ⟨⟨xs, zs, xs[i], zs[i], sq, sq', by simp [hlt0], by simp [hlt']⟩, ?_⟩
  rintro v H'' ⟨p, x, z, rfl, hpn, rfl, hx, hz⟩
  have hx' := hx xs sq
  have hz' := hz zs sq'
  refine ⟨p, [x, z], rfl, SqT.of zf, rfl, x, [z], rfl, z, [], rfl, rfl, ?_⟩
  exact hs i x z ys _ p hlt hx' hz' hp hD hpn _ _ (fun y H4 a b c => ⟨a, b, n - (i + 1), by omega, rfl, hlt, ⟨_, _, rfl⟩, c, zf⟩) fun H3 a c => ⟨n - (i + 1), by omega, rfl, hlt, ⟨_, _, rfl⟩, c, a⟩
 ·have e : i = n := by omega
  subst e
  exact .inl ⟨⟨xs, zs, sq, sq', n3⟩, hd ys _ hp hD⟩
end
end L2
namespace G2
open PySem L2
theorem prs_mapL {α : Type} {as : List Addr} {xs : List α} (u v : α → V) (g : α → V) {D : Addr} {te : TE} {Q : VK} {ρ : St} {H : Hp} {K : W.Frag} {a : Addr} (ha : H a = some (.lst (as.map V.ref))) (hl : as.length = xs.length) (hn : xs.length ≤ 1000)
  (hx : ∀ (i : Nat) (q : Addr) (x : α), as[i]? = some q → xs[i]? = some x → H q = some (.tup [u x, v x]))
  (step : ∀ (i : Nat) (x : α) (H' : Hp), xs[i]? = some x → Same H H' → ∀ R : V → Hp → Prop, (∀ H'', Same H' H'' → R (g x) H'') → te (some (u x) :: some (v x) :: ρ) H' R)
  (q : ∀ H', Same H H' → H' D = some (.lst (xs.map g)) → Q (.ref D) H') (hD : H D = none) : CGo (Itl K a) D (gTup K 2 (z0 (zB 0) (z0 (zB 1) gNil))) tAll te Q (none :: none :: ρ) H := by
 refine ⟨fun i m τ ys H' => m = xs.length - i ∧ i ≤ xs.length ∧ (∃ tv tw, τ = tv :: tw :: ρ) ∧ ys = (xs.map g).take i ∧ Same H H' ∧ H' D = some (.lst ys), ⟨xs.length, by omega, Nat.zero_le _, ⟨_, _, rfl⟩, rfl, Same.new (Same.refl H) hD, zf⟩, ?_⟩
 rintro i m τ ys H' ⟨rfl, hi, ⟨tv, tw, rfl⟩, rfl, K', hDz⟩
 refine ⟨hDz, ?_⟩
 have sq : SqL K H' a (as.map V.ref) := SqL.of (K' _ _ ha)
 by_cases hlt : i < xs.length
 ·have hlt' : i < as.length := by omega
  refine .inr ⟨⟨_, .ref as[i], sq, by simp [hlt']⟩, ?_⟩
  rintro w' H'' ⟨rfl, hw⟩
  have hw' := hw _ sq
  rw [List.getElem?_map, List.getElem?_eq_getElem hlt'] at hw'
  cases hw'
  refine ⟨as[i], _, rfl, SqT.of (K' _ _ (hx i as[i] xs[i] (by simp [hlt']) (by simp [hlt]))), rfl, _, _, rfl, _, _, rfl, rfl, ?_⟩
  refine yc ?_
  refine iteT ?_
  refine step i xs[i] _ (by simp [hlt]) K' _ fun H3 K3 => ⟨K3 _ _ hDz, by rw [List.length_take]; exact zA (by omega), xs.length - (i + 1), by omega, rfl, hlt, ⟨_, _, rfl⟩, ?_, (K'.trans K3).put hD, zf⟩
  rw [List.take_add_one]
  simp [hlt]
 ·have e : i = xs.length := by omega
  subst e
  refine .inl ⟨⟨_, sq, by simp [hl]⟩, q H' K' ?_⟩
  rw [hDz, List.take_of_length_le]
  simp
end G2
namespace L2
open PySem PySem.Spec PyProof.Rows
structure NScope (o sc : Scope) (TN F : List Str) : Prop where
 okind : o.kind = .function
 kind : sc.kind = .function
 names : ∀ y ∈ sc.names, y.2 = .local → sc.names.lookup y.1 = some .local
 clN : ∀ y ∈ sc.names, y.2 = .cell → sc.names.lookup y.1 = some .cell
 fr : ∀ y ∈ sc.names, y.2 = .free → o.names.lookup y.1 = some .cell ∧ sc.names.lookup y.1 = some .free
 ff : ∀ y ∈ F, (y, NameKind.free) ∈ sc.names
theorem yl : ∀ (names : List (Str × NameKind)) (n : Nat) (acc : List (Str × Addr)), cellsFrom n names acc = cellsFrom n names [] ++ acc
 | [], n, acc => by simp [cellsFrom]
 | (x, k) :: r, n, acc => by
  unfold cellsFrom
  split
  ·rw [yl r (n + 1) ((x, n) :: acc), yl r (n + 1) [(x, n)]]
   simp
  ·exact yl r n acc
theorem yA : ∀ (names : List (Str × NameKind)) (n : Nat) (acc : List (Str × Addr)) (x : Str) (c : Addr), (x, c) ∈ cellsFrom n names acc → (x, NameKind.cell) ∈ names ∨ (x, c) ∈ acc
 | [], n, acc, x, c, h => .inr h
 | (y, k) :: r, n, acc, x, c, h => by
  unfold cellsFrom at h
  split at h
  ·rename_i hk
   have hk' : k = .cell := by simpa using hk
   subst hk'
   rcases yA r (n + 1) ((y, n) :: acc) x c h with z | z
   ·exact .inl (List.mem_cons_of_mem _ z)
   ·rcases List.mem_cons.mp z with e | z
    ·cases e
     exact .inl List.mem_cons_self
    ·exact .inr z
  ·rcases yA r n acc x c h with z | z
   ·exact .inl (List.mem_cons_of_mem _ z)
   ·exact .inr z
def ownC (n : Nat) (sc : Scope) : List (Str × Addr) := cellsFrom (n + 1) sc.names []
def allC (env : Env) (n : Nat) (sc : Scope) : List (Str × Addr) := ownC n sc ++ cloF env sc.names []
theorem Zl {α : Type} {x : Str} {c : α} : ∀ {l r : List (Str × α)}, (l ++ r).lookup x = some c → l.lookup x = some c ∨ (l.lookup x = none ∧ r.lookup x = some c)
 | [], r, h => .inr ⟨rfl, h⟩
 | (y, d) :: l, r, h => by
  rw [List.cons_append, List.lookup_cons] at h
  rw [List.lookup_cons]
  cases e : x == y with
  | true => rw [e] at h; exact .inl h
  | false => rw [e] at h; exact Zl h
theorem ZL {α : Type} {x : Str} {c : α} : ∀ {l r : List (Str × α)}, l.lookup x = some c → (l ++ r).lookup x = some c
 | [], r, h => by cases h
 | (y, d) :: l, r, h => by
  rw [List.lookup_cons] at h
  rw [List.cons_append, List.lookup_cons]
  cases e : x == y with
  | true => rw [e] at h; exact h
  | false => rw [e] at h; exact ZL h
theorem YY {α : Type} {x : Str} : ∀ {l r : List (Str × α)}, l.lookup x = none → (l ++ r).lookup x = r.lookup x
 | [], r, h => rfl
 | (y, d) :: l, r, h => by
  rw [List.lookup_cons] at h
  rw [List.cons_append, List.lookup_cons]
  cases e : x == y with
  | true => rw [e] at h; cases h
  | false => rw [e] at h; exact YY h
theorem NScope.own {o sc : Scope} {TN F : List Str} (S : NScope o sc TN F) {n : Nat} {x : Str} {c : Addr} (h : (ownC n sc).lookup x = some c) : sc.names.lookup x = some .cell := by
 rcases yA sc.names (n + 1) [] x c (PySem.mem_of_lookup h) with z | z
 ·exact S.clN _ z rfl
 ·cases z
theorem NScope.notown {o sc : Scope} {TN F : List Str} (S : NScope o sc TN F) {n : Nat} {x : Str} (h : (x, NameKind.free) ∈ sc.names) : (ownC n sc).lookup x = none := by
 cases e : (ownC n sc).lookup x with
 | none => rfl
 | some c =>
  have h1 := S.own e
  rw [(S.fr _ h rfl).2] at h1
  cases h1
theorem xw {env : Env} {y : Str} : ∀ {names : List (Str × NameKind)},
    ((names.map fun (n, k) => if (k == NameKind.free && env.scope.kind == .function && env.kindOf n == some .cell) then (n, NameKind.cell) else (n, k)).lookup y = some .cell ∨
     (names.map fun (n, k) => if (k == NameKind.free && env.scope.kind == .function && env.kindOf n == some .cell) then (n, NameKind.cell) else (n, k)).lookup y = some .free) → (y, NameKind.free) ∈ names ∨ (y, NameKind.cell) ∈ names
  | [], h => by simp at h
  | (n, k) :: r, h => by
    have ih := @xw env y r
    have h' : List.lookup y ((if (k == NameKind.free && env.scope.kind == .function && env.kindOf n == some .cell) = true then (n, NameKind.cell) else (n, k)) :: (r.map fun (n, k) => if (k == NameKind.free && env.scope.kind == .function && env.kindOf n == some .cell) then (n, NameKind.cell) else (n, k))) = some .cell ∨
      List.lookup y ((if (k == NameKind.free && env.scope.kind == .function && env.kindOf n == some .cell) = true then (n, NameKind.cell) else (n, k)) :: (r.map fun (n, k) => if (k == NameKind.free && env.scope.kind == .function && env.kindOf n == some .cell) then (n, NameKind.cell) else (n, k))) = some .free := h
    clear h
    have more : ((y, NameKind.free) ∈ r ∨ (y, NameKind.cell) ∈ r) → (y, NameKind.free) ∈ (n, k) :: r ∨ (y, NameKind.cell) ∈ (n, k) :: r := fun z => z.elim (fun z => .inl (List.mem_cons_of_mem _ z)) fun z => .inr (List.mem_cons_of_mem _ z)
    cases hx : y == n with
    | true =>
      have e : y = n := by simpa using hx
      subst e
      by_cases hc' : (k == NameKind.free && env.scope.kind == .function && env.kindOf y == some .cell) = true
      · have hk : k = .free := by
          have := (Bool.and_eq_true _ _ ▸ (Bool.and_eq_true _ _ ▸ hc').1).1
          simpa using this
        subst hk
        exact .inl List.mem_cons_self
      · rw [if_neg hc'] at h'
        simp only [List.lookup_cons, beq_self_eq_true] at h'
        rcases h' with h' | h'
        · cases h'
          exact .inr List.mem_cons_self
        · cases h'
          exact .inl List.mem_cons_self
    | false =>
      by_cases hc' : (k == NameKind.free && env.scope.kind == .function && env.kindOf n == some .cell) = true
      · rw [if_pos hc'] at h'; simp only [List.lookup_cons, hx] at h'; exact more (ih h')
      · rw [if_neg hc'] at h'; simp only [List.lookup_cons, hx] at h'; exact more (ih h')
theorem newEnv_cells {M : Model} {A : Around} {E : Value → Shared → Prop} {s : Shared} {scope : Scope} {globals : Addr} {cl : List (Str × Addr)} {qual : Str} {env : Env} {Q : Env → Shared → Prop}
  (hQ : ∀ h', h'.Ns s.heap.objs.size (fun _ => none) → (∀ b o, s.heap.get? b = some o → h'.get? b = some o) → (∀ x c, (ownC s.heap.objs.size scope).lookup x = some c → h'.IsCell c none ∧ s.heap.objs.size < c) → ((ownC s.heap.objs.size scope).Pairwise fun x y => x.2 ≠ y.2) →
   Q { scope := scope, locals := s.heap.objs.size, globals := globals, cells := ownC s.heap.objs.size scope ++ cl, qual := qual, func := none, code := env.code, frame := env.frame, builtins := env.builtins } { s with heap := h' }) :
  wpAny M A (newFunctionEnv scope globals cl [] qual none .none (some env)) Q E s := by
 simp only [newFunctionEnv, Option.isSome_some, if_true]
 refine wpAny_bind (wpAny_alloc ?_)
 refine wpAny_bind (wpAny_layCells _ (fun name kind cells => by cases hkc : kind == NameKind.cell <;> simp [hkc]) _ _ _ _ ?_)
 have ok := cellsFrom_ok scope.names (s.heap.push { cls := .type "dict", data := .dict #[] }) (s.heap.objs.size + 1) [] ⟨fun _ _ hm => (nomatch hm), List.Pairwise.nil⟩ (by rw [Heap.size_push]; exact Nat.le_refl _)
 rw [Heap.size_push] at ok
 rw [show ({ s with heap := s.heap.push { cls := .type "dict", data := .dict #[] } } : Shared).heap.objs.size = s.heap.objs.size + 1 from Heap.size_push ..]
 rw [yl]
 refine wpAny_bind ?_
 rw [List.forIn_nil]
 refine wpAny_pure (wpAny_pure ?_)
 exact hQ _ ((Heap.Ns.new s.heap (.type "dict")).keeps (pushCells_keeps _ _)) (fun b o e => pushCells_keeps _ _ b o (Heap.get?_push_of_some _ e)) (fun x c hc => ⟨(ok.empty x c (PySem.mem_of_lookup hc)).1, (ok.empty x c (PySem.mem_of_lookup hc)).2⟩) ok.apart
def cxN (X : Cx) (N : List Str) (sc : Scope) (cl : List (Str × Addr)) (C : Addr) (fp : List Addr) (s₃ : Shared) (H₃ : Hp) (xe : Value → Shared → Prop) : Cx :=
 { X with N := N, s₀ := s₃, H₀ := H₃, env := compEnvC sc cl C X.env, outer := X.stack, ex := fp, fn := fun y => sc.names.lookup y == some .cell, pn := [], xe := xe }
theorem inv_compN {X : Cx} {pins : List (Addr × Obj)} {σ : St} {H : Hp} {s : Shared} {sc : Scope} {TN F : List Str} {ix : List Nat} {fp : List Addr} {h4 : Heap} {tk : Nat} {m : Str → Option Value} {xe : Value → Shared → Prop}
  (S : NScope X.env.scope sc TN F) (hix : ix.map (fun i => X.N[i]?) = F.map some) (I : Inv X pins σ H s) (hf : ∀ b ∈ fp, FpOk X pins H b) (ho : ∀ b ∈ fp, ∃ o, s.heap.get? b = some o)
  (hk : ∀ b o, s.heap.get? b = some o → h4.get? b = some o) (hn : h4.Ns s.heap.objs.size m) (hcl : ∀ x c, (ownC s.heap.objs.size sc).lookup x = some c → h4.IsCell c none ∧ s.heap.objs.size < c) (hap : (ownC s.heap.objs.size sc).Pairwise fun x y => x.2 ≠ y.2) :
  Inv (cxN X (TN ++ F) sc (allC X.env s.heap.objs.size sc) s.heap.objs.size fp s H xe) [] (List.replicate TN.length none ++ sub ix σ) H { s with heap := h4, toks := tk } := by
 have cl0 : ∀ x c, (cloF X.env sc.names []).lookup x = some c → X.env.cells.lookup x = some c := fun x c e => by
  rw [zN] at e
  by_cases hx : (x, NameKind.free) ∈ sc.names
  ·rw [if_pos hx] at e
   obtain ⟨c', hc'⟩ := I.ok.has x (.inl (S.fr _ hx rfl).1)
   rw [hc'] at e ⊢
   exact e
  ·rw [if_neg hx] at e
   cases e
 have cl : ∀ x c, (allC X.env s.heap.objs.size sc).lookup x = some c → (ownC s.heap.objs.size sc).lookup x = some c ∨ X.env.cells.lookup x = some c := fun x c e => by
  rcases Zl e with z | ⟨_, z⟩
  ·exact .inl z
  ·exact .inr (cl0 x c z)
 have old : ∀ x c, X.env.cells.lookup x = some c → c < s.heap.objs.size := fun x c e => by
  obtain ⟨v, o, ho', _⟩ := I.cell x c e
  exact Heap.lt_size ho'
 have cl' : ∀ x, (x, NameKind.free) ∈ sc.names → (allC X.env s.heap.objs.size sc).lookup x = X.env.cells.lookup x := fun x hx => by
  unfold allC
  rw [YY (S.notown hx), zN, if_pos hx]
  obtain ⟨c', hc'⟩ := I.ok.has x (.inl (S.fr _ hx rfl).1)
  rw [hc']
  rfl
 have hlen : ix.length = F.length := by
  have := congrArg List.length hix
  simpa using this
 refine ⟨⟨I.ok.mod, S.kind, I.ok.glob, I.ok.blt, Nat.le_refl _, fun x y c h1 h2 => ?_, fun x hx => ?_, fun x c z h => ?_, I.ok.hd, I.ok.frames, .inl rfl, fun b hb => ⟨?_, fun x c e => ?_⟩,
  I.bs, Nat.le_trans I.ok.bsz I.sz, fun b o e hb => ?_, fun b hb hfs => ?_, I.stack, I.stkFree⟩, rfl, I.bare, Un.kept hk, ⟨m, hn, fun i x v h1 h2 h3 => ?_⟩, fun x c e => ?_, I.hok.fresh (Nat.le_refl _), fun x c e => ?_, fun p hp => absurd (show p ∈ ([] : List (Addr × Obj)) from hp) (by simp), I.hok.kept hk, ?_⟩
 ·rcases cl x c h1 with a | a <;> rcases cl y c h2 with b | b
  ·exact name_of_addr hap (PySem.mem_of_lookup a) (PySem.mem_of_lookup b)
  ·exact absurd (old y c b) (Nat.not_lt.mpr (Nat.le_of_lt (hcl x c a).2))
  ·exact absurd (old x c a) (Nat.not_lt.mpr (Nat.le_of_lt (hcl y c b).2))
  ·exact I.ok.inj x y c a b
 ·rcases xw (env := X.env) hx with hx' | hx'
  ·obtain ⟨c, hc⟩ := I.ok.has x (.inl (S.fr _ hx' rfl).1)
   exact ⟨c, (cl' x hx').trans hc⟩
  ·obtain ⟨c, hc⟩ := xU (n := s.heap.objs.size + 1) (S.clN _ hx' rfl)
   exact ⟨c, ZL hc⟩
 ·have z' : sc.names.lookup x = some .cell := by simpa [cxN] using z
  obtain ⟨c', hc⟩ := xU (n := s.heap.objs.size + 1) z'
  have hc' : (allC X.env s.heap.objs.size sc).lookup x = some c' := ZL hc
  have h' : (allC X.env s.heap.objs.size sc).lookup x = some c := h
  have ec : c' = c := Option.some.inj (hc'.symm.trans h')
  rw [← ec]
  exact Nat.le_of_lt (hcl x c' hc).2
 ·obtain ⟨o, e⟩ := ho b hb
  exact Nat.ne_of_lt (Heap.lt_size e)
 ·rcases cl x c e with z | z
  ·obtain ⟨o, eb⟩ := ho b hb
   exact fun w => absurd (Heap.lt_size eb) (by rw [← w]; exact Nat.not_lt.mpr (Nat.le_of_lt (hcl x c z).2))
  ·exact (hf b hb).2.2.2.2.1 x c z
 ·rcases (hf b hb).2.2.2.1 with z | z
  ·exact I.ok.noex b o e z
  ·exact absurd (Nat.lt_of_lt_of_le (Heap.lt_size e) (Nat.le_trans I.ok.bsz z)) (Nat.lt_irrefl _)
 ·rcases List.mem_cons.mp (I.stkSub b hfs) with z | z
  ·exact (hf b hb).2.1 z
  ·exact (hf b hb).2.2.1 z
 ·have hi : TN.length ≤ i := by
   apply Nat.le_of_not_lt
   intro hlt
   rw [List.getElem?_append_left (by simpa using hlt), List.getElem?_replicate] at h2
   split at h2 <;> cases h2
  rw [List.getElem?_append_right (by simpa using hi), List.length_replicate] at h2
  have h1' : F[i - TN.length]? = some x := by
   have : (TN ++ F)[i]? = some x := h1
   rw [List.getElem?_append_right hi] at this
   exact this
  have e3 := congrArg (fun l => l[i - TN.length]?) hix
  simp only [List.getElem?_map, h1', Option.map_some] at e3
  unfold sub at h2
  rw [List.getElem?_map] at h2
  cases ej : ix[i - TN.length]? with
  | none => rw [ej] at h2; cases h2
  | some k =>
   rw [ej] at h2 e3
   have h2' : (σ[k]?).join = some v := Option.some.inj h2
   have e3' : X.N[k]? = some x := Option.some.inj e3
   have hσ : σ[k]? = some (some v) := by
    cases e : σ[k]? with
    | none => rw [e] at h2'; cases h2'
    | some q =>
     rw [e] at h2'
     have : q = some v := h2'
     rw [this]
   have hfr := S.ff x (List.mem_of_getElem? h1')
   have hcell := (S.fr _ hfr rfl).1
   obtain ⟨m0, hn0, hl0⟩ := I.loc
   obtain ⟨u, r, l⟩ := hl0 k x v e3' hσ (.inr (.inl hcell))
   refine ⟨u, r, ?_⟩
   rcases l with ⟨l1, _⟩ | ⟨_, c, hc, o, ho', hd⟩
   ·have l1' : X.env.scope.names.lookup x = some .local := l1
    rw [hcell] at l1'
    cases l1'
   ·exact .inr ⟨.inl (yO (env := X.env) S.okind hcell (S.fr _ hfr rfl).2), c, (cl' x hfr).trans hc, o, hk c o ho', hd⟩
 ·rcases cl x c e with z | z
  ·exact ⟨_, (hcl x c z).1⟩
  ·obtain ⟨v, o, ho', hd⟩ := I.cell x c z
   exact ⟨v, o, hk c o ho', hd⟩
 ·rcases cl x c e with z | z
  ·exact I.hok.fresh (Nat.le_of_lt (hcl x c z).2)
  ·exact I.freeC x c z
 ·show _ = (TN ++ F).length
  rw [List.length_append, List.length_append, List.length_replicate]
  unfold sub
  rw [List.length_map, hlen]
theorem comp_blockN {X : Cx} {pins : List (Addr × Obj)} {σ : St} {H : Hp} {s : Shared} {sc : Scope} {TN F : List Str} {ix : List Nat} {elt tg iter : Expr} {ifs : List Expr} {pos : Pos} {g : TG} {tc : TT} {te : TE} {J : It} {fp : List Addr} {it : Addr} {tn : Nat → Heap → Prop} {Q : VK}
  {RR : Value → Addr → Result → Shared → Prop} {E : Value → Shared → Prop}
  (S : NScope X.env.scope sc TN F) (hix : ix.map (fun i => X.N[i]?) = F.map some) (hc : X.calm = true) (I : Inv X pins σ H s) (T : Turn X.prog X.w X.K tg J fp it tn) (st : tn 0 s.heap) (hf : ∀ b ∈ fp, FpOk X pins H b)
  (hg : ∀ cl C fp s3 H3 xe, PG (cxN X (TN ++ F) sc cl C fp s3 H3 xe) tg g) (ht : ∀ cl C fp s3 H3 xe, PTs (cxN X (TN ++ F) sc cl C fp s3 H3 xe) ifs tc) (he : ∀ cl C fp s3 H3 xe, PE (cxN X (TN ++ F) sc cl C fp s3 H3 xe) elt te)
  (hW : ∀ D, H D = none → CGo J D g tc te Q (List.replicate TN.length none ++ sub ix σ) H)
  (fin : ∀ D C H' s', Inv X pins σ H' s' → (∃ m, s'.heap.Ns C m) → H' C = none → C ≠ X.env.locals → X.s₀.heap.objs.size ≤ C → (∀ x c, X.env.cells.lookup x = some c → c ≠ C) → (∀ p ∈ X.pn ++ pins, p.1 ≠ C) → Q (.ref D) H' → RR (.ref D) C (.ok .next) s') :
  wpAny (model X.prog X.w) X.A (newList []) (fun acc s₃ => wpAny (model X.prog X.w) X.A (newFunctionEnv sc X.env.globals (cloF X.env sc.names []) [] X.env.qual none .none (some X.env)) (fun cenv s₄ =>
   codeAny (model X.prog X.w) X.A (.compStart (.ListComp elt [⟨tg, iter, ifs, 0⟩] sc pos) 0 (.ref it) acc { cenv with scope := relabel sc X.env }) (RR acc cenv.locals) s₄) E s₃) E s := by
 have hfo : ∀ b ∈ fp, ∃ o, s.heap.get? b = some o := fun b hb => let ⟨o, e, _⟩ := T.obj 0 _ st b hb; ⟨o, e⟩
 refine wpAny_newObj_type ?_
 obtain ⟨W, ⟨m0, w0⟩, go⟩ := hW s.heap.objs.size I.fresh
 have I3 : Inv X pins σ (upd H s.heap.objs.size (.lst [])) { s with heap := s.heap.push { cls := .type "list", data := .seq ([] : List Value).toArray } } := I.lnew (its := []) (ys := []) (t' := s.toks) .nil (Nat.zero_le _)
 generalize hs3 : ({ s with heap := s.heap.push { cls := .type "list", data := .seq ([] : List Value).toArray } } : Shared) = s3 at I3
 have hk3 : ∀ b o, s.heap.get? b = some o → s3.heap.get? b = some o := fun b o e => by
  rw [← hs3]
  exact Heap.get?_push_of_some _ e
 have hf3 : ∀ b ∈ fp, FpOk X pins (upd H s.heap.objs.size (.lst [])) b := fun b hb => by
  obtain ⟨o, e⟩ := hfo b hb
  exact ⟨by rw [zh (Nat.ne_of_lt (Heap.lt_size e))]; exact (hf b hb).1, (hf b hb).2⟩
 have st3 : tn 0 s3.heap := T.keep 0 _ _ st fun b hb o e => hk3 b o e
 show wpAny _ _ _ _ _ s3
 refine newEnv_cells (fun h4 hn4 hk4 hcl4 hap4 => ?_)
 generalize hR : RR (.ref s.heap.objs.size) s3.heap.objs.size = R
 have loop : ∀ s4 : Shared, s4 = { s3 with heap := h4 } →
   codeAny (model X.prog X.w) X.A (.compLoop (.ListComp elt [⟨tg, iter, ifs, 0⟩] sc pos) 0 (.ref it) (.ref s.heap.objs.size) (compEnvC sc (allC X.env s3.heap.objs.size sc) s3.heap.objs.size X.env)) R s4 := by
  rintro s4 rfl
  let X' : Cx := cxN X (TN ++ F) sc (allC X.env s3.heap.objs.size sc) s3.heap.objs.size fp s3 (upd H s.heap.objs.size (.lst [])) (notedBy (model X.prog X.w) X.A (compEnvC sc (allC X.env s3.heap.objs.size sc) s3.heap.objs.size X.env) fun e s' => R (.error e) s')
  have I4 : Inv X' [] (List.replicate TN.length none ++ sub ix σ) (upd H s.heap.objs.size (.lst [])) { s3 with heap := h4 } :=
   inv_compN S hix I3 hf3 (fun b hb => let ⟨o, e⟩ := hfo b hb; ⟨o, hk3 b o e⟩) hk4 hn4 hcl4 hap4
  have fpx : ∀ {H' : Hp}, (∀ b ∈ fp, H' b = none) → ∀ b ∈ fp, FpOk X' [] H' b := fun {H'} hn b hb => by
   refine ⟨hn b hb, (I4.ok.exf b hb).1, fun z => I4.ok.exfs b hb z, .inl hb, fun x c e => (I4.ok.exf b hb).2 x c e, fun p hp => absurd (show p ∈ ([] : List (Addr × Obj)) from hp) (by simp)⟩
  refine vA (fun n s' => ∃ i τ ys H', Inv X' [] τ H' s' ∧ tn i s'.heap ∧ (∀ b ∈ fp, H' b = none) ∧ W i n τ ys H') ?_ m0 ⟨0, _, [], _, I4, T.keep 0 _ _ st3 fun b hb o e => hk4 b o e, fun b hb => (hf3 b hb).1, w0⟩
  rintro n s5 ⟨i, τ, ys, H5, I5, st5, fr5, w5⟩
  obtain ⟨hD, hgo⟩ := go i n τ ys H5 w5
  rcases hgo with ⟨stop, q⟩ | ⟨hgo, step⟩
  ·refine thn (T.done X' rfl rfl rfl hc i [] s5 τ H5 X'.xe I5 (fpx fr5) st5 stop) fun r s6 ⟨hr, I6⟩ => ?_
   subst hr
   show R (.ok .next) s6
   rw [← hR]
   have J6 : Inv X pins σ H5 s6 := I3.call' (ch := fp) I6.os I6.base I6.hok I6.bare fun b hb => ⟨(hf3 b hb).2.2.2.1, (hf3 b hb).2.1, (hf3 b hb).2.2.2.2.1, (hf3 b hb).2.2.2.2.2⟩
   refine fin s.heap.objs.size s3.heap.objs.size H5 s6 J6 (let ⟨m, hn, _⟩ := I6.loc; ⟨m, hn⟩) I6.free (Nat.ne_of_gt I3.lt) I3.sz (fun x c e z => ?_) (fun p hp z => ?_) q
   ·obtain ⟨v, o, ho, _⟩ := I3.cell x c e
    exact absurd (Heap.lt_size ho) (by rw [z]; exact Nat.lt_irrefl _)
   ·exact absurd (Heap.lt_size (I3.pin p hp).1) (by rw [z]; exact Nat.lt_irrefl _)
  ·refine thn (T.item X' rfl rfl rfl hc i [] s5 τ H5 X'.xe I5 (fpx fr5) st5 hgo) fun r s6 ⟨u, hr, h6⟩ => ?_
   subst hr
   refine thn h6 fun _ s7 ⟨v, H7, I7, r7, y7, st7, fr7⟩ => ?_
   have I7' := I7.pinned (fpx fr7) (T.obj _ _ st7)
   refine thn (hg _ _ _ _ _ _ _ s7 τ H7 v u _ I7' r7 (step v H7 y7)) fun _ s8 ⟨τ8, H8, I8, q8⟩ => ?_
   refine thn (ht _ _ _ _ _ _ _ s8 τ8 H8 _ I8 q8) fun ok s9 ⟨H9, I9, q9⟩ => ?_
   have again : ∀ {ys' : List V} {H' : Hp} {s' : Shared}, Inv X' ([] ++ x6 fp s7.heap) τ8 H' s' → (∃ m', m' < n ∧ W (i + 1) m' τ8 ys' H') → ∃ m, m < n ∧ ∃ i τ ys H'', Inv X' [] τ H'' s' ∧ tn i s'.heap ∧ (∀ b ∈ fp, H'' b = none) ∧ W i m τ ys H'' := fun {ys' H' s'} I' ⟨m', hm, w'⟩ => by
    refine ⟨m', hm, i + 1, τ8, ys', H', I'.unpinned, T.keep _ _ _ st7 fun b hb o e => (I'.pin (b, o) (List.mem_append_right _ (List.mem_append_right _ (yh hb e)))).1, fun b hb => ?_, w'⟩
    obtain ⟨o, e, d⟩ := T.obj _ _ st7 b hb
    exact (I'.pin (b, o) (List.mem_append_right _ (List.mem_append_right _ (yh hb e)))).2.1
   cases ok with
   | false =>
    exact again I9 q9
   | true =>
    refine thn (he _ _ _ _ _ _ _ s9 τ8 H9 _ I9 q9) fun x s10 ⟨y, H10, I10, r10, hD10, hz10, q10⟩ => ?_
    exact vG (X := X') I10 hD10 hz10 r10 fun s11 I11 => again I11 q10
 subst hR
 exact codeAny_compStart_list (loop _ rfl) (T.self X.A 0 _ _ _ (T.keep 0 _ _ st3 fun b hb o e => hk4 b o e) (loop _ rfl))
section
variable {X : Cx} {sc : Scope} {TN F : List Str} {ix : List Nat} {elt tg iter : Expr} {ifs : List Expr} {pos : Pos} {g : TG} {tc : TT} {te : TE} {wi : TI}
theorem closure_ofN (S : NScope X.env.scope sc TN F) {pins : List (Addr × Obj)} {σ : St} {H : Hp} {s : Shared} (I : Inv X pins σ H s) : closureFor sc X.env = pure (cloF X.env sc.names []) :=
 xD fun x hx hk => I.ok.has x.1 (.inl (S.fr x hx hk).1)
theorem ps_setCN {i : Nat} {y : Str} {py spos : Pos} (hN : X.N.Nodup) (hiy : X.N[i]? = some y) (hy : X.env.scope.names.lookup y = some .local) (S : NScope X.env.scope sc TN F) (hix : ix.map (fun i => X.N[i]?) = F.map some) (hc : X.calm = true) (hi : PI X tg iter wi)
  (hg : ∀ cl C fp s3 H3 xe, PG (cxN X (TN ++ F) sc cl C fp s3 H3 xe) tg g) (ht : ∀ cl C fp s3 H3 xe, PTs (cxN X (TN ++ F) sc cl C fp s3 H3 xe) ifs tc) (he : ∀ cl C fp s3 H3 xe, PE (cxN X (TN ++ F) sc cl C fp s3 H3 xe) elt te)
  (hsw : swapsWith (.ListComp elt [⟨tg, iter, ifs, 0⟩] sc pos) (some (.Name y py)) spos.line X.env = pure true := by rfl)
  (hs : ∀ x, foldedSetIterable iter X.env x = pure x := by intro _; rfl) : PS X (.Assign [.Name y py] (.ListComp elt [⟨tg, iter, ifs, 0⟩] sc pos) spos) (tAsg (wS wi TN.length ix g tc te) (zB i)) := by
 intro pins s σ H D I h
 rw [exec_Assign_Name_used _ _ _ _ hsw]; refine wpAny_bind (wpAny_standAt (wpAny_bind ?_))
 show wpAny _ X.A (do let _ ← comprehension (.ListComp elt [⟨tg, iter, ifs, 0⟩] sc pos) sc X.env _ (newList []) false (eval iter X.env) (some (assign (.Name y py) X.env))) _ _ s
 refine wpAny_bind (wpAny_mono (wpAny_comprehension_free (use := some (assign (.Name y py) X.env)) (Q := fun _ s' => SP X pins D .next s') rfl hs (closure_ofN S I) S.kind S.names
  (thn (hi pins s σ H _ I h) fun v s1 h1 => thn h1 fun itv s2 h2 => ?_)) (fun _ s' hq => wpAny_pure (wpAny_pure hq)) fun _ _ e => e)
 obtain ⟨it, fp, tn, J, H2, e, I2, T, st2, f2, q2⟩ := h2
 subst e
 refine comp_blockN (RR := fun acc C => compPost (model X.prog X.w) X.A X.xe (some (assign (.Name y py) X.env)) (fun _ s' => SP X pins D .next s') acc C) S hix hc I2 T st2 f2 hg ht he q2 fun Dl C H' s' I' hn hC1 hC2 hC3 hC4 hC5 q => ?_
 obtain ⟨m, hn⟩ := hn
 show wpAny _ X.A (assign (.Name y py) X.env (.ref Dl)) _ _ _
 refine wpAny_assign_Name (xY I' hN hiy (.inl hy) (show RelV (.ref Dl) (.ref Dl) from rfl) (fun s'' I'' ⟨a, hsb, ha⟩ => ?_) (.inr hy))
 have haC : C ≠ a := by
  rcases ha with z | z
  ·rw [z]; exact hC2
  ·exact fun z' => hC4 y a z z'.symm
 refine ⟨m, hn.sameBut hsb haC, fun h' hs' => ?_⟩
 exact ⟨_, H', I''.turned (t' := s''.toks) (fun b o hb e => (hs'.2 b hb).trans e) hC1 hC2 (.inr hC3) hC4 hC5, q⟩
end
structure NBScope (o sc : Scope) (TN F G : List Str) : Prop extends NScope o sc TN F where
 nd : (TN ++ F).Nodup
 vis : ∀ x ∈ TN ++ F, Vis (ye sc o) x
 loc : ∀ x ∈ TN, (ye sc o).names.lookup x = some .local ∨ ((ye sc o).names.lookup x = some .cell ∧ sc.names.lookup x = some .cell)
 gl : ∀ x ∈ G, (ye sc o).names.lookup x = some .globalImplicit
section
variable {X : Cx} {sc : Scope} {TN F G : List Str} {cl : List (Str × Addr)} {C : Addr} {fp : List Addr} {s3 : Shared} {H3 : Hp} {xe : Value → Shared → Prop} {x : Str} {pos : Pos}
theorem pvbN (S : NBScope X.env.scope sc TN F G) (i : Nat) (hN : (TN ++ F)[i]? = some x := by rfl) (hd : (x == ("__debug__" : Str)) = false := by decide) (hcd : (x == ("__classdict__" : Str)) = false := by decide) : PE (cxN X (TN ++ F) sc cl C fp s3 H3 xe) (.Name x pos) (tVar i) :=
 wX hN (S.vis x (List.mem_of_getElem? hN)) hd hcd
theorem pgbN (S : NBScope X.env.scope sc TN F G) (i : Nat) (hN : (TN ++ F)[i]? = some x := by rfl) (hT : TN[i]? = some x := by rfl) : PG (cxN X (TN ++ F) sc cl C fp s3 H3 xe) (.Name x pos) (zB i) := by
 rcases S.loc x (List.mem_of_getElem? hT) with z | ⟨z, z'⟩
 ·exact wL S.nd hN (.inl z) (.inr z)
 ·exact wL S.nd hN (.inr z) (.inl (by show (sc.names.lookup x == some .cell) = true; rw [z']; rfl))
theorem NBScope.g (S : NBScope X.env.scope sc TN F G) (i : Nat) (hG : G[i]? = some x := by rfl) : Gl (cxN X (TN ++ F) sc cl C fp s3 H3 xe) x := S.gl x (List.mem_of_getElem? hG)
end
end L2
namespace PySem
open Sem (wp)
open Builtin
open AutoSeq1 (wpAny_loadPart')
theorem yg : fillsNumberSlot (.type "tuple") "mul" = pure false :=
 fillsNumberSlot_seq (id := "tuple.__mul__") (r := some (.builtin "tuple.__rmul__")) F.slot_tuple_mul.lookup (by decide +kernel) F.slot_tuple_rmul.lookup (by decide +kernel)
theorem yN : seqRepeat? (.type "tuple") = pure (some (.builtin "tuple.__mul__")) := by
 unfold seqRepeat?
 rw [seqSlot_of (T := "tuple") (name := "__mul__") (id := "tuple.__mul__") F.slot_tuple_mul.lookup (by decide +kernel), seqSlot_of (T := "tuple") (name := "__rmul__") (id := "tuple.__rmul__") F.slot_tuple_rmul.lookup (by decide +kernel)]
 rfl
theorem YF (a : Int) (t : Tok) (l : Addr) (items : Array Value) (n : Nat) (dd : Option Addr) (sl : Array (Option Value)) :
  Meets (Builtin.«int.__rmul__» ⟨[.int a t, .ref l], []⟩) (fun _ R s => s.heap.get? l = some { cls := .type "tuple", dict := dd, data := .seq items n, slots := sl } ∧ R (.ok (.ret Value.notImplemented)) s) :=
 .of_wp fun prog w A R s h => by obtain ⟨hp, g, d, tk, os⟩ := s; obtain ⟨hl, h⟩ := h; wp_walk; exact ⟨_, rfl, h⟩
theorem tuple_mulW1 (l : Addr) (items : Array Value) (n : Nat) (dd : Option Addr) (sl : Array (Option Value)) (u : Tok) :
  Meets (Builtin.«tuple.__mul__» ⟨[.ref l, .int 1 u], []⟩) (fun _ R s => s.heap.get? l = some { cls := .type "tuple", dict := dd, data := .seq items n, slots := sl } ∧ R (.ok (.ret (.ref l))) s) :=
 .of_wp fun prog w A R s h => by
  obtain ⟨hp, g, d, tk, os⟩ := s; obtain ⟨hl, h⟩ := h
  have f1 := AutoSeq1.idx_int
  wp_walk using wpAny_loadPart' hl
  exact ⟨_, rfl, h⟩
theorem tuple_mulW2 (l : Addr) (items : Array Value) (n : Nat) (dd : Option Addr) (sl : Array (Option Value)) (x : Int) (u : Tok) (c1 : (decide (x < -2 ^ 63) || decide (x ≥ 2 ^ 63)) = false) (c2 : (items.isEmpty || x == 1) = false) (c3 : (decide (x ≤ 0) || items.isEmpty) = false) (c4 : ¬ (items.size : Int) * x > (2 ^ 63 - 1) / 8) (c5 : Tuple.tupleTooMany ((items.size : Int) * x) = false) (hz : (List.foldl (fun x1 x2 => x1 ++ x2) #[] (List.replicate x.toNat items)).size ≤ sizeLine) :
  Meets (Builtin.«tuple.__mul__» ⟨[.ref l, .int x u], []⟩) (fun _ R s => s.heap.get? l = some { cls := .type "tuple", dict := dd, data := .seq items n, slots := sl } ∧ R (.ok (.ret (Value.ref s.heap.objs.size))) { s with heap := s.heap.push { cls := Value.type "tuple", data := Data.seq (List.foldl (fun x1 x2 => x1 ++ x2) #[] (List.replicate x.toNat items)) }, toks := s.toks }) :=
 .of_wp fun prog w A R s h => by
  obtain ⟨hp, g, d, tk, os⟩ := s; obtain ⟨hl, h⟩ := h
  have f1 := AutoSeq1.idx_int
  wp_walk using wpAny_loadPart' hl
  refine wpAny_ite_false (decide_eq_false (by rw [c1]; exact Bool.false_ne_true)) ?_
  wp_walk using wpAny_loadPart' hl
  refine wpAny_ite_false (decide_eq_false c4) ?_
  wp_walk using wpAny_loadPart' hl
  exact ⟨_, rfl, h⟩
end PySem
namespace L2
open PySem PySem.Spec PyProof.Rows
section
variable {X : Cx}
def rRepT : R2 := fun x y H Q => ∃ a k xs, x = .ref a ∧ y = .int k ∧ H a = some (.tup xs) ∧ xs ≠ [] ∧ 0 < k ∧ k ≤ 1000 ∧ xs.length * k.toNat ≤ 1000 ∧ (k = 1 → Q (.ref a) H) ∧
 (k ≠ 1 → ∀ p, H p = none → Q (.ref p) (upd H p (.tup (List.replicate k.toNat xs).flatten)))
theorem Z7 : OpR X (binaryOp .Mult) rRepT := by
 intro pins s σ H x y v u Q I rx ry h
 obtain ⟨a, k, xs, rfl, rfl, hH, hne, h0, h1, hz, q1, q2⟩ := h
 cases rx
 obtain ⟨t, rfl⟩ := ry
 obtain ⟨z, its, rv, ⟨cls, dd, data, sl⟩, e, c, n, d⟩ := I.hok a _ hH
 simp only at c d
 subst c d
 have hl : xs.length = its.length := rv.length
 have hits : its ≠ [] := fun z => hne (rv.nil_iff.mp z)
 by_cases hk : k = 1
 ·subst hk
  refine wpAny_binaryOp_repeat_ref (T := "tuple") (U := "int") (by decide) ⟨_, e, rfl⟩ (fun s' => typeIs_int s' 1 t) yg F.fills_int_mul F.slot_int_rmul yN F.slot_int_index.lookup
   (call_meets F.slot_int_rmul (typeIs_int s 1 t) F.entry_int_rmul (F.args_int_rmul_2 _ _) (YF 1 t a its.toArray n dd sl)
    ⟨e, rfl, ⟨_, e, rfl⟩, call_meets F.slot_tuple_mul ⟨_, e, rfl⟩ F.entry_tuple_mul (F.args_tuple_mul_2 _ _) (tuple_mulW1 a its.toArray n dd sl t) ⟨e, ?_⟩⟩)
  exact ⟨.ref a, H, I, rfl, q1 rfl⟩
 ·have hnew : List.foldl (fun x1 x2 => x1 ++ x2) #[] (List.replicate k.toNat its.toArray) = (List.replicate k.toNat its).flatten.toArray := by
   have := vx its k.toNat []
   rw [List.nil_append] at this
   exact this
  have hsz : its.length * k.toNat ≤ 1000 := by rw [← hl]; exact hz
  have h10 : (1000 : Nat) ≤ sizeLine := by decide
  have hmul : ((its.toArray.size : Nat) : Int) * k ≤ 1000 := by
   rw [List.size_toArray]
   have : ((its.length : Nat) : Int) * k = ((its.length * k.toNat : Nat) : Int) := by
    rw [Int.natCast_mul, Int.toNat_of_nonneg (by omega)]
   omega
  have hlen : (List.replicate k.toNat its).flatten.length ≤ sizeLine := by
   rw [vU, Nat.mul_comm]
   omega
  refine wpAny_binaryOp_repeat_ref (T := "tuple") (U := "int") (by decide) ⟨_, e, rfl⟩ (fun s' => typeIs_int s' k t) yg F.fills_int_mul F.slot_int_rmul yN F.slot_int_index.lookup
   (call_meets F.slot_int_rmul (typeIs_int s k t) F.entry_int_rmul (F.args_int_rmul_2 _ _) (YF k t a its.toArray n dd sl)
    ⟨e, rfl, ⟨_, e, rfl⟩, call_meets F.slot_tuple_mul ⟨_, e, rfl⟩ F.entry_tuple_mul (F.args_tuple_mul_2 _ _) (tuple_mulW2 a its.toArray n dd sl k t ?_ ?_ ?_ ?_ ?_ ?_) ⟨e, ?_⟩⟩)
  ·have a1 : ¬ k < -2 ^ 63 := by omega
   have a2 : ¬ k ≥ 2 ^ 63 := by omega
   rw [decide_eq_false a1, decide_eq_false a2]
   rfl
  ·simp [hits, hk]
  ·have a1 : ¬ k ≤ 0 := by omega
   simp [hits, a1]
  ·omega
  ·show decide (_ > (sizeLine : Int)) = false
   refine decide_eq_false ?_
   have : ((1000 : Nat) : Int) ≤ (sizeLine : Int) := Int.ofNat_le.mpr h10
   omega
  ·rw [hnew, List.size_toArray]
   exact hlen
  ·rw [hnew]
   refine ⟨.ref s.heap.objs.size, _, I.laid (t' := s.toks) (o := .tup (List.replicate k.toNat xs).flatten) (fun b ob q => Heap.get?_push_of_some _ q) (Nat.le_refl _) ?_, rfl, q2 hk _ (I.hok.fresh (Nat.le_refl _))⟩
   exact ⟨by rw [vU, hl, ← vU]; exact hlen, _, rv.rep k.toNat, IsTup.new _ _⟩
theorem Xv {c A B : Prop} [Decidable c] (h1 : ¬ c → A) (h2 : c → B) : if (!decide c) = true then A else B := by
 by_cases hc : c
 ·rw [decide_eq_true hc]
  exact h2 hc
 ·rw [decide_eq_false hc]
  exact h1 hc
end
end L2
namespace HT
open PySem PyProof.Rows
section
variable {prog : Program} {w : World} {A : Around} {E : Value → Shared → Prop} {s : Shared}
theorem getItem_tuple_all {t sl : Addr} {items : Array Value} {vl vu : Value} {lo hi : Option Int} {Q : Value → Shared → Prop} (ht : IsTup s.heap t items) (hs : s.heap.IsSliceOf sl vl vu .none) (pl : IsPart vl lo) (pu : IsPart vu hi)
  (hw : sIx items.size 0 lo = 0 ∧ sIx items.size items.size hi = items.size) (h : Q (.ref t) s) : wpAny (model prog w) A (getItem (.ref t) (.ref sl)) Q E s := by
 obtain ⟨os, hos, hcs, hds⟩ := id hs
 have hTs : s.TypeIs (.ref sl) "slice" := ⟨os, hos, hcs⟩
 unfold getItem
 try with_reducible refine wpAny_holding ?_
 first | refine wpAny_bind (wpAny_pure ?_) | skip
 refine wpAny_bind (wpAny_sequenceKey ht.typeIs (by decide) ?_)
 refine wpAny_bind (wpAny_callSpecial?_slot (name := Str.ofString "__getitem__") ht.typeIs PyProof.Rows.slot_tuple_getitem
  (wpAny_call_entry PyProof.Rows.slot_tuple_getitem ht.typeIs entry_tuple_getitem ?_ (args_tuple_getitem _ _)))
 show wpAny _ _ (Builtin.Tuple.tupleItemsOf (.ref t) >>= _) _ _ s
 refine wpAny_bind (tupleItemsOf_ ht ?_)
 refine wpAny_bind (wpAny_typeOf hTs ?_)
 rw [if_pos (by decide)]
 refine wpAny_bind (yK hs pl pu ?_)
 have hyes : (((sIx items.size 0 lo : Nat) : Int) == 0 && (1 : Int) == 1 && (sIx items.size items.size hi - sIx items.size 0 lo) == items.size) = true := by
  rw [hw.1, hw.2]
  simp
 show wpAny _ _ (if (((sIx items.size 0 lo : Nat) : Int) == 0 && (1 : Int) == 1 && (sIx items.size items.size hi - sIx items.size 0 lo) == items.size) = true then _ else _) _ _ s
 rw [if_pos hyes]
 refine wpAny_bind (m := Builtin.Tuple.tupleIsExact _) ?_
 unfold Builtin.Tuple.tupleIsExact
 refine wpAny_bind (wpAny_typeOf ht.typeIs (wpAny_pure ?_))
 rw [if_pos (by decide)]
 refine wpAny_bind (wpAny_rule ?_)
 first
  | exact wpAny_pure ⟨_, rfl, wpAny_pure h⟩
  | exact wpAny_bind (wpAny_pure (wpAny_pure ⟨_, rfl, wpAny_pure h⟩))
  | exact wpAny_bind (wpAny_pure ⟨_, rfl, wpAny_pure h⟩)
end
end HT
namespace L2
open PySem PySem.Spec PyProof.Rows
section
variable {X : Cx}
def rSlG : V → Option Int → Option Int → Hp → VK → Prop := fun x lo hi H Q => ∃ a xs, x = .ref a ∧ H a = some (.tup xs) ∧ ∀ q H', Same H H' → H' q = some (.tup (cutV xs lo hi)) → Q (.ref q) H'
theorem sl_tupG : SlR X rSlG := by
 intro pins s σ H x v vl vu lo hi sl Q I rx hs pl pu h
 obtain ⟨a, xs, rfl, hH, q⟩ := h
 by_cases hw : HT.sIx xs.length 0 lo = 0 ∧ HT.sIx xs.length xs.length hi = xs.length
 ·cases rx
  obtain ⟨its, r, ht, hz⟩ := I.tuple (SqT.of hH)
  have hlen : its.toArray.size = xs.length := by rw [List.size_toArray]; exact r.length.symm
  refine ⟨"tuple", _, PyProof.Rows.slot_tuple_getitem.lookup, ht.typeIs, ?_⟩
  refine HT.getItem_tuple_all ht hs pl pu (by rw [hlen]; exact hw) ?_
  refine ⟨.ref a, H, I, rfl, q a H (Same.refl H) ?_⟩
  have e : cutV xs lo hi = xs := by
   unfold cutV
   rw [hw.1, hw.2, List.drop_zero, Nat.sub_zero, List.take_length]
  rw [e]
  exact hH
 ·exact sl_tup pins s σ H _ v vl vu lo hi sl Q I rx hs pl pu ⟨a, xs, rfl, SqT.of hH, hw, fun p hp => q p _ (Same.new (Same.refl H) hp) zf⟩
def rCatG : R2 := fun x y H Q => ∃ a b xs ys, x = .ref a ∧ y = .ref b ∧ H a = some (.tup xs) ∧ H b = some (.tup ys) ∧ xs.length + ys.length ≤ 1000 ∧ ∀ q H', Same H H' → H' q = some (.tup (xs ++ ys)) → Q (.ref q) H'
theorem Z8 : OpR X (binaryOp .Add) rCatG := by
 intro pins s σ H x y v u Q I rx ry h
 obtain ⟨a, b, xs, ys, rfl, rfl, ha, hb, hz, q⟩ := h
 have hz' : xs.length + ys.length ≤ sizeLine := Nat.le_trans hz (by decide)
 by_cases hx : xs = []
 ·cases rx
  cases ry
  obtain ⟨its, r1, p1, _⟩ := I.tuple (SqT.of ha)
  obtain ⟨its2, r2, p2, _⟩ := I.tuple (SqT.of hb)
  obtain ⟨⟨cls, dd, data, sl⟩, ho, hc, n, hd⟩ := id p1
  obtain ⟨⟨cls2, dd2, data2, sl2⟩, ho2, hc2, n2, hd2⟩ := id p2
  simp only at hc hd hc2 hd2
  subst hc hd hc2 hd2
  have hv : its = [] := r1.nil_iff.mpr hx
  refine concat_meets ⟨_, ho, rfl⟩ ⟨_, ho2, rfl⟩ noFill_tuple_add seq_tuple_add PySem.F.slot_tuple_add PySem.F.entry_tuple_add (PySem.F.args_tuple_add_2 _ _)
   (tuple_addW0 a b its.toArray its2.toArray n n2 dd dd2 sl sl2 (by simp [hv])) ⟨ho, ho2, ?_⟩
  refine ⟨.ref b, H, I, rfl, q b H (Same.refl H) ?_⟩
  rw [hx, List.nil_append]
  exact hb
 ·refine op_catT pins s σ H _ _ v u Q I rx ry ⟨a, b, xs, ys, rfl, rfl, SqT.of ha, SqT.of hb, hx, hz', fun e => ?_, fun _ p hp => q p _ (Same.new (Same.refl H) hp) zf⟩
  refine q a H (Same.refl H) ?_
  rw [e, List.append_nil]
  exact ha
end
end L2
namespace PySem
open Sem (wp)
open Builtin
open AutoSeq1 (wpAny_loadPart')
theorem tuple_mulW0 (l : Addr) (items : Array Value) (n : Nat) (dd : Option Addr) (sl : Array (Option Value)) (u : Tok) (c2 : (items.isEmpty || (0 : Int) == 1) = false) :
    Meets (Builtin.«tuple.__mul__» ⟨[.ref l, .int 0 u], []⟩) (fun _ R s => s.heap.get? l = some { cls := .type "tuple", dict := dd, data := .seq items n, slots := sl } ∧ R (.ok (.ret (Value.ref s.heap.objs.size))) { s with heap := s.heap.push { cls := Value.type "tuple", data := Data.seq #[] }, toks := s.toks }) :=
  .of_wp fun prog w A R s h => by
    obtain ⟨hp, g, d, tk, os⟩ := s; obtain ⟨hl, h⟩ := h
    have f1 := AutoSeq1.idx_int
    wp_walk using wpAny_loadPart' hl
    first
      | exact ⟨_, rfl, h⟩
      | (refine wpAny_ite_false (decide_eq_false (by rw [c2]; exact Bool.false_ne_true)) ?_
         wp_walk using wpAny_loadPart' hl
         exact ⟨_, rfl, h⟩)
end PySem
namespace L2
open PySem PySem.Spec PyProof.Rows
section
variable {X : Cx}
def rRepB : R2 := fun x y H Q => ∃ a k v, x = .ref a ∧ y = .int k ∧ H a = some (.tup [v]) ∧ (k = 0 ∨ k = 1) ∧ (k = 1 → Q (.ref a) H) ∧ (k = 0 → ∀ p, H p = none → Q (.ref p) (upd H p (.tup [])))
theorem op_repB : OpR X (binaryOp .Mult) rRepB := by
 intro pins s σ H x y v u Q I rx ry h
 obtain ⟨a, k, v0, rfl, rfl, hH, hk, q1, q0⟩ := h
 rcases hk with rfl | rfl
 ·cases rx
  obtain ⟨t, rfl⟩ := ry
  obtain ⟨z, its, rv, ⟨cls, dd, data, sl⟩, e, c, n, d⟩ := I.hok a _ hH
  simp only at c d
  subst c d
  have hits : its ≠ [] := fun z => by have := rv.nil_iff.mp z; cases this
  refine wpAny_binaryOp_repeat_ref (T := "tuple") (U := "int") (by decide) ⟨_, e, rfl⟩ (fun s' => typeIs_int s' 0 t) yg F.fills_int_mul F.slot_int_rmul yN F.slot_int_index.lookup
   (call_meets F.slot_int_rmul (typeIs_int s 0 t) F.entry_int_rmul (F.args_int_rmul_2 _ _) (YF 0 t a its.toArray n dd sl)
    ⟨e, rfl, ⟨_, e, rfl⟩, call_meets F.slot_tuple_mul ⟨_, e, rfl⟩ F.entry_tuple_mul (F.args_tuple_mul_2 _ _) (tuple_mulW0 a its.toArray n dd sl t (by simp [hits])) ⟨e, ?_⟩⟩)
  refine ⟨.ref s.heap.objs.size, _, I.laid (t' := s.toks) (o := .tup []) (fun b ob q => Heap.get?_push_of_some _ q) (Nat.le_refl _) ?_, rfl, q0 rfl _ (I.hok.fresh (Nat.le_refl _))⟩
  exact ⟨Nat.zero_le _, [], .nil, IsTup.new _ _⟩
 ·exact Z7 pins s σ H _ _ v u Q I rx ry ⟨a, 1, [v0], rfl, rfl, hH, by simp, by decide, by decide, by simp, fun _ => q1 rfl, fun h => absurd rfl h⟩
def rRepG : R2 := fun x y H Q => ∃ (a : Addr) (k : Nat) (v : V), x = .ref a ∧ y = .int (k : Int) ∧ H a = some (.tup [v]) ∧ k ≤ 1000 ∧ ∀ q H', Same H H' → H' q = some (.tup (List.replicate k v)) → Q (.ref q) H'
theorem flat_rep {α : Type} (k : Nat) (v : α) : (List.replicate k [v]).flatten = List.replicate k v := by
 induction k with
 | zero => rfl
 | succ k ih => rw [List.replicate_succ, List.flatten_cons, ih, List.replicate_succ]; rfl
theorem op_repG : OpR X (binaryOp .Mult) rRepG := by
 intro pins s σ H x y v u Q I rx ry h
 obtain ⟨a, k, v0, rfl, rfl, hH, hk, q⟩ := h
 by_cases h0 : k = 0
 ·subst h0
  exact op_repB pins s σ H _ _ v u Q I rx ry ⟨a, _, v0, rfl, rfl, hH, .inl rfl, fun z => absurd z (by decide), fun _ p hp => q p _ (Same.new (Same.refl H) hp) zf⟩
 ·refine Z7 pins s σ H _ _ v u Q I rx ry ⟨a, _, [v0], rfl, rfl, hH, by simp, by omega, by omega, by rw [Int.toNat_natCast]; simp; omega, fun h1 => ?_, fun _ p hp => ?_⟩
  ·have : k = 1 := by omega
   subst this
   exact q a H (Same.refl H) hH
  ·rw [Int.toNat_natCast, flat_rep]
   exact q p _ (Same.new (Same.refl H) hp) zf
def rTupL : List V → Hp → VK → Prop := fun xs H Q => ∃ (p : Addr) (ys : List V), xs = [.ref p] ∧ H p = some (.lst ys) ∧ ∀ q H', Same H H' → H' q = some (.tup ys) → Q (.ref q) H'
theorem ya : zT X (.type "tuple") rTupL := fun pins s σ H xs us Q I r h => call_tuple_of pins s σ H xs us Q I r (let ⟨p, ys, e, hp, q⟩ := h; ⟨p, ys, e, .inl ⟨SqL.of hp, fun l hl => q l _ (Same.new (Same.refl H) hl) zf⟩⟩)
end
end L2
namespace G2
open PySem L2
theorem Zb {n h : Nat} : ∀ ds : List PyData, (∀ d ∈ ds, Shw d n h) → PyData.showableAll ds = true ∧ PyData.hasDictAll ds = false ∧ PyData.depthAll ds ≤ h ∧ ((PyData.shownAll ds).map (·.length)).sum ≤ n * ds.length ∧ (PyData.shownAll ds).length = ds.length
 | [], _ => ⟨rfl, rfl, Nat.zero_le _, Nat.zero_le _, rfl⟩
 | d :: ds, k => by
  obtain ⟨h1, h2, h3, h4, h5⟩ := Zb ds fun x hx => k x (List.mem_cons_of_mem _ hx)
  have e := k d List.mem_cons_self
  have e3 := e.p
  have e4 := e.l
  refine ⟨?_, ?_, ?_, ?_, ?_⟩
  ·simp only [PyData.showableAll, e.s, h1, Bool.and_self]
  ·simp only [PyData.hasDictAll, e.nd, h2, Bool.or_self]
  ·simp only [PyData.depthAll]
   omega
  ·simp only [PyData.shownAll, List.map_cons, List.sum_cons, List.length_cons, Nat.mul_succ]
   omega
  ·simp only [PyData.shownAll, List.length_cons, h5]
theorem Shw.tups {n h : Nat} {ds : List PyData} (k : ∀ d ∈ ds, Shw d n h) : Shw (.tuple ds) ((n + 2) * ds.length + 3) (h + 1) := by
 obtain ⟨h1, h2, h3, h4, h5⟩ := Zb ds k
 refine ⟨by simp only [PyData.showable]; exact h1, by simp only [PyData.hasDict]; exact h2, ?_, ?_⟩
 ·show PyData.depthAll _ + 1 ≤ h + 1
  omega
 ·have := len_tup ds
  rw [Nat.add_mul]
  omega
theorem Shw.lsts {n h : Nat} {ds : List PyData} (k : ∀ d ∈ ds, Shw d n h) : Shw (.list ds) ((n + 2) * ds.length + 3) (h + 1) := by
 obtain ⟨h1, h2, h3, h4, h5⟩ := Zb ds k
 refine ⟨by simp only [PyData.showable]; exact h1, by simp only [PyData.hasDict]; exact h2, ?_, ?_⟩
 ·show PyData.depthAll _ + 1 ≤ h + 1
  omega
 ·have e : (PyData.shown (.list ds)).length ≤ ((PyData.shownAll ds).map (·.length)).sum + 2 * (PyData.shownAll ds).length + 3 := listText_len_le _
  rw [Nat.add_mul]
  omega
end G2
namespace L2
open PySem PySem.Spec PyProof.Rows
abbrev KT (H : Hp) : List (List Key × V) → List (List Key × Addr × Value) → Prop := Paired fun p q => p.1 = q.1 ∧ H q.2.1 = some (.tup (p.1.map kV)) ∧ RelV p.2 q.2.2
structure M1 (X : Cx) (o : Expr) (m : Str) (apos : Pos) (e : Expr) (cpos : Pos) : Prop where
 base : attributeBase o m X.env (eval o X.env) = eval o X.env
 few : ((backTo cpos (starEach [e] X.env)).all (fun x => !x.1) && (backToKw cpos (keywordEach [] X.env)).all (fun x => x.1.isSome)
  && decide (([e] : List Expr).length + ([] : List Keyword).length + (if ([] : List Keyword).isEmpty then 0 else 1) < 30)) = true
 line : (apos.endLine == cpos.line) = true
 trees : backTo cpos (starEach [e] X.env) = [(false, eval e X.env)]
structure M2 (X : Cx) (o : Expr) (m : Str) (apos : Pos) (e f : Expr) (cpos : Pos) : Prop where
 base : attributeBase o m X.env (eval o X.env) = eval o X.env
 few : ((backTo cpos (starEach [e, f] X.env)).all (fun x => !x.1) && (backToKw cpos (keywordEach [] X.env)).all (fun x => x.1.isSome)
  && decide (([e, f] : List Expr).length + ([] : List Keyword).length + (if ([] : List Keyword).isEmpty then 0 else 1) < 30)) = true
 line : (apos.endLine == cpos.line) = true
 trees : backTo cpos (starEach [e, f] X.env) = [(false, eval e X.env), (false, eval f X.env)]
section
variable {X : Cx} {k : Nat}
def rEqE : R2 := fun x y H Q => ∃ (a z : Addr) (xs : List V), x = .ref a ∧ y = .ref z ∧ H a = some (.lst xs) ∧ H z = some (.lst []) ∧ Q (.bl xs.isEmpty) H
theorem op_eqE (hr : Room k X.A) : OpR X (compareOp .Eq) rEqE := by
 intro pins s σ H x y v u Q I rx ry h
 obtain ⟨a, z, xs, rfl, rfl, ha, hz, q⟩ := h
 cases rx
 cases ry
 have hu := hr.units
 obtain ⟨its, r, pl, _⟩ := I.list (SqL.of ha)
 obtain ⟨its2, r2, pl2, _⟩ := I.list (SqL.of hz)
 have e2 : its2 = [] := r2.nil_iff.mpr rfl
 subst e2
 cases xs with
 | nil =>
  have e1 : its = [] := r.nil_iff.mpr rfl
  subst e1
  have R := SeqAt.RcAt.lists (A := X.A) (e := fun _ => true) pl.isList pl2.isList rfl (by omega) (fun j h1 h2 => absurd h1 (by simp))
  exact R X.prog X.w X.xe _ ⟨.bl _, H, I, rfl, q⟩
 | cons y ys =>
  have hne : its ≠ [] := fun e => by have := r.nil_iff.mp e; cases this
  have R := SeqAt.RcAt.lists_lengths (A := X.A) pl.isList pl2.isList (by simp [hne]) (by omega)
  exact R X.prog X.w X.xe _ ⟨.bl _, H, I, rfl, q⟩
def rNeE : R2 := fun x y H Q => ∃ (a z : Addr) (xs : List V), x = .ref a ∧ y = .ref z ∧ H a = some (.lst xs) ∧ H z = some (.lst []) ∧ Q (.bl (!xs.isEmpty)) H
theorem YR (hr : Room k X.A) : OpR X (compareOp .NotEq) rNeE := by
 intro pins s σ H x y v u Q I rx ry h
 obtain ⟨a, z, xs, rfl, rfl, ha, hz, q⟩ := h
 cases rx
 cases ry
 have hu := hr.units
 obtain ⟨its, r, pl, _⟩ := I.list (SqL.of ha)
 obtain ⟨its2, r2, pl2, _⟩ := I.list (SqL.of hz)
 have e2 : its2 = [] := r2.nil_iff.mpr rfl
 subst e2
 cases xs with
 | nil =>
  have e1 : its = [] := r.nil_iff.mpr rfl
  subst e1
  have R := SeqAt.RcNeAt.lists (A := X.A) (e := fun _ => true) pl.isList pl2.isList rfl (by omega) (fun j h1 h2 => absurd h1 (by simp))
  exact R X.prog X.w X.xe _ ⟨.bl _, H, I, rfl, q⟩
 | cons y ys =>
  have hne : its ≠ [] := fun e => by have := r.nil_iff.mp e; cases this
  have R := SeqAt.RcNeAt.lists_lengths (A := X.A) pl.isList pl2.isList (by simp [hne]) (by omega)
  exact R X.prog X.w X.xe _ ⟨.bl _, H, I, rfl, q⟩
end
end L2
namespace PySem.SeqAt
open PySem.MeetsSeq PySem PySem.Spec
end PySem.SeqAt
namespace HT
open PySem PySem.Spec PyProof.Rows
end HT
namespace L2
open PySem PySem.Spec PyProof.Rows
inductive Th where
 | non
 | bl (b : Bool)
 | int (i : Int)
 | str (s : Str)
 | tup (ts : List Th)
 | lst
 | dct
mutual
inductive ThAt (H : Hp) : V → Th → Prop
 | non : ThAt H .non .non
 | bl (b : Bool) : ThAt H (.bl b) (.bl b)
 | int (i : Int) : ThAt H (.int i) (.int i)
 | str (s : Str) : ThAt H (.str s) (.str s)
 | tup {p : Addr} {vs : List V} {ts : List Th} : H p = some (.tup vs) → ThsAt H vs ts → ThAt H (.ref p) (.tup ts)
 | lst {p : Addr} {vs : List V} : H p = some (.lst vs) → ThAt H (.ref p) .lst
 | dct {p : Addr} {kvs : List (Key × V)} : H p = some (.dK kvs) → ThAt H (.ref p) .dct
inductive ThsAt (H : Hp) : List V → List Th → Prop
 | nil : ThsAt H [] []
 | cons {v : V} {t : Th} {vs : List V} {ts : List Th} : ThAt H v t → ThsAt H vs ts → ThsAt H (v :: vs) (t :: ts)
end
structure KS (H H' : Hp) : Prop where
 t : ∀ q xs, H q = some (.tup xs) → H' q = some (.tup xs)
 l : ∀ q xs, H q = some (.lst xs) → ∃ ys, H' q = some (.lst ys)
 d : ∀ q xs, H q = some (.dK xs) → ∃ ys, H' q = some (.dK ys)
section
variable {H H' H'' : Hp} {a : Addr}
mutual
theorem ThAt.ks (k : KS H H') {v : V} {t : Th} : ThAt H v t → ThAt H' v t
 | .non => .non
 | .bl b => .bl b
 | .int i => .int i
 | .str s => .str s
 | .tup h hs => .tup (k.t _ _ h) (ThsAt.ks k hs)
 | .lst h => let ⟨_, h'⟩ := k.l _ _ h; .lst h'
 | .dct h => let ⟨_, h'⟩ := k.d _ _ h; .dct h'
theorem ThsAt.ks (k : KS H H') {vs : List V} {ts : List Th} : ThsAt H vs ts → ThsAt H' vs ts
 | .nil => .nil
 | .cons h hs => .cons (ThAt.ks k h) (ThsAt.ks k hs)
end
end
def Th.tn : Th → String
 | .non => "NoneType"
 | .bl _ => "bool"
 | .int _ => "int"
 | .str _ => "str"
 | .tup _ => "tuple"
 | .lst => "list"
 | .dct => "dict"
def Th.isI : Th → Bool
 | .bl _ => true
 | .int _ => true
 | _ => false
def Th.isT : Th → Bool
 | .tup _ => true
 | _ => false
def GTup (K : W.Frag) (mg : Str → Option Value) (x : Str) (vs : List V) : Prop := ∃ (a : Addr) (o : Obj) (its : Array Value) (n : Nat), mg x = some (.ref a) ∧ K.lookup a = some o ∧ o.cls = .type "tuple" ∧ o.data = .seq its n ∧ its.size ≤ sizeLine ∧ Vals vs its.toList
end L2
namespace L2
open PySem PySem.Spec PyProof.Rows Builtin Builtin.Str
end L2
namespace L2
open PySem
end L2
namespace L2
open PySem PyProof.Rows
def sg (x : Str) : List Str := x.cps.toList.map fun c => ⟨#[c]⟩
end L2
namespace PySem.W
open PySem PySem.Calls PyProof.Rows
def KasT.eval {α : Type} (lt : Nat → Nat → Bool) : KasT α → α
 | .ret a => a
 | .ask i j k => (k (lt i j)).eval lt
def KasT.okFor {α : Type} (lt : Nat → Nat → Bool) (n : Nat) : KasT α → Bool
 | .ret _ => true
 | .ask i j k => decide (i < n) && (decide (j < n) && (k (lt i j)).okFor lt n)
theorem KasT.eval_wp {α : Type} {cmp : Nat → Nat → (Bool → Shared → Prop) → Shared → Prop} {lt : Nat → Nat → Bool} {n : Nat} {Q : α → Shared → Prop} {s : Shared} (hc : ∀ i j C, C (lt i j) s → i < n → j < n → cmp i j C s) : ∀ t : KasT α, t.okFor lt n = true → Q (t.eval lt) s → t.kasWp cmp Q s
 | .ret _, _, h => h
 | .ask i j k, ok, h => by
  unfold KasT.okFor at ok
  rw [Bool.and_eq_true, Bool.and_eq_true] at ok
  exact hc i j _ (KasT.eval_wp hc (k (lt i j)) ok.2.2 h) (of_decide_eq_true ok.1) (of_decide_eq_true ok.2.1)
def lexI (fin : Bool) : List Int → List Int → Bool
 | x :: xs, y :: ys => if x = y then lexI fin xs ys else decide (x < y)
 | _, _ => fin
inductive Nums : List Value → List Int → Prop
 | nil : Nums [] []
 | cons {i : Int} {t : Tok} {us : List Value} {ns : List Int} : Nums us ns → Nums (.int i t :: us) (i :: ns)
theorem Nums.len : ∀ {us : List Value} {ns : List Int}, Nums us ns → us.length = ns.length
 | _, _, .nil => rfl
 | _, _, .cons h => by rw [List.length_cons, List.length_cons, Nums.len h]
section
variable {prog : Program} {w : World} {A : Around} {E : Value → Shared → Prop} {s : Shared}
theorem Zm {fin : Bool} {Q : Bool → Shared → Prop} : ∀ {us vs : List Value} {xs ys : List Int} (i : Nat), Nums us xs → Nums vs ys → Q (lexI fin xs ys) s → KatLex prog w A true fin Q (us.zip vs) i s
 | _, _, _, _, i, .nil, .nil, h => h
 | _, _, _, _, i, .nil, .cons _, h => h
 | _, _, _, _, i, .cons _, .nil, h => h
 | _, _, x :: xs, y :: ys, i, .cons (t := t) (us := us) h1, .cons (t := u) (us := vs) h2, h => by
  show KatLex prog w A true fin Q ((.int x t, .int y u) :: us.zip vs) i s
  refine kat_cons (SeqAt.EqAt.int_int x t y u prog w _ _ ?_)
  by_cases hxy : x = y
  ·rw [show (x == y) = true by simp [hxy]]
   refine kat_yes (Zm (i + 1) h1 h2 ?_)
   unfold lexI at h
   rw [if_pos hxy] at h
   exact h
  ·rw [show (x == y) = false by simp [hxy]]
   unfold lexI at h
   rw [if_neg hxy] at h
   refine kat_no ?_
   rcases Nat.eq_zero_or_pos i with hi | hi
   ·subst hi
    exact oneLt_int h
   ·rw [show (true && i == 0) = false by simp; omega]
    exact kat_one _ _ (lt_int h)
end
end PySem.W
namespace PySem
open Sem (wp)
open AutoSeq1 (wpAny_loadPart')
end PySem
namespace L2
open PySem PySem.Spec PyProof.Rows
section
variable {X : Cx} {k : Nat}
def RowsAt (H : Hp) : List Addr → List (List Int) → Prop
 | [], [] => True
 | a :: as, ks :: kss => H a = some (.tup (ks.map V.int)) ∧ RowsAt H as kss
 | _, _ => False
theorem RowsAt.len {H : Hp} : ∀ {as : List Addr} {kss : List (List Int)}, RowsAt H as kss → as.length = kss.length
 | [], [], _ => rfl
 | a :: as, ks :: kss, h => by rw [List.length_cons, List.length_cons, RowsAt.len h.2]
 | [], _ :: _, h => h.elim
 | _ :: _, [], h => h.elim
theorem RowsAt.at {H : Hp} : ∀ {as : List Addr} {kss : List (List Int)}, RowsAt H as kss → ∀ {i : Nat} {a : Addr}, as[i]? = some a → ∃ ks, kss[i]? = some ks ∧ H a = some (.tup (ks.map V.int))
 | a :: as, ks :: kss, h, 0, b, e => ⟨ks, rfl, by
  have : a = b := by simpa using e
  exact this ▸ h.1⟩
 | a :: as, ks :: kss, h, i + 1, b, e => by
  obtain ⟨k', h1, h2⟩ := RowsAt.at h.2 (i := i) (a := b) (by simpa using e)
  exact ⟨k', by simpa using h1, h2⟩
 | [], [], _, i, b, e => by simp at e
 | [], _ :: _, h, _, _, _ => h.elim
 | _ :: _, [], h, _, _, _ => h.elim
theorem Yb : ∀ {ns : List Int} {us : List Value}, Vals (ns.map V.int) us → PySem.W.Nums us ns
 | [], _, r => by
  rw [List.map_nil] at r
  cases r
  exact .nil
 | n :: ns, _, r => by
  rw [List.map_cons] at r
  cases r with
  | cons r1 r2 =>
   obtain ⟨t, rfl⟩ := r1
   exact .cons (Yb r2)
theorem Vals.getD {xs : List V} {us : List Value} (r : Vals xs us) (i : Nat) : RelV (xs.getD i .non) (us.getD i .none) := by
 induction r generalizing i with
 | nil => rfl
 | cons h _ ih =>
  cases i with
  | zero => simpa using h
  | succ i => simpa using ih i
theorem Vals.perm {xs : List V} {us : List Value} (r : Vals xs us) : ∀ p : List Nat, Vals (p.map fun i => xs.getD i .non) (p.map fun i => us.getD i .none)
 | [] => .nil
 | i :: p => .cons (Vals.getD r i) (Vals.perm r p)
end
structure Fly (lo : Nat) (h : Heap) (H : Hp) (a : Addr) (T : Option Addr) (C : Value) (d : Option Addr) (fl : Value) : Prop where
 at_ : ∃ (vs : Array Value) (sl : Array (Option Value)), h.get? a = some ⟨C, d, .fields vs, sl⟩ ∧
  (match T with
   | none => vs[1]? = some .none
   | some t => vs[1]? = some (.ref t) ∧ t ≠ a ∧ ∃ oT ts, h.get? t = some oT ∧ oT.data = .fields ts ∧ ts[3]? = some fl)
 lo : ∀ b ∈ a :: T.toList, lo ≤ b ∧ H b = none
open Builtin Builtin.ObjectAttr
abbrev bmV : List Value := [.type "ValueError", .type "Exception", .type "BaseException", .type "object"]
inductive OverV : List Value → Prop
 | base : OverV bmV
 | own (a : Addr) {l : List Value} : OverV l → OverV (.ref a :: l)
structure XC (K : W.Frag) (C : Addr) (bm : List Value) : Prop where
 at_ : ∃ (nm q : Str) (N : Addr) (bs : List Value) (sn : List Str) (sub : List Value) (ab : Bool) (col : Option Bool) (dd : Option Addr) (k0 k1 k2 k3 k5 : Option Value),
  K.lookup C = some (excClassObj nm q C N bs bm true sn sub ab col dd k0 k1 k2 k3 k5 "ValueError.__new__")
 ov : OverV bm
structure XA (K : W.Frag) (C : Addr) : Prop where
 bm : ∃ bm, XC K C bm
 ga : PySem.W.findIn K (.ref C) "__getattribute__" = some (some (.builtin "BaseException.__getattribute__"))
 gt : PySem.W.findIn K (.ref C) "__getattr__" = some none
 sa : PySem.W.findIn K (.ref C) "__setattr__" = some (some (.builtin "object.__setattr__"))
 cl : PySem.W.findIn K (.ref C) "__class__" = some (some (.builtin "object.__class__"))
 sg : PySem.W.specialIn K (.builtin "object.__class__") "__get__" = some (some (.builtin "getset_descriptor.__get__"))
 tk : PySem.W.takesIn K (.builtin "object.__class__") = some true
end L2
namespace PySem
open Sem (wp)
open Builtin Builtin.ObjectAttr
open L2 (OverV)
section
variable {prog : Program} {w : World} {A : Around} {E : Value → Shared → Prop} {h : Heap} {g : Array GenState} {d : Drawn} {t : Nat} {os : OsState}
variable {nm q : Str} {C N : Addr} {bs bm : List Value} {sn : List Str} {sub : List Value} {ab : Bool} {col : Option Bool} {dd : Option Addr} {k0 k1 k2 k3 k5 : Option Value}
end
end PySem
namespace PySem
open Sem (wp)
open Builtin Builtin.ObjectAttr
open L2 (OverV XC XA bmV)
section
variable {prog : Program} {w : World} {A : Around} {E : Value → Shared → Prop} {h : Heap} {g : Array GenState} {d : Drawn} {t : Nat} {os : OsState}
variable {nm q : Str} {C N x : Addr} {bs bm : List Value} {sn : List Str} {sub : List Value} {ab : Bool} {col : Option Bool} {dd : Option Addr} {k0 k1 k2 k3 k5 : Option Value}
 {mA : Str → Option Value} {name : Str} {v : Value}
end
section
variable {prog : Program} {w : World} {A : Around} {E : Value → Shared → Prop} {h : Heap} {g : Array GenState} {d : Drawn} {t : Nat} {os : OsState} {K : W.Frag}
variable {nm q : Str} {C N x : Addr} {bs bm : List Value} {sn : List Str} {sub : List Value} {ab : Bool} {col : Option Bool} {dd : Option Addr} {k0 k1 k2 k3 k5 : Option Value}
 {name : Str} {v : Value} {ox : Obj} {od : Option Obj}
end
end PySem
namespace L2
open PySem PySem.Spec PyProof.Rows
def XDct (dx : Addr) (fs : List (Str × V)) : HO := .ext fun h => ∃ mA, h.Ns1 dx mA ∧ (∀ f, RelO (fs.lookup f) (mA f)) ∧ PySem.Within mA (fs.map (·.1))
end L2
namespace PySem
open Sem (wp)
open L2 (OverV)
section
variable {M : Model} {A : Around} {E : Value → Shared → Prop} {env : Env}
variable {nm q : Str} {C N : Addr} {bs bm : List Value} {sn : List Str} {sub : List Value} {ab : Bool} {col : Option Bool} {dd : Option Addr} {k0 k1 k2 k3 k5 : Option Value}
end
end PySem
namespace L2
open PySem PySem.Spec PyProof.Rows
structure XMk (K : W.Frag) (C f : Addr) : Prop where
 init : PySem.W.findIn K (.ref C) "__init__" = some (some (.ref f))
 fn : PySem.W.isFn K (.ref f) = true
 kp : PySem.W.keepIn K (.ref C) = true
 xa : XA K C
end L2
namespace PySem
open Sem (wp)
open L2 (OverV)
end PySem
namespace L2
open PySem PySem.Spec PyProof.Rows
abbrev Cx.tr (X : Cx) (pn : List (Addr × Obj)) (xe : Value → Shared → Prop) : Cx := { X with pn := pn, xe := xe }
abbrev Cx.hdl (X : Cx) (a : Addr) : Cx := { X with A := X.A.mark (some (.ref a)), calm := false, xe := fun _ _ => False }
end L2
namespace PySem
open Sem (wp)
open Builtin Builtin.ObjectAttr
open L2 (OverV XC XA bmV)
section
variable {prog : Program} {w : World} {A : Around} {E : Value → Shared → Prop} {h : Heap} {g : Array GenState} {d : Drawn} {t : Nat} {os : OsState} {K : W.Frag}
variable {nm q : Str} {C N x : Addr} {bs bm : List Value} {sn : List Str} {sub : List Value} {ab : Bool} {col : Option Bool} {dd : Option Addr} {k0 k1 k2 k3 k5 : Option Value}
 {ox : Obj} {od : Option Obj}
end
end PySem
namespace L2
open PySem PySem.Spec PyProof.Rows
structure XUni (K : W.Frag) (mg : Str → Option Value) (D : Addr) (cs : List (Str × Addr)) : Prop where
 base : XC K D bmV
 mD : mg "DropError" = some (.ref D)
 cls : ∀ c ∈ cs, mg c.1 = some (.ref c.2) ∧ XC K c.2 (.ref D :: bmV) ∧ XA K c.2
 nd : (D :: cs.map (·.2)).Nodup
end L2
namespace PySem
open Sem (wp)
open L2 (OverV bmV)
section
variable {prog : Program} {w : World} {A : Around} {E : Value → Shared → Prop} {h : Heap} {g : Array GenState} {d : Drawn} {t : Nat} {os : OsState}
variable {nm q : Str} {C N : Addr} {bs : List Value} {sn : List Str} {sub : List Value} {ab : Bool} {col : Option Bool} {dd : Option Addr} {k0 k1 k2 k3 k5 : Option Value}
end
end PySem
namespace L2
open PySem PySem.Spec PyProof.Rows
structure FnOkH (P : Program) (w : World) (K : W.Frag) (mg : Str → Option Value) (base : Heap) (k : Nat) (f : Addr) (fd : FuncData) (ps : List Str) (sp : Sp) : Prop where
 len : ∀ vs H Q E, sp vs H Q E → vs.length = ps.length
 run : ∀ (A : Around) (a : Addr) (outer : List Env) (s : Shared) (H : Hp) (args : Args) (us : List Value) (vs : List V) (Q : VK), Room k A → Env0 P w K mg base A outer s H → BindsTo s fd args (ps.zip us) → Vals vs us → sp vs H Q E0 →
  codeAny (model P w) (A.mark (some (.ref a))) (.call (.ref f) args) (CR CX0 outer P w H s Q E0) s
structure XBase (K : W.Frag) (C : Addr) : Prop where
 at_ : ∃ (nm q : Str) (N : Addr) (bs : List Value) (sn : List Str) (sub : List Value) (ab : Bool) (col : Option Bool) (dd : Option Addr) (k0 k1 k2 k3 k5 : Option Value),
  K.lookup C = some (excClassObj nm q C N bs bmV true sn sub ab col dd k0 k1 k2 k3 k5 "ValueError.__new__")
 fi : PySem.W.findIn K (.ref C) "__init__" = some (some (.builtin "ValueError.__init__"))
 kp : PySem.W.keepIn K (.ref C) = true
section
variable {pr : Program} {wo : World} {Ar : Around} {E : Value → Shared → Prop} {s : Shared}
abbrev eS (led : Bool) : Obj := { cls := .type "set", dict := none, data := .set #[] 0 (.fresh 0 0 led) }
end
end L2
namespace L2
open PySem
structure Bl (mg : Str → Option Value) : Prop where
 len : mg "len" = none
 range : mg "range" = none
 tuple : mg "tuple" = none
 int : mg "int" = none
 bool : mg "bool" = none
 list : mg "list" = none
 str : mg "str" = none
 all : mg "all" = none
 any : mg "any" = none
 isi : mg "isinstance" = none
 repr : mg "repr" = none
 zip : mg "zip" = none
 min : mg "min" = none
 max : mg "max" = none
 sum : mg "sum" = none
 enu : mg "enumerate" = none
 sorted : mg "sorted" = none
 set : mg "set" = none
 dict : mg "dict" = none
 abs : mg "abs" = none
def Kn (mg : Str → Option Value) (x : Str) (i : Int) : Prop := ∃ t, mg x = some (Value.int i t)
def KnS (mg : Str → Option Value) (x : Str) (a : Str) : Prop := ∃ t, mg x = some (Value.str a t)
theorem pe_k {X : Cx} {x : Str} {i : Int} {pos : Pos} (h : Kn X.mg x i) (hg : Gl X x := by rfl) (hd : (x == ("__debug__" : Str)) = false := by decide) : PE X (.Name x pos) (tC (.int i)) := by
 obtain ⟨t, e⟩ := h
 exact pe_glob hg e ⟨t, rfl⟩ hd
theorem w_andV {ta tb : TE} {σ : St} {H : Hp} {Q : VK} (h : ta σ H fun x H1 => ∃ c, x = .bl c ∧ if c = true then tb σ H1 Q else Q (.bl false) H1) : Xm ta tb σ H Q := h
end L2
namespace L2
open PySem PySem.Spec PyProof.Rows Builtin Builtin.Str
section
variable {X : Cx}
def isT (b : Str) : Value → Bool
 | .str a _ => decide (a = b)
 | _ => false
end
end L2
namespace L2
open PySem PySem.Spec PyProof.Rows
section
variable {X : Cx} {e st : Expr} {te ts : TE} {pos p2 : Pos}
def Xe (K : W.Frag) (te : TE) (ts : TO) : TE := fun σ H Q => te σ H fun x H1 => ts σ H1 fun k H2 => k = some (-1) ∧ ∃ a xs, x = .ref a ∧ SqL K H2 a xs ∧ ∀ p, H2 p = none → Q (.ref p) (upd H2 p (.lst xs.reverse))
theorem pe_revL {ts : TO} (he : PE X e te) (hs : PO X (some st) ts) : PE X (.Subscript e (.Slice none none (some st) p2) pos) (Xe X.K te ts) := by
 intro pins s σ H Q I h
 refine Subscript_ (thn (he pins s σ H _ I h) fun v s1 ⟨x, H1, I1, r1, q1⟩ => ?_)
 refine wpAny_Slice ?_
 rw [evalPart_none]
 refine wpAny_pure ?_
 refine wpAny_pure ?_
 refine thn (hs pins s1 σ H1 _ I1 q1) fun vk s3 ⟨o, H3, I3, pk, eo, a, xs, ex, hx, q3⟩ => ?_
 subst eo ex
 cases r1
 have I4 : Inv X pins σ H3 { s3 with heap := s3.heap.push { cls := .type "slice", data := .fields #[.none, .none, vk] } } := I3.kept (t' := s3.toks) fun b ob q => Heap.get?_push_of_some _ q
 obtain ⟨its, r, ht, hz⟩ := I4.list hx
 have hlen := r.length
 show wpAny (model X.prog X.w) X.A (subscriptTail e (.Slice none none (some st) p2) (.ref a) (.ref s3.heap.objs.size)) (EP X pins σ Q) X.xe { s3 with heap := s3.heap.push { cls := .type "slice", data := .fields #[.none, .none, vk] } }
 refine tail_any (ops := [.ref a, .ref s3.heap.objs.size]) ht.isList.typeIs slot_list_getitem.lookup (wpAny_getItem_list_slice ht.isList (Heap.IsSliceOf.new ..) .none .none pk (by decide) ?_ (by rw [List.size_toArray] <;> omega)) (by with_unfolding_all rfl)
 rw [PySem.W.krv_pick]
 refine ⟨.ref _, _, I4.laid (t' := s3.toks) (o := .lst xs.reverse) (fun b ob q => Heap.get?_push_of_some _ q) (Nat.le_refl _) ?_, rfl, q3 _ (I4.hok.fresh (Nat.le_refl _))⟩
 exact ⟨by rw [List.length_reverse]; exact hz, _, 0, r.reverse, Heap.get?_push_size _ rfl⟩
end
theorem SqT.sm {K : W.Frag} {H H' : Hp} {a : Addr} {xs : List V} (e : Same H H') (h : SqT K H a xs) : SqT K H' a xs := by
 rcases h with (h | ⟨o, h⟩) | h
 ·exact .inl (.inl (e _ _ h))
 ·exact .inl (.inr ⟨o, e _ _ h⟩)
 ·exact .inr h
section
variable {D : Addr} {te : TE} {Q : VK} {ρ : St} {H : Hp}
theorem Y8 {K : W.Frag} {a : Addr} {α : Type} {ws : List α} (c r : α → V) (hs : SqT K H a (ws.map c)) (hn : ws.length ≤ 1000) (hD : H D = none)
  (h : ∀ w ∈ ws, ∀ H', Same H H' → ∀ R : V → Hp → Prop, (∀ H'', Same H' H'' → R (r w) H'') → te (some (c w) :: ρ) H' R)
  (q : ∀ H', Same H H' → H' D = some (.lst (ws.map r)) → Q (.ref D) H') : CGo (Itt K a) D (zB 0) tAll te Q (none :: ρ) H := by
 refine cgo_tup (xs := ws.map c) (fun i ys H' => ys = (ws.take i).map r ∧ Same H H') ⟨rfl, Same.new (Same.refl H) hD⟩ (fun i ys H' _ ⟨_, k'⟩ => SqT.sm k' hs) ?_ ?_
 ·rintro i x ys H' hx ⟨rfl, K'⟩ hDy R S kR _
  have hi : i < ws.length := by
   have := (List.getElem?_eq_some_iff.mp hx).1
   simpa using this
  have ex : x = c ws[i] := by
   rw [List.getElem?_map, List.getElem?_eq_getElem hi] at hx
   exact (Option.some.inj hx).symm
  subst ex
  refine yc (iteT ?_)
  refine h _ (List.getElem_mem hi) H' K' _ fun H2 K2 => ?_
  refine kR _ _ (K2 _ _ hDy) (by rw [List.length_map, List.length_take]; exact zA (by omega)) ⟨?_, (K'.trans K2).put hD⟩
  rw [List.take_add_one, List.getElem?_eq_getElem hi, List.map_append]
  rfl
 ·rintro ys H1 ⟨rfl, K1⟩ e1
  rw [List.length_map, List.take_length] at e1
  exact q H1 K1 e1
theorem v6 {lo : Int} {n : Nat} (r : Nat → V) (hn : n ≤ 1000) (hD : H D = none)
  (h : ∀ i, i < n → ∀ H', Same H H' → ∀ R : V → Hp → Prop, (∀ H'', Same H' H'' → R (r i) H'') → te (some (.int (lo + i)) :: ρ) H' R)
  (q : ∀ H', Same H H' → H' D = some (.lst ((List.range n).map r)) → Q (.ref D) H') : CGo (Itr lo n) D (zB 0) tAll te Q (none :: ρ) H := by
 refine wc (n := n) (fun i ys H' => ys = (List.range i).map r ∧ Same H H') ⟨rfl, Same.new (Same.refl H) hD⟩ ?_ ?_
 ·rintro i ys H' hi ⟨rfl, K'⟩ hDy R S kR _
  refine yc (iteT ?_)
  refine h i hi H' K' _ fun H2 K2 => ?_
  refine kR _ _ (K2 _ _ hDy) (by rw [List.length_map, List.length_range]; exact zA (by omega)) ⟨?_, (K'.trans K2).put hD⟩
  rw [List.range_succ, List.map_append]
  rfl
 ·rintro ys H1 ⟨rfl, K1⟩ e1
  exact q H1 K1 e1
theorem v7 {K : W.Frag} {a : Addr} {α : Type} {ws : List α} (c r : α → V) (hs : H a = some (.lst (ws.map c))) (hn : ws.length ≤ 1000) (hD : H D = none)
  (h : ∀ w ∈ ws, ∀ H', Same H H' → ∀ R : V → Hp → Prop, (∀ H'', Same H' H'' → R (r w) H'') → te (some (c w) :: ρ) H' R)
  (q : ∀ H', Same H H' → H' D = some (.lst (ws.map r)) → Q (.ref D) H') : CGo (Itl K a) D (zB 0) tAll te Q (none :: ρ) H := by
 refine Zz (xs := ws.map c) (fun i ys H' => ys = (ws.take i).map r ∧ Same H H') ⟨rfl, Same.new (Same.refl H) hD⟩ (fun i ys H' _ ⟨_, k'⟩ => SqL.of (k' _ _ hs)) ?_ ?_
 ·rintro i x ys H' hx ⟨rfl, K'⟩ hDy R S kR _
  have hi : i < ws.length := by
   have := (List.getElem?_eq_some_iff.mp hx).1
   simpa using this
  have ex : x = c ws[i] := by
   rw [List.getElem?_map, List.getElem?_eq_getElem hi] at hx
   exact (Option.some.inj hx).symm
  subst ex
  refine yc (iteT ?_)
  refine h _ (List.getElem_mem hi) H' K' _ fun H2 K2 => ?_
  refine kR _ _ (K2 _ _ hDy) (by rw [List.length_map, List.length_take]; exact zA (by omega)) ⟨?_, (K'.trans K2).put hD⟩
  rw [List.take_add_one, List.getElem?_eq_getElem hi, List.map_append]
  rfl
 ·rintro ys H1 ⟨rfl, K1⟩ e1
  rw [List.length_map, List.take_length] at e1
  exact q H1 K1 e1
end
end L2
namespace EL
inductive Sp (S : (Nat → Int) → Prop) : (Nat → Int) → Prop
 | of {v} : S v → Sp S v
 | zero : Sp S (fun _ => 0)
 | add {u v} : Sp S u → Sp S v → Sp S (fun j => u j + v j)
 | smul {u} (c : Int) : Sp S u → Sp S (fun j => c * u j)
 | div {u} {c : Int} : c ≠ 0 → Sp S (fun j => c * u j) → Sp S u
def cf (xs : List Int) : Nat → Int := fun j => xs.getD j 0
def SpR (rows : List (List Int)) : (Nat → Int) → Prop := Sp (fun v => ∃ r ∈ rows, v = cf r)
def gcdL (xs : List Int) : Nat := xs.foldl (fun g x => Nat.gcd g x.natAbs) 0
theorem Zs : ∀ (xs : List Int) (g : Nat), xs.foldl (fun g x => Nat.gcd g x.natAbs) g ∣ g ∧ ∀ x ∈ xs, xs.foldl (fun g x => Nat.gcd g x.natAbs) g ∣ x.natAbs
 | [], g => ⟨Nat.dvd_refl g, fun x h => nomatch h⟩
 | y :: xs, g => by
  obtain ⟨h1, h2⟩ := Zs xs (Nat.gcd g y.natAbs)
  refine ⟨Nat.dvd_trans h1 (Nat.gcd_dvd_left _ _), fun x hx => ?_⟩
  rcases List.mem_cons.mp hx with rfl | hx
  ·exact Nat.dvd_trans h1 (Nat.gcd_dvd_right _ _)
  ·exact h2 x hx
theorem xS {xs : List Int} {x : Int} (h : x ∈ xs) : gcdL xs ∣ x.natAbs := (Zs xs 0).2 x h
theorem vw {xs : List Int} (h : gcdL xs = 0) : ∀ x ∈ xs, x = 0 := fun x hx => by
 have := xS hx
 rw [h, Nat.zero_dvd] at this
 omega
theorem Yo {xs : List Int} {x : Int} (h : x ∈ xs) (h0 : x ≠ 0) : gcdL xs ≤ x.natAbs := Nat.le_of_dvd (by omega) (xS h)
def wd (xs : List Int) : List Int := xs.map fun x => if 0 < gcdL xs then x / (gcdL xs : Int) else 0
def dv (xs : List Int) : Int := if 0 < gcdL xs then (gcdL xs : Int) else 1
end EL
namespace EL
def ro (left : List (List Int)) (i j : Nat) : Int := cf (left.getD i []) j
def bdE (b : Nat) : Nat → Nat
 | 0 => b
 | k + 1 => 2 * bdE b k + 1
structure Rd (b n : Nat) (rows : List (List Int)) (c : Nat) (left : List (List Int)) (leads : List Nat) : Prop where
 len : ∀ r ∈ left, r.length = n
 cnt : left.length = rows.length
 le : leads.length ≤ left.length
 sp1 : ∀ v, SpR left v → SpR rows v
 sp2 : ∀ v, SpR rows v → SpR left v
 up : leads.Pairwise (· < ·)
 lt : ∀ l ∈ leads, l < c
 own : ∀ i, i < leads.length → ro left i (leads.getD i 0) ≠ 0
 oth : ∀ i k, i < leads.length → k < left.length → k ≠ i → ro left k (leads.getD i 0) = 0
 bef : ∀ i j, i < leads.length → j < leads.getD i 0 → ro left i j = 0
 low : ∀ k j, leads.length ≤ k → k < left.length → j < c → ro left k j = 0
 bit : ∀ r ∈ left, ∀ x ∈ r, x.natAbs < 2 ^ bdE b leads.length
end EL
namespace EL
def dotF : Nat → (Nat → Int) → (Nat → Int) → Int
 | 0, _, _ => 0
 | n + 1, u, v => dotF n u v + u n * v n
def cm (a b : Int) : Int := ((a * b).natAbs : Int) / (gcdL [a, b] : Int)
structure Vf (n : Nat) (rows : List (List Int)) (leads : List Nat) (f : Nat) (v : List Int) : Prop where
 len : v.length = n
 own : cf v f ≠ 0
 oth : ∀ g, g ≠ f → g ∉ leads → cf v g = 0
 ker : ∀ r ∈ rows, dotF n (cf v) (cf r) = 0
 gcd : gcdL v = 1
 aft : ∀ j, f < j → cf v j = 0
 pos : 0 < cf v f
end EL
namespace EL
structure Lr (b n p : Nat) (left : List (List Int)) : Prop where
 len : ∀ r ∈ left, r.length = n
 low : ∀ r ∈ left, ∀ j, j < p → cf r j = 0
 bit : ∀ r ∈ left, ∀ x ∈ r, x.natAbs < 2 ^ bdE b p
end EL
namespace EL
open PySem L2
open PySem.Builtin.Int
def Bb (x : Int) : Prop := intBits x ≤ 60000000
theorem mulBb {x y : Int} (hx : Bb x) (hy : Bb y) : IntMulOk x y := IntMulOk.of_le hx hy (by decide)
theorem bb_of {x : Int} {m : Nat} (h : x.natAbs < 2 ^ m) (hm : m ≤ 60000000) : Bb x := Nat.le_trans (intBits_le_iff.mpr h) hm
theorem op_fdivL {X : Cx} : OpR X (binaryOp .FloorDiv) (rI (fun _ j => 0 < j ∧ j.natAbs.log2 < 9000) fun i j => .int (i / j)) := opI fun i j _ _ _ _ _ hc q =>
 PyProof.Rows.floordiv_int (by have := hc.1; omega) (by rw [Int.fdiv_eq_ediv_of_nonneg i (Int.le_of_lt hc.1)]; exact q) (.inl (PyProof.noPylong_of_log2 hc.2))
theorem ZS {K : W.Frag} {ta : TA} {g : TG} {tb : TS} {D : Ends} {σ : St} {H : Hp} (h : ta σ H fun vs H1 => ∃ a b, vs = [.ref a, .ref b] ∧ (∃ xs, SqL K H1 a xs) ∧ (∃ ys, SqL K H1 b ys) ∧ ForJ (Itzl K a b) g tb D σ H1) : tFor (iZpl K ta) g tb D σ H := h
theorem ZR {c : TT} {tb : TS} {D : Ends} {σ : St} {H : Hp} (h : ∃ W : Nat → St → Hp → Prop, (∃ m, W m σ H) ∧ ∀ m σ H, W m σ H → c σ H fun b H1 => if b = true then ∃ N : St → Hp → Prop, (∀ σ' H', N σ' H' → ∃ m', m' < m ∧ W m' σ' H') ∧ tb { D with nx := N, ct := N, bk := D.nx } σ H1 else D.nx σ H1) : Yx c tb D σ H := h
theorem absN (x : Int) : (if x < 0 then -x else x) = (x.natAbs : Int) := by split <;> omega
theorem gcd_take (xs : List Int) (i : Nat) (hi : i < xs.length) : gcdL (xs.take (i + 1)) = Nat.gcd (gcdL (xs.take i)) (xs.getD i 0).natAbs := by
 unfold gcdL
 rw [List.take_add_one, List.getElem?_eq_getElem hi, List.foldl_append, List.getD_eq_getElem?_getD, List.getElem?_eq_getElem hi]
 rfl
theorem atL {xs : List Int} {i : Nat} (h : i < xs.length) : atI (xs.map V.int) (i : Int) = some (.int (xs.getD i 0)) := by
 refine zu ?_
 rw [List.getElem?_map, List.getElem?_eq_getElem h, List.getD_eq_getElem?_getD, List.getElem?_eq_getElem h]
 rfl
theorem itI {xs : List Int} {i : Nat} {x : V} (h : (xs.map V.int)[i]? = some x) : i < xs.length ∧ x = .int (xs.getD i 0) := by
 have hi : i < xs.length := by
  have := (List.getElem?_eq_some_iff.mp h).1
  simpa using this
 rw [List.getElem?_map, List.getElem?_eq_getElem hi] at h
 refine ⟨hi, ?_⟩
 rw [List.getD_eq_getElem?_getD, List.getElem?_eq_getElem hi]
 exact (Option.some.inj h).symm
theorem Y7 {xs : List V} {k : Nat} (h : k ≤ xs.length) : cutV xs none (some (k : Int)) = xs.take k := by
 unfold cutV
 rw [HT.sIx_none, HT.sIx_nat, List.drop_zero, Nat.sub_zero, Nat.min_eq_left h]
theorem cut_from {xs : List V} {k : Nat} (h : k ≤ xs.length) : cutV xs (some (k : Int)) none = xs.drop k := by
 unfold cutV
 rw [HT.sIx_none, HT.sIx_nat, Nat.min_eq_left h]
 exact List.take_of_length_le (by rw [List.length_drop]; exact Nat.le_refl _)
def YI : List V → Hp → VK → Prop := fun xs H Q => ∃ p ys, xs = [.ref p] ∧ (H p = some (.tup ys) ∨ H p = some (.lst ys)) ∧ ∀ l, H l = none → Q (.ref l) (upd H l (.lst ys))
theorem call_listS {X : Cx} : zT X (.type "list") YI := fun pins s σ H xs us Q I r h => call_list_of pins s σ H xs us Q I r (let ⟨p, ys, e, hp, q⟩ := h; ⟨p, ys, e, hp.elim (fun z => .inr (SqT.of z)) (fun z => .inl (SqL.of z)), q⟩)
def rIsN : List V → Hp → VK → Prop := fun xs H Q => ∃ (i : Int) (b : Bool), ((xs = [.int i, .ty "int"] ∧ b = true) ∨ (xs = [.int i, .ty "bool"] ∧ b = false)) ∧ Q (.bl b) H
theorem call_isN {X : Cx} : zT X (.builtin "isinstance") rIsN := fun pins s σ H xs us Q I r h => ZA pins s σ H xs us Q I r (by
 obtain ⟨i, b, h, q⟩ := h
 rcases h with ⟨e, rfl⟩ | ⟨e, rfl⟩
 ·exact ⟨_, "int", _, true, e, .int i, kit_ii _, q⟩
 ·exact ⟨_, "bool", _, false, e, .int i, kit_ib _, q⟩)
end EL
namespace L2
open PySem PySem.Spec PyProof.Rows
def Xa (tabs : List (Addr × Addr)) (H : Hp) : Prop := ∀ b, H b = none ∨ (∃ o xs, H b = some (.frz o (.lst xs))) ∨ (b ∈ tabs.map (·.2) ∧ H b = some (.tbl #[]))
def BmIn (mg : Str → Option Value) (base : Heap) : Prop := ∃ bm ob, mg "__builtins__" = some (.ref bm) ∧ bm ≠ builtinsNs ∧ base.get? bm = some ob ∧ ob.cls = .type "module" ∧ ob.dict = some builtinsNs ∧ ob.data = .plain
theorem law_callT {P : Program} {w : World} {K : W.Frag} {mg mb : Str → Option Value} {CX : CXT} {k : Nat} {fa a : Addr} {fd : FuncData} {x : Str} {sp : Sp} {s₁ : Shared} {vs : List Value} {ns : List Int} {tabs : List (Addr × Addr)}
  (KX : K.In s₁.heap) (hns : s₁.heap.Ns mainGlobals mg) (hb : s₁.heap.Ns builtinsNs mb) (hbb : ∀ x : Str, x ≠ "__name__" → mb x = bootBuiltins x) (hlim : s₁.heap.NoLimit) (hN : s₁.heap.NoSeer) (hg : s₁.gens = #[])
  (hT : PySem.W.TabsAt tabs s₁.heap) (hKT : PySem.W.noTabs K = true) (hBm : BmIn mg s₁.heap)
  (ha : s₁.heap.get? a = some { cls := .type "list", data := .seq vs.toArray }) (hi : IntsAre vs ns) (hl : ns.length ≤ sizeLine) (hr : Room k callerA)
  (F : ∀ base : Heap, K.In base → base.Ns mainGlobals mg → base.NoSeer → (∀ q ∈ tabs, PySem.W.CodeHd base q.1 q.2) → BmIn mg base → FnOk P w K mg base CX k fa fd [x] sp) (hbind : ∀ (s : Shared) (u : Value), BindsTo s fd ⟨[u], []⟩ [(x, u)])
  (hsp : ∀ H : Hp, Xa tabs H → (∀ q ∈ tabs, H q.2 = some (.tbl #[])) → SqL K H a (ns.map V.int) → sp [.ref a] H (fun v _ => v = .bl true) fun _ _ _ => False)
  (hCX : ∀ H e s', CX [] H s₁ (fun _ _ _ => False) e s' → False) :
  codeAny (model P w) callerA (.call (.ref fa) ⟨[.ref a], []⟩) (fun r s' => r = .ok (.ret (.bool true)) ∧ OldK s₁.heap s'.heap ∧ s'.os = s₁.os ∧ AllBare s'.gens) s₁ := by
 have rv := xW hi
 have lenV := hi.length
 have tabAt : ∀ {b : Addr}, b ∈ tabs.map (·.2) → s₁.heap.get? b = some (PySem.W.tabObj #[]) := fun {b} hb => by
  obtain ⟨q, hq, rfl⟩ := List.mem_map.mp hb
  exact (hT q hq).2
 have haT : a ∉ tabs.map (·.2) := fun z => by have := tabAt z; rw [ha] at this; cases this
 have core : ∀ H : Hp, Xa tabs H → (∀ q ∈ tabs, H q.2 = some (.tbl #[])) → SqL K H a (ns.map V.int) → HOk P w H s₁.heap → (∀ b, H b ≠ none → b = a ∨ b ∈ tabs.map (·.2)) → (H a ≠ none → K.lookup a = none) →
   codeAny (model P w) callerA (.call (.ref fa) ⟨[.ref a], []⟩) (fun r s' => r = .ok (.ret (.bool true)) ∧ OldK s₁.heap s'.heap ∧ s'.os = s₁.os ∧ AllBare s'.gens) s₁ := by
  intro H hO hTb hS hok hA hK
  have base_of : ∀ {b : Addr} {o : Obj}, s₁.heap.get? b = some o → H b = none → (hidT s₁.heap H).get? b = some o := fun e n => Zr e n
  have notT : ∀ {b : Addr} {o : Obj}, s₁.heap.get? b = some o → (o.cls ≠ .none) → b ≠ a → H b = none := fun {b o} e hc hba => by
   cases q : H b with
   | none => rfl
   | some u =>
    rcases hA b (by rw [q]; simp) with e' | e'
    ·exact absurd e' hba
    ·have := tabAt e'
     rw [e] at this
     cases this
     exact absurd rfl hc
  have noA : ∀ {b : Addr} {o : Obj} {es : Array DictEntry} {ep : Nat}, s₁.heap.get? b = some o → o.data = .dict es ep → H b = none := fun {b o es ep} e d => by
   cases q : H b with
   | none => rfl
   | some u =>
    rcases hA b (by rw [q]; simp) with e' | e'
    ·subst e'
     rw [ha] at e; cases e
     have d' : Data.seq vs.toArray _ = Data.dict es ep := d
     cases d'
    ·have := tabAt e'
     rw [e] at this
     cases this
     cases d
  have nsK : ∀ {b : Addr} {m : Str → Option Value}, s₁.heap.Ns b m → (hidT s₁.heap H).Ns b m := fun {b m} ⟨o, es, ep, e, d, r⟩ => ⟨o, es, ep, base_of e (noA e d), d, r⟩
  have hKb : K.In (hidT s₁.heap H) := fun b o e => base_of (KX b o e) (by
   cases q : H b with
   | none => rfl
   | some u =>
    rcases hA b (by rw [q]; simp) with e' | e'
    ·subst e'
     rw [hK (by rw [q]; simp)] at e; cases e
    ·have h1 := tabAt e'
     rw [KX b o e] at h1
     have h2 := List.all_eq_true.mp hKT (b, o) (PySem.W.mem_of_lookupK e)
     cases h1
     exact absurd (show false = true from h2) Bool.false_ne_true)
  have ofB : ∀ {bm : Addr} {ob : Obj}, s₁.heap.get? bm = some ob → ob.cls = .type "module" → (hidT s₁.heap H).get? bm = some ob := fun {bm ob} e c => base_of e (notT e (by rw [c]; intro z; cases z) fun z => by subst z; rw [ha] at e; cases e; simp at c)
  have hNb : (hidT s₁.heap H).NoSeer := ⟨let ⟨mc, a1, a2, a3⟩ := hN.statics; ⟨mc, nsK a1, a2, a3⟩, let ⟨mm, a1, a2⟩ := hN.mods; ⟨mm, nsK a1, a2⟩, let ⟨mb', a1, a2⟩ := hN.imp; ⟨mb', nsK a1, a2⟩, let ⟨mg', bm, ob, a1, a2, a3, a4, a5⟩ := hN.main; ⟨mg', bm, ob, nsK a1, a2, ofB a3 a4, a4, a5⟩⟩
  have hBb : BmIn mg (hidT s₁.heap H) := let ⟨bm, ob, a1, a2, a3, a4, a5⟩ := hBm; ⟨bm, ob, a1, a2, ofB a3 a4, a4, a5⟩
  have hCb : ∀ q ∈ tabs, PySem.W.CodeHd (hidT s₁.heap H) q.1 q.2 := fun q hq => by
   obtain ⟨o, vs', file, tf, flags, tg, inF, text, tt, e1, r1, r⟩ := (hT q hq).1
   refine ⟨o, vs', file, tf, flags, tg, inF, text, tt, base_of e1 (notT e1 (by rw [r1]; intro z; cases z) fun z => ?_), r1, r⟩
   rw [z, ha] at e1
   cases e1
   simp at r1
  have hM : Mod K mg (hidT s₁.heap H) := ⟨hKb, nsK hns, ⟨mb, nsK hb, hbb⟩, let ⟨mc, h1, h2⟩ := hlim; ⟨mc, nsK h1, h2⟩⟩
  have e0 : Env0 P w K mg (hidT s₁.heap H) callerA [] s₁ H := ⟨rfl, hM, fun b o e => Z9 e, Nat.le_of_eq (vv _ _), trivial, fun b hb => absurd (show b ∈ ([] : List Addr) from hb) (by simp), hok, .of_eq hg⟩
  refine codeAny_mono ((F _ hKb (nsK hns) hNb hCb hBb).run callerA [] s₁ H ⟨[.ref a], []⟩ [.ref a] [.ref a] _ _ hr e0 (hbind s₁ (.ref a)) (.cons rfl .nil) (hsp H hO hTb hS)) fun r s' h => ?_
  cases r with
  | error e => exact (hCX H e s' h).elim
  | ok fl =>
   cases fl with
   | next => exact False.elim h
   | brk => exact False.elim h
   | cont => exact False.elim h
   | ret u =>
    obtain ⟨v, H', os, bare, un, hok', r', q⟩ := h
    have q' : v = .bl true := q
    subst q'
    obtain rfl : u = Value.bool true := r'
    have kept : ∀ b o, s₁.heap.get? b = some o → s'.heap.get? b = some o ∨ (b ∈ tabs.map (·.2) ∧ o = PySem.W.tabObj #[] ∧ ∃ ps, s'.heap.get? b = some (PySem.W.tabObj ps)) := fun b o e => by
     cases q : H b with
     | none => exact .inl (un.keep b o e q (by intro z; exact absurd (show b ∈ ([] : List Addr) from z) (by simp)) (by simp))
     | some u =>
      rcases hO b with z | ⟨ob, xs, z⟩ | ⟨z1, z2⟩
      ·rw [q] at z; cases z
      ·have z2 := un.frzs b ob _ z
       obtain ⟨e1, _⟩ := hok b _ z
       obtain ⟨e2, _⟩ := hok' b _ z2
       rw [e] at e1; cases e1
       exact .inl e2
      ·obtain ⟨more, z3⟩ := un.tbls b _ z2
       have e2 : s'.heap.get? b = some (PySem.W.tabObj (#[] ++ more)) := hok' b _ z3
       have e1 := tabAt z1
       rw [e] at e1
       exact .inr ⟨z1, Option.some.inj e1, _, e2⟩
    refine ⟨rfl, ⟨fun b o e => ?_, fun b o e => ?_⟩, os, bare⟩
    ·rcases kept b o e with z | ⟨z1, rfl, ps, z⟩
     ·exact .inl z
     ·obtain ⟨q, hq, rfl⟩ := List.mem_map.mp z1
      exact .inr (.inl ⟨((hT q hq).1.tab (hT q hq).2).isCodeTable, rfl, #[], ps, rfl, by simpa using z⟩)
    ·rcases kept b o e with z | ⟨_, _, ps, z⟩
     ·exact ⟨o, z⟩
     ·exact ⟨_, z⟩
 have tabMem : ∀ q ∈ tabs, q.2 ∈ tabs.map (·.2) := fun q hq => List.mem_map_of_mem hq
 cases hk : K.lookup a with
 | some o =>
  have e := KX a o hk
  rw [ha] at e
  cases e
  refine core (fun b => if b ∈ tabs.map (·.2) then some (.tbl #[]) else none) (fun b => ?_) (fun q hq => if_pos (tabMem q hq)) (.inr ⟨_, vs.toArray, _, hk, rfl, rfl, rfl, by rw [List.size_toArray, lenV]; exact hl, by simpa using rv⟩) (fun b u z => ?_) (fun b z => ?_) fun z => absurd (if_neg haT) z
  ·by_cases hb : b ∈ tabs.map (·.2)
   ·exact .inr (.inr ⟨hb, if_pos hb⟩)
   ·exact .inl (if_neg hb)
  ·by_cases hb : b ∈ tabs.map (·.2)
   ·have z' := (if_pos hb).symm.trans z
    cases z'
    exact tabAt hb
   ·have z' := (if_neg hb).symm.trans z
    cases z'
  ·by_cases hb : b ∈ tabs.map (·.2)
   ·exact .inr hb
   ·exact absurd (if_neg hb) z
 | none =>
  refine core (fun b => if b ∈ tabs.map (·.2) then some (.tbl #[]) else if b = a then some (.frz { cls := .type "list", data := .seq vs.toArray } (.lst (ns.map V.int))) else none) (fun b => ?_) (fun q hq => if_pos (tabMem q hq)) (.inl (.inr ⟨{ cls := .type "list", data := .seq vs.toArray }, (if_neg haT).trans (if_pos rfl)⟩)) (fun b u z => ?_) (fun b z => ?_) fun _ => hk
  ·by_cases hb : b ∈ tabs.map (·.2)
   ·exact .inr (.inr ⟨hb, if_pos hb⟩)
   ·by_cases hb2 : b = a
    ·exact .inr (.inl ⟨_, _, (if_neg hb).trans (if_pos hb2)⟩)
    ·exact .inl ((if_neg hb).trans (if_neg hb2))
  ·by_cases hb : b ∈ tabs.map (·.2)
   ·have z' := (if_pos hb).symm.trans z
    cases z'
    exact tabAt hb
   ·by_cases hb2 : b = a
    ·have z' := ((if_neg hb).trans (if_pos hb2)).symm.trans z
     cases z'
     subst hb2
     exact ⟨ha, by rw [List.length_map]; exact hl, vs, _, rv, ha⟩
    ·have z' := ((if_neg hb).trans (if_neg hb2)).symm.trans z
     cases z'
  ·by_cases hb : b ∈ tabs.map (·.2)
   ·exact .inr hb
   ·by_cases hb2 : b = a
    ·exact .inl hb2
    ·exact absurd ((if_neg hb).trans (if_neg hb2)) z
theorem walk_ofT {l : PySem.W.OpenLaw} {n k : Nat} {q : Program} {loose : List Str} {XP : (Str → Option Value) → Heap → Prop} {YP : World → Heap → Prop} {d : DefRec} {K : Params → W.Frag} {CX : World → CXT} {sp : World → Sp} {x : Str} {tabs : List (Addr × Addr)}
  (hn : l.most = some n) (hn2 : n ≤ sizeLine) (hdf : d.params.defaults = []) (hr : Room k callerA) (hi : PyProof.Rows.importsNone q = true)
  (hY : ∀ (w : World) (h : Heap), YP w h → (K w.params).In h) (hYT : ∀ (w : World) (h : Heap), YP w h → PySem.W.TabsAt tabs h) (hKT : ∀ P, PySem.W.noTabs (K P) = true)
  (F : ∀ (w : World) (mg : Str → Option Value) (fa : Addr) (h : Heap), (K w.params).In h → h.Ns mainGlobals mg → mg d.name = some (.ref fa) →
   ∃ fd : FuncData, (∀ (s : Shared) (u : Value), BindsTo s fd ⟨[u], []⟩ [(x, u)]) ∧
    ∀ base : Heap, (K w.params).In base → base.Ns mainGlobals mg → base.NoSeer → (∀ q ∈ tabs, PySem.W.CodeHd base q.1 q.2) → BmIn mg base → FnOk l.prog w (K w.params) mg base (CX w) k fa fd [x] (sp w))
  (hsp : ∀ (w : World) (H : Hp) (a : Addr) (ns : List Int), ns.length ≤ n → Xa tabs H → (∀ q ∈ tabs, H q.2 = some (.tbl #[])) → SqL (K w.params) H a (ns.map V.int) → sp w [.ref a] H (fun v _ => v = .bl true) fun _ _ _ => False)
  (hCX : ∀ (w : World) (H : Hp) (s : Shared) (e : Value) (s' : Shared), CX w [] H s (fun _ _ _ => False) e s' → False) :
  PySem.W.WalkO q loose XP YP l.row.toRowW d [] (fun f vs => PySem.call f vs) := by
 refine Att.attach_call hn hdf fun w s₀ s₁ mg mb fa o pm cd doc a vs ns G Y ho hd hcd hmg hobj hints hlen hg => ?_
 have KX := hY w _ Y
 obtain ⟨fd, hb, hF⟩ := F w mg fa _ KX G.T.g hmg
 exact law_callT KX G.T.g G.T.b G.T.builtins G.T.nolimit (G.T.seer hi) hg (hYT w _ Y) (hKT _) G.T.bmain hobj hints (Nat.le_trans hlen hn2) hr hF hb (fun H hO hT hS => hsp w H a ns hlen hO hT hS) fun H e s' => hCX w H s₁ e s'
def FnAt (K : W.Frag) (x : Str) (st : Stmt) : Prop := ∃ (f : Addr) (oc : Value) (od : Option Addr) (kV doc pm : Value) (an : Option Addr) (cdv ct : Value) (osl : Array (Option Value)), PySem.W.nsIn K mainGlobals x = some (some (.ref f)) ∧
 K.lookup f = some ⟨oc, od, .func (PySem.W.fnOf x x (zJ st) (zj st) (zc st) .none kV doc pm an cdv ct), osl⟩ ∧ PySem.W.codeIn K cdv x = true ∧ PySem.W.keepIn K (.ref f) = true
theorem fnAt {K : W.Frag} {x : Str} {st : Stmt} {f : Addr} {oc : Value} {od : Option Addr} {kV doc pm : Value} {an : Option Addr} {cdv ct : Value} {osl : Array (Option Value)} (a : PySem.W.nsIn K mainGlobals x = some (some (.ref f)))
  (l : K.lookup f = some ⟨oc, od, .func (PySem.W.fnOf x x (zJ st) (zj st) (zc st) .none kV doc pm an cdv ct), osl⟩) (c : PySem.W.codeIn K cdv x = true) (k : PySem.W.keepIn K (.ref f) = true) : FnAt K x st := ⟨_, _, _, _, _, _, _, _, _, _, a, l, c, k⟩
def NoIn (K : W.Frag) (x : Str) : Prop := PySem.W.nsIn K mainGlobals x = some none
def IntIn (K : W.Frag) (x : Str) (i : Int) : Prop := ∃ t, PySem.W.nsIn K mainGlobals x = some (some (.int i t))
theorem noIn {K : W.Frag} {x : Str} (h : PySem.W.nsIn K mainGlobals x = some none) : NoIn K x := h
theorem noAttr {K : W.Frag} {C : Addr} {x : Str} (h : PySem.W.findIn K (.ref C) x = some none) : NoAttr K C x := h
theorem intIn {K : W.Frag} {x : Str} {i : Int} {t : Tok} (h : PySem.W.nsIn K mainGlobals x = some (some (.int i t))) : IntIn K x i := ⟨_, h⟩
section
variable {P : Program} {w : World} {K : W.Frag} {mg : Str → Option Value} {base h : Heap} {x : Str} {st : Stmt} {ps : List Str}
theorem NoIn.get (z : NoIn K x) (X : K.In h) (G : h.Ns mainGlobals mg) : mg x = none := PySem.W.mg_none_of X G z
theorem IntIn.get {i : Int} (z : IntIn K x i) (X : K.In h) (G : h.Ns mainGlobals mg) : ∃ t, mg x = some (.int i t) := let ⟨t, e⟩ := z; ⟨t, PySem.W.mg_of X G e⟩
theorem FnAt.has {k : Nat} {sp : Sp} (A : FnAt K x st) (X : K.In h) (G : h.Ns mainGlobals mg)
  (b : ∀ (kV doc pm : Value) (an : Option Addr) (cdv ct : Value) (us : List Value), us.length = ps.length → bindArgs (PySem.W.fnOf x x (zJ st) (zj st) (zc st) .none kV doc pm an cdv ct) ⟨us, []⟩ = pure (ps.zip us))
  (ok : ∀ {f fd}, Fun K x x st f fd → FnOk P w K mg base CX0 k f fd ps sp) : Has P w K mg base k x ps sp := by
 obtain ⟨f, oc, od, kV, doc, pm, an, cdv, ct, osl, a, l, c, k⟩ := A
 have F := vZ (st := st) l c k
 exact ⟨f, _, ok F, PySem.W.mg_of X G a, k, F.binds b⟩
end
structure ClsIn (K : W.Frag) (C : Addr) : Prop where
 c : Cls K C
 mks : PySem.W.makesIn K C = true
 kp : PySem.W.keepIn K (.ref C) = true
def MthAt (K : W.Frag) (C : Addr) (m q : Str) (st : Stmt) : Prop := ∃ (f : Addr) (oc : Value) (od : Option Addr) (kV doc pm : Value) (an : Option Addr) (cdv ct : Value) (osl : Array (Option Value)), PySem.W.findIn K (.ref C) m = some (some (.ref f)) ∧
 K.lookup f = some ⟨oc, od, .func (PySem.W.fnOf m q (zJ st) (zj st) (zc st) .none kV doc pm an cdv ct), osl⟩ ∧ PySem.W.codeIn K cdv q = true ∧ PySem.W.isFn K (.ref f) = true ∧ PySem.W.keepIn K (.ref f) = true
theorem mthAt {K : W.Frag} {C : Addr} {m q : Str} {st : Stmt} {f : Addr} {oc : Value} {od : Option Addr} {kV doc pm : Value} {an : Option Addr} {cdv ct : Value} {osl : Array (Option Value)} (a : PySem.W.findIn K (.ref C) m = some (some (.ref f)))
  (l : K.lookup f = some ⟨oc, od, .func (PySem.W.fnOf m q (zJ st) (zj st) (zc st) .none kV doc pm an cdv ct), osl⟩) (c : PySem.W.codeIn K cdv q = true) (i : PySem.W.isFn K (.ref f) = true) (k : PySem.W.keepIn K (.ref f) = true) : MthAt K C m q st :=
 ⟨_, _, _, _, _, _, _, _, _, _, a, l, c, i, k⟩
theorem clsIn {K : W.Frag} {C : Addr} (a : PySem.W.plainGet K C Str.empty = true) (b : PySem.W.hasDictIn K C = true) (c : PySem.W.plainOver K C = true) (d : PySem.W.findIn K (.ref C) "__setattr__" = some (some (.builtin "object.__setattr__"))) (e : PySem.W.makesIn K C = true) (f : PySem.W.keepIn K (.ref C) = true) : ClsIn K C := ⟨⟨a, b, c, d⟩, e, f⟩
def HasM (P : Program) (w : World) (K : W.Frag) (mg : Str → Option Value) (base : Heap) (k : Nat) (C : Addr) (m : Str) (ps : List Str) (sp : Sp) : Prop :=
 ∃ f fd, FnOk P w K mg base CX0 k f fd ps sp ∧ Cls K C ∧ Meth K C m f ∧ Binds K fd ps []
def HasK (P : Program) (w : World) (K : W.Frag) (mg : Str → Option Value) (base : Heap) (k : Nat) (x : Str) (C : Addr) (ps : List Str) (sp : Sp) : Prop :=
 ∃ f fd, FnOk P w K mg base CX0 k f fd ps sp ∧ Mk K C f ∧ mg x = some (.ref C) ∧ Binds K fd ps []
section
variable {P : Program} {w : World} {K : W.Frag} {mg : Str → Option Value} {base h : Heap} {x m q : Str} {st : Stmt} {ps : List Str} {C : Addr}
theorem MthAt.has {k : Nat} {sp : Sp} (A : MthAt K C m q st) (D : ClsIn K C)
  (b : ∀ (kV doc pm : Value) (an : Option Addr) (cdv ct : Value) (us : List Value), us.length = ps.length → bindArgs (PySem.W.fnOf m q (zJ st) (zj st) (zc st) .none kV doc pm an cdv ct) ⟨us, []⟩ = pure (ps.zip us))
  (ok : ∀ {f fd}, Fun K m q st f fd → FnOk P w K mg base CX0 k f fd ps sp) : HasM P w K mg base k C m ps sp := by
 obtain ⟨f, oc, od, kV, doc, pm, an, cdv, ct, osl, a, l, c, i, k⟩ := A
 have F := vZ (st := st) l c k
 exact ⟨f, _, ok F, D.c, ⟨a, i, k⟩, F.binds b⟩
theorem MthAt.make {k : Nat} {sp : Sp} (A : MthAt K C "__init__" q st) (D : ClsIn K C) (X : K.In h) (G : h.Ns mainGlobals mg) (n : PySem.W.nsIn K mainGlobals x = some (some (.ref C)))
  (b : ∀ (kV doc pm : Value) (an : Option Addr) (cdv ct : Value) (us : List Value), us.length = ps.length → bindArgs (PySem.W.fnOf "__init__" q (zJ st) (zj st) (zc st) .none kV doc pm an cdv ct) ⟨us, []⟩ = pure (ps.zip us))
  (ok : ∀ {f fd}, Fun K "__init__" q st f fd → FnOk P w K mg base CX0 k f fd ps sp) : HasK P w K mg base k x C ps sp := by
 obtain ⟨f, oc, od, kV, doc, pm, an, cdv, ct, osl, a, l, c, i, k⟩ := A
 have F := vZ (st := st) l c k
 exact ⟨f, _, ok F, ⟨D.mks, a, i, D.kp⟩, PySem.W.mg_of X G n, F.binds b⟩
end
def xO (s : Stmt) (i : Nat) : Stmt := match s with
 | .ClassDef _ _ _ body _ _ _ _ _ _ _ => body.getD i (.Pass ⟨0, 0, 0, 0⟩)
 | _ => .Pass ⟨0, 0, 0, 0⟩
theorem pe_m {X : Cx} {k j : Nat} {C : Addr} {m : Str} {ps : List Str} {sp : Sp} {o e : Expr} {es : List Expr} {ta : TE} {t : TA} {apos pos : Pos} {pl : Sem Bool} (h : HasM X.prog X.w X.K X.mg X.base k C m ps sp) (hr : Room j X.A) (hkj : k ≤ j) (he : PE X o ta) (ha : PA X (e :: es) t)
  (hst : starEach (e :: es) X.env = (false, eval e X.env) :: starEach es X.env := by rfl) (hpl : (backTo pos (starEach es X.env)).any (·.1) = false := by rfl)
  (ht : eval (.Call (.Attribute o m apos) (e :: es) [] pos) X.env = (do
   let ov ← eval o X.env
   standAt apos.atName
   let (f, first) ← holding [ov] (getMethod ov m pl)
   callWith pos f first (backTo pos (starEach (e :: es) X.env)) (backToKw pos (keywordEach [] X.env))) := by rfl) : PE X (.Call (.Attribute o m apos) (e :: es) [] pos) (Ze C m sp [] E0 ta t) := by
 obtain ⟨f, fd, F, c, hm, hb⟩ := h
 exact pe_meth he c hm F (hr.mono hkj) hb .nil Z6 ha hst hpl ht
theorem YM {X : Cx} {k j : Nat} {C : Addr} {m : Str} {ps : List Str} {sp : Sp} {o : Expr} {ta : TE} {apos pos : Pos} {pl : Sem Bool} (h : HasM X.prog X.w X.K X.mg X.base k C m ps sp) (hr : Room j X.A) (hkj : k ≤ j) (he : PE X o ta)
  (ht : eval (.Call (.Attribute o m apos) [] [] pos) X.env = (do
   let ov ← eval o X.env
   standAt apos.atName
   let (f, first) ← holding [ov] (getMethod ov m pl)
   callWith pos f first (backTo pos (starEach [] X.env)) (backToKw pos (keywordEach [] X.env))) := by rfl) : PE X (.Call (.Attribute o m apos) [] [] pos) (Ze C m sp [] E0 ta tNil) := by
 obtain ⟨f, fd, F, c, hm, hb⟩ := h
 exact pe_meth0 he c hm F (hr.mono hkj) hb .nil Z6 ht
theorem pe_mk {X : Cx} {k j : Nat} {x : Str} {C : Addr} {ps : List Str} {sp : Sp} {e : Expr} {es : List Expr} {t : TA} {p pos : Pos} (h : HasK X.prog X.w X.K X.mg X.base k x C ps sp) (hr : Room j X.A) (hkj : k + 1 ≤ j) (ha : PA X (e :: es) t) (hg : Gl X x := by rfl)
  (hdb : (x == ("__debug__" : Str)) = false := by decide) (he : starEach (e :: es) X.env = (false, eval e X.env) :: starEach es X.env := by rfl) (hpl : (backTo pos (starEach es X.env)).any (·.1) = false := by rfl) : PE X (.Call (.Name x p) (e :: es) [] pos) (Yy C sp [] E0 t) := by
 obtain ⟨f, fd, F, M, hm, hb⟩ := h
 exact pe_make M F (hr.mono hkj) hg hm hb .nil Z6 ha hdb he hpl
theorem wM {X : Cx} {K : W.Frag} {e : Expr} {f : Str} {ta : TE} {pos : Pos} (hK : X.K = K) (he : PE X e ta) (hb : attributeBase e f X.env (eval e X.env) = eval e X.env := by rfl) : PE X (.Attribute e f pos) (tFld K ta f) := hK ▸ zw he hb
theorem w_make {C : Addr} {sp : Sp} {dvs : List V} {E : XK} {t : TA} {σ : St} {H : Hp} {Q : VK} (h : t σ H fun vs H1 => ∀ x dx, H1 x = none → H1 dx = none → dx ≠ x → sp (.ref x :: (vs ++ dvs)) (upd (upd H1 dx (.own x)) x (.ins C dx [])) (fun v H2 => v = .non ∧ Q (.ref x) H2) E) : Yy C sp dvs E t σ H Q := h
theorem zF {K : W.Frag} {ta : TE} {f : Str} {σ : St} {H : Hp} {Q : VK} (h : ta σ H fun x H1 => ∃ a C dx fs v, x = .ref a ∧ H1 a = some (.ins C dx fs) ∧ Cls K C ∧ NoAttr K C f ∧ fs.lookup f = some v ∧ Q v H1) : tFld K ta f σ H Q := h
theorem yZ {K : W.Frag} {ta tv : TE} {f : Str} {D : Ends} {σ : St} {H : Hp} (h : tv σ H fun y H1 => ta σ H1 fun x H2 => ∃ a C dx fs, x = .ref a ∧ H2 a = some (.ins C dx fs) ∧ Cls K C ∧ NoAttr K C f ∧ fs.length < 1000 ∧ D.nx σ (upd H2 a (.ins C dx (putF f y fs)))) : sFld K ta tv f D σ H := h
theorem w_saug {K : W.Frag} {ta tv : TE} {rd : V → V → Hp → VK → Prop} {f : Str} {D : Ends} {σ : St} {H : Hp} (h : ta σ H fun x H1 => ∃ a C dx fs v, x = .ref a ∧ H1 a = some (.ins C dx fs) ∧ Cls K C ∧ NoAttr K C f ∧ fs.lookup f = some v ∧
 tv σ H1 fun y H2 => rd v y H2 fun z H3 => ∃ dx' fs', H3 a = some (.ins C dx' fs') ∧ fs'.length < 1000 ∧ D.nx σ (upd H3 a (.ins C dx' (putF f z fs')))) : Z2 K ta tv rd f D σ H := h
theorem yH {C : Addr} {m : Str} {sp : Sp} {dvs : List V} {E : XK} {ta : TE} {t : TA} {σ : St} {H : Hp} {Q : VK} (h : ta σ H fun x H1 => ∃ a dx fs, x = .ref a ∧ H1 a = some (.ins C dx fs) ∧ fs.lookup m = none ∧ t σ H1 fun vs H2 => sp (x :: (vs ++ dvs)) H2 Q E) : Ze C m sp dvs E ta t σ H Q := h
end L2
namespace L2
open PySem PySem.Spec PyProof.Rows G2
structure Kp (S : Hp → Hp → Prop) (D : Addr) (H : Hp) : Prop where
 refl : S H (upd H D (.lst []))
 tr : ∀ {H1 H2}, S H H1 → S H1 H2 → S H H2
 at' : ∀ {H1 H2 o}, S H H1 → S H1 H2 → H1 D = some o → H2 D = some o
 put : ∀ {H1 o}, S H H1 → S H (upd H1 D o)
theorem Kp.same {D : Addr} {H : Hp} (hD : H D = none) : Kp Same D H := ⟨Same.new (Same.refl _) hD, fun a b => a.trans b, fun _ b e => b _ _ e, fun a => a.put hD⟩
section
variable {S : Hp → Hp → Prop} {D : Addr} {te : TE} {Q : VK} {ρ : St} {H : Hp} {K : W.Frag} {a : Addr} {xs : List V}
abbrev GP (S : Hp → Hp → Prop) (Ok : Nat → V → Hp → Prop) (H : Hp) (i : Nat) (ys : List V) (H' : Hp) : Prop := S H H' ∧ ys.length = i ∧ ∀ (j : Nat) (y : V), ys[j]? = some y → Ok j y H'
theorem xQ {Ok : Nat → V → Hp → Prop} (kp : Kp S D H) (mono : ∀ {j y H1 H2}, TK H1 H2 → Ok j y H1 → Ok j y H2) (tk : ∀ {H1 H2}, S H H1 → S H1 H2 → TK H1 H2) {i : Nat} {ys : List V} {H' H4 : Hp} {y : V} (g : GP S Ok H i ys H') (k : S H' H4) (hD : H4 D = some (.lst ys)) (hy : Ok i y H4) : GP S Ok H (i + 1) (ys ++ [y]) (upd H4 D (.lst (ys ++ [y]))) := by
 obtain ⟨g1, g2, g3⟩ := g
 have t2 : TK H4 (upd H4 D (.lst (ys ++ [y]))) := TK.lst hD
 refine ⟨kp.put (kp.tr g1 k), by rw [List.length_append, g2]; rfl, fun j z hz => ?_⟩
 by_cases hj : j < ys.length
 ·rw [List.getElem?_append_left hj] at hz
  exact mono t2 (mono (tk g1 k) (g3 j z hz))
 ·have hj' : j < (ys ++ [y]).length := (List.getElem?_eq_some_iff.mp hz).1
  rw [List.length_append, List.length_singleton] at hj'
  obtain rfl : j = ys.length := by omega
  rw [List.getElem?_append_right (Nat.le_refl _), Nat.sub_self] at hz
  cases hz
  rw [g2]
  exact mono t2 hy
theorem Y3 (Ok : Nat → V → Hp → Prop) {lo : Int} {n : Nat} (kp : Kp S D H) (mono : ∀ {j y H1 H2}, TK H1 H2 → Ok j y H1 → Ok j y H2) (tk : ∀ {H1 H2}, S H H1 → S H1 H2 → TK H1 H2) (hn : n ≤ 1000)
  (step : ∀ i H' (R : V → Hp → Prop), i < n → S H H' → (∀ y H4, S H' H4 → Ok i y H4 → R y H4) → te (some (.int (lo + i)) :: ρ) H' R)
  (q : ∀ ys H', GP S Ok H n ys H' → H' D = some (.lst ys) → Q (.ref D) H') : CGo (Itr lo n) D (zB 0) tAll te Q (none :: ρ) H := by
 refine wc (fun i ys H' => GP S Ok H i ys H') ⟨kp.refl, rfl, fun j y h => by simp at h⟩ ?_ q
 rintro i ys H' hi g hDz R S' kR _
 refine yc (iteT (step i H' R hi g.1 fun y H4 k hy => kR y H4 (kp.at' g.1 k hDz) (zA (by have := g.2.1; omega)) (xQ (Ok := Ok) kp mono tk g k (kp.at' g.1 k hDz) hy)))
theorem xP {α : Type} {f : α → V} {zs : List α} {ys : List V} (hl : ys.length = zs.length) (h : ∀ (j : Nat) (y : V), ys[j]? = some y → ∃ z, zs[j]? = some z ∧ y = f z) : ys = zs.map f := by
 refine List.ext_getElem (by simp [hl]) fun i h1 h2 => ?_
 obtain ⟨z, e1, e2⟩ := h i ys[i] (by simp [h1])
 have h3 : i < zs.length := by omega
 rw [List.getElem?_eq_getElem h3] at e1
 cases e1
 simpa using e2
end
section
variable {S : Hp → Hp → Prop} {D : Addr} {te : TE} {Q : VK} {ρ : St} {H : Hp} {K : W.Frag} {a : Addr} {rs : List Addr}
theorem vX (Ok : Nat → V → Hp → Prop) (kp : Kp S D H) (mono : ∀ {j y H1 H2}, TK H1 H2 → Ok j y H1 → Ok j y H2) (tk : ∀ {H1 H2}, S H H1 → S H1 H2 → TK H1 H2) (hn : rs.length ≤ 1000) (src : ∀ H', S H H' → SqT K H' a (rs.map V.ref))
  (step : ∀ i r H', rs[i]? = some r → S H H' → ∃ u v, H' r = some (.tup [u, v]) ∧ ∀ (R : V → Hp → Prop), (∀ y H4, S H' H4 → Ok i y H4 → R y H4) → te (some u :: some v :: ρ) H' R)
  (q : ∀ ys H', GP S Ok H rs.length ys H' → H' D = some (.lst ys) → Q (.ref D) H') : CGo (Itt K a) D (gTup K 2 (z0 (zB 0) (z0 (zB 1) gNil))) tAll te Q (none :: none :: ρ) H := by
 refine ⟨fun i m τ ys H' => m = rs.length - i ∧ i ≤ rs.length ∧ (∃ tv tw, τ = tv :: tw :: ρ) ∧ GP S Ok H i ys H' ∧ H' D = some (.lst ys), ⟨rs.length, by omega, Nat.zero_le _, ⟨_, _, rfl⟩, ⟨kp.refl, rfl, fun j y h => by simp at h⟩, zf⟩, ?_⟩
 rintro i m τ ys H' ⟨rfl, hi, ⟨tv, tw, rfl⟩, g, hD⟩
 refine ⟨hD, ?_⟩
 have sq := src H' g.1
 by_cases hlt : i < rs.length
 ·refine .inr ⟨⟨_, .ref rs[i], sq, by simp [hlt]⟩, ?_⟩
  rintro v H'' ⟨rfl, hv⟩
  have hv' := hv _ sq
  rw [List.getElem?_map, List.getElem?_eq_getElem hlt] at hv'
  cases hv'
  obtain ⟨u, v, e, h⟩ := step i rs[i] _ (List.getElem?_eq_getElem hlt) g.1
  refine ⟨rs[i], [u, v], rfl, SqT.of e, rfl, u, [v], rfl, v, [], rfl, rfl, ?_⟩
  refine yc (iteT (h _ fun y H4 k hy => ⟨kp.at' g.1 k hD, zA (by have := g.2.1; omega), rs.length - (i + 1), by omega, rfl, hlt, ⟨_, _, rfl⟩, xQ (Ok := Ok) kp mono tk g k (kp.at' g.1 k hD) hy, zf⟩))
 ·have e : i = rs.length := by omega
  subst e
  exact .inl ⟨⟨_, sq, by simp⟩, q ys _ g hD⟩
end
end L2
namespace L2
open PySem PySem.Spec PyProof.Rows
structure FunC (K : W.Frag) (x qual : Str) (st : Stmt) (f : Addr) (fd : FuncData) (c : Addr) : Prop where
 ex : ∃ (oc : Value) (od : Option Addr) (kV doc pm : Value) (an : Option Addr) (ct : Value) (osl : Array (Option Value)),
  fd = PySem.W.fnOf x qual (zJ st) (zj st) (zc st) .none kV doc pm an (.ref c) ct ∧ K.lookup f = some ⟨oc, od, .func fd, osl⟩ ∧ PySem.W.codeIn K (.ref c) qual = true
 kp : PySem.W.keepIn K (.ref f) = true
section
variable {P : Program} {w : World} {K : W.Frag} {mg : Str → Option Value} {base : Heap}
theorem FunC.ok {x qual : Str} {st : Stmt} {f c : Addr} {fd : FuncData} {N ps : List Str} {k : Nat} {sp : Sp} (F : FunC K x qual st f fd c) (S : FnScope N ps (zc st)) (len : ∀ vs H Q E, sp vs H Q E → vs.length = ps.length)
  (hbody : ∀ (A : Around) (outer : List Env) (s : Shared) (H : Hp) (vs : List V) (Q : VK) (E : XK), Room k (A.deeper (envOfC qual (zc st) s.heap.objs.size f (.ref c))) → sp vs H Q E →
   ∃ t, PSs (cxOf CX0 P w K mg base N qual (zc st) f (.ref c) A outer s H E).nox (zj st) t ∧ t { nx := fun _ H' => Q .non H', rt := Q } (xF N vs) H) : FnOk P w K mg base CX0 (k + 1) f fd ps sp := by
 obtain ⟨oc, od, kV, doc, pm, an, ct, osl, rfl, lk, hcd⟩ := F.ex
 refine Xz lk hcd S len fun A outer s H vs Q E hr hsp => ?_
 obtain ⟨t, h, q⟩ := hbody A outer s H vs Q E hr hsp
 exact ⟨t, h.nox, q⟩
end
def MthC (K : W.Frag) (C : Addr) (m q : Str) (st : Stmt) (c : Addr) : Prop := ∃ (f : Addr) (oc : Value) (od : Option Addr) (kV doc pm : Value) (an : Option Addr) (ct : Value) (osl : Array (Option Value)), PySem.W.findIn K (.ref C) m = some (some (.ref f)) ∧
 K.lookup f = some ⟨oc, od, .func (PySem.W.fnOf m q (zJ st) (zj st) (zc st) .none kV doc pm an (.ref c) ct), osl⟩ ∧ PySem.W.codeIn K (.ref c) q = true ∧ PySem.W.isFn K (.ref f) = true ∧ PySem.W.keepIn K (.ref f) = true
theorem mthC {K : W.Frag} {C : Addr} {m q : Str} {st : Stmt} {f c : Addr} {oc : Value} {od : Option Addr} {kV doc pm : Value} {an : Option Addr} {ct : Value} {osl : Array (Option Value)} (a : PySem.W.findIn K (.ref C) m = some (some (.ref f)))
  (l : K.lookup f = some ⟨oc, od, .func (PySem.W.fnOf m q (zJ st) (zj st) (zc st) .none kV doc pm an (.ref c) ct), osl⟩) (d : PySem.W.codeIn K (.ref c) q = true) (i : PySem.W.isFn K (.ref f) = true) (k : PySem.W.keepIn K (.ref f) = true) : MthC K C m q st c :=
 ⟨_, _, _, _, _, _, _, _, _, a, l, d, i, k⟩
section
variable {P : Program} {w : World} {K : W.Frag} {mg : Str → Option Value} {base h : Heap} {x m q : Str} {st : Stmt} {ps : List Str} {C c : Addr}
theorem MthC.has {k : Nat} {sp : Sp} (A : MthC K C m q st c) (D : ClsIn K C)
  (b : ∀ (kV doc pm : Value) (an : Option Addr) (cdv ct : Value) (us : List Value), us.length = ps.length → bindArgs (PySem.W.fnOf m q (zJ st) (zj st) (zc st) .none kV doc pm an cdv ct) ⟨us, []⟩ = pure (ps.zip us))
  (ok : ∀ {f fd}, FunC K m q st f fd c → FnOk P w K mg base CX0 k f fd ps sp) : HasM P w K mg base k C m ps sp := by
 obtain ⟨f, oc, od, kV, doc, pm, an, ct, osl, a, l, d, i, k⟩ := A
 exact ⟨f, _, ok ⟨⟨oc, od, kV, doc, pm, an, ct, osl, rfl, l, d⟩, k⟩, D.c, ⟨a, i, k⟩, .all (b kV doc pm an (.ref c) ct)⟩
end
section
variable {X : Cx} {sc o : Scope} {v x : Str} {F : List Str} {cl : List (Str × Addr)} {L f : Addr} {cd : Value} {A : Around} {s3 : Shared} {H3 : Hp} {xe : Value → Shared → Prop} {pos : Pos}
theorem pvl (S : LScope o sc v F) (i : Nat) (hN : (v :: F)[i]? = some x := by rfl) (hd : (x == ("__debug__" : Str)) = false := by decide) (hcd : (x == ("__classdict__" : Str)) = false := by decide) : PE (cxL X (v :: F) sc cl L f cd A s3 H3 xe) (.Name x pos) (tVar i) := by
 refine wX hN ?_ hd hcd
 rcases List.mem_cons.mp (List.mem_of_getElem? hN) with rfl | h
 ·exact .inl S.par
 ·exact .inr (.inr (S.ff x h).2)
end
section
variable {D : Addr} {te : TE} {Q : VK} {ρ : St} {H : Hp} {K : W.Frag} {a : Addr} {xs : List V}
structure NL (H : Hp) (D : Addr) (f : Nat → List V) (n : Nat) (as : List Addr) (H' : Hp) : Prop where
 len : as.length = n
 at_ : ∀ i r, as[i]? = some r → H' r = some (.lst (f i))
 nw : ∀ r ∈ as, H r = none
 sm : Same H H'
abbrev NLP (H : Hp) (D : Addr) (f : Nat → List V) (i : Nat) (ys : List V) (H' : Hp) : Prop := ∃ as, ys = as.map V.ref ∧ NL H D f i as H' ∧ ∀ r ∈ as, r ≠ D
theorem NL.step {f : Nat → List V} {i : Nat} {as : List Addr} {H' H4 : Hp} {r : Addr} {ys : List V} (hD : H D = none) (g : NL H D f i as H') (gd : ∀ r ∈ as, r ≠ D) (hDz : H' D = some (.lst ys)) (k : Same H' H4) (hr : H' r = none) (e : H4 r = some (.lst (f i))) :
  NLP H D f (i + 1) (as.map V.ref ++ [.ref r]) (upd H4 D (.lst (as.map V.ref ++ [.ref r]))) := by
 have hrD : r ≠ D := fun z => by rw [z, hDz] at hr; cases hr
 refine ⟨as ++ [r], by simp, ⟨by simp [g.len], fun j q hq => ?_, fun q hq => ?_, (g.sm.trans k).put hD⟩, fun q hq => ?_⟩
 ·by_cases hj : j < as.length
  ·rw [List.getElem?_append_left hj] at hq
   rw [zh (gd q (List.mem_of_getElem? hq))]
   exact k _ _ (g.at_ j q hq)
  ·rw [List.getElem?_append_right (by omega)] at hq
   have hj0 : j - as.length = 0 := by
    cases h : j - as.length with
    | zero => rfl
    | succ n => rw [h] at hq; simp at hq
   rw [hj0] at hq
   have : r = q := by simpa using hq
   subst this
   have hji : j = i := by have := g.len; omega
   subst hji
   rw [zh hrD]; exact e
 ·rcases List.mem_append.mp hq with hq | hq
  ·exact g.nw q hq
  ·rw [List.mem_singleton.mp hq]
   exact Same.free g.sm hr
 ·rcases List.mem_append.mp hq with hq | hq
  ·exact gd q hq
  ·rw [List.mem_singleton.mp hq]; exact hrD
theorem nl_lst (f : Nat → List V) (hD : H D = none) (ha : H a = some (.lst xs)) (hn : xs.length ≤ 1000)
  (step : ∀ i x H' (R : V → Hp → Prop), xs[i]? = some x → Same H H' → (∀ r H4, Same H' H4 → H' r = none → H4 r = some (.lst (f i)) → R (.ref r) H4) → te (some x :: ρ) H' R)
  (q : ∀ as H', NL H D f xs.length as H' → H' D = some (.lst (as.map V.ref)) → Q (.ref D) H') : CGo (Itl K a) D (zB 0) tAll te Q (none :: ρ) H := by
 refine Zz (xs := xs) (fun i ys H' => NLP H D f i ys H') ⟨[], rfl, ⟨rfl, fun i r h => by simp at h, fun r h => by simp at h, Same.new (Same.refl _) hD⟩, fun r h => by simp at h⟩ (fun i ys H' _ ⟨as, _, g, _⟩ => SqL.of (g.sm _ _ ha)) ?_ fun ys H' ⟨as, e, g, _⟩ h => q as H' g (e ▸ h)
 rintro i x ys H' hx ⟨as, rfl, g, gd⟩ hDz R S' kR _
 have hi := (List.getElem?_eq_some_iff.mp hx).1
 refine yc (iteT (step i x H' R hx g.sm fun r H4 k hr e => kR _ H4 (k _ _ hDz) (zA (by rw [List.length_map, g.len]; omega)) (g.step hD gd hDz k hr e)))
theorem nl_prs (f : Nat → List V) {rs : List Addr} (hD : H D = none) (ha : H a = some (.lst (rs.map V.ref))) (hn : rs.length ≤ 1000)
  (step : ∀ i r H', rs[i]? = some r → Same H H' → ∃ u v, H' r = some (.tup [u, v]) ∧ ∀ (R : V → Hp → Prop), (∀ r H4, Same H' H4 → H' r = none → H4 r = some (.lst (f i)) → R (.ref r) H4) → te (some u :: some v :: ρ) H' R)
  (q : ∀ as H', NL H D f rs.length as H' → H' D = some (.lst (as.map V.ref)) → Q (.ref D) H') : CGo (Itl K a) D (gTup K 2 (z0 (zB 0) (z0 (zB 1) gNil))) tAll te Q (none :: none :: ρ) H := by
 refine ⟨fun i m τ ys H' => m = rs.length - i ∧ i ≤ rs.length ∧ (∃ tv tw, τ = tv :: tw :: ρ) ∧ NLP H D f i ys H' ∧ H' D = some (.lst ys), ⟨rs.length, by omega, Nat.zero_le _, ⟨_, _, rfl⟩, ⟨[], rfl, ⟨rfl, fun i r h => by simp at h, fun r h => by simp at h, Same.new (Same.refl _) hD⟩, fun r h => by simp at h⟩, zf⟩, ?_⟩
 rintro i m τ ys H' ⟨rfl, hi, ⟨tv, tw, rfl⟩, ⟨as, rfl, g, gd⟩, hDz⟩
 refine ⟨hDz, ?_⟩
 have sq : SqL K H' a (rs.map V.ref) := SqL.of (g.sm _ _ ha)
 by_cases hlt : i < rs.length
 ·refine .inr ⟨⟨_, .ref rs[i], sq, by simp [hlt]⟩, ?_⟩
  rintro v H'' ⟨rfl, hv⟩
  have hv' := hv _ sq
  rw [List.getElem?_map, List.getElem?_eq_getElem hlt] at hv'
  cases hv'
  obtain ⟨u, v, e, h⟩ := step i rs[i] _ (List.getElem?_eq_getElem hlt) g.sm
  refine ⟨rs[i], [u, v], rfl, SqT.of e, rfl, u, [v], rfl, v, [], rfl, rfl, ?_⟩
  refine yc (iteT (h _ fun r H4 k hr e => ⟨k _ _ hDz, zA (by rw [List.length_map, g.len]; omega), rs.length - (i + 1), by omega, rfl, hlt, ⟨_, _, rfl⟩, g.step hD gd hDz k hr e, zf⟩))
 ·have e : i = rs.length := by omega
  subst e
  exact .inl ⟨⟨_, sq, by simp⟩, q as _ g hDz⟩
end
end L2
namespace WG
def sm (n : Nat) (f : Nat → Int) : Int := match n with
 | 0 => 0
 | n + 1 => sm n f + f n
theorem zx {n : Nat} {f g : Nat → Int} (h : ∀ i < n, f i = g i) : sm n f = sm n g := by
 induction n with
 | zero => rfl
 | succ n ih => show sm n f + f n = sm n g + g n; rw [ih fun i hi => h i (by omega), h n (by omega)]
theorem yI {n : Nat} {f g : Nat → Int} (c d : Int) : sm n (fun i => c * f i + d * g i) = c * sm n f + d * sm n g := by
 induction n with
 | zero => simp [sm]
 | succ n ih => show sm n _ + _ = c * (sm n f + f n) + d * (sm n g + g n); rw [ih]; grind
theorem yf {n : Nat} {f : Nat → Int} (c : Int) : sm n (fun i => c * f i) = c * sm n f := by
 have := yI (n := n) (f := f) (g := f) c 0
 simpa using this
theorem yL {n : Nat} {f : Nat → Int} (h : ∀ i < n, f i = 0) : sm n f = 0 := by
 induction n with
 | zero => rfl
 | succ n ih => show sm n f + f n = 0; rw [ih fun i hi => h i (by omega), h n (by omega)]; rfl
theorem yM {n k : Nat} {f : Nat → Int} (hk : k < n) (h : ∀ i < n, i ≠ k → f i = 0) : sm n f = f k := by
 induction n with
 | zero => omega
 | succ n ih =>
  show sm n f + f n = f k
  by_cases e : k = n
  ·subst e; rw [yL fun i hi => h i (by omega) (by omega)]; omega
  ·rw [ih (by omega) fun i hi => h i (by omega), h n (by omega) (by omega)]; omega
theorem sm_two {n a : Nat} {f : Nat → Int} (ha : a + 1 < n) (h : ∀ i < n, i ≠ a → i ≠ a + 1 → f i = 0) (h2 : f a + f (a + 1) = 0) : sm n f = 0 := by
 induction n with
 | zero => omega
 | succ n ih =>
  show sm n f + f n = 0
  by_cases e : a + 1 = n
  ·subst e
   rw [yM (k := a) (by omega) fun i hi hne => h i (by omega) hne (by omega)]; exact h2
  ·rw [ih (by omega) fun i hi => h i (by omega), h n (by omega) (by omega) (by omega)]; rfl
theorem sm_nonpos {n : Nat} {f : Nat → Int} (h : ∀ i < n, f i ≤ 0) : sm n f ≤ 0 := by
 induction n with
 | zero => exact Int.le_refl _
 | succ n ih => show sm n f + f n ≤ 0; have := ih fun i hi => h i (by omega); have := h n (by omega); omega
theorem sm_sm {n m : Nat} {f : Nat → Nat → Int} : sm n (fun i => sm m (f i)) = sm m fun j => sm n fun i => f i j := by
 induction n with
 | zero => exact (yL fun _ _ => rfl).symm
 | succ n ih =>
  show sm n _ + sm m (f n) = _
  rw [ih]
  have := yI (n := m) (f := fun j => sm n fun i => f i j) (g := f n) 1 1
  simpa [sm] using this.symm
def skip (i a : Nat) : Nat := if a < i then a else a + 1
def sg (i : Nat) : Int := if i % 2 = 0 then 1 else -1
theorem sg_succ (i : Nat) : sg (i + 1) = - sg i := by
 unfold sg
 rcases Nat.mod_two_eq_zero_or_one i with h | h
 ·rw [if_neg (by omega), if_pos h]
 ·rw [if_pos (by omega), if_neg (by omega)]; rfl
def det : Nat → (Nat → Nat → Int) → Int
 | 0, _ => 1
 | n + 1, w => sm (n + 1) fun i => sg i * w i 0 * det n (fun a b => w (skip i a) (b + 1))
def up (w : Nat → Nat → Int) (k : Nat) (v : Nat → Int) : Nat → Nat → Int := fun a b => if a = k then v b else w a b
theorem xv : ∀ {n : Nat} {w w' : Nat → Nat → Int}, (∀ a < n, ∀ b < n, w a b = w' a b) → det n w = det n w'
 | 0, _, _, _ => rfl
 | n + 1, w, w', h => by
  refine zx fun i hi => ?_
  rw [h i hi 0 (by omega), xv (n := n) (w' := fun a b => w' (skip i a) (b + 1)) fun a ha b hb => h _ (by unfold skip; split <;> omega) _ (by omega)]
theorem xt (w : Nat → Nat → Int) (k : Nat) : up w k (w k) = w := by
 funext a b; unfold up; split
 ·rename_i h; rw [h]
 ·rfl
theorem yE {w : Nat → Nat → Int} {k : Nat} {v : Nat → Int} : up w k v k = v := by funext b; simp [up]
theorem yr {w : Nat → Nat → Int} {k a : Nat} {v : Nat → Int} (h : a ≠ k) : up w k v a = w a := by funext b; simp [up, h]
theorem yj {w : Nat → Nat → Int} {k j : Nat} {v x : Nat → Int} (h : k ≠ j) : up (up w k v) j x = up (up w j x) k v := by
 funext a b; unfold up
 by_cases e1 : a = j
 ·subst e1; simp [Ne.symm h]
 ·simp [e1]
theorem w6 {w : Nat → Nat → Int} {k : Nat} {v : Nat → Int} : (fun a b => up w k v (skip k a) (b + 1)) = fun a b => w (skip k a) (b + 1) := by
 funext a b
 have : skip k a ≠ k := by unfold skip; split <;> omega
 rw [yr this]
theorem wZ {w : Nat → Nat → Int} {k i : Nat} {v : Nat → Int} (h : i ≠ k) : (fun a b => up w k v (skip i a) (b + 1)) = up (fun a b => w (skip i a) (b + 1)) (if k < i then k else k - 1) (fun b => v (b + 1)) := by
 funext a b
 unfold up
 have : (skip i a = k) ↔ a = (if k < i then k else k - 1) := by unfold skip; split <;> split <;> omega
 by_cases e : skip i a = k
 ·rw [if_pos e, if_pos (this.mp e)]
 ·rw [if_neg e, if_neg (fun z => e (this.mpr z))]
theorem yt : ∀ {n k : Nat} {w : Nat → Nat → Int} (x y : Nat → Int) (c d : Int), k < n → det n (up w k fun b => c * x b + d * y b) = c * det n (up w k x) + d * det n (up w k y)
 | 0, _, _, _, _, _, _, h => by omega
 | n + 1, k, w, x, y, c, d, h => by
  show sm (n + 1) _ = c * sm (n + 1) _ + d * sm (n + 1) _
  rw [← yI]
  refine zx fun i hi => ?_
  by_cases e : i = k
  ·subst e
   rw [w6, w6, w6, yE, yE, yE]
   grind
  ·rw [wZ e, wZ e, wZ e, yr e, yr e, yr e, yt (n := n) (fun b => x (b + 1)) (fun b => y (b + 1)) c d (by split <;> omega)]
   grind
theorem v4 : ∀ {n a : Nat} {w : Nat → Nat → Int}, a + 1 < n → w a = w (a + 1) → det n w = 0
 | 0, _, _, h, _ => by omega
 | n + 1, a, w, h, e => by
  refine sm_two h (fun i hi h1 h2 => ?_) ?_
  ·rw [v4 (n := n) (a := if i < a then a - 1 else a) (by split <;> omega) ?_]
   ·simp
   ·funext b
    have e1 : skip i (if i < a then a - 1 else a) = a := by unfold skip; split <;> split <;> omega
    have e2 : skip i ((if i < a then a - 1 else a) + 1) = a + 1 := by unfold skip; split <;> split <;> omega
    rw [e1, e2, e]
  ·have e1 : (fun x b => w (skip a x) (b + 1)) = fun x b => w (skip (a + 1) x) (b + 1) := by
    funext x b
    by_cases hx : x = a
    ·subst hx
     rw [show skip x x = x + 1 by unfold skip; split <;> omega, show skip (x + 1) x = x by unfold skip; split <;> omega, e]
    ·rw [show skip a x = skip (a + 1) x by unfold skip; split <;> split <;> omega]
   rw [e1, e, sg_succ]
   grind
theorem Zw {n a b : Nat} {w : Nat → Nat → Int} (ha : a < n) (hb : b < n) (hab : a ≠ b) (h : ∀ x : Nat → Int, det n (up (up w a x) b x) = 0) (x y : Nat → Int) : det n (up (up w a x) b y) = - det n (up (up w a y) b x) := by
 have h0 := h fun j => 1 * x j + 1 * y j
 rw [yt (k := b) x y 1 1 hb, yj hab, yj hab, yt (k := a) x y 1 1 ha, yt (k := a) x y 1 1 ha, ← yj hab, ← yj hab, ← yj hab, ← yj hab, h x, h y] at h0
 omega
theorem v3 : ∀ {d n a : Nat} {w : Nat → Nat → Int}, a + d + 1 < n → w a = w (a + d + 1) → det n w = 0
 | 0, n, a, w, h, e => v4 h e
 | d + 1, n, a, w, h, e => by
  have hs := Zw (n := n) (a := a + d + 1) (b := a + d + 1 + 1) (w := w) (by omega) (by omega) (by omega) (fun x => v4 (a := a + d + 1) (by omega) (by rw [yr (by omega), yE, yE])) (w (a + d + 1)) (w (a + d + 1 + 1))
  rw [xt] at hs
  have e2 : up w (a + d + 1 + 1) (w (a + d + 1 + 1)) = w := xt _ _
  rw [e2] at hs
  have hz : det n (up (up w (a + d + 1) (w (a + d + 1 + 1))) (a + d + 1 + 1) (w (a + d + 1))) = 0 := by
   refine v3 (d := d) (a := a) (by omega) ?_
   rw [yr (by omega), yr (by omega), yr (by omega), yE, e]
   rfl
  omega
theorem vg {n a b : Nat} {w : Nat → Nat → Int} (ha : a < n) (hb : b < n) (hab : a ≠ b) (e : w a = w b) : det n w = 0 := by
 rcases Nat.lt_or_gt_of_ne hab with h | h
 ·obtain ⟨d, rfl⟩ : ∃ d, b = a + d + 1 := ⟨b - a - 1, by omega⟩
  exact v3 hb e
 ·obtain ⟨d, rfl⟩ : ∃ d, a = b + d + 1 := ⟨a - b - 1, by omega⟩
  exact v3 ha e.symm
theorem det_swap {n a b : Nat} {w : Nat → Nat → Int} (ha : a < n) (hb : b < n) (hab : a ≠ b) : det n (up (up w a (w b)) b (w a)) = - det n w := by
 have hs := Zw (n := n) (w := w) ha hb hab (fun x => vg ha hb hab (by rw [yr hab, yE, yE])) (w b) (w a)
 rw [hs, xt, xt]
theorem v2 {n k N : Nat} {w : Nat → Nat → Int} (q : Nat → Int) (z : Nat → Nat → Int) (hk : k < n) : det n (up w k fun b => sm N fun j => q j * z j b) = sm N fun j => q j * det n (up w k (z j)) := by
 induction N with
 | zero =>
  have := yt (n := n) (k := k) (w := w) (fun _ => 0) (fun _ => 0) 0 0 hk
  simpa [sm] using this
 | succ N ih =>
  show det n (up w k fun b => sm N (fun j => q j * z j b) + q N * z N b) = sm N _ + _
  rw [← ih]
  have := yt (n := n) (k := k) (w := w) (fun b => sm N fun j => q j * z j b) (z N) 1 (q N) hk
  simpa using this
theorem Zv {n k : Nat} {w : Nat → Nat → Int} (q : Nat → Int) (hk : k < n) : det n (up w k fun b => sm n fun j => q j * w j b) = q k * det n w := by
 rw [v2 q w hk, yM hk fun i hi hne => ?_, xt]
 rw [vg hi hk hne (by rw [yr hne, yE])]
 simp
theorem det_slots {n c k : Nat} {w : Nat → Nat → Int} (p q : Nat → Int) (hc : c < n) (hk : k < n) (hck : c ≠ k) : det n (up (up w c fun b => sm n fun j => p j * w j b) k fun b => sm n fun j => q j * w j b) = (p c * q k - p k * q c) * det n w := by
 rw [v2 q w hk]
 have h1 : ∀ j < n, q j * det n (up (up w c fun b => sm n fun j => p j * w j b) k (w j)) = (if j = k then q k * (p c * det n w) else 0) + (if j = c then - q c * (p k * det n w) else 0) := by
  intro j hj
  by_cases e1 : j = k
  ·subst e1
   rw [if_pos rfl, if_neg (Ne.symm hck), yj hck, xt, Zv p hc]
   omega
  ·by_cases e2 : j = c
   ·subst e2
    rw [if_neg e1, if_pos rfl, yj hck, v2 p w hc, yM hk fun i hi hne => ?_]
    ·rw [← yj hck]
     have := det_swap (n := n) (w := w) hc hk hck
     rw [this]
     grind
    ·by_cases e3 : i = j
     ·subst e3
      rw [vg hc hk hck (by rw [yE, yr (Ne.symm hck), yE])]; simp
     ·rw [vg hi hc e3 (by rw [yr e3, yr hne, yE])]; simp
   ·rw [if_neg e1, if_neg e2, vg hj hk e1 (by rw [yr e1, yr e2, yE])]; simp
 rw [zx h1]
 have := yI (n := n) (f := fun j => if j = k then q k * (p c * det n w) else 0) (g := fun j => if j = c then - q c * (p k * det n w) else 0) 1 1
 simp only [Int.one_mul] at this
 rw [this, yM hk fun i hi hne => if_neg hne, yM hc fun i hi hne => if_neg hne, if_pos rfl, if_pos rfl]
 grind
def fac : Nat → Nat
 | 0 => 1
 | n + 1 => (n + 1) * fac n
theorem YC {n B : Nat} {f : Nat → Int} (h : ∀ i < n, (f i).natAbs ≤ B) : (sm n f).natAbs ≤ n * B := by
 induction n with
 | zero => simp [sm]
 | succ n ih =>
  show (sm n f + f n).natAbs ≤ _
  have h1 := ih fun i hi => h i (by omega)
  have h2 := h n (by omega)
  have h3 := Int.natAbs_add_le (sm n f) (f n)
  rw [Nat.succ_mul]
  omega
theorem sg_abs (i : Nat) : (sg i).natAbs = 1 := by unfold sg; split <;> rfl
theorem v5 : ∀ {n B : Nat} {w : Nat → Nat → Int}, (∀ a < n, ∀ b < n, (w a b).natAbs ≤ B) → (det n w).natAbs ≤ fac n * B ^ n
 | 0, _, _, _ => by simp [det, fac]
 | n + 1, B, w, h => by
  have := YC (n := n + 1) (B := B * (fac n * B ^ n)) (f := fun i => sg i * w i 0 * det n (fun a b => w (skip i a) (b + 1))) fun i hi => by
   rw [Int.natAbs_mul, Int.natAbs_mul, sg_abs, Nat.one_mul]
   exact Nat.mul_le_mul (h i hi 0 (by omega)) (v5 fun a ha b hb => h _ (by unfold skip; split <;> omega) _ (by omega))
  refine Nat.le_trans this (Nat.le_of_eq ?_)
  show (n + 1) * (B * (fac n * B ^ n)) = (n + 1) * fac n * B ^ (n + 1)
  rw [Nat.pow_succ]
  grind
end WG
namespace WG
structure Tb where
 D : Int
 M : Nat → Nat → Int
 ru : Nat → Nat
 cu : Nat → Nat
def un (n b : Nat) : Int := if b = n then 1 else 0
def wv (n : Nat) (v : Nat → Nat → Int) (cu : Nat → Nat) : Nat → Nat → Int := fun c => if c < n then v (cu c) else un n
structure Inv (n m : Nat) (v : Nat → Nat → Int) (S : Tb) : Prop where
 D0 : 0 < S.D
 rl : ∀ r < m, S.ru r < n + m
 cl : ∀ c < n, S.cu c < n + m
 al : ∀ u < n + m, (∃ r, r < m ∧ S.ru r = u) ∨ ∃ c, c < n ∧ S.cu c = u
 ri : ∀ r < m, ∀ q < m, S.ru r = S.ru q → r = q
 ci : ∀ c < n, ∀ d < n, S.cu c = S.cu d → c = d
 rc : ∀ r < m, ∀ c < n, S.ru r ≠ S.cu c
 mc : ∀ c < n, ∀ k ≤ n, S.M (S.cu c) k = if k = c then S.D else 0
 A : ∀ u < n + m, ∀ j ≤ n, S.D * v u j = sm (n + 1) fun c => S.M u c * wv n v S.cu c j
 B : ∀ u < n + m, ∀ k ≤ n, S.M u k = (sm n fun j => v u j * S.M j k) + v u n * (if k = n then S.D else 0)
 dt : ∃ g : Int, g * g = 1 ∧ S.D = g * det (n + 1) (wv n v S.cu)
def sgn (p : Int) : Int := if p > 0 then 1 else -1
theorem sgn_sq (p : Int) : sgn p * sgn p = 1 := by unfold sgn; split <;> rfl
theorem sgn_pos {p : Int} (h : p ≠ 0) : 0 < sgn p * p := by unfold sgn; split <;> omega
def updN (f : Nat → Nat) (k x : Nat) : Nat → Nat := fun i => if i = k then x else f i
def yn (S : Tb) (r c : Nat) : Nat → Nat → Int := fun u k =>
 if k = c then sgn (S.M (S.ru r) c) * S.M u c else (sgn (S.M (S.ru r) c) * S.M (S.ru r) c * S.M u k - sgn (S.M (S.ru r) c) * S.M u c * S.M (S.ru r) k) / S.D
def turn (S : Tb) (r c : Nat) : Tb := ⟨sgn (S.M (S.ru r) c) * S.M (S.ru r) c, yn S r c, updN S.ru r (S.cu c), updN S.cu c (S.ru r)⟩
section
variable {n m : Nat} {v : Nat → Nat → Int} {S : Tb}
theorem Inv.cramer (I : Inv n m v S) {g : Int} (hg : g * g = 1) (hd : S.D = g * det (n + 1) (wv n v S.cu)) {u k : Nat} (hu : u < n + m) (hk : k ≤ n) : det (n + 1) (up (wv n v S.cu) k (v u)) = g * S.M u k := by
 have h1 := yt (n := n + 1) (k := k) (w := wv n v S.cu) (v u) (v u) S.D 0 (by omega)
 have h2 : det (n + 1) (up (wv n v S.cu) k fun b => S.D * v u b + 0 * v u b) = det (n + 1) (up (wv n v S.cu) k fun b => sm (n + 1) fun j => S.M u j * wv n v S.cu j b) := xv fun a ha b hb => by
  unfold up; split
  ·show S.D * v u b + 0 * v u b = sm (n + 1) fun j => S.M u j * wv n v S.cu j b
   rw [I.A u hu b (by omega)]; omega
  ·rfl
 rw [h2, Zv (S.M u) (by omega)] at h1
 have h3 : S.D * det (n + 1) (up (wv n v S.cu) k (v u)) = S.D * (g * S.M u k) := by
  have : det (n + 1) (wv n v S.cu) = g * S.D := by rw [hd, ← Int.mul_assoc, hg, Int.one_mul]
  rw [this] at h1
  grind
 exact Int.eq_of_mul_eq_mul_left (by have := I.D0; omega) h3
theorem Inv.bound (I : Inv n m v S) {Bd : Nat} (hb : ∀ u < n + m, ∀ j ≤ n, (v u j).natAbs ≤ Bd) (h1 : 1 ≤ Bd) {u k : Nat} (hu : u < n + m) (hk : k ≤ n) : (S.M u k).natAbs ≤ fac (n + 1) * Bd ^ (n + 1) := by
 obtain ⟨g, hg, hd⟩ := I.dt
 have := I.cramer hg hd hu hk
 have e : S.M u k = g * det (n + 1) (up (wv n v S.cu) k (v u)) := by rw [this, ← Int.mul_assoc, hg, Int.one_mul]
 have hg1 : g.natAbs = 1 := by
  have : (g * g).natAbs = 1 := by rw [hg]; rfl
  rw [Int.natAbs_mul] at this
  exact Nat.eq_one_of_mul_eq_one_left this
 rw [e, Int.natAbs_mul, hg1, Nat.one_mul]
 refine v5 fun a ha b hb' => ?_
 unfold up wv un
 split
 ·exact hb u hu b (by omega)
 ·split
  ·exact hb _ (I.cl _ (by omega)) b (by omega)
  ·dsimp only
   split <;> simp <;> omega
theorem Inv.D_bound (I : Inv n m v S) {Bd : Nat} (hb : ∀ u < n + m, ∀ j ≤ n, (v u j).natAbs ≤ Bd) (h1 : 1 ≤ Bd) : S.D.natAbs ≤ fac (n + 1) * Bd ^ (n + 1) := by
 obtain ⟨g, hg, hd⟩ := I.dt
 have hg1 : g.natAbs = 1 := by
  have : (g * g).natAbs = 1 := by rw [hg]; rfl
  rw [Int.natAbs_mul] at this
  exact Nat.eq_one_of_mul_eq_one_left this
 rw [hd, Int.natAbs_mul, hg1, Nat.one_mul]
 refine v5 fun a ha b hb' => ?_
 unfold wv un
 split
 ·exact hb _ (I.cl _ (by omega)) b (by omega)
 ·dsimp only
  split <;> simp <;> omega
theorem Inv.exact (I : Inv n m v S) {r c u k : Nat} (hr : r < m) (hc : c < n) (hu : u < n + m) (hk : k ≤ n) (hkc : k ≠ c) :
  S.D ∣ (sgn (S.M (S.ru r) c) * S.M (S.ru r) c * S.M u k - sgn (S.M (S.ru r) c) * S.M u c * S.M (S.ru r) k) := by
 obtain ⟨g, hg, hd⟩ := I.dt
 have hl := I.rl r hr
 generalize S.ru r = l at hl ⊢
 have hw : det (n + 1) (wv n v S.cu) = g * S.D := by rw [hd, ← Int.mul_assoc, hg, Int.one_mul]
 have h1 := det_slots (n := n + 1) (w := wv n v S.cu) (S.M l) (S.M u) (c := c) (k := k) (by omega) (by omega) (Ne.symm hkc)
 have h2 : det (n + 1) (up (up (wv n v S.cu) c fun b => sm (n + 1) fun j => S.M l j * wv n v S.cu j b) k fun b => sm (n + 1) fun j => S.M u j * wv n v S.cu j b) = det (n + 1) (up (up (wv n v S.cu) c fun b => S.D * v l b + 0 * v l b) k fun b => S.D * v u b + 0 * v u b) := xv fun a ha b hb => by
  unfold up; split
  ·show (sm (n + 1) fun j => S.M u j * wv n v S.cu j b) = S.D * v u b + 0 * v u b
   rw [← I.A u hu b (by omega)]; omega
  ·split
   ·show (sm (n + 1) fun j => S.M l j * wv n v S.cu j b) = S.D * v l b + 0 * v l b
    rw [← I.A l hl b (by omega)]; omega
   ·rfl
 rw [h2, yt (v u) (v u) S.D 0 (by omega), yj (Ne.symm hkc), yt (v l) (v l) S.D 0 (by omega), hw] at h1
 generalize det (n + 1) (up (up (wv n v S.cu) k (v u)) c (v l)) = d at h1
 have h3 : S.D * (S.D * d) = S.D * (g * (S.M l c * S.M u k - S.M l k * S.M u c)) := by grind
 have h4 := Int.eq_of_mul_eq_mul_left (by have := I.D0; omega) h3
 refine ⟨sgn (S.M l c) * g * d, ?_⟩
 have : S.D * (sgn (S.M l c) * g * d) = sgn (S.M l c) * g * (S.D * d) := by grind
 rw [this, h4]
 grind
theorem Inv.turn_mul (I : Inv n m v S) {r c u k : Nat} (hr : r < m) (hc : c < n) (hu : u < n + m) (hk : k ≤ n) (hkc : k ≠ c) :
  S.D * yn S r c u k = sgn (S.M (S.ru r) c) * S.M (S.ru r) c * S.M u k - sgn (S.M (S.ru r) c) * S.M u c * S.M (S.ru r) k := by
 unfold yn
 rw [if_neg hkc]
 exact Int.mul_ediv_cancel' (I.exact hr hc hu hk hkc)
theorem yJ {r c u : Nat} : yn S r c u c = sgn (S.M (S.ru r) c) * S.M u c := by unfold yn; rw [if_pos rfl]
theorem xV {d a b : Int} (h : 0 < d) (e : d * a = d * b) : a = b := Int.eq_of_mul_eq_mul_left (by omega) e
theorem ZP {r c a : Nat} (hc : c < n) : wv n v (updN S.cu c (S.ru r)) a = up (wv n v S.cu) c (v (S.ru r)) a := by
 unfold wv up updN
 funext b
 by_cases e : a = c
 ·subst e; simp [hc]
 ·simp [e]
theorem Inv.turn (I : Inv n m v S) {r c : Nat} (hr : r < m) (hc : c < n) (hp : S.M (S.ru r) c ≠ 0) : Inv n m v (turn S r c) := by
 have hl := I.rl r hr
 have ht := I.cl c hc
 have hne := I.rc r hr c hc
 have hD := I.D0
 refine ⟨sgn_pos hp, fun q hq => ?_, fun d hd => ?_, fun u hu => ?_, fun a ha b hb e => ?_, fun a ha b hb e => ?_, fun a ha b hb e => ?_, fun d hd k hk => ?_, fun u hu j hj => ?_, fun u hu k hk => ?_, ?_⟩
 ·show updN S.ru r (S.cu c) q < n + m
  unfold updN; split
  ·exact ht
  ·exact I.rl q hq
 ·show updN S.cu c (S.ru r) d < n + m
  unfold updN; split
  ·exact hl
  ·exact I.cl d hd
 ·by_cases e1 : u = S.cu c
  ·exact .inl ⟨r, hr, by simp [WG.turn, updN, e1]⟩
  ·by_cases e2 : u = S.ru r
   ·exact .inr ⟨c, hc, by simp [WG.turn, updN, e2]⟩
   ·rcases I.al u hu with ⟨q, hq, rfl⟩ | ⟨d, hd, rfl⟩
    ·refine .inl ⟨q, hq, ?_⟩
     show updN S.ru r (S.cu c) q = _
     unfold updN; rw [if_neg]; intro z; subst z; exact e2 rfl
    ·refine .inr ⟨d, hd, ?_⟩
     show updN S.cu c (S.ru r) d = _
     unfold updN; rw [if_neg]; intro z; subst z; exact e1 rfl
 ·have e : updN S.ru r (S.cu c) a = updN S.ru r (S.cu c) b := e
  unfold updN at e
  split at e <;> split at e
  ·omega
  ·exact absurd e.symm (I.rc b hb c hc)
  ·exact absurd e (I.rc a ha c hc)
  ·exact I.ri a ha b hb e
 ·have e : updN S.cu c (S.ru r) a = updN S.cu c (S.ru r) b := e
  unfold updN at e
  split at e <;> split at e
  ·omega
  ·exact absurd e (I.rc r hr b hb)
  ·exact absurd e.symm (I.rc r hr a ha)
  ·exact I.ci a ha b hb e
 ·have e : updN S.ru r (S.cu c) a = updN S.cu c (S.ru r) b := e
  unfold updN at e
  split at e <;> split at e
  ·exact hne e.symm
  ·rename_i h1 h2; exact h2 (I.ci c hc b hb e).symm
  ·rename_i h1 h2; exact h1 (I.ri a ha r hr e)
  ·exact I.rc a ha b hb e
 ·show yn S r c (updN S.cu c (S.ru r) d) k = if k = d then sgn (S.M (S.ru r) c) * S.M (S.ru r) c else 0
  unfold updN
  by_cases e : d = c
  ·subst e
   rw [if_pos rfl]
   by_cases ek : k = d
   ·subst ek; rw [yJ, if_pos rfl]
   ·rw [if_neg ek]
    refine xV hD ?_
    rw [I.turn_mul hr hc hl hk ek]; grind
  ·rw [if_neg e]
   have h1 := I.mc d hd
   by_cases ek : k = c
   ·subst ek
    rw [yJ, h1 k hk, if_neg (Ne.symm e), if_neg (Ne.symm e)]; simp
   ·refine xV hD ?_
    rw [I.turn_mul hr hc (I.cl d hd) hk ek, h1 k hk, h1 c (by omega), if_neg (Ne.symm e)]
    split <;> grind
 ·show sgn (S.M (S.ru r) c) * S.M (S.ru r) c * v u j = sm (n + 1) fun a => yn S r c u a * wv n v (updN S.cu c (S.ru r)) a j
  refine xV hD ?_
  rw [← yf]
  have h1 : ∀ a < n + 1, S.D * (yn S r c u a * wv n v (updN S.cu c (S.ru r)) a j) = (sgn (S.M (S.ru r) c) * S.M (S.ru r) c) * (S.M u a * wv n v S.cu a j) + (- sgn (S.M (S.ru r) c) * S.M u c) * (S.M (S.ru r) a * wv n v S.cu a j) + (if a = c then sgn (S.M (S.ru r) c) * S.M u c * (S.D * v (S.ru r) j) else 0) := by
   intro a ha
   rw [ZP hc]
   by_cases e : a = c
   ·subst e
    rw [yE, yJ, if_pos rfl]; grind
   ·rw [yr e, if_neg e, ← Int.mul_assoc, I.turn_mul hr hc hu (by omega) e]; grind
  rw [zx h1]
  have h2 := yI (n := n + 1) (f := fun a => (sgn (S.M (S.ru r) c) * S.M (S.ru r) c) * (S.M u a * wv n v S.cu a j) + (- sgn (S.M (S.ru r) c) * S.M u c) * (S.M (S.ru r) a * wv n v S.cu a j)) (g := fun a => if a = c then sgn (S.M (S.ru r) c) * S.M u c * (S.D * v (S.ru r) j) else 0) 1 1
  simp only [Int.one_mul] at h2
  rw [h2, yI, ← I.A u hu j hj, ← I.A _ hl j hj, yM (k := c) (by omega) fun i hi hne => if_neg hne, if_pos rfl]
  grind
 ·show yn S r c u k = (sm n fun j => v u j * yn S r c j k) + v u n * (if k = n then sgn (S.M (S.ru r) c) * S.M (S.ru r) c else 0)
  have hB := I.B u hu
  by_cases ek : k = c
  ·subst ek
   rw [yJ, if_neg (by omega)]
   have h1 := hB k hk
   rw [if_neg (by omega)] at h1
   rw [zx (f := fun j => v u j * yn S r k j k) (g := fun j => sgn (S.M (S.ru r) k) * (v u j * S.M j k)) fun j _ => by rw [yJ]; grind, yf, h1]
   grind
  ·refine xV hD ?_
   rw [I.turn_mul hr hc hu hk ek, Int.mul_add, ← yf]
   rw [zx (g := fun j => (sgn (S.M (S.ru r) c) * S.M (S.ru r) c) * (v u j * S.M j k) + (- sgn (S.M (S.ru r) c) * S.M (S.ru r) k) * (v u j * S.M j c)) fun j hj => by
    have := I.turn_mul hr hc (u := j) (by omega) hk ek
    have e2 : S.D * (v u j * yn S r c j k) = v u j * (S.D * yn S r c j k) := by grind
    rw [e2, this]; grind]
   rw [yI]
   have h1 := hB k hk
   have h2 := hB c (by omega)
   rw [if_neg (by omega : ¬ c = n)] at h2
   have e1 : (sm n fun j => v u j * S.M j k) = S.M u k - v u n * (if k = n then S.D else 0) := by omega
   have e2 : (sm n fun j => v u j * S.M j c) = S.M u c := by omega
   rw [e1, e2]
   split <;> grind
 ·obtain ⟨g, hg, hd⟩ := I.dt
  refine ⟨sgn (S.M (S.ru r) c) * g, ?_, ?_⟩
  ·have := sgn_sq (S.M (S.ru r) c); grind
  ·show sgn (S.M (S.ru r) c) * S.M (S.ru r) c = _ * det (n + 1) (wv n v (updN S.cu c (S.ru r)))
   have e : wv n v (updN S.cu c (S.ru r)) = up (wv n v S.cu) c (v (S.ru r)) := by funext a; exact ZP hc
   rw [e, I.cramer hg hd hl (by omega)]
   grind
end
end WG
namespace WG
section
variable {n m : Nat} {v : Nat → Nat → Int}
def low (n m : Nat) (S : Tb) (r : Nat) : Prop := r < m ∧ n ≤ S.ru r ∧ S.M (S.ru r) n < 0
structure BStep (n m : Nat) (S : Tb) (r c : Nat) : Prop where
 lo : low n m S r
 lm : ∀ q, low n m S q → S.ru r ≤ S.ru q
 hc : c < n
 nz : S.M (S.ru r) c ≠ 0
 cm : S.cu c < n ∨ (0 < S.M (S.ru r) c ∧ (∀ d < n, S.cu d < n → S.M (S.ru r) d = 0) ∧ ∀ d < n, n ≤ S.cu d → 0 < S.M (S.ru r) d → S.cu c ≤ S.cu d)
def isC (n : Nat) (S : Tb) (u : Nat) : Prop := ∃ c, c < n ∧ S.cu c = u
theorem Xp (S R : Tb) (I : Inv n m v S) (J : Inv n m v R) {u : Nat} (hu : u < n + m) : S.D * R.M u n = (sm n fun c => S.M u c * R.M (S.cu c) n) + S.M u n * R.D := by
 have hB : ∀ w < n + m, R.M w n = (sm n fun j => v w j * R.M j n) + v w n * R.D := fun w hw => by
  have := J.B w hw n (Nat.le_refl _)
  rwa [if_pos rfl] at this
 rw [hB u hu, Int.mul_add, ← yf]
 have hA : ∀ j ≤ n, S.D * v u j = (sm n fun c => S.M u c * v (S.cu c) j) + S.M u n * un n j := fun j hj => by
  rw [I.A u hu j hj]
  show (sm n fun c => S.M u c * wv n v S.cu c j) + S.M u n * wv n v S.cu n j = _
  congr 1
  ·exact zx fun c hc => by unfold wv; rw [if_pos hc]
  ·unfold wv; rw [if_neg (by omega)]
 have h1 : (sm n fun j => S.D * (v u j * R.M j n)) = sm n fun c => S.M u c * sm n fun j => v (S.cu c) j * R.M j n := by
  have : ∀ j < n, S.D * (v u j * R.M j n) = sm n fun c => S.M u c * (v (S.cu c) j * R.M j n) := fun j hj => by
   have e := hA j (by omega)
   unfold un at e
   rw [if_neg (by omega)] at e
   have e2 : S.D * (v u j * R.M j n) = R.M j n * (S.D * v u j) := by grind
   rw [e2, e, Int.mul_zero, Int.add_zero, ← yf]
   exact zx fun c _ => by grind
  rw [zx this, sm_sm]
  exact zx fun c _ => yf _
 have h2 : S.D * (v u n * R.D) = (sm n fun c => S.M u c * (v (S.cu c) n * R.D)) + S.M u n * R.D := by
  have e := hA n (Nat.le_refl _)
  unfold un at e
  rw [if_pos rfl] at e
  have e2 : S.D * (v u n * R.D) = R.D * (S.D * v u n) := by grind
  rw [e2, e, Int.mul_add, ← yf]
  congr 1
  ·exact zx fun c _ => by grind
  ·grind
 rw [h1, h2]
 have h3 := yI (n := n) (f := fun c => S.M u c * sm n fun j => v (S.cu c) j * R.M j n) (g := fun c => S.M u c * (v (S.cu c) n * R.D)) 1 1
 have h4 : (sm n fun c => S.M u c * R.M (S.cu c) n) = sm n fun c => 1 * (S.M u c * sm n fun j => v (S.cu c) j * R.M j n) + 1 * (S.M u c * (v (S.cu c) n * R.D)) := zx fun c hc => by
  rw [hB _ (I.cl c hc)]; grind
 rw [h4, h3]
 grind
theorem bland {S R : Tb} (I : Inv n m v S) (J : Inv n m v R) {r c q d t : Nat} (a : BStep n m S r c) (b : BStep n m R q d) (e1 : S.cu c = t) (e2 : R.ru q = t) (hl : S.ru r ≤ t) (hs : ∀ u, t < u → isC n S u → isC n R u) : False := by
 have hr := a.lo.1
 have hq := b.lo.1
 have hlu := I.rl r hr
 have htn : n ≤ t := e2 ▸ b.lo.2.1
 obtain ⟨hp, hz, hm⟩ : 0 < S.M (S.ru r) c ∧ (∀ d < n, S.cu d < n → S.M (S.ru r) d = 0) ∧ ∀ d < n, n ≤ S.cu d → 0 < S.M (S.ru r) d → S.cu c ≤ S.cu d := by
  rcases a.cm with h | h
  ·omega
  ·exact h
 -- how the other table's Xp stands
 have hlow : ∀ u, n ≤ u → u < n + m → u < t → 0 ≤ R.M u n := fun u h1 h2 h3 => by
  rcases J.al u h2 with ⟨r', hr', rfl⟩ | ⟨c', hc', rfl⟩
  ·rcases Int.lt_or_le (R.M (R.ru r') n) 0 with h | h
   ·have := b.lm r' ⟨hr', h1, h⟩
    omega
   ·exact h
  ·rw [J.mc c' hc' n (Nat.le_refl _), if_neg (by omega)]; exact Int.le_refl _
 have hP := Xp S R I J hlu
 have hlt : S.ru r < t := by
  have := I.rc r hr c a.hc
  omega
 have h0 := hlow _ a.lo.2.1 hlu hlt
 have hsum : (sm n fun x => S.M (S.ru r) x * R.M (S.cu x) n) ≤ 0 := sm_nonpos fun x hx => by
  by_cases hx1 : S.cu x < n
  ·rw [hz x hx hx1]; simp
  ·by_cases hx2 : S.cu x = t
   ·have : x = c := I.ci x hx c a.hc (by omega)
    subst this
    have h5 : R.M (S.cu x) n < 0 := by rw [hx2, ← e2]; exact b.lo.2.2
    have := Int.mul_pos hp (Int.neg_pos.mpr h5)
    have e : S.M (S.ru r) x * -R.M (S.cu x) n = -(S.M (S.ru r) x * R.M (S.cu x) n) := by grind
    omega
   ·by_cases hx3 : t < S.cu x
    ·obtain ⟨c', hc', e'⟩ := hs _ hx3 ⟨x, hx, rfl⟩
     rw [← e', J.mc c' hc' n (Nat.le_refl _), if_neg (by omega)]; simp
    ·have h5 := hlow (S.cu x) (by omega) (I.cl x hx) (by omega)
     have h6 : S.M (S.ru r) x ≤ 0 := by
      rcases Int.lt_or_le 0 (S.M (S.ru r) x) with h | h
      ·have := hm x hx (by omega) h
       omega
      ·exact h
     have := Int.mul_nonneg (Int.neg_nonneg.mpr h6) h5
     have e : -S.M (S.ru r) x * R.M (S.cu x) n = -(S.M (S.ru r) x * R.M (S.cu x) n) := by grind
     omega
 have h7 : S.M (S.ru r) n * R.D < 0 := by
  have := Int.mul_pos (Int.neg_pos.mpr a.lo.2.2) J.D0
  have e : -S.M (S.ru r) n * R.D = -(S.M (S.ru r) n * R.D) := by grind
  omega
 have h8 := Int.mul_nonneg (Int.le_of_lt I.D0) h0
 omega
structure Way (n m : Nat) (v : Nat → Nat → Int) (k : Nat) (h : Nat → Tb) (rw cw : Nat → Nat) : Prop where
 iv : ∀ i ≤ k, Inv n m v (h i)
 st : ∀ i < k, BStep n m (h i) (rw i) (cw i)
 nx : ∀ i < k, h (i + 1) = turn (h i) (rw i) (cw i)
theorem vc {S : Tb} (I : Inv n m v S) {r c u : Nat} (hr : r < m) (hc : c < n) (h1 : u ≠ S.cu c) (h2 : u ≠ S.ru r) : isC n (turn S r c) u ↔ isC n S u := by
 constructor
 ·rintro ⟨d, hd, e⟩
  have e : updN S.cu c (S.ru r) d = u := e
  unfold updN at e
  split at e
  ·exact absurd e.symm h2
  ·exact ⟨d, hd, e⟩
 ·rintro ⟨d, hd, e⟩
  refine ⟨d, hd, ?_⟩
  show updN S.cu c (S.ru r) d = u
  unfold updN
  split
  ·rename_i z; subst z; exact absurd e.symm h1
  ·exact e
theorem isC_in {S : Tb} {r c : Nat} (hc : c < n) : isC n (turn S r c) (S.ru r) := ⟨c, hc, by simp [turn, updN]⟩
theorem isC_out {S : Tb} (I : Inv n m v S) {r c : Nat} (hr : r < m) (hc : c < n) : ¬ isC n (turn S r c) (S.cu c) := by
 rintro ⟨d, hd, e⟩
 have e : updN S.cu c (S.ru r) d = S.cu c := e
 unfold updN at e
 split at e
 ·exact I.rc r hr c hc e
 ·rename_i z; exact z (I.ci d hd c hc e)
theorem Yi {S : Tb} (I : Inv n m v S) {r : Nat} (hr : r < m) : ¬ isC n S (S.ru r) := by
 rintro ⟨d, hd, e⟩
 exact I.rc r hr d hd e.symm
variable {k : Nat} {h : Nat → Tb} {rw_ cw : Nat → Nat}
theorem Way.stays (W : Way n m v k h rw_ cw) {u a b : Nat} (hab : a ≤ b) (hb : b ≤ k) (hn : ∀ i, a ≤ i → i < b → u ≠ (h i).cu (cw i) ∧ u ≠ (h i).ru (rw_ i)) : isC n (h a) u ↔ isC n (h b) u := by
 induction b with
 | zero => rw [show a = 0 by omega]
 | succ b ih =>
  by_cases e : a = b + 1
  ·rw [e]
  ·have h1 := ih (by omega) (by omega) fun i h1 h2 => hn i h1 (by omega)
   have s := W.st b (by omega)
   obtain ⟨h2, h3⟩ := hn b (by omega) (by omega)
   rw [h1, W.nx b (by omega), vc (W.iv b (by omega)) s.lo.1 s.hc h2 h3]
theorem Way.once (W : Way n m v k h rw_ cw) {t a b i j : Nat} (hb : b ≤ k) (hi : ∀ x, a ≤ x → x < b → (h x).cu (cw x) ≤ t ∧ (h x).ru (rw_ x) ≤ t) (ha : a ≤ i) (hij : i < j) (hj : j < b) (m1 : (h i).cu (cw i) = t ∨ (h i).ru (rw_ i) = t) (m2 : (h j).cu (cw j) = t ∨ (h j).ru (rw_ j) = t) : False := by
 have up_ : ∀ u, t < u → ∀ x y, a ≤ x → x ≤ b → a ≤ y → y ≤ b → (isC n (h x) u ↔ isC n (h y) u) := fun u hu x y h1 h2 h3 h4 => by
  have g : ∀ z, a ≤ z → z ≤ b → (isC n (h a) u ↔ isC n (h z) u) := fun z hz1 hz2 => W.stays hz1 (by omega) fun w hw1 hw2 => by
   have := hi w hw1 (by omega)
   omega
  rw [← g x h1 h2, ← g y h3 h4]
 -- some turn brings it in, some other one takes it out
 have hin : ∃ x, a ≤ x ∧ x < b ∧ (h x).cu (cw x) = t := by
  apply Classical.byContradiction
  intro z
  have z : ∀ x, a ≤ x → x < b → (h x).cu (cw x) ≠ t := fun x h1 h2 e => z ⟨x, h1, h2, e⟩
  have m1 : (h i).ru (rw_ i) = t := m1.resolve_left (z i ha (by omega))
  have m2 : (h j).ru (rw_ j) = t := m2.resolve_left (z j (by omega) hj)
  -- a column from i + 1 on
  have hcol : ∀ x, i + 1 ≤ x → x ≤ b → isC n (h x) t := by
   intro x hx
   induction x with
   | zero => omega
   | succ x ih =>
    intro hxb
    have s := W.st x (by omega)
    rw [W.nx x (by omega)]
    by_cases e : x = i
    ·subst e; rw [← m1]; exact isC_in s.hc
    ·have h1 := ih (by omega) (by omega)
     have h2 : (h x).ru (rw_ x) ≠ t := fun e => Yi (W.iv x (by omega)) s.lo.1 (e ▸ h1)
     exact (vc (W.iv x (by omega)) s.lo.1 s.hc (Ne.symm (z x (by omega) (by omega))) (Ne.symm h2)).mpr h1
  exact Yi (W.iv j (by omega)) (W.st j (by omega)).lo.1 (m2 ▸ hcol j (by omega) (by omega))
 have hout : ∃ x, a ≤ x ∧ x < b ∧ (h x).ru (rw_ x) = t := by
  apply Classical.byContradiction
  intro z
  have z : ∀ x, a ≤ x → x < b → (h x).ru (rw_ x) ≠ t := fun x h1 h2 e => z ⟨x, h1, h2, e⟩
  have m1 : (h i).cu (cw i) = t := m1.resolve_right (z i ha (by omega))
  have m2 : (h j).cu (cw j) = t := m2.resolve_right (z j (by omega) hj)
  have hrow : ∀ x, i + 1 ≤ x → x ≤ b → ¬ isC n (h x) t := by
   intro x hx
   induction x with
   | zero => omega
   | succ x ih =>
    intro hxb
    have s := W.st x (by omega)
    rw [W.nx x (by omega)]
    by_cases e : x = i
    ·subst e; rw [← m1]; exact isC_out (W.iv x (by omega)) s.lo.1 s.hc
    ·have h1 := ih (by omega) (by omega)
     have h2 : (h x).cu (cw x) ≠ t := fun e => h1 ⟨cw x, s.hc, e⟩
     exact fun q => h1 ((vc (W.iv x (by omega)) s.lo.1 s.hc (Ne.symm h2) (Ne.symm (z x (by omega) (by omega)))).mp q)
  exact hrow j (by omega) (by omega) ⟨cw j, (W.st j (by omega)).hc, m2⟩
 obtain ⟨x, x1, x2, ex⟩ := hin
 obtain ⟨y, y1, y2, ey⟩ := hout
 exact bland (W.iv x (by omega)) (W.iv y (by omega)) (W.st x (by omega)) (W.st y (by omega)) ex ey (hi x x1 x2).2 fun u hu q => (up_ u hu x y x1 (by omega) y1 (by omega)).mp q
theorem Way.short (W : Way n m v k h rw_ cw) : ∀ (t a b : Nat), a ≤ b → b ≤ k → (∀ x, a ≤ x → x < b → (h x).cu (cw x) < t ∧ (h x).ru (rw_ x) < t) → b - a < 2 ^ t
 | 0, a, b, hab, hb, hi => by
  by_cases e : a = b
  ·subst e; simp
  ·have := hi a (Nat.le_refl _) (by omega)
   omega
 | t + 1, a, b, hab, hb, hi => by
  have h2 : 2 ^ (t + 1) = 2 ^ t + 2 ^ t := by rw [Nat.pow_succ]; omega
  by_cases hex : ∃ i, a ≤ i ∧ i < b ∧ ((h i).cu (cw i) = t ∨ (h i).ru (rw_ i) = t)
  ·obtain ⟨i, i1, i2, i3⟩ := hex
   have hi' : ∀ x, a ≤ x → x < b → (h x).cu (cw x) ≤ t ∧ (h x).ru (rw_ x) ≤ t := fun x h1 h2 => by have := hi x h1 h2; omega
   have p1 := W.short t a i i1 (by omega) fun x h1 h2 => by
    have q := hi x h1 (by omega)
    have n1 : ¬((h x).cu (cw x) = t ∨ (h x).ru (rw_ x) = t) := fun z => W.once hb hi' h1 h2 i2 z i3
    omega
   have p2 := W.short t (i + 1) b (by omega) hb fun x h1 h2 => by
    have q := hi x (by omega) h2
    have n1 : ¬((h x).cu (cw x) = t ∨ (h x).ru (rw_ x) = t) := fun z => W.once hb hi' i1 (by omega) h2 i3 z
    omega
   omega
  ·have := W.short t a b hab hb fun x h1 h2 => by
    have q := hi x h1 h2
    have n1 : ¬((h x).cu (cw x) = t ∨ (h x).ru (rw_ x) = t) := fun z => hex ⟨x, h1, h2, z⟩
    omega
   omega
theorem Way.few (W : Way n m v k h rw_ cw) : k < 2 ^ (n + m) := by
 have := W.short (n + m) 0 k (by omega) (Nat.le_refl _) fun x _ hx => ⟨(W.iv x (by omega)).cl _ (W.st x hx).hc, (W.iv x (by omega)).rl _ (W.st x hx).lo.1⟩
 omega
theorem Way.one {S : Tb} (I : Inv n m v S) : Way n m v 0 (fun _ => S) (fun _ => 0) fun _ => 0 := ⟨fun _ _ => I, fun i hi => absurd hi (by omega), fun i hi => absurd hi (by omega)⟩
theorem Way.more (W : Way n m v k h rw_ cw) {r c : Nat} (s : BStep n m (h k) r c) : ∃ h' r' c', Way n m v (k + 1) h' r' c' ∧ h' (k + 1) = turn (h k) r c := by
 refine ⟨fun i => if i ≤ k then h i else turn (h k) r c, fun i => if i < k then rw_ i else r, fun i => if i < k then cw i else c, ⟨fun i hi => ?_, fun i hi => ?_, fun i hi => ?_⟩, if_neg (by omega)⟩
 ·show Inv n m v (if i ≤ k then h i else turn (h k) r c)
  split
  ·exact W.iv i (by assumption)
  ·exact (W.iv k (Nat.le_refl _)).turn s.lo.1 s.hc s.nz
 ·show BStep n m (if i ≤ k then h i else turn (h k) r c) (if i < k then rw_ i else r) (if i < k then cw i else c)
  rw [if_pos (by omega)]
  by_cases e : i < k
  ·rw [if_pos e, if_pos e]; exact W.st i e
  ·rw [if_neg e, if_neg e, show i = k by omega]; exact s
 ·show (if i + 1 ≤ k then h (i + 1) else turn (h k) r c) = turn (if i ≤ k then h i else turn (h k) r c) (if i < k then rw_ i else r) (if i < k then cw i else c)
  by_cases e : i < k
  ·rw [if_pos (by omega), if_pos (by omega), if_pos e, if_pos e]; exact W.nx i e
  ·rw [if_neg (by omega), if_pos (by omega), if_neg e, if_neg e, show i = k by omega]
end
end WG
namespace K11
open PySem L2 G2
end K11
local macro_rules | `(tactic| walk_at "v") => `(tactic| repeat (with_reducible first
  | refine L2.wm ?_ | refine L2.wy ?_ | refine L2.yi ?_ | refine L2.w_op ?_ | refine L2.wf rfl ?_ | refine L2.w_c ?_ | refine L2.wq ?_ | refine L2.ww ?_ | refine L2.wx ?_ | refine L2.yY ?_ | refine L2.w_tb ?_ | refine L2.w_bl ?_ | refine L2.w_not ?_ | refine L2.wn ?_ | refine L2.w_retN ?_
  | refine L2.wt ?_ | refine L2.xg ?_ | refine L2.wu ?_ | refine L2.wj ?_ | refine L2.w_cb ?_ | refine L2.xh ?_ | refine L2.y9 ?_ | refine L2.wz ?_ | refine L2.w_or ?_ | refine L2.y8 ?_ | refine L2.yc ?_ | refine L2.w_vals ?_ | refine L2.yC ?_ | refine L2.yB ?_ | refine L2.xb ?_ | refine L2.w_forT ?_ | refine L2.xc ?_ | refine L2.xf ?_ | refine L2.w_bm ?_ | refine L2.w_compZ ?_ | refine L2.yD ?_ | refine L2.w_chain ?_ | refine L2.w_sl ?_ | refine L2.ym ?_ | refine L2.y0 ?_ | refine L2.wg ?_ | refine L2.iteT ?_ | refine L2.iteF ?_))
namespace K11
open PySem L2 G2
theorem nmk {N : List Str} {sc : Scope} (h : N.Nodup ∧ ∀ x ∈ N, Loc sc x) : Nm N sc := ⟨h.1, h.2⟩
theorem fsk {N P : List Str} {sc : Scope} (h : N.Nodup ∧ (∀ x ∈ P, sc.names.lookup x = some .local ∨ sc.names.lookup x = some .cell) ∧ ∀ y ∈ sc.names, y.2 ≠ .free) (a : sc.kind = .function := by rfl) (b : sc.isCoroutine = false := by rfl) (c : sc.isGenerator = false := by rfl) (d : N.take P.length = P := by rfl) : FnScope N P sc := ⟨a, b, c, h.1, d, h.2.1, h.2.2⟩
open WG
theorem SameB.at_ {x : Addr} {H H' : Hp} {o : HO} (k : SameB x H H') : SameB x H (upd H' x o) := fun a u n e => by rw [zh n]; exact k a u n e
theorem SameB.same {x : Addr} {H H' H2 : Hp} (k : SameB x H H') (b : Same H' H2) : SameB x H H2 := fun a u n e => b _ _ (k a u n e)
theorem SameB.free {x a : Addr} {H H' : Hp} (k : SameB x H H') (n : a ≠ x) (h : H' a = none) : H a = none := by
 cases e : H a with
 | none => rfl
 | some u => rw [k a u n e] at h; cases h
abbrev tFs (n : Nat) (D : Int) (pr pu pc : Addr) (t : Nat) : List (Str × V) := [("many", .int (n : Int)), ("bottom", .int D), ("rows", .ref pr), ("row_unknowns", .ref pu), ("column_unknowns", .ref pc), ("turns", .int (t : Int))]
def rowV (n : Nat) (f : Nat → Int) : List V := (List.range (n + 1)).map fun k => V.int (f k)
def natV (m : Nat) (f : Nat → Nat) : List V := (List.range m).map fun r => V.int ((f r : Nat) : Int)
theorem yd {n : Nat} {f : Nat → Int} : (rowV n f).length = n + 1 := by simp [rowV]
theorem zL {n : Nat} {f : Nat → Nat} : (natV n f).length = n := by simp [natV]
theorem zU {n k : Nat} {f : Nat → Int} (h : k ≤ n) : (rowV n f)[k]? = some (.int (f k)) := by
 unfold rowV
 rw [List.getElem?_map, List.getElem?_range (by omega)]
 rfl
theorem zY {n k : Nat} {f : Nat → Nat} (h : k < n) : (natV n f)[k]? = some (.int ((f k : Nat) : Int)) := by
 unfold natV
 rw [List.getElem?_map, List.getElem?_range h]
 rfl
theorem x4 {n : Nat} {f : Nat → Int} : atI (rowV n f) (-1) = some (.int (f n)) := by
 unfold atI ixN
 rw [if_neg (by omega), yd, if_pos (by omega), Option.bind_some, show ((-1 : Int) + ((n + 1 : Nat) : Int)).toNat = n by omega]
 exact zU (Nat.le_refl _)
theorem wG {n : Nat} {f : Nat → Int} {ys : List V} (hl : ys.length = n + 1) (h : ∀ k, k ≤ n → ys[k]? = some (.int (f k))) : ys = rowV n f := by
 refine List.ext_getElem? fun k => ?_
 by_cases hk : k ≤ n
 ·rw [h k hk, zU hk]
 ·rw [List.getElem?_eq_none (by omega), List.getElem?_eq_none (by rw [yd]; omega)]
theorem Yc {n : Nat} {f : Nat → Nat} {ys : List V} (hl : ys.length = n) (h : ∀ k, k < n → ys[k]? = some (.int ((f k : Nat) : Int))) : ys = natV n f := by
 refine List.ext_getElem? fun k => ?_
 by_cases hk : k < n
 ·rw [h k hk, zY hk]
 ·rw [List.getElem?_eq_none (by omega), List.getElem?_eq_none (by rw [zL]; omega)]
structure TC (K : W.Frag) (C : Addr) : Prop where
 c : Cls K C
 n1 : NoAttr K C "many"
 n2 : NoAttr K C "bottom"
 n3 : NoAttr K C "rows"
 n4 : NoAttr K C "row_unknowns"
 n5 : NoAttr K C "column_unknowns"
 n6 : NoAttr K C "turns"
structure TbA (H : Hp) (C o : Addr) (n m : Nat) (S : Tb) (t : Nat) (dx pr pu pc : Addr) (ras : List Addr) : Prop where
 ob : H o = some (.ins C dx (tFs n S.D pr pu pc t))
 rs : H pr = some (.lst (ras.map V.ref))
 rl : ras.length = m
 ra : ∀ r a, ras[r]? = some a → H a = some (.lst (rowV n (S.M (S.ru r))))
 ru : H pu = some (.lst (natV m S.ru))
 cu : H pc = some (.lst (natV n S.cu))
 ne : pu ≠ pc
def TbAt (H : Hp) (C o : Addr) (n m : Nat) (S : Tb) (t : Nat) : Prop := ∃ dx pr pu pc ras, TbA H C o n m S t dx pr pu pc ras
theorem TbA.same {H H' : Hp} {C o : Addr} {n m : Nat} {S : Tb} {t : Nat} {dx pr pu pc : Addr} {ras : List Addr} (h : TbA H C o n m S t dx pr pu pc ras) (k : ∀ a u, H a = some u → (∀ ps, u ≠ .tbl ps) → H' a = some u) : TbA H' C o n m S t dx pr pu pc ras :=
 ⟨k _ _ h.ob (fun _ z => by cases z), k _ _ h.rs (fun _ z => by cases z), h.rl, fun r a e => k _ _ (h.ra r a e) (fun _ z => by cases z), k _ _ h.ru (fun _ z => by cases z), k _ _ h.cu (fun _ z => by cases z), h.ne⟩
theorem TbA.row {H : Hp} {C o : Addr} {n m : Nat} {S : Tb} {t : Nat} {dx pr pu pc : Addr} {ras : List Addr} (h : TbA H C o n m S t dx pr pu pc ras) {r : Nat} (hr : r < m) : ∃ a, ras[r]? = some a ∧ H a = some (.lst (rowV n (S.M (S.ru r)))) := by
 have hl := h.rl
 exact ⟨ras[r], List.getElem?_eq_getElem (by omega), h.ra r _ (List.getElem?_eq_getElem (by omega))⟩
abbrev sLo : Stmt := xO (top 4) 2
abbrev nLo : List Str := ["self", "row"]
theorem nmLo : Nm nLo (zc sLo) := nmk (by decide +kernel)
theorem scLo : FnScope nLo ["self", "row"] (zc sLo) := fsk (by decide +kernel)
def spLo (C : Addr) : Sp := fun vs H Q _ => ∃ (o : Addr) (r n m : Nat) (S : Tb) (t : Nat), vs = [.ref o, .int (r : Int)] ∧ TbAt H C o n m S t ∧ r < m ∧ Q (.bl (decide (n ≤ S.ru r) && decide (S.M (S.ru r) n < 0))) H
section
variable {P : Program} {w : World} {K : W.Frag} {mg : Str → Option Value} {base : Heap}
theorem ok_Lo {f : Addr} {fd : FuncData} {C : Addr} (R : TC K C) (F : Fun K "is_low" "Tableau.is_low" sLo f fd) : FnOk P w K mg base CX0 1 f fd ["self", "row"] (spLo C) := by
 refine F.ok scLo (fun vs H Q E h => ?_) (fun cdv A outer s H vs Q E hr h => ?_)
 ·obtain ⟨o, r, n, m, S, t, rfl, _⟩ := h
  rfl
 obtain ⟨o, r, n, m, S, t, rfl, ⟨dx, pr, pu, pc, ras, T⟩, hr', k⟩ := h
 refine' ⟨_, ?hb, ?rd⟩
 case' hb => skip
 case' hb => refine' zi ?g1
 case g1 => exact zr (YO (yF YS (ziq (zw (pvd nmLo 0) rfl) (pvd nmLo 1)) (zw (pvd nmLo 0) rfl) (zo _)) (YL (yF xq (ziq (ziq (zw (pvd nmLo 0) rfl) (pvd nmLo 1)) (xo yw zd)) zd (zo _))))
 obtain ⟨a, e1, e2⟩ := T.row hr'
 walk_at "v"
 refine zF ?_
 walk_at "v"
 refine ⟨o, C, _, _, _, rfl, T.ob, R.c, R.n4, rfl, ?_⟩
 walk_at "v"
 refine zv (v := .int ((S.ru r : Nat) : Int)) T.ru (zu (zY hr')) ?_
 walk_at "v"
 refine zF ?_
 walk_at "v"
 refine ⟨o, C, _, _, _, rfl, T.ob, R.c, R.n1, rfl, ?_⟩
 walk_at "v"
 refine iteD (fun h1 => ?_) (fun h1 => ?_)
 ·walk_at "v"
  refine zF ?_
  walk_at "v"
  refine ⟨o, C, _, _, _, rfl, T.ob, R.c, R.n3, rfl, ?_⟩
  walk_at "v"
  refine zv (v := .ref a) T.rs (zu (by rw [List.getElem?_map, e1]; rfl)) ?_
  walk_at "v"
  refine ⟨_, rfl, ?_⟩
  refine zv e2 x4 ?_
  walk_at "v"
  rw [decide_eq_true (show n ≤ S.ru r by omega), Bool.true_and] at k
  exact k
 ·rw [decide_eq_false (show ¬ n ≤ S.ru r by omega), Bool.false_and] at k
  exact k
abbrev sSo : Stmt := xO (top 4) 4
abbrev nSo : List Str := ["self", "column"]
theorem nmSo : Nm nSo (zc sSo) := nmk (by decide +kernel)
theorem scSo : FnScope nSo ["self", "column"] (zc sSo) := fsk (by decide +kernel)
def spSo (C : Addr) : Sp := fun vs H Q _ => ∃ (o : Addr) (c n m : Nat) (S : Tb) (t : Nat), vs = [.ref o, .int (c : Int)] ∧ TbAt H C o n m S t ∧ c < n ∧ Q (.bl (decide (S.cu c < n))) H
theorem ok_So {f : Addr} {fd : FuncData} {C : Addr} (R : TC K C) (F : Fun K "is_sought" "Tableau.is_sought" sSo f fd) : FnOk P w K mg base CX0 1 f fd ["self", "column"] (spSo C) := by
 refine F.ok scSo (fun vs H Q E h => ?_) (fun cdv A outer s H vs Q E hr h => ?_)
 ·obtain ⟨o, c, n, m, S, t, rfl, _⟩ := h
  rfl
 obtain ⟨o, c, n, m, S, t, rfl, ⟨dx, pr, pu, pc, ras, T⟩, hc, k⟩ := h
 refine' ⟨_, ?hb, ?rd⟩
 case' hb => skip
 case' hb => refine' zi ?g1
 case g1 => exact zr (yF xq (ziq (zw (pvd nmSo 0) rfl) (pvd nmSo 1)) (zw (pvd nmSo 0) rfl) (zo _))
 walk_at "v"
 refine zF ?_
 walk_at "v"
 refine ⟨o, C, _, _, _, rfl, T.ob, R.c, R.n5, rfl, ?_⟩
 walk_at "v"
 refine zv (v := .int ((S.cu c : Nat) : Int)) T.cu (zu (zY hc)) ?_
 walk_at "v"
 refine zF ?_
 walk_at "v"
 refine ⟨o, C, _, _, _, rfl, T.ob, R.c, R.n1, rfl, ?_⟩
 walk_at "v"
 rw [show decide (((S.cu c : Nat) : Int) < (n : Int)) = decide (S.cu c < n) by simp]
 exact k
abbrev sTi : Stmt := xO (top 4) 0
abbrev nTi : List Str := ["self", "many", "problem"]
theorem nmTi : Nm nTi (zc sTi) := nmk (by decide +kernel)
theorem scTi : FnScope nTi ["self", "many", "problem"] (zc sTi) := fsk (by decide +kernel)
def qTia (s : Stmt) : Scope := match s with
 | .Assign _ (.ListComp _ _ sc _) _ => sc
 | _ => nsc
abbrev cTia : Scope := qTia ((zj sTi).getD 2 (.Pass ⟨0, 0, 0, 0⟩))
theorem bsTia : BScope (zc sTi) cTia ["by", "plus"] [] ["list"] := { okind := by decide +kernel, kind := by decide +kernel, nocell := by decide +kernel, names := by decide +kernel, fr := by decide +kernel, ff := by decide +kernel, nd := by decide +kernel, vis := by decide +kernel, loc := by decide +kernel, gl := by decide +kernel }
def qTib (s : Stmt) : Scope := match s with
 | .Assign _ (.ListComp _ _ sc _) _ => sc
 | _ => nsc
abbrev cTib : Scope := qTib ((zj sTi).getD 3 (.Pass ⟨0, 0, 0, 0⟩))
theorem bsTib : BScope (zc sTi) cTib ["number"] ["many"] [] := { okind := by decide +kernel, kind := by decide +kernel, nocell := by decide +kernel, names := by decide +kernel, fr := by decide +kernel, ff := by decide +kernel, nd := by decide +kernel, vis := by decide +kernel, loc := by decide +kernel, gl := by decide +kernel }
structure PrA (H : Hp) (n : Nat) (rows : List (List Int × Int)) (l : Addr) (ras bas : List Addr) : Prop where
 ob : H l = some (.lst (ras.map V.ref))
 rl : ras.length = rows.length
 bl : bas.length = rows.length
 at_ : ∀ (i : Nat) (by_ : List Int) (p : Int), rows[i]? = some (by_, p) → ∃ a b, ras[i]? = some a ∧ bas[i]? = some b ∧ H a = some (.tup [.ref b, .int p]) ∧ H b = some (.tup (by_.map V.int))
 wd : ∀ r ∈ rows, r.1.length = n
def PrAt (H : Hp) (n : Nat) (rows : List (List Int × Int)) (l : Addr) : Prop := ∃ ras bas, PrA H n rows l ras bas
theorem PrA.same {H H' : Hp} {n : Nat} {rows : List (List Int × Int)} {l : Addr} {ras bas : List Addr} (h : PrA H n rows l ras bas) (k : ∀ a u, H a = some u → (∀ ps, u ≠ .tbl ps) → H' a = some u) : PrA H' n rows l ras bas :=
 ⟨k _ _ h.ob (fun _ z => by cases z), h.rl, h.bl, fun i b p e => let ⟨a, c, e1, e2, e3, e4⟩ := h.at_ i b p e; ⟨a, c, e1, e2, k _ _ e3 (fun _ z => by cases z), k _ _ e4 (fun _ z => by cases z)⟩, h.wd⟩
theorem ZK {H : Hp} {x C dx : Addr} {fs : List (Str × V)} (h : H x = some (.ins C dx fs)) : ∀ a u, H a = some u → (∀ C dx fs, u ≠ .ins C dx fs) → a ≠ x := fun a u e n z => by rw [z, h] at e; cases e; exact n _ _ _ rfl
theorem PrA.bp {H H' : Hp} {n : Nat} {rows : List (List Int × Int)} {l x : Addr} {ras bas : List Addr} (h : PrA H n rows l ras bas) (hx : ∀ a u, H a = some u → (∀ C dx fs, u ≠ .ins C dx fs) → a ≠ x) (k : SameB x H H') : PrA H' n rows l ras bas :=
 ⟨k _ _ (hx _ _ h.ob fun _ _ _ z => by cases z) h.ob, h.rl, h.bl, fun i b p e => let ⟨a, c, e1, e2, e3, e4⟩ := h.at_ i b p e; ⟨a, c, e1, e2, k _ _ (hx _ _ e3 fun _ _ _ z => by cases z) e3, k _ _ (hx _ _ e4 fun _ _ _ z => by cases z) e4⟩, h.wd⟩
def vec (n : Nat) (rows : List (List Int × Int)) (u j : Nat) : Int := if u < n then (if j = u then 1 else 0) else match rows[u - n]? with
 | some (b, p) => if j < n then b.getD j 0 else if j = n then p else 0
 | none => 0
def tb0 (n : Nat) (rows : List (List Int × Int)) : Tb := ⟨1, vec n rows, fun r => n + r, fun c => c⟩
def spTi (C : Addr) : Sp := fun vs H Q _ => ∃ (x dx l : Addr) (n : Nat) (rows : List (List Int × Int)), vs = [.ref x, .int (n : Int), .ref l] ∧ H x = some (.ins C dx []) ∧ PrAt H n rows l ∧ n ≤ 40 ∧ rows.length ≤ 60 ∧ ∀ H' dx pr pu pc ras, (∀ a u, a ≠ x → H a = some u → H' a = some u) → TbA H' C x n rows.length (tb0 n rows) 0 dx pr pu pc ras → H pu = none → H pc = none → Q .non H'
theorem ok_Ti {f : Addr} {fd : FuncData} {C : Addr} (R : TC K C) (B : Bl mg) (F : Fun K "__init__" "Tableau.__init__" sTi f fd) : FnOk P w K mg base CX0 1 f fd ["self", "many", "problem"] (spTi C) := by
 refine F.ok scTi (fun vs H Q E h => ?_) (fun cdv A outer s H vs Q E hr h => ?_)
 ·obtain ⟨x, dx, l, n, rows, rfl, _⟩ := h
  rfl
 obtain ⟨x, dx, l, n, rows, rfl, hx, ⟨ras, bas, P0⟩, hn, hm, k⟩ := h
 refine' ⟨_, ?hb, ?rd⟩
 case' hb => skip
 case' hb => refine' ze ?g1 ?g2
 case' g2 => refine' ze ?g3 ?g4
 case' g4 => refine' ze ?g5 ?g6
 case' g6 => refine' ze ?g7 ?g8
 case' g8 => refine' ze ?g9 ?g10
 case' g10 => refine' zi ?g11
 case g1 => exact xl (pvd nmTi 0) (pvd nmTi 1) rfl
 case g3 => exact xl (pvd nmTi 0) zd rfl
 case' g5 => refine' xl (pvd nmTi 0) ?g12 rfl
 case' g12 => refine' zI (ix := []) bsTia.toCScope rfl rfl ?g13 ?g14 ?g15 ?g16
 case g13 => exact zP (pvd nmTi 2)
 case g14 =>
  intro _ _ _ _ _ _
  refine' zX (n := 2) rfl ?g17
  case' g17 => refine' zn ?g21 ?g20
  case g21 => exact pgb bsTia 0
  case' g20 => refine' zn ?g23 zO
  case g23 => exact pgb bsTia 1
 case g15 => exact fun _ _ _ _ _ _ => zy
 case g16 => exact fun _ _ _ _ _ _ => zk vT (yy EL.call_listS B.list PyProof.Rows.boot_list (pa_1 (pvb bsTia 0)) (bsTia.g 0)) (yp (pa_1 (pvb bsTia 1)))
 case' g7 => refine' xl (pvd nmTi 0) ?g24 rfl
 case' g24 => refine' zI (ix := [1]) bsTib.toCScope rfl rfl ?g25 ?g26 ?g27 ?g28
 case g25 => exact yx B.range (pa_1 (zM zt B.len PySem.boot_len (pa_1 (pvd nmTi 2))))
 case g26 => exact fun _ _ _ _ _ _ => pgb bsTib 0
 case g27 => exact fun _ _ _ _ _ _ => zy
 case g28 => exact fun _ _ _ _ _ _ => zk zS (pvb bsTib 1) (pvb bsTib 0)
 case g9 => exact xl (pvd nmTi 0) (yy (call_listRng rfl) B.list PyProof.Rows.boot_list (pa_1 (yy call_rangeV B.range PyProof.Rows.boot_range (pa_1 (pvd nmTi 1))))) rfl
 case g11 => exact xl (pvd nmTi 0) zd rfl
 walk_at "v"
 refine yZ ?_
 walk_at "v"
 refine ⟨x, C, dx, _, rfl, hx, R.c, R.n1, by show 0 < 1000; decide, ?_⟩
 walk_at "v"
 refine yZ ?_
 walk_at "v"
 refine ⟨x, C, dx, _, rfl, zf, R.c, R.n2, by show 1 < 1000; decide, ?_⟩
 walk_at "v"
 rw [vL]
 have b1 : SameB x H (upd H x (.ins C dx (putF "bottom" (.int 1) (putF "many" (.int (n : Int)) [])))) := SameB.at_ SameB.refl
 have e1 : upd H x (.ins C dx (putF "bottom" (.int 1) (putF "many" (.int (n : Int)) []))) x = some (.ins C dx (putF "bottom" (.int 1) (putF "many" (.int (n : Int)) []))) := zf
 generalize upd H x (.ins C dx (putF "bottom" (.int 1) (putF "many" (.int (n : Int)) []))) = H1 at b1 e1 ⊢
 have P1 := P0.bp (ZK hx) b1
 refine yZ ?_
 walk_at "v"
 refine ⟨l, rfl, ⟨_, SqL.of P1.ob⟩, fun D1 hD1 => ?_⟩
 refine nl_prs (fun i => rowV n (vec n rows (n + i))) hD1 P1.ob (by have := P1.rl; omega) (fun i r H' hri K' => ?_) (fun as2 H2 N2 e2 => ?_)
 ·obtain ⟨by_, p, hrow⟩ : ∃ b p, rows[i]? = some (b, p) := by
   have h1 := (List.getElem?_eq_some_iff.mp hri).1
   have h2 := P1.rl
   exact ⟨rows[i].1, rows[i].2, List.getElem?_eq_getElem (by omega)⟩
  obtain ⟨a, b, f1, f2, f3, f4⟩ := P1.at_ i by_ p hrow
  rw [f1] at hri
  cases hri
  refine ⟨.ref b, .int p, K' _ _ f3, fun R' kR => ?_⟩
  walk_at "v"
  refine ⟨b, _, rfl, .inl (K' _ _ f4), fun l1 hl1 => ?_⟩
  walk_at "v"
  refine ⟨sz1, fun l2 hl2 => ?_⟩
  have n12 : l1 ≠ l2 := fun z => by rw [← z, zf] at hl2; cases hl2
  have hbl : by_.length = n := P1.wd _ (List.mem_of_getElem? hrow)
  refine ⟨l1, l2, _, _, rfl, rfl, by rw [zh n12, zf], zf, by rw [List.length_map]; show _ + 1 ≤ sizeLine; exact Nat.le_trans (show by_.length + 1 ≤ 1000 by omega) (by decide), fun l3 hl3 => ?_⟩
  have q2 : Same H' (upd (upd H' l1 (.lst (by_.map V.int))) l2 (.lst [.int p])) := (Same.new (Same.refl _) hl1).new hl2
  refine kR l3 _ (q2.new hl3) (Same.free q2 hl3) ?_
  rw [zf]
  congr 2
  refine wG (by simp [hbl]) fun k hk => ?_
  have hv : ∀ j, vec n rows (n + i) j = if j < n then by_.getD j 0 else if j = n then p else 0 := fun j => by
   unfold vec
   rw [if_neg (by omega), show n + i - n = i by omega, hrow]
  rw [hv]
  by_cases hk2 : k < n
  ·rw [if_pos hk2, List.getElem?_append_left (by simp [hbl, hk2]), List.getElem?_map, List.getElem?_eq_getElem (by omega), List.getD_eq_getElem?_getD, List.getElem?_eq_getElem (by omega)]
   rfl
  ·rw [if_neg hk2, if_pos (by omega), List.getElem?_append_right (by simp [hbl]; omega), show k - (by_.map V.int).length = 0 by simp [hbl]; omega]
   rfl
 ·have nD1 : D1 ≠ x := fun z => by rw [z, e1] at hD1; cases hD1
  walk_at "v"
  refine ⟨x, C, dx, _, rfl, N2.sm _ _ e1, R.c, R.n3, by show 2 < 1000; decide, ?_⟩
  have b3 : SameB x H (upd H2 x (.ins C dx (putF "rows" (.ref D1) (putF "bottom" (.int 1) (putF "many" (.int (n : Int)) []))))) := SameB.at_ (SameB.same b1 N2.sm)
  have g3 : ∀ a u, a ≠ x → H2 a = some u → upd H2 x (.ins C dx (putF "rows" (.ref D1) (putF "bottom" (.int 1) (putF "many" (.int (n : Int)) [])))) a = some u := fun a u n e => by rw [zh n]; exact e
  have e3 : upd H2 x (.ins C dx (putF "rows" (.ref D1) (putF "bottom" (.int 1) (putF "many" (.int (n : Int)) [])))) x = some (.ins C dx (putF "rows" (.ref D1) (putF "bottom" (.int 1) (putF "many" (.int (n : Int)) [])))) := zf
  generalize upd H2 x (.ins C dx (putF "rows" (.ref D1) (putF "bottom" (.int 1) (putF "many" (.int (n : Int)) [])))) = H3 at b3 g3 e3 ⊢
  have P3 := P0.bp (ZK hx) b3
  walk_at "v"
  refine yZ ?_
  walk_at "v"
  refine ⟨l, _, rfl, .inl (SqL.of P3.ob), ?_⟩
  walk_at "v"
  refine ⟨_, rfl, by rw [List.length_map]; have := P3.rl; omega, by rw [List.length_map]; have := P3.rl; omega, fun D2 hD2 => ?_⟩
  rw [List.length_map, P3.rl, Int.toNat_natCast]
  refine v6 (fun i => V.int ((n + i : Nat) : Int)) (by omega) hD2 (fun i hi H' K' R' kR => ?_) (fun H4 K4 e4 => ?_)
  ·walk_at "v"
   have := kR H' (Same.refl _)
   rw [show ((n + i : Nat) : Int) = (n : Int) + (0 + (i : Int)) by omega] at this
   exact this
  have nD2 : D2 ≠ x := fun z => by rw [z, e3] at hD2; cases hD2
  walk_at "v"
  refine ⟨x, C, dx, _, rfl, K4 _ _ e3, R.c, R.n4, by show 3 < 1000; decide, ?_⟩
  have b5 : SameB x H (upd H4 x (.ins C dx (putF "row_unknowns" (.ref D2) (putF "rows" (.ref D1) (putF "bottom" (.int 1) (putF "many" (.int (n : Int)) [])))))) := SameB.at_ (SameB.same b3 K4)
  have g5 : ∀ a u, a ≠ x → H4 a = some u → upd H4 x (.ins C dx (putF "row_unknowns" (.ref D2) (putF "rows" (.ref D1) (putF "bottom" (.int 1) (putF "many" (.int (n : Int)) []))))) a = some u := fun a u n e => by rw [zh n]; exact e
  have e5 : upd H4 x (.ins C dx (putF "row_unknowns" (.ref D2) (putF "rows" (.ref D1) (putF "bottom" (.int 1) (putF "many" (.int (n : Int)) []))))) x = some (.ins C dx (putF "row_unknowns" (.ref D2) (putF "rows" (.ref D1) (putF "bottom" (.int 1) (putF "many" (.int (n : Int)) []))))) := zf
  generalize upd H4 x (.ins C dx (putF "row_unknowns" (.ref D2) (putF "rows" (.ref D1) (putF "bottom" (.int 1) (putF "many" (.int (n : Int)) []))))) = H5 at b5 g5 e5 ⊢
  walk_at "v"
  refine yZ ?_
  walk_at "v"
  refine ⟨_, rfl, fun rg hrg => ?_⟩
  walk_at "v"
  refine ⟨rg, n, rfl, zf, by omega, fun D3 hD3 => ?_⟩
  have K6 : Same H5 (upd (upd H5 rg (.rng 0 (n : Int))) D3 (.lst ((List.range n).map fun (i : Nat) => V.int (i : Int)))) := (Same.new (Same.refl _) hrg).new hD3
  have e6 : upd (upd H5 rg (.rng 0 (n : Int))) D3 (.lst ((List.range n).map fun (i : Nat) => V.int (i : Int))) D3 = some (.lst ((List.range n).map fun (i : Nat) => V.int (i : Int))) := zf
  have hD3' : H5 D3 = none := Same.free (Same.new (Same.refl _) hrg) hD3
  generalize upd (upd H5 rg (.rng 0 (n : Int))) D3 (.lst ((List.range n).map fun (i : Nat) => V.int (i : Int))) = H6 at K6 e6 ⊢
  have nD3 : D3 ≠ x := fun z => by rw [z, e5] at hD3'; cases hD3'
  walk_at "v"
  refine ⟨x, C, dx, _, rfl, K6 _ _ e5, R.c, R.n5, by show 4 < 1000; decide, ?_⟩
  dsimp only
  refine yZ ?_
  walk_at "v"
  refine ⟨x, C, dx, _, rfl, zf, R.c, R.n6, by show 5 < 1000; decide, ?_⟩
  rw [vL]
  have f6 : ∀ a u, a ≠ x → H6 a = some u → ∀ o : HO, upd H6 x o a = some u := fun a u n e o => by rw [zh n]; exact e
  refine k _ dx D1 D2 D3 as2 (fun a u na e => f6 a u na (K6 _ _ (b5 a u na e)) _) ⟨zf, ?_, by rw [N2.len, P1.rl], fun r a ha => ?_, ?_, ?_, ?_⟩ (SameB.free b3 nD2 hD2) (SameB.free b5 nD3 hD3')
  ·exact f6 _ _ nD1 (K6 _ _ (g5 _ _ nD1 (K4 _ _ (g3 _ _ nD1 e2)))) _
  ·have na : a ≠ x := fun z => by
    have := N2.nw a (List.mem_of_getElem? ha)
    rw [z, e1] at this; cases this
   exact f6 _ _ na (K6 _ _ (g5 _ _ na (K4 _ _ (g3 _ _ na (N2.at_ r a ha))))) _
  ·exact f6 _ _ nD2 (K6 _ _ (g5 _ _ nD2 e4)) _
  ·exact f6 _ _ nD3 e6 _
  ·intro z
   have h4 := g5 D2 _ nD2 e4
   rw [z, hD3'] at h4
   cases h4
end
end K11
namespace K11
open PySem L2 G2 WG
section
variable {D : Addr} {tc : TT} {Q : VK} {ρ : St} {H : Hp}
theorem ZM {n : Nat} (p : Nat → Bool) (hn : n ≤ 1000) (hD : H D = none)
  (h : ∀ i, i < n → ∀ H', Same H H' → ∀ R : Bool → Hp → Prop, (∀ H'', Same H' H'' → R (p i) H'') → tc (some (.int (0 + (i : Int))) :: ρ) H' R)
  (q : ∀ H', Same H H' → H' D = some (.lst ((((List.range n).filter p).map fun (i : Nat) => (i : Int)).map V.int)) → Q (.ref D) H') : CGo (Itr 0 n) D (zB 0) tc (tVar 0) Q (none :: ρ) H := by
 refine wc (fun i ys H' => ys = (((List.range i).filter p).map fun (i : Nat) => (i : Int)).map V.int ∧ Same H H') ⟨rfl, Same.new (Same.refl _) hD⟩ ?_ ?_
 ·rintro i ys H' hi ⟨rfl, K'⟩ hDz R S kR kS
  refine h i hi H' K' _ fun H'' K'' => ?_
  have hl : ((((List.range i).filter p).map fun (i : Nat) => (i : Int)).map V.int).length ≤ i := by
   rw [List.length_map, List.length_map]
   exact Nat.le_trans (List.length_filter_le _ _) (by simp)
  by_cases hp : p i = true
  ·rw [if_pos hp]
   refine ⟨_, rfl, kR _ _ (K'' _ _ hDz) (zA (by omega)) ⟨?_, ((K'.trans K'').put hD)⟩⟩
   rw [List.range_succ, List.filter_append, List.map_append, List.map_append, List.filter_cons_of_pos hp]
   simp
  ·rw [if_neg hp]
   refine kS _ (K'' _ _ hDz) ⟨?_, K'.trans K''⟩
   rw [List.range_succ, List.filter_append, List.map_append, List.map_append, List.filter_cons_of_neg hp]
   simp
 ·rintro ys H' ⟨rfl, K'⟩ hD'
  exact q H' K' hD'
end
theorem ZD {X : Cx} {P : Addr} {ix : List Nat} {ta te : TE} {σ : St} {H : Hp} {Q : VK} (h : ta σ H fun x H1 => ∃ (l : Addr) (ns : List Int) (kf : Int → Int), x = .ref l ∧ H1 l = some (.lst (ns.map V.int)) ∧ TabAt H1 P (lamQ X) ∧
 (∀ H', SameB P H1 H' → ∀ i ∈ ns, te (some (.int i) :: sub ix σ) H' (fun y H'' => H'' = H' ∧ y = .int (kf i))) ∧
 ∀ H' ob, SameB P H1 H' → TabAt H' P (lamQ X) → (ob = none → ns = []) → (∀ b, ob = some b → b ∈ ns ∧ ∀ i ∈ ns, kf b ≤ kf i) → Q (ob.elim V.non V.int) H') : Xj X P ix ta te σ H Q := h
theorem w_maxK {X : Cx} {P : Addr} {ix : List Nat} {ta te : TE} {σ : St} {H : Hp} {Q : VK} (h : ta σ H fun x H1 => ∃ (l : Addr) (ns : List Int) (kf : Int → Int), x = .ref l ∧ H1 l = some (.lst (ns.map V.int)) ∧ TabAt H1 P (lamQ X) ∧
 (∀ H', SameB P H1 H' → ∀ i ∈ ns, te (some (.int i) :: sub ix σ) H' (fun y H'' => H'' = H' ∧ y = .int (kf i))) ∧
 ∀ H' ob, SameB P H1 H' → TabAt H' P (lamQ X) → (ob = none → ns = []) → (∀ b, ob = some b → b ∈ ns ∧ ∀ i ∈ ns, kf i ≤ kf b) → Q (ob.elim V.non V.int) H') : Xk X P ix ta te σ H Q := h
abbrev qLr : Str := ("Tableau.low_row" : Str) ++ ".<locals>." ++ "<lambda>"
abbrev qCf : Str := ("Tableau.column_for" : Str) ++ ".<locals>." ++ "<lambda>"
theorem TbA.tab {H H' : Hp} {C o pt : Addr} {n m : Nat} {S : Tb} {t : Nat} {dx pr pu pc : Addr} {ras : List Addr} {q : Str} (h : TbA H C o n m S t dx pr pu pc ras) (hT : TabAt H pt q) (k : SameB pt H H') : TbA H' C o n m S t dx pr pu pc ras :=
 h.same fun a u e n => k a u (fun z => by obtain ⟨tb, e', _⟩ := hT; rw [z, e'] at e; cases e; exact n _ rfl) e
abbrev sLr : Stmt := xO (top 4) 1
abbrev nLr : List Str := ["self", "low"]
theorem nmLr : Nm nLr (zc sLr) := nmk (by decide +kernel)
theorem scLr : FnScope nLr ["self"] (zc sLr) := fsk (by decide +kernel)
def qLra (s : Stmt) : Scope := match s with
 | .Assign _ (.ListComp _ _ sc _) _ => sc
 | _ => nsc
abbrev cLra : Scope := qLra ((zj sLr).getD 0 (.Pass ⟨0, 0, 0, 0⟩))
theorem bsLra : BScope (zc sLr) cLra ["row"] ["self"] [] := { okind := by decide +kernel, kind := by decide +kernel, nocell := by decide +kernel, names := by decide +kernel, fr := by decide +kernel, ff := by decide +kernel, nd := by decide +kernel, vis := by decide +kernel, loc := by decide +kernel, gl := by decide +kernel }
theorem loLr_1 : (zc sLr).names.lookup ("low" : Str) = some .local := by decide +kernel
def qLrp (s : Stmt) : Scope := match s with
 | .If _ [.Return (some (.Call _ _ [⟨_, (.Lambda _ _ sc _), _⟩, _] _)) _] _ _ => sc
 | _ => nsc
abbrev cLrp : Scope := qLrp ((zj sLr).getD 1 (.Pass ⟨0, 0, 0, 0⟩))
theorem YV : LScope (zc sLr) cLrp "row" ["self"] := ⟨rfl, rfl, rfl, by decide +kernel, by decide +kernel, by decide +kernel, by decide +kernel, by decide +kernel⟩
def qLrq (s : Stmt) : Scope := match s with
 | .Return (some (.Call _ _ [⟨_, (.Lambda _ _ sc _), _⟩, _] _)) _ => sc
 | _ => nsc
abbrev cLrq : Scope := qLrq ((zj sLr).getD 2 (.Pass ⟨0, 0, 0, 0⟩))
theorem YU : LScope (zc sLr) cLrq "row" ["self"] := ⟨rfl, rfl, rfl, by decide +kernel, by decide +kernel, by decide +kernel, by decide +kernel, by decide +kernel⟩
def spLr (C pt : Addr) : Sp := fun vs H Q _ => ∃ (o : Addr) (n m : Nat) (S : Tb) (t : Nat), vs = [.ref o] ∧ TbAt H C o n m S t ∧ m ≤ 60 ∧ TabAt H pt qLr ∧ ∀ H' (ob : Option Nat), SameB pt H H' → TabAt H' pt qLr → (ob = none → ∀ r, ¬ low n m S r) → (∀ r, ob = some r → low n m S r ∧ (200 ≤ t → ∀ q, low n m S q → S.ru r ≤ S.ru q)) → Q (ob.elim .non fun r => .int (r : Int)) H'
def lowB (n : Nat) (S : Tb) (r : Nat) : Bool := decide (n ≤ S.ru r) && decide (S.M (S.ru r) n < 0)
theorem lowB_iff {n m : Nat} {S : Tb} {r : Nat} : r ∈ (List.range m).filter (lowB n S) ↔ low n m S r := by
 rw [List.mem_filter, List.mem_range]
 unfold lowB low
 simp
theorem ZJ {xs : List Nat} {ob : Option Int} (h : ∀ b, ob = some b → b ∈ xs.map fun (i : Nat) => (i : Int)) : ∃ on : Option Nat, ob = on.map (fun (i : Nat) => (i : Int)) ∧ ∀ r, on = some r → r ∈ xs := by
 cases ob with
 | none => exact ⟨none, rfl, fun r z => nomatch z⟩
 | some b =>
  obtain ⟨r, hr, rfl⟩ := List.mem_map.mp (h b rfl)
  exact ⟨some r, rfl, fun r' z => by cases z; exact hr⟩
section
variable {P : Program} {w : World} {K : W.Frag} {mg : Str → Option Value} {base : Heap}
theorem ok_Lr {f : Addr} {fd : FuncData} {C : Addr} (R : TC K C) (B : Bl mg) {c pt : Addr} (hC : PySem.W.CodeHd base c pt) (hB : BmIn mg base) (qk : Kn mg "QUICK_TURNS" 200) (hL : HasM P w K mg base 1 C "is_low" ["self", "row"] (spLo C)) (F : FunC K "low_row" "Tableau.low_row" sLr f fd c) : FnOk P w K mg base CX0 3 f fd ["self"] (spLr C pt) := by
 refine F.ok scLr (fun vs H Q E h => ?_) (fun A outer s H vs Q E hr h => ?_)
 ·obtain ⟨o, n, m, S, t, rfl, _⟩ := h
  rfl
 obtain ⟨o, n, m, S, t, rfl, ⟨dx, pr, pu, pc, ras, T⟩, hm, hT, k⟩ := h
 have LK : LamOk (cxOf CX0 P w K mg base nLr "Tableau.low_row" (zc sLr) f (.ref c) A outer s H E).nox c pt := ⟨rfl, hC, hB⟩
 refine' ⟨_, ?hb, ?rd⟩
 case' hb => skip
 case' hb => refine' ze ?g1 ?g2
 case' g2 => refine' ze ?g3 ?g4
 case' g4 => refine' zi ?g5
 case' g1 => refine' yk (i := 1) (ix := [0]) nmLr.nd rfl loLr_1 bsLra.toCScope rfl rfl ?g6 ?g7 ?g8 ?g9
 case g6 => exact yx B.range (pa_1 (zM zt B.len PySem.boot_len (pa_1 (zw (pvd nmLr 0) rfl))))
 case g7 => exact fun _ _ _ _ _ _ => pgb bsLra 0
 case g8 => exact fun _ _ _ _ _ _ => xI (yQ (pe_m hL hr (by omega) (pvb bsLra 1) (pa_1 (pvb bsLra 0))))
 case g9 => exact fun _ _ _ _ _ _ => pvb bsLra 0
 case' g3 => refine' zQ ?g10 ?g11 zE
 case g10 => exact zm xq (zw (pvd nmLr 0) rfl) (pe_k qk) (zo _)
 case' g11 => refine' zi ?g13
 case' g13 => refine' zr ?g14
 case g14 =>
  refine' vS (ix := [0]) (F := ["self"]) (v := "row") hr LK YV rfl ?m1p ?m2p ?m3p B.min
  case m1p => exact fun _ _ _ _ => rfl
  case m2p => exact fun _ _ _ _ _ _ _ _ => ziq (ziq (wM rfl (pvl YV 1)) (pvl YV 0)) (xo yw zd)
  case m3p => exact pvd nmLr 1
 case' g5 => refine' zr ?g15
 case g15 =>
  refine' vS (ix := [0]) (F := ["self"]) (v := "row") hr LK YU rfl ?m1q ?m2q ?m3q B.min
  case m1q => exact fun _ _ _ _ => rfl
  case m2q => exact fun _ _ _ _ _ _ _ _ => ziq (wM rfl (pvl YU 1)) (pvl YU 0)
  case m3q => exact pvd nmLr 1
 walk_at "v"
 refine zF ?_
 walk_at "v"
 refine ⟨o, C, _, _, _, rfl, T.ob, R.c, R.n3, rfl, ?_⟩
 walk_at "v"
 refine ⟨pr, _, rfl, .inl (SqL.of T.rs), ?_⟩
 rw [List.length_map, T.rl]
 refine ⟨_, rfl, by omega, by omega, fun D1 hD1 => ?_⟩
 rw [Int.toNat_natCast]
 refine ZM (lowB n S) (by omega) hD1 (fun i hi H' K' R' kR => ?_) (fun H1 K1 e1 => ?_)
 ·walk_at "v"
  refine yH ?_
  walk_at "v"
  refine ⟨o, dx, _, rfl, K' _ _ T.ob, rfl, ?_⟩
  walk_at "v"
  refine ⟨o, i, n, m, S, t, by rw [Int.zero_add]; rfl, ⟨dx, pr, pu, pc, ras, T.same fun a u e _ => K' a u e⟩, hi, ?_⟩
  walk_at "v"
  exact kR _ (Same.refl _)
 have T1 := T.same fun a u e _ => K1 a u e
 have hT1 := hT.same K1
 walk_at "v"
 refine zF ?_
 walk_at "v"
 refine ⟨o, C, _, _, _, rfl, T1.ob, R.c, R.n6, rfl, ?_⟩
 walk_at "v"
 have hmem : ∀ i ∈ ((List.range m).filter (lowB n S)).map (fun (i : Nat) => (i : Int)), ∃ r : Nat, i = (r : Int) ∧ low n m S r := fun i hi => by
  obtain ⟨r, hr1, rfl⟩ := List.mem_map.mp hi
  exact ⟨r, rfl, lowB_iff.mp hr1⟩
 have fin : ∀ (kf : Int → Int), (200 ≤ t → ∀ r : Nat, kf (r : Int) = ((S.ru r : Nat) : Int)) → ∀ H' ob, SameB pt H1 H' → TabAt H' pt qLr → (ob = none → ((List.range m).filter (lowB n S)).map (fun (i : Nat) => (i : Int)) = []) →
   (∀ b, ob = some b → b ∈ ((List.range m).filter (lowB n S)).map (fun (i : Nat) => (i : Int)) ∧ ∀ i ∈ ((List.range m).filter (lowB n S)).map (fun (i : Nat) => (i : Int)), kf b ≤ kf i) → Q (ob.elim V.non V.int) H' := fun kf hkf H' ob k1 hT' h0 h1 => by
  obtain ⟨on, rfl, hon⟩ := ZJ fun b e => (h1 b e).1
  have hq := k H' on (fun a u na e => k1 a u na (K1 _ _ e)) hT' (fun z r hr1 => ?_) (fun r z => ⟨lowB_iff.mp (hon r z), fun ht q hq => ?_⟩)
  ·cases on with
   | none => exact hq
   | some r => exact hq
  ·have e := h0 (by rw [z]; rfl)
   have := List.mem_map_of_mem (f := fun (i : Nat) => (i : Int)) (lowB_iff.mpr hr1)
   rw [e] at this
   cases this
  ·have := (h1 (r : Int) (by rw [z]; rfl)).2 (q : Int) (List.mem_map_of_mem (f := fun (i : Nat) => (i : Int)) (lowB_iff.mpr hq))
   rw [hkf ht, hkf ht] at this
   omega
 refine iteD (fun ht => ?_) (fun ht => ?_)
 ·walk_at "v"
  refine ZD ?_
  walk_at "v"
  refine ⟨D1, _, fun i => S.M (S.ru i.toNat) n, rfl, e1, hT1, fun H' k1 i hi => ?_, fin _ fun z => absurd z (by omega)⟩
  obtain ⟨r, rfl, hr1⟩ := hmem i hi
  have T2 := T1.tab hT1 k1
  obtain ⟨a, g1, g2⟩ := T2.row hr1.1
  walk_at "v"
  refine zF ?_
  walk_at "v"
  refine ⟨o, C, _, _, _, rfl, T2.ob, R.c, R.n3, rfl, ?_⟩
  walk_at "v"
  refine zv (v := .ref a) T2.rs (zu (by rw [List.getElem?_map, g1]; rfl)) ?_
  walk_at "v"
  refine ⟨_, rfl, ?_⟩
  refine zv g2 x4 ?_
  exact ⟨rfl, by simp⟩
 ·walk_at "v"
  refine ZD ?_
  walk_at "v"
  refine ⟨D1, _, fun i => ((S.ru i.toNat : Nat) : Int), rfl, e1, hT1, fun H' k1 i hi => ?_, fin _ fun _ r => by simp⟩
  obtain ⟨r, rfl, hr1⟩ := hmem i hi
  have T2 := T1.tab hT1 k1
  walk_at "v"
  refine zF ?_
  walk_at "v"
  refine ⟨o, C, _, _, _, rfl, T2.ob, R.c, R.n4, rfl, ?_⟩
  walk_at "v"
  refine zv (v := .int ((S.ru r : Nat) : Int)) T2.ru (zu (zY hr1.1)) ?_
  exact ⟨rfl, by simp⟩
abbrev sCf : Stmt := xO (top 4) 3
abbrev nCf : List Str := ["self", "row", "numbers", "raising"]
theorem nmCf : Nm nCf (zc sCf) := nmk (by decide +kernel)
theorem scCf : FnScope nCf ["self", "row"] (zc sCf) := fsk (by decide +kernel)
def qCfa (s : Stmt) : Scope := match s with
 | .Assign _ (.ListComp _ _ sc _) _ => sc
 | _ => nsc
abbrev cCfa : Scope := qCfa ((zj sCf).getD 1 (.Pass ⟨0, 0, 0, 0⟩))
theorem bsCfa : BScope (zc sCf) cCfa ["column"] ["numbers", "self"] [] := { okind := by decide +kernel, kind := by decide +kernel, nocell := by decide +kernel, names := by decide +kernel, fr := by decide +kernel, ff := by decide +kernel, nd := by decide +kernel, vis := by decide +kernel, loc := by decide +kernel, gl := by decide +kernel }
def qCfb (s : Stmt) : Scope := match s with
 | .If _ [(.Assign _ (.ListComp _ _ sc _) _)] _ _ => sc
 | _ => nsc
abbrev cCfb : Scope := qCfb ((zj sCf).getD 2 (.Pass ⟨0, 0, 0, 0⟩))
theorem bsCfb : BScope (zc sCf) cCfb ["column"] ["numbers", "self"] [] := { okind := by decide +kernel, kind := by decide +kernel, nocell := by decide +kernel, names := by decide +kernel, fr := by decide +kernel, ff := by decide +kernel, nd := by decide +kernel, vis := by decide +kernel, loc := by decide +kernel, gl := by decide +kernel }
theorem YZ : (zc sCf).names.lookup ("raising" : Str) = some .local := by decide +kernel
def qCfp (s : Stmt) : Scope := match s with
 | .If _ [.Return (some (.Call _ _ [⟨_, (.Lambda _ _ sc _), _⟩, _] _)) _] _ _ => sc
 | _ => nsc
abbrev cCfp : Scope := qCfp ((zj sCf).getD 3 (.Pass ⟨0, 0, 0, 0⟩))
theorem YX : LScope (zc sCf) cCfp "column" ["numbers"] := ⟨rfl, rfl, rfl, by decide +kernel, by decide +kernel, by decide +kernel, by decide +kernel, by decide +kernel⟩
def qCfq (s : Stmt) : Scope := match s with
 | .Return (some (.Call _ _ [⟨_, (.Lambda _ _ sc _), _⟩, _] _)) _ => sc
 | _ => nsc
abbrev cCfq : Scope := qCfq ((zj sCf).getD 4 (.Pass ⟨0, 0, 0, 0⟩))
theorem YW : LScope (zc sCf) cCfq "column" ["self"] := ⟨rfl, rfl, rfl, by decide +kernel, by decide +kernel, by decide +kernel, by decide +kernel, by decide +kernel⟩
theorem glCfp {X : Cx} {N : List Str} {cl : List (Str × Addr)} {L f : Addr} {cd : Value} {A : Around} {s3 : Shared} {H3 : Hp} {xe : Value → Shared → Prop} : Gl (cxL X N cCfp cl L f cd A s3 H3 xe) "abs" := show cCfp.names.lookup ("abs" : Str) = some NameKind.globalImplicit by decide +kernel
def solB (n : Nat) (S : Tb) (r c : Nat) : Bool := decide (S.cu c < n) && decide (S.M (S.ru r) c ≠ 0)
def gthB (n : Nat) (S : Tb) (r c : Nat) : Bool := !decide (S.cu c < n) && decide (0 < S.M (S.ru r) c)
def may (n : Nat) (S : Tb) (r c : Nat) : Prop := c < n ∧ ((S.cu c < n ∧ S.M (S.ru r) c ≠ 0) ∨ (n ≤ S.cu c ∧ 0 < S.M (S.ru r) c ∧ ∀ d < n, S.cu d < n → S.M (S.ru r) d = 0))
structure Cand (n : Nat) (S : Tb) (r : Nat) (cs : List Nat) : Prop where
 my : ∀ c ∈ cs, may n S r c
 al : ∀ c ∈ cs, S.cu c < n ∨ ∀ d < n, n ≤ S.cu d → 0 < S.M (S.ru r) d → d ∈ cs
 no : cs = [] → ∀ c < n, (S.cu c < n → S.M (S.ru r) c = 0) ∧ (n ≤ S.cu c → S.M (S.ru r) c ≤ 0)
theorem cand_sol {n r : Nat} {S : Tb} (h : ((List.range n).filter (solB n S r)) ≠ []) : Cand n S r ((List.range n).filter (solB n S r)) := by
 have hm : ∀ c, c ∈ (List.range n).filter (solB n S r) → c < n ∧ S.cu c < n ∧ S.M (S.ru r) c ≠ 0 := fun c hc => by
  rw [List.mem_filter, List.mem_range] at hc
  unfold solB at hc
  simpa using hc
 exact ⟨fun c hc => ⟨(hm c hc).1, .inl (hm c hc).2⟩, fun c hc => .inl (hm c hc).2.1, fun z => absurd z h⟩
theorem cand_gth {n r : Nat} {S : Tb} (h : ((List.range n).filter (solB n S r)) = []) : Cand n S r ((List.range n).filter (gthB n S r)) := by
 have h0 : ∀ d < n, S.cu d < n → S.M (S.ru r) d = 0 := fun d hd hc => by
  apply Classical.byContradiction
  intro z
  have : d ∈ (List.range n).filter (solB n S r) := by
   rw [List.mem_filter, List.mem_range]
   unfold solB
   simp [hd, hc, z]
  rw [h] at this
  cases this
 have hm : ∀ c, c ∈ (List.range n).filter (gthB n S r) ↔ c < n ∧ n ≤ S.cu c ∧ 0 < S.M (S.ru r) c := fun c => by
  rw [List.mem_filter, List.mem_range]
  unfold gthB
  simp
 refine ⟨fun c hc => ⟨((hm c).mp hc).1, .inr ⟨((hm c).mp hc).2.1, ((hm c).mp hc).2.2, h0⟩⟩, fun c hc => .inr fun d hd h1 h2 => (hm d).mpr ⟨hd, h1, h2⟩, fun z c hc => ⟨h0 c hc, fun h1 => ?_⟩⟩
 apply Classical.byContradiction
 intro h2
 have := (hm c).mpr ⟨hc, h1, by omega⟩
 rw [z] at this
 cases this
def spCf (C pt : Addr) : Sp := fun vs H Q _ => ∃ (o : Addr) (n m r : Nat) (S : Tb) (t : Nat), vs = [.ref o, .int (r : Int)] ∧ TbAt H C o n m S t ∧ r < m ∧ n ≤ 40 ∧ TabAt H pt qCf ∧ ∀ H' (ob : Option Nat), SameB pt H H' → TabAt H' pt qCf → (ob = none → ∀ c < n, (S.cu c < n → S.M (S.ru r) c = 0) ∧ (n ≤ S.cu c → S.M (S.ru r) c ≤ 0)) → (∀ c, ob = some c → may n S r c ∧ (200 ≤ t → S.cu c < n ∨ ∀ d < n, n ≤ S.cu d → 0 < S.M (S.ru r) d → S.cu c ≤ S.cu d)) → Q (ob.elim .non fun r => .int (r : Int)) H'
theorem ok_Cf {f : Addr} {fd : FuncData} {C : Addr} (R : TC K C) (B : Bl mg) {c pt : Addr} (hC : PySem.W.CodeHd base c pt) (hB : BmIn mg base) (qk : Kn mg "QUICK_TURNS" 200) (hS : HasM P w K mg base 1 C "is_sought" ["self", "column"] (spSo C)) (F : FunC K "column_for" "Tableau.column_for" sCf f fd c) : FnOk P w K mg base CX0 3 f fd ["self", "row"] (spCf C pt) := by
 refine F.ok scCf (fun vs H Q E h => ?_) (fun A outer s H vs Q E hr h => ?_)
 ·obtain ⟨o, n, m, r, S, t, rfl, _⟩ := h
  rfl
 obtain ⟨o, n, m, r, S, t, rfl, ⟨dx, pr, pu, pc, ras, T⟩, hrm, hn, hT, k⟩ := h
 have LK : LamOk (cxOf CX0 P w K mg base nCf "Tableau.column_for" (zc sCf) f (.ref c) A outer s H E).nox c pt := ⟨rfl, hC, hB⟩
 refine' ⟨_, ?hb, ?rd⟩
 case' hb => skip
 case' hb => refine' ze ?g1 ?g2
 case' g2 => refine' ze ?g3 ?g4
 case' g4 => refine' ze ?g5 ?g6
 case' g6 => refine' ze ?g7 ?g8
 case' g8 => refine' zi ?g9
 case g1 => exact zq nmCf 2 (ziq (zw (pvd nmCf 0) rfl) (pvd nmCf 1))
 case' g3 => refine' yk (i := 3) (ix := [2, 0]) nmCf.nd rfl YZ bsCfa.toCScope rfl rfl ?g10 ?g11 ?g12 ?g13
 case g10 => exact yx B.range (pa_1 (zw (pvd nmCf 0) rfl))
 case g11 => exact fun _ _ _ _ _ _ => pgb bsCfa 0
 case g12 => exact fun _ _ _ _ _ _ => xI (PW.pt (xz (yQ (pe_m hS hr (by omega) (pvb bsCfa 2) (pa_1 (pvb bsCfa 0)))) (yP (zm yX (ziq (pvb bsCfa 1) (pvb bsCfa 0)) zd (zo _)))))
 case g13 => exact fun _ _ _ _ _ _ => pvb bsCfa 0
 case' g5 => refine' zQ ?g14 ?g15 zE
 case g14 => exact zm Zj (zM zt B.len PySem.boot_len (pa_1 (pvd nmCf 3))) zd (zo _)
 case' g15 => refine' zi ?g17
 case' g17 => refine' yk (i := 3) (ix := [2, 0]) nmCf.nd rfl YZ bsCfb.toCScope rfl rfl ?g18 ?g19 ?g20 ?g21
 case g18 => exact yx B.range (pa_1 (zw (pvd nmCf 0) rfl))
 case g19 => exact fun _ _ _ _ _ _ => pgb bsCfb 0
 case g20 => exact fun _ _ _ _ _ _ => xI (PW.pt (xz (wW (yQ (pe_m hS hr (by omega) (pvb bsCfb 2) (pa_1 (pvb bsCfb 0))))) (yP (zm wC (ziq (pvb bsCfb 1) (pvb bsCfb 0)) zd (zo _)))))
 case g21 => exact fun _ _ _ _ _ _ => pvb bsCfb 0
 case' g7 => refine' zQ ?g22 ?g23 zE
 case g22 => exact zm xq (zw (pvd nmCf 0) rfl) (pe_k qk) (zo _)
 case' g23 => refine' zi ?g25
 case' g25 => refine' zr ?g26
 case g26 =>
  refine' pe_maxK (ix := [2]) (F := ["numbers"]) (v := "column") hr LK YX rfl ?m1p ?m2p ?m3p B.max
  case m1p => exact fun _ _ _ _ => rfl
  case m2p => exact fun _ _ _ _ _ _ _ _ => zM ZB B.abs PyProof.Rows.boot_abs (pa_1 (ziq (pvl YX 1) (pvl YX 0))) glCfp
  case m3p => exact pvd nmCf 3
 case' g9 => refine' zr ?g27
 case g27 =>
  refine' vS (ix := [0]) (F := ["self"]) (v := "column") hr LK YW rfl ?m1q ?m2q ?m3q B.min
  case m1q => exact fun _ _ _ _ => rfl
  case m2q => exact fun _ _ _ _ _ _ _ _ => ziq (wM rfl (pvl YW 1)) (pvl YW 0)
  case m3q => exact pvd nmCf 3
 obtain ⟨ra, g1, g2⟩ := T.row hrm
 walk_at "v"
 refine zF ?_
 walk_at "v"
 refine ⟨o, C, _, _, _, rfl, T.ob, R.c, R.n3, rfl, ?_⟩
 walk_at "v"
 refine zv (v := .ref ra) T.rs (zu (by rw [List.getElem?_map, g1]; rfl)) ?_
 walk_at "v"
 refine zF ?_
 walk_at "v"
 refine ⟨o, C, _, _, _, rfl, T.ob, R.c, R.n1, rfl, ?_⟩
 walk_at "v"
 refine ⟨_, rfl, by omega, by omega, fun D1 hD1 => ?_⟩
 rw [Int.toNat_natCast]
 refine ZM (solB n S r) (by omega) hD1 (fun i hi H' K' R' kR => ?_) (fun H1 K1 e1 => ?_)
 ·walk_at "v"
  refine yH ?_
  walk_at "v"
  refine ⟨o, dx, _, rfl, K' _ _ T.ob, rfl, ?_⟩
  walk_at "v"
  refine ⟨o, i, n, m, S, t, by rw [Int.zero_add]; rfl, ⟨dx, pr, pu, pc, ras, T.same fun a u e _ => K' a u e⟩, hi, ?_⟩
  walk_at "v"
  have kR := kR _ (Same.refl _)
  unfold solB at kR
  refine iteD (fun h1 => ?_) (fun h1 => ?_)
  ·walk_at "v"
   rw [Int.zero_add]
   refine zv (v := .int (S.M (S.ru r) i)) (K' _ _ g2) (zu (zU (by omega))) ?_
   walk_at "v"
   rw [decide_eq_true h1, Bool.true_and] at kR
   refine ⟨rfl, ?_⟩
   rw [show (!decide (V.int (S.M (S.ru r) i) = V.int 0)) = decide (S.M (S.ru r) i ≠ 0) by simp]
   walk_at "v"
   exact kR
  ·rw [decide_eq_false h1, Bool.false_and] at kR
   exact kR
 have T1 := T.same fun a u e _ => K1 a u e
 refine yi ?_
 with_reducible refine seq_post (fun σ' H2 => ∃ (D2 : Addr) (cs : List Nat), σ' = [some (.ref o), some (.int (r : Int)), some (.ref ra), some (.ref D2)] ∧ Same H H2 ∧ H2 D2 = some (.lst ((cs.map fun (i : Nat) => (i : Int)).map V.int)) ∧ Cand n S r cs) ?_ fun rest => ?_
 ·rintro σ' H2 ⟨D2, cs, rfl, K2, e2, hcs⟩
  have T2 := T.same fun a u e _ => K2 a u e
  have hT2 := hT.same K2
  walk_at "v"
  refine zF ?_
  walk_at "v"
  refine ⟨o, C, _, _, _, rfl, T2.ob, R.c, R.n6, rfl, ?_⟩
  walk_at "v"
  have hmem : ∀ i ∈ cs.map (fun (i : Nat) => (i : Int)), ∃ c : Nat, i = (c : Int) ∧ c ∈ cs ∧ may n S r c := fun i hi => by
   obtain ⟨c, hc1, rfl⟩ := List.mem_map.mp hi
   exact ⟨c, rfl, hc1, hcs.my c hc1⟩
  refine iteD (fun ht => ?_) (fun ht => ?_)
  ·walk_at "v"
   refine w_maxK ?_
   walk_at "v"
   refine ⟨D2, _, fun i => if S.M (S.ru r) i.toNat < 0 then - S.M (S.ru r) i.toNat else S.M (S.ru r) i.toNat, rfl, e2, hT2, fun H' k1 i hi => ?_, fun H' ob k1 hT' h0 h1 => ?_⟩
   ·obtain ⟨c, rfl, hc1, hc2⟩ := hmem i hi
    have g3 := k1 ra _ (fun z => by obtain ⟨tb, e', _⟩ := hT2; rw [z] at g2; have := K2 _ _ g2; rw [e'] at this; cases this) (K2 _ _ g2)
    walk_at "v"
    refine zv (v := .int (S.M (S.ru r) c)) g3 (zu (zU (by have := hc2.1; omega))) ?_
    walk_at "v"
    exact ⟨_, rfl, rfl, by simp⟩
   ·obtain ⟨on, rfl, hon⟩ := ZJ fun b e => (h1 b e).1
    have hq := k H' on (fun a u na e => k1 a u na (K2 _ _ e)) hT' (fun z => hcs.no (by have := h0 (by rw [z]; rfl); simpa using this)) (fun c z => ⟨hcs.my c (hon c z), fun z => absurd z (by omega)⟩)
    cases on with
    | none => exact hq
    | some r => exact hq
  ·walk_at "v"
   refine ZD ?_
   walk_at "v"
   refine ⟨D2, _, fun i => ((S.cu i.toNat : Nat) : Int), rfl, e2, hT2, fun H' k1 i hi => ?_, fun H' ob k1 hT' h0 h1 => ?_⟩
   ·obtain ⟨c, rfl, hc1, hc2⟩ := hmem i hi
    have T3 := T2.tab hT2 k1
    walk_at "v"
    refine zF ?_
    walk_at "v"
    refine ⟨o, C, _, _, _, rfl, T3.ob, R.c, R.n5, rfl, ?_⟩
    walk_at "v"
    refine zv (v := .int ((S.cu c : Nat) : Int)) T3.cu (zu (zY hc2.1)) ?_
    exact ⟨rfl, by simp⟩
   ·obtain ⟨on, rfl, hon⟩ := ZJ fun b e => (h1 b e).1
    have hq := k H' on (fun a u na e => k1 a u na (K2 _ _ e)) hT' (fun z => hcs.no (by have := h0 (by rw [z]; rfl); simpa using this)) (fun c z => ⟨hcs.my c (hon c z), fun _ => (hcs.al c (hon c z)).imp id fun q d hd h2 h3 => ?_⟩)
    ·cases on with
     | none => exact hq
     | some r => exact hq
    ·have := (h1 (c : Int) (by rw [z]; rfl)).2 (d : Int) (List.mem_map_of_mem (f := fun (i : Nat) => (i : Int)) (q d hd h2 h3))
     simp at this
     exact this
 walk_at "v"
 refine ⟨D1, _, rfl, .inl (SqL.of e1), ?_⟩
 walk_at "v"
 refine ⟨rfl, ?_⟩
 walk_at "v"
 rw [List.length_map, List.length_map]
 refine iteD (fun h0 => ?_) (fun h0 => ?_)
 ·have hs0 : (List.range n).filter (solB n S r) = [] := by
   have : (((List.range n).filter (solB n S r)).length : Int) = 0 := by injection h0
   exact List.eq_nil_of_length_eq_zero (by omega)
  walk_at "v"
  refine zF ?_
  walk_at "v"
  refine ⟨o, C, _, _, _, rfl, T1.ob, R.c, R.n1, rfl, ?_⟩
  walk_at "v"
  refine ⟨_, rfl, by omega, by omega, fun D2 hD2 => ?_⟩
  rw [Int.toNat_natCast]
  refine ZM (gthB n S r) (by omega) hD2 (fun i hi H' K' R' kR => ?_) (fun H2 K2 e2 => ?_)
  ·walk_at "v"
   refine yH ?_
   walk_at "v"
   refine ⟨o, dx, _, rfl, K' _ _ T1.ob, rfl, ?_⟩
   walk_at "v"
   refine ⟨o, i, n, m, S, t, by rw [Int.zero_add]; rfl, ⟨dx, pr, pu, pc, ras, T1.same fun a u e _ => K' a u e⟩, hi, ?_⟩
   walk_at "v"
   have kR := kR _ (Same.refl _)
   unfold gthB at kR
   by_cases h1 : S.cu i < n
   ·rw [decide_eq_true h1] at kR ⊢
    exact iteF kR
   ·rw [decide_eq_false h1] at kR ⊢
    refine iteT ?_
    walk_at "v"
    rw [Int.zero_add]
    refine zv (v := .int (S.M (S.ru r) i)) (K' _ _ (K1 _ _ g2)) (zu (zU (by omega))) ?_
    walk_at "v"
    exact kR
  ·refine yi ?_
   exact rest _ _ ⟨D2, _, rfl, K1.trans K2, e2, cand_gth hs0⟩
 ·exact rest _ _ ⟨D1, _, rfl, K1, e1, cand_sol fun z => h0 (by rw [z]; rfl)⟩
end
end K11
namespace PT
open PySem L2 G2
def fT (i : Int) : Str := Str.ofString (toString i)
def inF (y : Str) : Bool := !(Builtin.Str.occurrences "0123456789" y 0 (Str.length "0123456789") 1).isEmpty
def figB (x : Str) : Bool := decide (x.length ≤ 10) && (sg x).all inF && (match x.cps.toList with | [] => false | c :: _ => decide (x = "0") || !decide ((⟨#[c]⟩ : Str) = "0"))
def inL (y : Str) : Bool := !(Builtin.Str.occurrences "abcdefghijklmnopqrstuvwxyz" y 0 (Str.length "abcdefghijklmnopqrstuvwxyz") 1).isEmpty
def noNames : List Str := ["sorts", "begin", "in", "out", "rule", "to"]
def Xr (x : Str) : Bool := decide (1 ≤ x.length) && decide (x.length ≤ 8) && !decide (x ∈ noNames) && (sg x).all inL && x.cps.toList.all fun c => decide (97 ≤ c) && decide (c ≤ 122)
structure Cnt (i : Int) : Prop where
 fig : figB (fT i) = true
 l2 : (fT i).length ≤ 2
 rd : PySem.intText? (fT i) = some i
 ch : ∀ c ∈ (fT i).cps.toList, 48 ≤ c ∧ c ≤ 57
 lg : i.natAbs.log2 < 1920
structure Wd (w : Str) : Prop where
 l : w.length ≤ 8
 ch : ∀ c ∈ w.cps.toList, 33 ≤ c ∧ c ≤ 127
structure Nme (x : Str) : Prop where
 b : Xr x = true
 l1 : 1 ≤ x.length
 l8 : x.length ≤ 8
 no : x ∉ noNames
 al : (sg x).all inL = true
 ch : ∀ c ∈ x.cps.toList, 97 ≤ c ∧ c ≤ 122
def ln (ws : List Str) : Str := Txt.join ⟨#[32]⟩ ws
structure Sd (m : Nat) (cs : List Int) : Prop where
 l : cs.length = m
 b : ∀ c ∈ cs, 0 ≤ c ∧ c ≤ 9
structure PD where
 nm : List Str
 rl : List (List Int × List Int)
 ins : List Int
 beg : List Int
 ans : Int
structure PD.ok (d : PD) (m : Nat) : Prop where
 nl : d.nm.length = m
 nd : d.nm.Nodup
 nb : ∀ x ∈ d.nm, Xr x = true
 m0 : 0 < m
 m8 : m ≤ 8
 r8 : d.rl.length ≤ 8
 rs : ∀ r ∈ d.rl, Sd m r.1 ∧ Sd m r.2 ∧ (∃ x ∈ r.1, 0 < x) ∧ r.1 ≠ r.2
 hi : ∀ i ∈ d.ins, 0 ≤ i ∧ i < m
 i3 : d.ins.length ≤ 3
 inn : d.ins.Nodup
 bl : d.beg.length = m
 hb : ∀ b ∈ d.beg, 0 ≤ b ∧ b ≤ 99
 ha : 0 ≤ d.ans ∧ d.ans < m
end PT
namespace L2
open PySem PySem.Spec PyProof.Rows
def TupF (H : Hp) (l : Addr) (ys : List V) : Prop := ∃ o, H l = some (.frz o (.tup ys)) ∧ o.dict = none ∧ o.cls = .type "tuple"
end L2
namespace L2
open PySem
end L2
namespace PT
open PySem L2 G2
structure KP (mg : Str → Option Value) : Prop where
 sorts : Kn mg "SORTS" 0
 rules : Kn mg "RULES" 1
 inputs : Kn mg "INPUTS" 2
 begin : Kn mg "BEGIN" 3
 answer : Kn mg "ANSWER" 4
 takes : Kn mg "TAKES" 0
 gives : Kn mg "GIVES" 1
structure KR (K : W.Frag) (mg : Str → Option Value) : Prop where
 fig : KnS mg "FIGURES" "0123456789"
 lets : KnS mg "LETTERS" "abcdefghijklmnopqrstuvwxyz"
 no : GTup K mg "NO_NAMES" (noNames.map V.str)
 mlet : Kn mg "MOST_LETTERS" 8
 msor : Kn mg "MOST_SORTS" 8
 mbeg : Kn mg "MOST_BEGIN" 99
 minp : Kn mg "MOST_INPUTS" 3
 mrul : Kn mg "MOST_RULES" 8
 mdro : Kn mg "MOST_DROPS" 9
 mfig : Kn mg "MOST_FIGURES" 2
 l0 : Kn mg "SORTS_LINE" 0
 l1 : Kn mg "BEGIN_LINE" 1
 l2 : Kn mg "IN_LINE" 2
 l3 : Kn mg "OUT_LINE" 3
 l4 : Kn mg "FIRST_RULE" 4
def RlD (H : Hp) (r : Addr) (x : List Int × List Int) : Prop := ∃ a b, H r = some (.tup [.ref a, .ref b]) ∧ H a = some (.tup (x.1.map V.int)) ∧ H b = some (.tup (x.2.map V.int))
def RlsD (H : Hp) : List Addr → List (List Int × List Int) → Prop
 | [], [] => True
 | r :: rs, x :: xs => RlD H r x ∧ RlsD H rs xs
 | _, _ => False
structure PotF (fz : Bool) (H : Hp) (p : Addr) (d : PD) : Prop where
 ex : ∃ (ps pr pin pb : Addr) (rs : List Addr), H p = some (.tup [.ref ps, .ref pr, .ref pin, .ref pb, .int d.ans]) ∧ (if fz = true then TupF H ps (d.nm.map V.str) else H ps = some (.tup (d.nm.map V.str))) ∧ H pr = some (.tup (rs.map V.ref)) ∧ RlsD H rs d.rl ∧
  H pin = some (.tup (d.ins.map V.int)) ∧ H pb = some (.tup (d.beg.map V.int))
end PT
namespace L2
open PySem PySem.Spec PyProof.Rows
end L2
namespace L2
open PySem PySem.Spec PyProof.Rows Builtin Builtin.Str
section
variable {X : Cx}
def YI : List V → Hp → VK → Prop := fun xs H Q => ∃ (x : Str), xs = [.str x] ∧ x.cps.size ≤ 1000 ∧ ∀ l, H l = none → Q (.ref l) (upd H l (.lst ((sg x).map V.str)))
end
end L2
namespace PT
open PySem L2 G2
abbrev Bad := Nat × Nat
def nameP (x : Str) : Bool := decide (1 ≤ x.length) && (decide (x.length ≤ 8) && (!decide (x ∈ noNames) && (sg x).all inL))
def val (x : Str) : Int := (PySem.intText? x).getD 0
def plc (x : Str) : List Str → Option Nat
 | [] => none
 | y :: r => if y = x then some 0 else (plc x r).map (· + 1)
def rSort (ws : List Str) (z i : Nat) (nm : List Str) : Except Bad Nat := match plc (ws.getD i "") nm with
 | some q => .ok q
 | none => .error (z, i)
def rIn (ws nm : List Str) : Nat → Nat → List Int → Except Bad (List Int)
 | 0, _, acc => .ok acc
 | n + 1, i, acc => match rSort ws 2 i nm with
  | .error b => .error b
  | .ok q => if acc.length = 3 ∨ (q : Int) ∈ acc then .error (2, i) else rIn ws nm n (i + 1) (acc ++ [(q : Int)])
def Bd (cA : Addr) (H : Hp) (E : XK) (b : Bad) : Prop := ∀ dx H', Same H H' → H' dx = none → E (.ref cA) (some dx) (upd H' dx (XDct dx [("line", .int (b.1 : Int)), ("word", .int (b.2 : Int))]))
def nums (lo n : Nat) : List Str := (List.range n).map fun k => fT ((lo + k : Nat) : Int)
def gdW (h : Nat) (sorts : List Str) (x : Str) : Bool := if h = 0 then nameP x else if h = 1 then decide (x ∈ nums 0 100) else decide (x ∈ sorts)
def hfB (h most : Nat) (ws sorts : List Str) (i : Nat) : Prop := most < i ∨ gdW h sorts (ws.getD i "") = false ∨ ((h = 0 ∨ h = 2) ∧ ws.getD i "" ∈ (ws.take i).drop 1)
instance {h most : Nat} {ws sorts : List Str} {i : Nat} : Decidable (hfB h most ws sorts i) := by unfold hfB; infer_instance
def hfGo (h most : Nat) (ws sorts : List Str) : Nat → Nat → Option Nat
 | 0, _ => none
 | n + 1, i => if hfB h most ws sorts i then some i else hfGo h most ws sorts n (i + 1)
def hf (h least most : Nat) (ws sorts : List Str) : Option Nat := match hfGo h most ws sorts (ws.length - 1) 1 with
 | some i => some i
 | none => if ws.length ≤ least then some ws.length else none
def sfT (ws : List Str) (to : Bool) (m i : Nat) (cs : List Int) : Prop := i < ws.length ∧ (¬ (to = true ∧ ws.getD i "" = "to") ∨ cs = List.replicate m 0)
instance {ws : List Str} {to : Bool} {m i : Nat} {cs : List Int} : Decidable (sfT ws to m i cs) := by unfold sfT; infer_instance
def eo {α : Type} (r : Except Bad α) (k : Option Bad) : Option Bad := match r with
 | .error b => some b
 | .ok _ => k
end PT
namespace L2
open PySem PySem.Spec PyProof.Rows Builtin Builtin.Str
end L2
namespace PT
open PySem L2 G2
def wl (ws : List Str) : Nat := (ws.map fun w => w.length + 1).sum
end PT
namespace L2
open PySem PySem.Spec PyProof.Rows
end L2
namespace L2
open PySem PySem.Spec PyProof.Rows G2
section
variable {S : Hp → Hp → Prop} {D : Addr} {te : TE} {Q : VK} {ρ : St} {H : Hp} {K : W.Frag} {a b : Addr} {xs zs : List V} {n : Nat}
theorem gm_zpl (Ok : Nat → V → Hp → Prop) (n1 : n ≤ xs.length) (n2 : n ≤ zs.length) (n3 : xs.length ≤ n ∨ zs.length ≤ n) (hD : H D = none) (mono : ∀ {j y H1 H2}, TK H1 H2 → Ok j y H1 → Ok j y H2) (hn : n ≤ 1000) (ha : H a = some (.lst xs)) (hb : H b = some (.lst zs))
  (step : ∀ i x z H' (R : V → Hp → Prop), i < n → xs[i]? = some x → zs[i]? = some z → Same H H' → (∀ y H4, Same H' H4 → Ok i y H4 → R y H4) → te (some x :: some z :: ρ) H' R)
  (q : ∀ ys H', GP Same Ok H n ys H' → H' D = some (.lst ys) → Q (.ref D) H') : CGo (Itzl K a b) D (gTup K 2 (z0 (zB 0) (z0 (zB 1) gNil))) tAll te Q (none :: none :: ρ) H := by
 have kp := Kp.same hD
 refine cgo_zpl n1 n2 n3 (fun i ys H' => GP Same Ok H i ys H') ⟨kp.refl, rfl, fun j y h => by simp at h⟩ (fun i ys H' _ g => ⟨SqL.of (g.1 _ _ ha), SqL.of (g.1 _ _ hb)⟩) ?_ q
 rintro i x z ys H' p hi hx hz g hDz hp R S' kR _
 have kn : Same H' (upd H' p (.tup [x, z])) := Same.new (Same.refl _) hp
 refine yc (iteT (step i x z _ R hi hx hz (g.1.trans kn) fun y H4 k hy => ?_))
 have k' := kn.trans k
 exact kR y H4 (k' _ _ hDz) (zA (by have := g.2.1; omega)) (xQ (Ok := Ok) kp mono (fun _ b => TK.same b) g k' (k' _ _ hDz) hy)
end
end L2
namespace K11
open PySem L2 G2 WG
abbrev sTd : Stmt := xO (top 4) 6
abbrev nTd : List Str := ["self", "numbers", "pivot", "column", "sign", "size", "times", "row"]
theorem nmTd : Nm nTd (zc sTd) := nmk (by decide +kernel)
theorem scTd : FnScope nTd ["self", "numbers", "pivot", "column", "sign"] (zc sTd) := fsk (by decide +kernel)
def qTda (s : Stmt) : Scope := match s with
 | .Assign _ (.ListComp _ _ sc _) _ => sc
 | _ => nsc
abbrev cTda : Scope := qTda ((zj sTd).getD 2 (.Pass ⟨0, 0, 0, 0⟩))
theorem bsTda : BScope (zc sTd) cTda ["one", "other"] ["self", "size", "times"] [] := { okind := by decide +kernel, kind := by decide +kernel, nocell := by decide +kernel, names := by decide +kernel, fr := by decide +kernel, ff := by decide +kernel, nd := by decide +kernel, vis := by decide +kernel, loc := by decide +kernel, gl := by decide +kernel }
theorem loTd_7 : (zc sTd).names.lookup ("row" : Str) = some .local := by decide +kernel
theorem w_compZl {K : W.Frag} {ta : TA} {n : Nat} {ix : List Nat} {g : TG} {tc : TT} {te : TE} {σ : St} {H : Hp} {Q : VK} (h : ta σ H fun vs H1 => ∃ a b, vs = [.ref a, .ref b] ∧ (∃ xs, SqL K H1 a xs) ∧ (∃ xs, SqL K H1 b xs) ∧ ∀ D, H1 D = none → CGo (Itzl K a b) D g tc te Q (List.replicate n none ++ sub ix σ) H1) : wS (iZpl K ta) n ix g tc te σ H Q := h
def Sm (x : Int) : Prop := x.natAbs < 2 ^ 4000
theorem xG {x : Int} (h : Sm x) : EL.Bb x := EL.bb_of h (by decide)
theorem ZY {x : Int} (h : Sm x) : x.natAbs.log2 < 9000 := by
 by_cases z : x.natAbs = 0
 ·rw [z]; decide
 ·exact (Nat.log2_lt z).mpr (Nat.lt_of_lt_of_le h (Nat.pow_le_pow_right (by decide) (by decide)))
theorem Xn {s x : Int} (hs : s = 1 ∨ s = -1) (h : Sm x) : Sm (s * x) := by
 unfold Sm
 rcases hs with rfl | rfl
 ·rw [Int.one_mul]; exact h
 ·rw [Int.neg_one_mul, Int.natAbs_neg]; exact h
theorem xu {n i : Nat} (h : i < n) : ixN n (i : Int) = some i := by
 unfold ixN
 rw [if_pos (by omega), if_pos (by omega), Int.toNat_natCast]
def spTd (C : Addr) : Sp := fun vs H Q _ => ∃ (o a b dx : Addr) (c n : Nat) (s D : Int) (x y : Nat → Int) (fs : List (Str × V)), vs = [.ref o, .ref a, .ref b, .int (c : Int), .int s] ∧ H o = some (.ins C dx fs) ∧ fs.lookup ("bottom" : Str) = some (V.int D) ∧ H a = some (.lst (rowV n x)) ∧ H b = some (.lst (rowV n y)) ∧ c < n ∧ n ≤ 40 ∧ 0 < D ∧ Sm D ∧ (s = 1 ∨ s = -1) ∧ (∀ k, k ≤ n → Sm (x k) ∧ Sm (y k)) ∧
 ∀ q H', Same H H' → H q = none → H' q = some (.lst (rowV n fun k => if k = c then s * x c else (s * y c * x k - s * x c * y k) / D)) → Q (.ref q) H'
section
variable {P : Program} {w : World} {K : W.Frag} {mg : Str → Option Value} {base : Heap}
theorem ok_Td {f : Addr} {fd : FuncData} {C : Addr} (R : TC K C) (B : Bl mg) (F : Fun K "turned" "Tableau.turned" sTd f fd) : FnOk P w K mg base CX0 1 f fd ["self", "numbers", "pivot", "column", "sign"] (spTd C) := by
 refine F.ok scTd (fun vs H Q E h => ?_) (fun cdv A outer s H vs Q E hr h => ?_)
 ·obtain ⟨o, a, b, dx, c, n, s', D, x, y, fs, rfl, _⟩ := h
  rfl
 obtain ⟨o, a, b, dx, c, n, s', D, x, y, fs, rfl, ho, hfs, ha, hb, hc, hn, hD, hDs, hs, hsm, k⟩ := h
 refine' ⟨_, ?hb, ?rd⟩
 case' hb => skip
 case' hb => refine' ze ?g1 ?g2
 case' g2 => refine' ze ?g3 ?g4
 case' g4 => refine' ze ?g5 ?g6
 case' g6 => refine' ze ?g7 ?g8
 case' g8 => refine' zi ?g9
 case g1 => exact zq nmTd 5 (zk zG (pvd nmTd 4) (ziq (pvd nmTd 2) (pvd nmTd 3)))
 case g3 => exact zq nmTd 6 (zk zG (pvd nmTd 4) (ziq (pvd nmTd 1) (pvd nmTd 3)))
 case' g5 => refine' yk (i := 7) (ix := [0, 5, 6]) nmTd.nd rfl loTd_7 bsTda.toCScope rfl rfl ?g10 ?g11 ?g12 ?g13
 case g10 => exact ZH B.zip (pa_2 (pvd nmTd 1) (pvd nmTd 2))
 case g11 =>
  intro _ _ _ _ _ _
  refine' zX (n := 2) rfl ?g14
  case' g14 => refine' zn ?g18 ?g17
  case g18 => exact pgb bsTda 0
  case' g17 => refine' zn ?g20 zO
  case g20 => exact pgb bsTda 1
 case g12 => exact fun _ _ _ _ _ _ => zy
 case g13 => exact fun _ _ _ _ _ _ => zk EL.op_fdivL (zk yq (zk zG (pvb bsTda 3) (pvb bsTda 0)) (zk zG (pvb bsTda 4) (pvb bsTda 1))) (wM rfl (pvb bsTda 2))
 case g7 => exact xm (pvd nmTd 6) (xn (pvd nmTd 7) (pvd nmTd 3) wB)
 case g9 => exact zr (pvd nmTd 7)
 walk_at "v"
 refine zv (v := .int (y c)) hb (zu (zU (by omega))) ?_
 walk_at "v"
 refine ⟨_, _, rfl, rfl, EL.mulBb (EL.bb_of (m := 2) (by rcases hs with rfl | rfl <;> decide) (by decide)) (xG (hsm c (by omega)).2), ?_⟩
 walk_at "v"
 refine zv (v := .int (x c)) ha (zu (zU (by omega))) ?_
 walk_at "v"
 refine ⟨_, _, rfl, rfl, EL.mulBb (EL.bb_of (m := 2) (by rcases hs with rfl | rfl <;> decide) (by decide)) (xG (hsm c (by omega)).1), ?_⟩
 walk_at "v"
 refine w_compZl ?_
 walk_at "v"
 refine ⟨a, b, rfl, ⟨_, SqL.of ha⟩, ⟨_, SqL.of hb⟩, fun D1 hD1 => ?_⟩
 refine gm_zpl (xs := rowV n x) (zs := rowV n y) (n := n + 1) (fun k v _ => v = .int ((s' * y c * x k - s' * x c * y k) / D)) (by rw [yd]; exact Nat.le_refl _) (by rw [yd]; exact Nat.le_refl _) (.inl (by rw [yd]; exact Nat.le_refl _)) hD1 (fun _ h => h) (by omega) ha hb (fun i u v H' R' hi hu hv K' kR => ?_) (fun ys H1 g e1 => ?_)
 ·rw [zU (by omega)] at hu hv
  cases hu
  cases hv
  have s1 := Xn hs (hsm c (by omega)).2
  have s2 := Xn hs (hsm c (by omega)).1
  walk_at "v"
  refine ⟨_, _, rfl, rfl, EL.mulBb (xG s1) (xG (hsm i (by omega)).1), ?_⟩
  walk_at "v"
  refine ⟨_, _, rfl, rfl, EL.mulBb (xG s2) (xG (hsm i (by omega)).2), ?_⟩
  walk_at "v"
  refine zF ?_
  walk_at "v"
  refine ⟨o, C, dx, fs, _, rfl, K' _ _ ho, R.c, R.n2, hfs, ?_⟩
  refine ⟨_, _, rfl, rfl, ⟨hD, ZY hDs⟩, ?_⟩
  exact kR _ _ (Same.refl _) rfl
 ·obtain ⟨K1, hl, hy⟩ := g
  have ey : ys = rowV n fun k => (s' * y c * x k - s' * x c * y k) / D := wG hl fun k hk => by
   rw [List.getElem?_eq_getElem (by omega)]
   exact congrArg some (hy k _ (List.getElem?_eq_getElem (by omega)))
  subst ey
  walk_at "v"
  refine wk e1 (j := c) (by rw [yd]; exact xu (by omega)) ?_
  walk_at "v"
  have eset : (rowV n fun k => (s' * y c * x k - s' * x c * y k) / D).set c (.int (s' * x c)) = rowV n fun k => if k = c then s' * x c else (s' * y c * x k - s' * x c * y k) / D := by
   refine wG (by rw [List.length_set, yd]) fun k hk => ?_
   by_cases e : k = c
   ·subst e; rw [if_pos rfl, List.getElem?_set_self (by rw [yd]; omega)]
   ·rw [if_neg e, List.getElem?_set_ne (Ne.symm e), zU hk]
  show Q (.ref D1) (upd H1 D1 (.lst ((rowV n fun k => (s' * y c * x k - s' * x c * y k) / D).set c (.int (s' * x c)))))
  rw [eset]
  exact k D1 _ (K1.put hD1) hD1 zf
abbrev sTn : Stmt := xO (top 4) 5
abbrev nTn : List Str := ["self", "row", "column", "pivot", "sign", "rows", "unknown"]
theorem nmTn : Nm nTn (zc sTn) := nmk (by decide +kernel)
theorem scTn : FnScope nTn ["self", "row", "column"] (zc sTn) := fsk (by decide +kernel)
def qTna (s : Stmt) : Scope := match s with
 | .Assign _ (.ListComp _ _ sc _) _ => sc
 | _ => nsc
abbrev cTna : Scope := qTna ((zj sTn).getD 2 (.Pass ⟨0, 0, 0, 0⟩))
theorem bsTna : BScope (zc sTn) cTna ["numbers"] ["column", "pivot", "self", "sign"] [] := { okind := by decide +kernel, kind := by decide +kernel, nocell := by decide +kernel, names := by decide +kernel, fr := by decide +kernel, ff := by decide +kernel, nd := by decide +kernel, vis := by decide +kernel, loc := by decide +kernel, gl := by decide +kernel }
def qTnb (s : Stmt) : Scope := match s with
 | .Assign _ (.ListComp _ _ sc _) _ => sc
 | _ => nsc
abbrev cTnb : Scope := qTnb ((zj sTn).getD 3 (.Pass ⟨0, 0, 0, 0⟩))
theorem bsTnb : BScope (zc sTn) cTnb ["number"] ["sign"] [] := { okind := by decide +kernel, kind := by decide +kernel, nocell := by decide +kernel, names := by decide +kernel, fr := by decide +kernel, ff := by decide +kernel, nd := by decide +kernel, vis := by decide +kernel, loc := by decide +kernel, gl := by decide +kernel }
theorem loTn_5 : (zc sTn).names.lookup ("rows" : Str) = some .local := by decide +kernel
theorem ite_k {p : Prop} [Decidable p] {te1 te2 : TE} {σ : St} {H : Hp} {Q : VK} (v : V) (h1 : p → ∀ Q : VK, Q v H → te1 σ H Q) (h2 : ¬ p → ∀ Q : VK, Q v H → te2 σ H Q) (h : Q v H) : if decide p = true then te1 σ H Q else te2 σ H Q := iteD (fun z => h1 z Q h) fun z => h2 z Q h
theorem sgn_or (p : Int) : sgn p = 1 ∨ sgn p = -1 := by unfold sgn; split <;> simp
theorem updK (H : Hp) (x : Addr) (o : HO) : ∃ H', upd H x o = H' ∧ H' x = some o ∧ ∀ a u, a ≠ x → H a = some u → H' a = some u := ⟨_, rfl, zf, fun a u n e => by rw [zh n]; exact e⟩
theorem rowV_ne {n : Nat} {f : Nat → Int} {as : List Addr} : rowV n f ≠ as.map V.ref := fun z => by
 have h1 := zU (n := n) (f := f) (Nat.zero_le _)
 rw [z, List.getElem?_map] at h1
 cases e : as[0]? with
 | none => rw [e] at h1; cases h1
 | some a => rw [e] at h1; cases h1
def spTn (C : Addr) : Sp := fun vs H Q _ => ∃ (o : Addr) (n m r c : Nat) (v : Nat → Nat → Int) (S : Tb) (t : Nat) (dx pr pu pc : Addr) (ras : List Addr), vs = [.ref o, .int (r : Int), .int (c : Int)] ∧ TbA H C o n m S t dx pr pu pc ras ∧ Inv n m v S ∧ r < m ∧ c < n ∧ S.M (S.ru r) c ≠ 0 ∧ n ≤ 40 ∧ m ≤ 60 ∧ (∀ q k, q < m → k ≤ n → Sm (S.M (S.ru q) k)) ∧ Sm S.D ∧
 ∀ H' pr' ras', (∀ a u, a ≠ o → a ≠ pu → a ≠ pc → H a = some u → H' a = some u) → TbA H' C o n m (turn S r c) (t + 1) dx pr' pu pc ras' → Q .non H'
theorem ok_Tn {f : Addr} {fd : FuncData} {C : Addr} (R : TC K C) (B : Bl mg) (hT : HasM P w K mg base 1 C "turned" ["self", "numbers", "pivot", "column", "sign"] (spTd C)) (F : Fun K "turn" "Tableau.turn" sTn f fd) : FnOk P w K mg base CX0 2 f fd ["self", "row", "column"] (spTn C) := by
 refine F.ok scTn (fun vs H Q E h => ?_) (fun cdv A outer s H vs Q E hr h => ?_)
 ·obtain ⟨o, n, m, r, c, v, S, t, dx, pr, pu, pc, ras, rfl, _⟩ := h
  rfl
 obtain ⟨o, n, m, r, c, v, S, t, dx, pr, pu, pc, ras, rfl, T, I, hrm, hcn, hp, hn, hm, hsm, hsd, k⟩ := h
 refine' ⟨_, ?hb, ?rd⟩
 case' hb => skip
 case' hb => refine' ze ?g1 ?g2
 case' g2 => refine' ze ?g3 ?g4
 case' g4 => refine' ze ?g5 ?g6
 case' g6 => refine' ze ?g7 ?g8
 case' g8 => refine' ze ?g9 ?g10
 case' g10 => refine' ze ?g11 ?g12
 case' g12 => refine' ze ?g13 ?g14
 case' g14 => refine' ze ?g15 ?g16
 case' g16 => refine' ze ?g17 ?g18
 case' g18 => refine' ze ?g19 ?g20
 case' g20 => refine' zi ?g21
 case g1 => exact zq nmTn 3 (ziq (zw (pvd nmTn 0) rfl) (pvd nmTn 1))
 case g3 => exact zq nmTn 4 (wY (zm wC (ziq (pvd nmTn 3) (pvd nmTn 2)) zd (zo _)) zd (xo yw zd))
 case' g5 => refine' yk (i := 5) (ix := [2, 3, 0, 4]) nmTn.nd rfl loTn_5 bsTna.toCScope rfl rfl ?g22 ?g23 ?g24 ?g25
 case g22 => exact zP (zw (pvd nmTn 0) rfl)
 case g23 => exact fun _ _ _ _ _ _ => pgb bsTna 0
 case g24 => exact fun _ _ _ _ _ _ => zy
 case g25 => exact fun _ _ _ _ _ _ => pe_m hT hr (by omega) (pvb bsTna 3) (pa_c (pvb bsTna 0) (pa_c (pvb bsTna 2) (pa_2 (pvb bsTna 1) (pvb bsTna 4))))
 case' g7 => refine' xm ?g26 (xn (pvd nmTn 5) (pvd nmTn 1) wB)
 case' g26 => refine' zI (ix := [4]) bsTnb.toCScope rfl rfl ?g27 ?g28 ?g29 ?g30
 case g27 => exact zP (pvd nmTn 3)
 case g28 => exact fun _ _ _ _ _ _ => pgb bsTnb 0
 case g29 => exact fun _ _ _ _ _ _ => zy
 case g30 => exact fun _ _ _ _ _ _ => zk zG (xo yw (pvb bsTnb 1)) (pvb bsTnb 0)
 case g9 => exact xm (zk zG (pvd nmTn 4) (zw (pvd nmTn 0) rfl)) (xn (ziq (pvd nmTn 5) (pvd nmTn 1)) (pvd nmTn 2) wB)
 case g11 => exact xl (pvd nmTn 0) (pvd nmTn 5) rfl
 case g13 => exact xl (pvd nmTn 0) (zk zG (pvd nmTn 4) (ziq (pvd nmTn 3) (pvd nmTn 2))) rfl
 case g15 => exact zq nmTn 6 (ziq (zw (pvd nmTn 0) rfl) (pvd nmTn 1))
 case g17 => exact xm (ziq (zw (pvd nmTn 0) rfl) (pvd nmTn 2)) (xn (zw (pvd nmTn 0) rfl) (pvd nmTn 1) wB)
 case g19 => exact xm (pvd nmTn 6) (xn (zw (pvd nmTn 0) rfl) (pvd nmTn 2) wB)
 case g21 => exact ps_fldaug (pvd nmTn 0) zd in_add
 obtain ⟨ra, g1, g2⟩ := T.row hrm
 walk_at "v"
 refine zF ?_
 walk_at "v"
 refine ⟨o, C, _, _, _, rfl, T.ob, R.c, R.n3, rfl, ?_⟩
 walk_at "v"
 refine zv (v := .ref ra) T.rs (zu (by rw [List.getElem?_map, g1]; rfl)) ?_
 walk_at "v"
 refine zv (v := .int (S.M (S.ru r) c)) g2 (zu (zU (by omega))) ?_
 walk_at "v"
 refine ite_k (.int (sgn (S.M (S.ru r) c))) (fun h Q q => ?_) (fun h Q q => ?_) ?_
 ·have e : sgn (S.M (S.ru r) c) = 1 := by unfold sgn; rw [if_pos h]
  rw [e] at q
  exact q
 ·have e : sgn (S.M (S.ru r) c) = -1 := by unfold sgn; rw [if_neg h]
  rw [e] at q
  exact ⟨_, rfl, q⟩
 have hsg := sgn_or (S.M (S.ru r) c)
 generalize hsv : sgn (S.M (S.ru r) c) = sv at hsg ⊢
 walk_at "v"
 refine zF ?_
 walk_at "v"
 refine ⟨o, C, _, _, _, rfl, T.ob, R.c, R.n3, rfl, ?_⟩
 refine ⟨pr, rfl, ⟨_, SqL.of T.rs⟩, fun D1 hD1 => ?_⟩
 have hrl := T.rl
 refine nl_lst (xs := ras.map V.ref) (fun q => rowV n (yn S r c (S.ru q))) hD1 T.rs (by rw [List.length_map]; omega) (fun i x H' R' hx K' kR => ?_) (fun as1 H1 N1 e1 => ?_)
 ·have hi : i < m := by have := (List.getElem?_eq_some_iff.mp hx).1; rw [List.length_map] at this; omega
  obtain ⟨rb, f1, f2⟩ := T.row hi
  rw [List.getElem?_map, f1] at hx
  cases hx
  walk_at "v"
  refine yH ?_
  walk_at "v"
  refine ⟨o, dx, _, rfl, K' _ _ T.ob, rfl, ?_⟩
  walk_at "v"
  refine ⟨o, rb, ra, dx, c, n, sv, S.D, _, _, _, rfl, K' _ _ T.ob, rfl, K' _ _ f2, K' _ _ g2, hcn, hn, I.D0, hsd, hsg, fun k hk => ⟨hsm i k hi hk, hsm r k hrm hk⟩, fun q H4 K4 hq e4 => kR q H4 K4 hq ?_⟩
  rw [e4]
  congr 3
  funext k
  unfold yn
  rw [hsv]
 have g21 := N1.sm _ _ g2
 walk_at "v"
 refine ⟨ra, rfl, ⟨_, SqL.of g21⟩, fun D2 hD2 => ?_⟩
 refine v7 (ws := List.range (n + 1)) (fun k => V.int (S.M (S.ru r) k)) (fun k => V.int (-sv * S.M (S.ru r) k)) g21 (by rw [List.length_range]; omega) hD2 (fun k hk H' K' R' kR => ?_) (fun H2 K2 e2 => ?_)
 ·have hk := List.mem_range.mp hk
  walk_at "v"
  refine ⟨_, rfl, ?_⟩
  walk_at "v"
  refine ⟨_, _, rfl, rfl, EL.mulBb (EL.bb_of (m := 2) (by rcases hsg with rfl | rfl <;> decide) (by decide)) (xG (hsm r k hrm (by omega))), ?_⟩
  exact kR _ (Same.refl _)
 have K02 := N1.sm.trans K2
 have T2 := T.same fun a u e _ => K02 a u e
 have n12 : D1 ≠ D2 := zg e1 hD2
 have e12 := K2 _ _ e1
 have hal := N1.len
 rw [List.length_map, hrl] at hal
 walk_at "v"
 refine wk e12 (j := r) (by rw [List.length_map]; exact xu (by omega)) ?_
 obtain ⟨H3, q3, e3, k3⟩ := updK H2 D1 (.lst ((as1.map V.ref).set r (.ref D2)))
 rw [q3]; clear q3
 have eD3 := k3 _ _ (Ne.symm n12) e2
 have f1 : ∀ a u, H a = some u → H3 a = some u := fun a u e => k3 a u (zg e hD1) (K02 _ _ e)
 walk_at "v"
 refine zF ?_
 walk_at "v"
 refine ⟨o, C, _, _, _, rfl, (f1 _ _ T.ob), R.c, R.n2, rfl, ?_⟩
 refine ⟨_, _, rfl, rfl, EL.mulBb (EL.bb_of (m := 2) (by rcases hsg with rfl | rfl <;> decide) (by decide)) (xG hsd), ?_⟩
 walk_at "v"
 refine zv (v := .ref D2) e3 (zu (by rw [List.getElem?_set_self (by rw [List.length_map]; omega)])) ?_
 walk_at "v"
 refine wk eD3 (j := c) (by rw [List.length_map, List.length_range]; exact xu (by omega)) ?_
 obtain ⟨H4, q4, e4, k4⟩ := updK H3 D2 (.lst (((List.range (n + 1)).map fun k => V.int (-sv * S.M (S.ru r) k)).set c (.int (sv * S.D))))
 rw [q4]; clear q4
 have nD2 : ∀ a u, H a = some u → a ≠ D2 := fun a u e => zg (N1.sm _ _ e) hD2
 have f2 : ∀ a u, H a = some u → H4 a = some u := fun a u e => k4 a u (nD2 a u e) (f1 a u e)
 have e34 := k4 _ _ n12 e3
 walk_at "v"
 refine yZ ?_
 walk_at "v"
 refine ⟨o, C, dx, _, rfl, f2 _ _ T.ob, R.c, R.n3, by show 6 < 1000; decide, ?_⟩
 obtain ⟨H5, q5, e5, k5⟩ := updK H4 o (.ins C dx (putF "rows" (.ref D1) (tFs n S.D pr pu pc t)))
 rw [q5]; clear q5
 have nOf : ∀ a u, H a = some u → (∀ C dx fs, u ≠ .ins C dx fs) → a ≠ o := ZK T.ob
 have f3 : ∀ a u, a ≠ o → H a = some u → H5 a = some u := fun a u n e => k5 a u n (f2 a u e)
 walk_at "v"
 refine yZ ?_
 walk_at "v"
 refine zv (v := .int (S.M (S.ru r) c)) (f3 _ _ (nOf _ _ g2 fun _ _ _ z => by cases z) g2) (zu (zU (by omega))) ?_
 refine ⟨_, _, rfl, rfl, EL.mulBb (EL.bb_of (m := 2) (by rcases hsg with rfl | rfl <;> decide) (by decide)) (xG (hsm r c hrm (by omega))), ?_⟩
 walk_at "v"
 refine ⟨o, C, dx, _, rfl, e5, R.c, R.n2, by show 6 < 1000; decide, ?_⟩
 obtain ⟨H6, q6, e6, k6⟩ := updK H5 o (.ins C dx (putF "bottom" (.int (sv * S.M (S.ru r) c)) (putF "rows" (.ref D1) (tFs n S.D pr pu pc t))))
 dsimp only
 rw [q6]; clear q6
 have f4 : ∀ a u, a ≠ o → H a = some u → H6 a = some u := fun a u n e => k6 a u n (f3 a u n e)
 have npu := nOf _ _ T.ru fun _ _ _ z => by cases z
 have npc := nOf _ _ T.cu fun _ _ _ z => by cases z
 walk_at "v"
 refine zF ?_
 walk_at "v"
 refine ⟨o, C, _, _, _, rfl, e6, R.c, R.n4, rfl, ?_⟩
 walk_at "v"
 refine zv (v := .int ((S.ru r : Nat) : Int)) (f4 _ _ npu T.ru) (zu (zY hrm)) ?_
 walk_at "v"
 refine zF ?_
 walk_at "v"
 refine ⟨o, C, _, _, _, rfl, e6, R.c, R.n5, rfl, ?_⟩
 walk_at "v"
 refine zv (v := .int ((S.cu c : Nat) : Int)) (f4 _ _ npc T.cu) (zu (zY hcn)) ?_
 walk_at "v"
 refine zF ?_
 walk_at "v"
 refine ⟨o, C, _, _, _, rfl, e6, R.c, R.n4, rfl, ?_⟩
 walk_at "v"
 refine wk (f4 _ _ npu T.ru) (j := r) (by rw [zL]; exact xu hrm) ?_
 obtain ⟨H7, q7, e7, k7⟩ := updK H6 pu (.lst ((natV m S.ru).set r (.int ((S.cu c : Nat) : Int))))
 rw [q7]; clear q7
 have e67 := k7 _ _ (Ne.symm npu) e6
 walk_at "v"
 refine zF ?_
 walk_at "v"
 refine ⟨o, C, _, _, _, rfl, e67, R.c, R.n5, rfl, ?_⟩
 walk_at "v"
 have c7 := k7 _ _ (Ne.symm T.ne) (f4 _ _ npc T.cu)
 refine wk c7 (j := c) (by rw [zL]; exact xu hcn) ?_
 obtain ⟨H8, q8, e8, k8⟩ := updK H7 pc (.lst ((natV n S.cu).set c (.int ((S.ru r : Nat) : Int))))
 rw [q8]; clear q8
 have e68 := k8 _ _ (Ne.symm npc) e67
 dsimp only
 refine w_saug ?_
 walk_at "v"
 refine ⟨o, C, dx, _, _, rfl, e68, R.c, R.n6, rfl, ?_⟩
 walk_at "v"
 refine ⟨_, _, rfl, rfl, dx, _, e68, by show 6 < 1000; decide, ?_⟩
 obtain ⟨H9, q9, e9, k9⟩ := updK H8 o (.ins C dx (tFs n (sv * S.M (S.ru r) c) D1 pu pc (t + 1)))
 show Q .non (upd H8 o (.ins C dx (tFs n (sv * S.M (S.ru r) c) D1 pu pc (t + 1))))
 rw [q9]; clear q9
 have keep : ∀ a u, a ≠ o → a ≠ pu → a ≠ pc → H4 a = some u → H9 a = some u := fun a u n1 n2 n3 e => k9 a u n1 (k8 a u n3 (k7 a u n2 (k6 a u n1 (k5 a u n1 e))))
 -- the new objects stand apart from the old ones
 have ap : ∀ a, H a = none → a ≠ o ∧ a ≠ pu ∧ a ≠ pc := fun a e => ⟨(fun z => by rw [z, T.ob] at e; cases e), (fun z => by rw [z, T.ru] at e; cases e), (fun z => by rw [z, T.cu] at e; cases e)⟩
 have hD2' : H D2 = none := Same.free N1.sm hD2
 obtain ⟨d1, d2, d3⟩ := ap D1 hD1
 obtain ⟨b1, b2, b3⟩ := ap D2 hD2'
 refine k H9 D1 (as1.set r D2) (fun a u n1 n2 n3 e => keep a u n1 n2 n3 (f2 a u e)) ⟨?_, ?_, by rw [List.length_set]; exact hal, fun q a hq => ?_, ?_, ?_, T.ne⟩
 ·rw [e9, show (turn S r c).D = sv * S.M (S.ru r) c by rw [← hsv]; rfl]
 ·have := keep _ _ d1 d2 d3 e34
  rw [this, List.map_set]
 ·by_cases hqr : q = r
  ·subst hqr
   rw [List.getElem?_set_self (by omega)] at hq
   cases hq
   rw [keep _ _ b1 b2 b3 e4]
   congr 2
   refine wG (by simp) fun kk hk => ?_
   have eru : (turn S q c).ru q = S.cu c := by show updN S.ru q (S.cu c) q = _; unfold updN; rw [if_pos rfl]
   rw [eru]
   show _ = some (V.int (yn S q c (S.cu c) kk))
   by_cases ek : kk = c
   ·rw [ek, List.getElem?_set_self (by simp; omega), yJ, hsv, I.mc c hcn c (by omega), if_pos rfl]
   ·rw [List.getElem?_set_ne (Ne.symm ek), List.getElem?_map, List.getElem?_range (by omega)]
    have h1 := I.turn_mul hrm hcn (I.cl c hcn) hk ek
    rw [I.mc c hcn kk hk, I.mc c hcn c (by omega), if_neg ek, if_pos rfl, hsv] at h1
    have h2 : yn S q c (S.cu c) kk = -sv * S.M (S.ru q) kk := xV I.D0 (by rw [h1]; grind)
    rw [h2]
    rfl
  ·rw [List.getElem?_set_ne (Ne.symm hqr)] at hq
   have hq0 := N1.nw a (List.mem_of_getElem? hq)
   obtain ⟨z1, z2, z3⟩ := ap a hq0
   have h1 := N1.at_ q a hq
   have na1 : a ≠ D1 := fun z => by
    rw [z, e1] at h1
    injection h1 with h1
    injection h1 with h1
    exact rowV_ne h1.symm
   have na2 : a ≠ D2 := zg h1 hD2
   have eru : (turn S r c).ru q = S.ru q := by show updN S.ru r (S.cu c) q = _; unfold updN; rw [if_neg hqr]
   rw [eru]
   exact keep _ _ z1 z2 z3 (k4 _ _ na2 (k3 _ _ na1 (K2 _ _ h1)))
 ·rw [k9 _ _ npu (k8 _ _ T.ne e7)]
  congr 2
  refine Yc (by rw [List.length_set, zL]) fun q hq => ?_
  show _ = some (V.int ((updN S.ru r (S.cu c) q : Nat) : Int))
  unfold updN
  by_cases e : q = r
  ·subst e; rw [if_pos rfl, List.getElem?_set_self (by rw [zL]; exact hq)]
  ·rw [if_neg e, List.getElem?_set_ne (Ne.symm e), zY hq]
 ·rw [k9 _ _ npc e8]
  congr 2
  refine Yc (by rw [List.length_set, zL]) fun q hq => ?_
  show _ = some (V.int ((updN S.cu c (S.ru r) q : Nat) : Int))
  unfold updN
  by_cases e : q = c
  ·subst e; rw [if_pos rfl, List.getElem?_set_self (by rw [zL]; exact hq)]
  ·rw [if_neg e, List.getElem?_set_ne (Ne.symm e), zY hq]
end
end K11
namespace WG
def wsum (ws : List (Int × Int)) (f : Int → Int) : Int := (ws.map fun w => w.2 * f w.1).sum
theorem zD {w : Int × Int} {ws : List (Int × Int)} {f : Int → Int} : wsum (w :: ws) f = w.2 * f w.1 + wsum ws f := by simp [wsum]
theorem wsum_perm {ws us : List (Int × Int)} (h : ws.Perm us) (f : Int → Int) : wsum ws f = wsum us f := by
 induction h with
 | nil => rfl
 | cons x _ ih => rw [zD, zD, ih]
 | swap x y l => rw [zD, zD, zD, zD]; omega
 | trans _ _ a b => rw [a, b]
theorem wsum_div {ws : List (Int × Int)} {g : Int} (h : ∀ w ∈ ws, g ∣ w.2) (f : Int → Int) : g * wsum (ws.map fun w => (w.1, w.2 / g)) f = wsum ws f := by
 induction ws with
 | nil => simp [wsum]
 | cons w ws ih =>
  rw [List.map_cons, zD, zD, Int.mul_add, ih fun x hx => h x (List.mem_cons_of_mem _ hx), ← Int.mul_assoc, Int.mul_ediv_cancel' (h w List.mem_cons_self)]
theorem wsum_lin {ws : List (Int × Int)} {n : Nat} (F : Nat → Int → Int) (x : Nat → Int) : wsum ws (fun i => sm n fun j => F j i * x j) = sm n fun j => x j * wsum ws (F j) := by
 induction ws with
 | nil => exact (yL fun j _ => by simp [wsum]).symm
 | cons w ws ih =>
  rw [zD, ih, ← yf]
  have := yI (n := n) (f := fun j => w.2 * (F j w.1 * x j)) (g := fun j => x j * wsum ws (F j)) 1 1
  simp only [Int.one_mul] at this
  rw [← this]
  refine zx fun j _ => ?_
  rw [zD]
  grind
theorem wsum_add {ws : List (Int × Int)} (f g : Int → Int) (c : Int) : wsum ws (fun i => f i + g i * c) = wsum ws f + wsum ws g * c := by
 induction ws with
 | nil => simp [wsum]
 | cons w ws ih => rw [zD, zD, zD, ih]; grind
theorem wsum_nonneg {ws : List (Int × Int)} {f : Int → Int} (h : ∀ w ∈ ws, 0 ≤ w.2 ∧ 0 ≤ f w.1) : 0 ≤ wsum ws f := by
 induction ws with
 | nil => exact Int.le_refl _
 | cons w ws ih =>
  rw [zD]
  have h1 := h w List.mem_cons_self
  have h2 := ih fun x hx => h x (List.mem_cons_of_mem _ hx)
  have := Int.mul_nonneg h1.1 h1.2
  omega
structure Bw (n m : Nat) (v : Nat → Nat → Int) (ws : List (Int × Int)) : Prop where
 rise : ws.Pairwise fun a b => a.1 < b.1
 rng : ∀ w ∈ ws, 0 ≤ w.1 ∧ w.1 < m
 pos : ∀ w ∈ ws, 1 ≤ w.2
 ne : ws ≠ []
 zer : ∀ j < n, wsum ws (fun i => v (n + i.toNat) j) = 0
 neg : wsum ws (fun i => v (n + i.toNat) n) ≤ -1
def Met (n m : Nat) (v : Nat → Nat → Int) (x : Nat → Int) (d : Int) : Prop := ∀ i < m, 0 ≤ (sm n fun j => v (n + i) j * x j) + v (n + i) n * d
theorem not_both {n m : Nat} {v : Nat → Nat → Int} {ws : List (Int × Int)} {x : Nat → Int} {d : Int} (hd : 1 ≤ d) (W : Bw n m v ws) (M : Met n m v x d) : False := by
 have h1 : 0 ≤ wsum ws (fun i => (sm n fun j => v (n + i.toNat) j * x j) + v (n + i.toNat) n * d) := wsum_nonneg fun w hw => ⟨by have := W.pos w hw; omega, M w.1.toNat (by have := W.rng w hw; omega)⟩
 rw [wsum_add, wsum_lin (fun j i => v (n + i.toNat) j) x, yL fun j hj => by rw [W.zer j hj, Int.mul_zero]] at h1
 have h2 := W.neg
 have h3 : wsum ws (fun i => v (n + i.toNat) n) * d ≤ -1 * d := Int.mul_le_mul_of_nonneg_right h2 (by omega)
 omega
section
variable {n m : Nat} {v : Nat → Nat → Int} {S : Tb}
theorem wT (p : Nat → Bool) (f : Nat → Int) : ∀ n, (((List.range n).filter p).map f).sum = sm n fun c => if p c = true then f c else 0
 | 0 => rfl
 | n + 1 => by
  rw [List.range_succ, List.filter_append, List.map_append, List.sum_append, wT p f n]
  show _ = sm n _ + _
  by_cases h : p n = true
  ·rw [List.filter_cons_of_pos h]; simp [h]
  ·rw [List.filter_cons_of_neg h]; simp [h]
def prs0 (n : Nat) (S : Tb) (r : Nat) : List (Int × Int) := ((S.ru r : Int) - n, S.D) :: ((List.range n).filter fun c => decide (S.M (S.ru r) c ≠ 0)).map fun c => ((S.cu c : Int) - n, - S.M (S.ru r) c)
structure Stuck (n m : Nat) (S : Tb) (r : Nat) : Prop where
 lo : low n m S r
 no : ∀ c < n, (S.cu c < n → S.M (S.ru r) c = 0) ∧ (n ≤ S.cu c → S.M (S.ru r) c ≤ 0)
theorem Stuck.col (I : Inv n m v S) {r : Nat} (K : Stuck n m S r) {c : Nat} (hc : c < n) (h : S.M (S.ru r) c ≠ 0) : n ≤ S.cu c ∧ S.M (S.ru r) c < 0 ∧ S.cu c < n + m := by
 have h1 := K.no c hc
 have h2 := I.cl c hc
 by_cases z : S.cu c < n
 ·exact absurd (h1.1 z) h
 ·have := h1.2 (by omega)
  omega
theorem prs_sum (I : Inv n m v S) {r : Nat} (K : Stuck n m S r) {j : Nat} (hj : j ≤ n) : wsum (prs0 n S r) (fun i => v (n + i.toNat) j) = S.M (S.ru r) n * un n j := by
 unfold prs0
 rw [zD]
 have hr := K.lo
 have e0 : n + ((S.ru r : Int) - n).toNat = S.ru r := by have := hr.2.1; omega
 dsimp only
 rw [e0]
 unfold wsum
 rw [List.map_map]
 have e1 : (((List.range n).filter fun c => decide (S.M (S.ru r) c ≠ 0)).map ((fun w : Int × Int => w.2 * v (n + w.1.toNat) j) ∘ fun c => ((S.cu c : Int) - n, - S.M (S.ru r) c))) = ((List.range n).filter fun c => decide (S.M (S.ru r) c ≠ 0)).map fun c => - S.M (S.ru r) c * v (S.cu c) j := List.map_congr_left fun c hc => by
  rw [List.mem_filter, List.mem_range] at hc
  have h1 := K.col I hc.1 (by simpa using hc.2)
  show - S.M (S.ru r) c * v (n + ((S.cu c : Int) - n).toNat) j = _
  rw [show n + ((S.cu c : Int) - n).toNat = S.cu c by omega]
 rw [e1, wT]
 have hA := I.A _ (I.rl r hr.1) j hj
 rw [hA]
 show sm n _ + S.M (S.ru r) n * wv n v S.cu n j + _ = _
 have e2 : (sm n fun c => if decide (S.M (S.ru r) c ≠ 0) = true then - S.M (S.ru r) c * v (S.cu c) j else 0) = sm n fun c => (-1) * (S.M (S.ru r) c * wv n v S.cu c j) := zx fun c hc => by
  unfold wv
  rw [if_pos hc]
  by_cases z : S.M (S.ru r) c = 0
  ·rw [if_neg (by simp [z]), z]; simp
  ·rw [if_pos (by simp [z])]; grind
 rw [e2, yf]
 have e3 : wv n v S.cu n j = un n j := by unfold wv; rw [if_neg (by omega)]
 rw [e3]
 grind
theorem vP (I : Inv n m v S) {r : Nat} (K : Stuck n m S r) {w : Int × Int} (h : w ∈ prs0 n S r) : (0 ≤ w.1 ∧ w.1 < m) ∧ 1 ≤ w.2 ∧ ((w.2 = S.D) ∨ ∃ c < n, w.2 = - S.M (S.ru r) c) := by
 unfold prs0 at h
 rcases List.mem_cons.mp h with rfl | h
 ·have h1 := K.lo.2.1
  have h2 := I.rl r K.lo.1
  have := I.D0
  exact ⟨⟨by dsimp only; omega, by dsimp only; omega⟩, by dsimp only; omega, .inl rfl⟩
 ·obtain ⟨c, hc, rfl⟩ := List.mem_map.mp h
  rw [List.mem_filter, List.mem_range] at hc
  have h1 := K.col I hc.1 (by simpa using hc.2)
  exact ⟨⟨by dsimp only; omega, by dsimp only; omega⟩, by dsimp only; omega, .inr ⟨c, hc.1, rfl⟩⟩
theorem prs_nodup (I : Inv n m v S) {r : Nat} (hr : r < m) : ((prs0 n S r).map (·.1)).Nodup := by
 unfold prs0
 rw [List.map_cons, List.map_map, List.nodup_cons]
 refine ⟨fun h => ?_, ?_⟩
 ·obtain ⟨c, hc, e⟩ := List.mem_map.mp h
  rw [List.mem_filter, List.mem_range] at hc
  have e : (S.cu c : Int) - n = (S.ru r : Int) - n := e
  exact I.rc r hr c hc.1 (by omega)
 ·have h0 := (List.nodup_range (n := n)).filter fun c => decide (S.M (S.ru r) c ≠ 0)
  refine List.pairwise_map.mpr (List.Pairwise.imp_of_mem (fun {a b} ha hb hne e => ?_) h0)
  rw [List.mem_filter, List.mem_range] at ha hb
  have e : (S.cu a : Int) - n = (S.cu b : Int) - n := e
  exact hne (I.ci a ha.1 b hb.1 (by omega))
theorem bears (I : Inv n m v S) {r : Nat} (K : Stuck n m S r) {g : Int} (hg : 0 < g) (hd : ∀ w ∈ prs0 n S r, g ∣ w.2) {us : List (Int × Int)} (hp : us.Perm (prs0 n S r)) (hs : us.Pairwise fun a b => a.1 < b.1) : Bw n m v (us.map fun w => (w.1, w.2 / g)) := by
 have hm : ∀ w ∈ us, w ∈ prs0 n S r := fun w hw => hp.mem_iff.mp hw
 have hsum : ∀ j ≤ n, g * wsum (us.map fun w => (w.1, w.2 / g)) (fun i => v (n + i.toNat) j) = S.M (S.ru r) n * un n j := fun j hj => by
  rw [wsum_div fun w hw => hd w (hm w hw), wsum_perm hp, prs_sum I K hj]
 refine ⟨?_, fun w hw => ?_, fun w hw => ?_, ?_, fun j hj => ?_, ?_⟩
 ·rw [List.pairwise_map]; exact hs
 ·obtain ⟨u, hu, rfl⟩ := List.mem_map.mp hw
  exact (vP I K (hm u hu)).1
 ·obtain ⟨u, hu, rfl⟩ := List.mem_map.mp hw
  have h1 := (vP I K (hm u hu)).2.1
  obtain ⟨q, hq⟩ := hd u (hm u hu)
  show 1 ≤ u.2 / g
  rw [hq, Int.mul_ediv_cancel_left _ (by omega)]
  rcases Int.lt_or_le 0 q with z | z
  ·omega
  ·have : g * q ≤ 0 := Int.mul_nonpos_of_nonneg_of_nonpos (by omega) z
   omega
 ·intro z
  have e : us = [] := List.map_eq_nil_iff.mp z
  rw [e] at hp
  have := hp.length_eq
  simp [prs0] at this
 ·have := hsum j (by omega)
  unfold un at this
  rw [if_neg (by omega), Int.mul_zero] at this
  rcases Int.mul_eq_zero.mp this with z | z
  ·omega
  ·exact z
 ·have := hsum n (Nat.le_refl _)
  unfold un at this
  rw [if_pos rfl, Int.mul_one] at this
  have h1 := K.lo.2.2
  rw [← this] at h1
  rcases Int.lt_or_le (wsum (us.map fun w => (w.1, w.2 / g)) (fun i => v (n + i.toNat) n)) 0 with z | z
  ·omega
  ·have := Int.mul_nonneg (Int.le_of_lt hg) z
   omega
theorem meets (I : Inv n m v S) (h : ∀ r, ¬ low n m S r) {g : Int} (hg : 0 < g) (hD : g ∣ S.D) (hx : ∀ j < n, g ∣ S.M j n) : 1 ≤ S.D / g ∧ Met n m v (fun j => S.M j n / g) (S.D / g) := by
 have hD0 := I.D0
 refine ⟨?_, fun i hi => ?_⟩
 ·obtain ⟨q, hq⟩ := hD
  rw [hq, Int.mul_ediv_cancel_left _ (by omega)]
  rcases Int.lt_or_le 0 q with z | z
  ·omega
  ·have : g * q ≤ 0 := Int.mul_nonpos_of_nonneg_of_nonpos (by omega) z
   omega
 ·have h0 : 0 ≤ S.M (n + i) n := by
   rcases I.al (n + i) (by omega) with ⟨r, hr, e⟩ | ⟨c, hc, e⟩
   ·have := h r
    unfold low at this
    rw [e] at this
    omega
   ·rw [← e, I.mc c hc n (Nat.le_refl _), if_neg (by omega)]; exact Int.le_refl _
  have hB := I.B (n + i) (by omega) n (Nat.le_refl _)
  rw [if_pos rfl] at hB
  have e1 : g * ((sm n fun j => v (n + i) j * (S.M j n / g)) + v (n + i) n * (S.D / g)) = S.M (n + i) n := by
   rw [Int.mul_add, ← yf, hB]
   congr 1
   ·refine zx fun j hj => ?_
    have := Int.mul_ediv_cancel' (hx j hj)
    grind
   ·have := Int.mul_ediv_cancel' hD
    grind
  rcases Int.lt_or_le ((sm n fun j => v (n + i) j * (S.M j n / g)) + v (n + i) n * (S.D / g)) 0 with z | z
  ·have := Int.mul_neg_of_pos_of_neg hg z
   omega
  ·exact z
end
end WG
namespace L2
open PySem PySem.Spec PyProof.Rows G2
section
variable {S : Hp → Hp → Prop} {D : Addr} {te : TE} {Q : VK} {ρ : St} {H : Hp} {K : W.Frag} {a : Addr} {rs : List Addr}
theorem Yn (Ok : Nat → V → Hp → Prop) (kp : Kp S D H) (mono : ∀ {j y H1 H2}, TK H1 H2 → Ok j y H1 → Ok j y H2) (tk : ∀ {H1 H2}, S H H1 → S H1 H2 → TK H1 H2) (hn : rs.length ≤ 1000) (src : ∀ H', S H H' → SqL K H' a (rs.map V.ref))
  (step : ∀ i r H', rs[i]? = some r → S H H' → ∃ u v, H' r = some (.tup [u, v]) ∧ ∀ (R : V → Hp → Prop), (∀ y H4, S H' H4 → Ok i y H4 → R y H4) → te (some u :: some v :: ρ) H' R)
  (q : ∀ ys H', GP S Ok H rs.length ys H' → H' D = some (.lst ys) → Q (.ref D) H') : CGo (Itl K a) D (gTup K 2 (z0 (zB 0) (z0 (zB 1) gNil))) tAll te Q (none :: none :: ρ) H := by
 refine ⟨fun i m τ ys H' => m = rs.length - i ∧ i ≤ rs.length ∧ (∃ tv tw, τ = tv :: tw :: ρ) ∧ GP S Ok H i ys H' ∧ H' D = some (.lst ys), ⟨rs.length, by omega, Nat.zero_le _, ⟨_, _, rfl⟩, ⟨kp.refl, rfl, fun j y h => by simp at h⟩, zf⟩, ?_⟩
 rintro i m τ ys H' ⟨rfl, hi, ⟨tv, tw, rfl⟩, g, hD⟩
 refine ⟨hD, ?_⟩
 have sq := src H' g.1
 by_cases hlt : i < rs.length
 ·refine .inr ⟨⟨_, .ref rs[i], sq, by simp [hlt]⟩, ?_⟩
  rintro v H'' ⟨rfl, hv⟩
  have hv' := hv _ sq
  rw [List.getElem?_map, List.getElem?_eq_getElem hlt] at hv'
  cases hv'
  obtain ⟨u, v, e, h⟩ := step i rs[i] _ (List.getElem?_eq_getElem hlt) g.1
  refine ⟨rs[i], [u, v], rfl, SqT.of e, rfl, u, [v], rfl, v, [], rfl, rfl, ?_⟩
  refine yc (iteT (h _ fun y H4 k hy => ⟨kp.at' g.1 k hD, zA (by have := g.2.1; omega), rs.length - (i + 1), by omega, rfl, hlt, ⟨_, _, rfl⟩, xQ (Ok := Ok) kp mono tk g k (kp.at' g.1 k hD) hy, zf⟩))
 ·have e : i = rs.length := by omega
  subst e
  exact .inl ⟨⟨_, sq, by simp⟩, q ys _ g hD⟩
end
theorem Zt {K : W.Frag} {a b : Addr} {xs zs : List V} (hz : xs.length ≤ zs.length) {g : TG} {tb : TS} {D : Ends} {σ : St} {H : Hp} (Pv : Nat → St → Hp → Prop) (h0 : Pv 0 σ H) (hl : ∀ i σ H, Pv i σ H → SqL K H a xs ∧ SqL K H b zs)
  (hs : ∀ (i : Nat) (x y : V) σ H p, xs[i]? = some x → zs[i]? = some y → Pv i σ H → H p = none → g (.ref p) σ (upd H p (.tup [x, y])) fun σ2 H2 => tb { D with nx := Pv (i + 1), ct := Pv (i + 1), bk := D.nx } σ2 H2) (hd : ∀ σ H, Pv xs.length σ H → D.nx σ H) :
  ForJ (Itzl K a b) g tb D σ H := by
 refine ⟨fun i m σ H => m = xs.length - i ∧ i ≤ xs.length ∧ Pv i σ H, ⟨xs.length, by simp, Nat.zero_le _, h0⟩, ?_⟩
 rintro i m σ H ⟨rfl, hi, p⟩
 have qa := hl i σ H p
 by_cases hlt : i < xs.length
 ·have hlz : i < zs.length := by omega
  refine .inr ⟨⟨xs, zs, xs[i], zs[i], qa.1, qa.2, by simp [hlt], by simp [hlz]⟩, Pv (i + 1), fun σ' H' p' => ⟨xs.length - (i + 1), by omega, rfl, hlt, p'⟩, fun v H' yv => ?_⟩
  obtain ⟨q, x, y, rfl, hq, rfl, ex, ey⟩ := yv
  exact hs i x y σ H q (ex xs qa.1) (ey zs qa.2) p hq
 ·have e : i = xs.length := by omega
  subst e
  exact .inl ⟨⟨xs, zs, qa.1, qa.2, .inl (Nat.le_refl _)⟩, hd σ H p⟩
end L2
namespace PySem.W
open PySem PySem.Calls PyProof.Rows
def Sat {α : Type} (lt : Nat → Nat → Bool) (n : Nat) : KasT α → (α → Prop) → Prop
 | .ret a, P => P a
 | .ask i j k, P => i < n ∧ j < n ∧ Sat lt n (k (lt i j)) P
theorem Sat.bind {α β : Type} {lt : Nat → Nat → Bool} {n : Nat} {P : α → Prop} {Q : β → Prop} {f : α → KasT β} (hf : ∀ a, P a → Sat lt n (f a) Q) : ∀ {t : KasT α}, Sat lt n t P → Sat lt n (t.bind f) Q
 | .ret a, h => hf a h
 | .ask i j k, h => ⟨h.1, h.2.1, Sat.bind hf h.2.2⟩
theorem Sat.ok {α : Type} {lt : Nat → Nat → Bool} {n : Nat} {P : α → Prop} : ∀ {t : KasT α}, Sat lt n t P → t.okFor lt n = true ∧ P (t.eval lt)
 | .ret a, h => ⟨rfl, h⟩
 | .ask i j k, h => by
  obtain ⟨h1, h2⟩ := Sat.ok h.2.2
  refine ⟨?_, h2⟩
  unfold KasT.okFor
  rw [decide_eq_true h.1, decide_eq_true h.2.1, h1]
  rfl
structure Lin (lt : Nat → Nat → Bool) (n : Nat) : Prop where
 irr : ∀ i, i < n → lt i i = false
 tr : ∀ i j k, i < n → j < n → k < n → lt i j = true → lt j k = true → lt i k = true
 tot : ∀ i j, i < n → j < n → i ≠ j → lt i j = false → lt j i = true
structure Pm (n : Nat) (p : Array Nat) : Prop where
 pm : p.toList.Perm (List.range n)
section
variable {lt : Nat → Nat → Bool} {n : Nat} {p : Array Nat}
theorem Pm.size (h : Pm n p) : p.size = n := by have := h.pm.length_eq; simpa using this
theorem Pm.bd (h : Pm n p) {i : Nat} (hi : i < n) : p.getD i 0 < n := by
 have hs := h.size
 have hi' : i < p.toList.length := by simpa [hs] using hi
 have : p.getD i 0 = p.toList[i] := by simp [Array.getD_eq_getD_getElem?, hs, hi]
 rw [this]
 exact List.mem_range.mp (h.pm.mem_iff.mp (List.getElem_mem hi'))
theorem Pm.ne (h : Pm n p) {i j : Nat} (hi : i < n) (hj : j < n) (hne : i ≠ j) : p.getD i 0 ≠ p.getD j 0 := by
 have hs := h.size
 have nd : p.toList.Nodup := h.pm.nodup_iff.mpr List.nodup_range
 have hi' : i < p.toList.length := by simpa [hs] using hi
 have hj' : j < p.toList.length := by simpa [hs] using hj
 have e1 : p.getD i 0 = p.toList[i] := by simp [Array.getD_eq_getD_getElem?, hs, hi]
 have e2 : p.getD j 0 = p.toList[j] := by simp [Array.getD_eq_getD_getElem?, hs, hj]
 rw [e1, e2]
 exact fun e => hne ((List.getElem_inj nd).mp e)
def So (lt : Nat → Nat → Bool) (p : Array Nat) (k : Nat) : Prop := ∀ i j, i < j → j < k → lt (p.getD i 0) (p.getD j 0) = true
def De (lt : Nat → Nat → Bool) (p : Array Nat) (k : Nat) : Prop := ∀ i j, i < j → j < k → lt (p.getD j 0) (p.getD i 0) = true
theorem So.one : So lt p 1 := fun i j h1 h2 => by omega
theorem So.step (L : Lin lt n) (h : Pm n p) {k : Nat} (h1 : 1 ≤ k) (hk : k < n) (s : So lt p k) (e : lt (p.getD k 0) (p.getD (k - 1) 0) = false) : So lt p (k + 1) := fun i j hij hj => by
 rcases Nat.lt_or_ge j k with w | w
 ·exact s i j hij w
 ·obtain rfl : j = k := by omega
  have t : lt (p.getD (j - 1) 0) (p.getD j 0) = true := L.tot _ _ (h.bd hk) (h.bd (by omega)) (h.ne hk (by omega) (by omega)) e
  by_cases hi : i = j - 1
  ·rw [hi]; exact t
  ·exact L.tr _ _ _ (h.bd (by omega)) (h.bd (by omega)) (h.bd hk) (s i (j - 1) (by omega) (by omega)) t
theorem De.step (L : Lin lt n) (h : Pm n p) {k : Nat} (h1 : 1 ≤ k) (hk : k < n) (s : De lt p k) (t : lt (p.getD k 0) (p.getD (k - 1) 0) = true) : De lt p (k + 1) := fun i j hij hj => by
 rcases Nat.lt_or_ge j k with w | w
 ·exact s i j hij w
 ·obtain rfl : j = k := by omega
  by_cases hi : i = j - 1
  ·rw [hi]; exact t
  ·exact L.tr _ _ _ (h.bd hk) (h.bd (by omega)) (h.bd (by omega)) t (s i (j - 1) (by omega) (by omega))
theorem v9 (L : Lin lt n) (h : Pm n p) : ∀ (f k : Nat), 1 ≤ k → k + f ≤ n → So lt p k → Sat lt n (kas_asc p f k) fun m => k ≤ m ∧ m ≤ k + f ∧ So lt p m ∧ (m = k + f ∨ lt (p.getD m 0) (p.getD (m - 1) 0) = true)
 | 0, k, _, _, s => ⟨Nat.le_refl _, Nat.le_refl _, s, .inl rfl⟩
 | f + 1, k, h1, h2, s => by
  refine ⟨h.bd (by omega), h.bd (by omega), ?_⟩
  cases hc : lt (p.getD k 0) (p.getD (k - 1) 0) with
  | true => exact ⟨Nat.le_refl _, by omega, s, .inr hc⟩
  | false =>
   have := v9 L h f (k + 1) (by omega) (by omega) (So.step L h h1 (by omega) s hc)
   show Sat lt n (kas_asc p f (k + 1)) _
   have key : ∀ {t : KasT Nat} {P Q : Nat → Prop}, Sat lt n t P → (∀ a, P a → Q a) → Sat lt n t Q := by
    intro t P Q
    induction t with
    | ret a => exact fun x y => y a x
    | ask i j k ih => exact fun x y => ⟨x.1, x.2.1, ih _ x.2.2 y⟩
   exact key this fun m ⟨a1, a2, a3, a4⟩ => ⟨by omega, by omega, a3, a4.imp (fun e => by omega) id⟩
theorem Sat.mono {α : Type} {P Q : α → Prop} : ∀ {t : KasT α}, Sat lt n t P → (∀ a, P a → Q a) → Sat lt n t Q
 | .ret a, x, y => y a x
 | .ask i j k, x, y => ⟨x.1, x.2.1, Sat.mono x.2.2 y⟩
theorem Zx (L : Lin lt n) (h : Pm n p) : ∀ (f k : Nat), 2 ≤ k → k + f ≤ n → De lt p k → Sat lt n (kas_desc f p k 0) fun r => r.1 = p ∧ r.2.2 = 0 ∧ k ≤ r.2.1 ∧ r.2.1 ≤ n ∧ De lt p r.2.1
 | 0, k, _, h2, s => ⟨rfl, rfl, Nat.le_refl _, by show k ≤ n; omega, s⟩
 | f + 1, k, h1, h2, s => by
  refine ⟨h.bd (by omega), h.bd (by omega), ?_⟩
  cases hc : lt (p.getD k 0) (p.getD (k - 1) 0) with
  | true =>
   exact (Zx L h f (k + 1) (by omega) (by omega) (De.step L h (by omega) (by omega) s hc)).mono fun r ⟨a1, a2, a3, a4, a5⟩ => ⟨a1, a2, by omega, a4, a5⟩
  | false =>
   refine ⟨h.bd (by omega), h.bd (by omega), ?_⟩
   have t : lt (p.getD (k - 1) 0) (p.getD k 0) = true := L.tot _ _ (h.bd (by omega)) (h.bd (by omega)) (h.ne (by omega) (by omega) (by omega)) hc
   rw [t]
   exact ⟨rfl, rfl, Nat.le_refl _, by show k ≤ n; omega, s⟩
theorem rev_pm (h : Pm n p) (i j : Nat) : Pm n (kas_rev p i j) := ⟨(Array.perm_iff_toList_perm.mp (mirror_perm p i j ((j - i) / 2))).trans h.pm⟩
theorem YG (h : Pm n p) {m k : Nat} (hm : m ≤ n) (hk : k < m) : (kas_rev p 0 m).getD k 0 = p.getD (m - 1 - k) 0 := by
 have hs := h.size
 have := getElem?_mirror_all (xs := p) (i := 0) (j := m) (by omega) k
 unfold kas_rev
 rw [Array.getD_eq_getD_getElem?, this, if_pos (by omega), Array.getD_eq_getD_getElem?, show 0 + m - 1 - k = m - 1 - k by omega]
theorem De.rev (h : Pm n p) {m : Nat} (hm : m ≤ n) (d : De lt p m) : So lt (kas_rev p 0 m) m := fun i j hij hj => by
 rw [YG h hm (by omega), YG h hm hj]
 exact d _ _ (by omega) (by omega)
theorem count_sat (L : Lin lt n) (h : Pm n p) (h2 : 2 ≤ n) : Sat lt n (kas_count n p) fun r => 1 ≤ r.1 ∧ r.1 ≤ n ∧ Pm n r.2 ∧ So lt r.2 r.1 := by
 unfold kas_count
 refine Sat.bind (fun m ⟨a1, a2, a3, a4⟩ => ?_) (v9 L h (n - 1) 1 (Nat.le_refl _) (by omega) So.one)
 by_cases e : m = n
 ·rw [if_pos (by simpa using e)]
  exact ⟨a1, by show m ≤ n; omega, h, a3⟩
 rw [if_neg (by simpa using e)]
 by_cases e1 : m > 1
 ·rw [if_pos e1]
  refine ⟨h.bd (by omega), h.bd (by omega), ?_⟩
  rw [a3 0 (m - 1) (by omega) (by omega)]
  exact ⟨a1, by show m ≤ n; omega, h, a3⟩
 rw [if_neg e1]
 obtain rfl : m = 1 := by omega
 have t : lt (p.getD 1 0) (p.getD 0 0) = true := a4.resolve_left (by omega)
 unfold kas_descPart
 refine Sat.bind (fun r ⟨b1, b2, b3, b4, b5⟩ => ?_) (Zx L h (n - (1 + 1)) 2 (Nat.le_refl _) (by omega) fun i j hij hj => by
  obtain ⟨rfl, rfl⟩ : i = 0 ∧ j = 1 := by omega
  exact t)
 rw [if_neg (by omega), b1]
 unfold kas_tail3
 have hr := rev_pm h 0 r.2.1
 refine Sat.bind (fun m' ⟨c1, c2, c3, _⟩ => ?_) (v9 L hr (n - r.2.1) r.2.1 (by omega) (by omega) (De.rev h b4 b5))
 exact ⟨by show 1 ≤ m'; omega, by show m' ≤ n; omega, hr, c3⟩
theorem x5 (L : Lin lt n) (h : Pm n p) {k : Nat} (hk : k < n) (s : So lt p k) : ∀ (f l r : Nat), l ≤ r → r ≤ k → r - l ≤ f → (∀ i, i < l → lt (p.getD i 0) (p.getD k 0) = true) → (∀ i, r ≤ i → i < k → lt (p.getD k 0) (p.getD i 0) = true) →
  Sat lt n (kas_place p k f l r) fun m => m ≤ k ∧ (∀ i, i < m → lt (p.getD i 0) (p.getD k 0) = true) ∧ ∀ i, m ≤ i → i < k → lt (p.getD k 0) (p.getD i 0) = true
 | 0, l, r, h1, h2, h3, a, b => ⟨by show l ≤ k; omega, a, fun i hi hk' => b i (by omega) hk'⟩
 | f + 1, l, r, h1, h2, h3, a, b => by
  unfold kas_place
  by_cases e : l ≥ r
  ·rw [if_pos e]
   exact ⟨by omega, a, fun i hi hk' => b i (by omega) hk'⟩
  rw [if_neg e]
  have hm : (l + r) / 2 < r := by omega
  refine ⟨h.bd hk, h.bd (by omega), ?_⟩
  cases hc : lt (p.getD k 0) (p.getD ((l + r) / 2) 0) with
  | true =>
   refine x5 L h hk s f l ((l + r) / 2) (by omega) (by omega) (by omega) a fun i hi hk' => ?_
   by_cases ei : i = (l + r) / 2
   ·rw [ei]; exact hc
   ·exact L.tr _ _ _ (h.bd hk) (h.bd (by omega)) (h.bd (by omega)) hc (s _ i (by omega) hk')
  | false =>
   have t := L.tot _ _ (h.bd hk) (h.bd (by omega)) (h.ne hk (by omega) (by omega)) hc
   refine x5 L h hk s f ((l + r) / 2 + 1) r (by omega) h2 (by omega) (fun i hi => ?_) b
   by_cases ei : i = (l + r) / 2
   ·rw [ei]; exact t
   ·exact L.tr _ _ _ (h.bd (by omega)) (h.bd (by omega)) (h.bd hk) (s i _ (by omega) (by omega)) t
theorem bub_pm (h : Pm n p) (k d : Nat) : Pm n (bubble p k d) := ⟨(Array.perm_iff_toList_perm.mp (bubble_perm p k d)).trans h.pm⟩
theorem Y9 (h : Pm n p) {k l i : Nat} (hk : k < n) (hl : l ≤ k) : (bubble p k (k - l)).getD i 0 = if i = l then p.getD k 0 else if l < i ∧ i ≤ k then p.getD (i - 1) 0 else p.getD i 0 := by
 have hs := h.size
 have := getElem?_bubble (xs := p) (src := k) (by omega) (k - l) (by omega) i
 rw [Array.getD_eq_getD_getElem?, this, show k - (k - l) = l by omega]
 split
 ·rw [Array.getD_eq_getD_getElem?]
 ·split
  ·rw [Array.getD_eq_getD_getElem?]
  ·rw [Array.getD_eq_getD_getElem?]
theorem Yu (L : Lin lt n) : ∀ (f k : Nat) (p : Array Nat), Pm n p → k + f = n → So lt p k → Sat lt n (kas_bin f p k) fun q => Pm n q ∧ So lt q n
 | 0, k, p, h, e, s => ⟨h, by rw [← e]; exact s⟩
 | f + 1, k, p, h, e, s => by
  unfold kas_bin
  refine Sat.bind (fun l ⟨a1, a2, a3⟩ => ?_) (x5 L h (by omega) s k 0 k (Nat.zero_le _) (Nat.le_refl _) (by omega) (fun i hi => by omega) fun i h1 h2 => by omega)
  refine Yu L f (k + 1) _ (bub_pm h _ _) (by omega) fun i j hij hj => ?_
  rw [Y9 h (by omega) a1, Y9 h (by omega) a1]
  by_cases ei : i = l
  ·subst ei
   rw [if_pos rfl, if_neg (by omega), if_pos (by omega)]
   exact a3 _ (by omega) (by omega)
  ·rw [if_neg ei]
   by_cases ej : j = l
   ·subst ej
    rw [if_pos rfl, if_neg (by omega)]
    exact a2 i hij
   ·rw [if_neg ej]
    by_cases hi : l < i ∧ i ≤ k
    ·rw [if_pos hi, if_pos (by omega)]
     exact s _ _ (by omega) (by omega)
    ·rw [if_neg hi]
     by_cases hj' : l < j ∧ j ≤ k
     ·rw [if_pos hj']
      exact s _ _ (by omega) (by omega)
     ·rw [if_neg hj']
      exact s _ _ hij (by omega)
theorem rng_pm (n : Nat) : Pm n (List.toArray (List.range n)) := ⟨by simp⟩
theorem sort_sat (L : Lin lt n) (h2 : 2 ≤ n) : Sat lt n (kas_sort n) fun q => Pm n q ∧ So lt q n := by
 unfold kas_sort
 refine Sat.bind (fun r ⟨a1, a2, a3, a4⟩ => ?_) (count_sat L (rng_pm n) h2)
 by_cases e : r.1 < n
 ·rw [if_pos e]
  exact Yu L _ _ _ a3 (by omega) (by rw [Nat.max_eq_left a1]; exact a4)
 ·rw [if_neg e]
  exact ⟨a3, by rw [show n = r.1 by omega]; exact a4⟩
end
end PySem.W
namespace L2
open PySem PySem.Spec PyProof.Rows
end L2
namespace PySem
open Sem (wp)
section
variable {prog : Program} {w : World} {A : Around} {E : Value → Shared → Prop} {s : Shared}
open PySem.W in
open PySem.W in
end
end PySem
namespace L2
open PySem PySem.Spec PyProof.Rows
end L2
namespace PySem.W
open PySem PySem.Calls PyProof.Rows
section
variable {prog : Program} {w : World} {A : Around} {E : Value → Shared → Prop} {s : Shared}
abbrev ltR (keys : List (List Int)) : Nat → Nat → Bool := fun i j => lexI (decide ((keys.getD i []).length < (keys.getD j []).length)) (keys.getD i []) (keys.getD j [])
theorem sorted_col {u : Value} {C : Shared → Prop} {vs : List Value} {keys : List (List Int)} {Q : Value → Shared → Prop} (hcol : ∀ (A' : Around) (E' : Value → Shared → Prop) (R : List Value → Shared → Prop), A'.handled = A.handled → (∀ s1, C s1 → R vs s1) → wpAny (model prog w) A' (collect u) R E' s)
  (hk : vs.length = keys.length) (h64 : vs.length < 64) (hlin : 2 ≤ vs.length → Lin (ltR keys) vs.length)
  (hrow : ∀ s1, C s1 → ∀ (i : Nat) (v : Value) (ks : List Int), vs[i]? = some v → keys[i]? = some ks → ks ≠ [] ∧ ∃ a o its n, v = .ref a ∧ s1.heap.get? a = some o ∧ o.cls = .type "tuple" ∧ o.data = .seq its n ∧ Nums its.toList ks)
  (h : ∀ s1, C s1 → ∀ D h' c (p : List Nat), s1.heap.objs.size ≤ D → (∀ b o, s1.heap.get? b = some o → h'.get? b = some o) → p.Perm (List.range vs.length) → (∀ i j, i < j → j < vs.length → ltR keys (p.getD i 0) (p.getD j 0) = true) → h'.get? D = some (seqObj "list" (p.map fun i => vs.getD i Value.none).toArray c) → Q (.ref D) { s1 with heap := h' }) :
  wpAny (model prog w) A (call (.builtin "sorted") [u]) Q E s := by
 refine Calls.call_function_entry kind_sorted plain_sorted entry_sorted (args_sorted1 _) ?_
 unfold Builtin.«sorted»
 refine wpAny_bind (m := checkCount "sorted" 1 1 _) (wpAny_pure ?_)
 refine wpAny_bind (hcol _ _ _ rfl fun s1 hs1 => ?_)
 replace hrow := hrow s1 hs1
 replace h := h s1 hs1
 refine wpAny_bind (wpAny_newList ?_ (by rw [sizeLine_eq]; omega))
 have keep1 : ∀ b o, s1.heap.get? b = some o → (s1.heap.push (seqObj "list" vs.toArray 0)).get? b = some o := fun b o q => Heap.get?_push_of_some _ q
 have hoL : (s1.heap.push (seqObj "list" vs.toArray 0)).get? s1.heap.objs.size = some (seqObj "list" vs.toArray 0) := Heap.get?_push_size _ rfl
 show wpAny _ _ _ _ _ { s1 with heap := s1.heap.push (seqObj "list" vs.toArray 0) }
 generalize s1.heap.push (seqObj "list" vs.toArray 0) = g1 at keep1 hoL ⊢
 have hDlt : s1.heap.objs.size < g1.objs.size := Heap.lt_size hoL
 refine wpAny_bind (wpAny_holding (wpAny_call_entry slot_list_sort ⟨_, hoL, rfl⟩ entry_list_sort ?body (args_list_sort _)))
 case body =>
  rw [list_sort_plain]
  refine wpAny_bind (listItems_at hoL rfl ?_)
  refine wpAny_bind (listUpdate_at hoL rfl ?_ (by rw [List.size_toArray, sizeLine_eq]; omega) (Nat.zero_le _))
  obtain ⟨e1, ho1⟩ : ∃ e1, (g1.update s1.heap.objs.size (Obj.mapSeq fun _ => (#[] : Array Value))).get? s1.heap.objs.size = some (seqObj "list" #[] e1) := ⟨_, get?_update_seq hoL fun _ => #[]⟩
  have keep2 : ∀ b o, s1.heap.get? b = some o → (g1.update s1.heap.objs.size (Obj.mapSeq fun _ => (#[] : Array Value))).get? b = some o := fun b o q => by
   rw [Heap.get?_update_ne _ _ _ _ (Nat.ne_of_lt (Heap.lt_size q))]
   exact keep1 b o q
  show wpAny _ _ _ _ _ { s1 with heap := g1.update s1.heap.objs.size (Obj.mapSeq fun _ => (#[] : Array Value)) }
  generalize g1.update s1.heap.objs.size (Obj.mapSeq fun _ => (#[] : Array Value)) = g2 at keep2 ho1 ⊢
  refine wpAny_bind (seqEpoch_at ho1 rfl ?_)
  refine wpAny_bind (wpAny_newTuple ?_ (by show vs.length ≤ _; rw [sizeLine_eq]; omega))
  refine wpAny_bind (wpAny_newList ?_ (Nat.zero_le _))
  refine wpAny_holding ?_
  show wpAny (model prog w) _ _ _ _ { s1 with heap := (g2.push (seqObj "tuple" vs.toArray 0)).push (seqObj "list" #[] 0) }
  dsimp only
  by_cases hn2 : vs.toArray.size < 2
  ·have ho3 : ((g2.push (seqObj "tuple" vs.toArray 0)).push (seqObj "list" #[] 0)).get? s1.heap.objs.size = some (seqObj "list" #[] e1) := Heap.get?_push_of_some _ (Heap.get?_push_of_some _ ho1)
   have keep3 : ∀ b o, s1.heap.get? b = some o → ((g2.push (seqObj "tuple" vs.toArray 0)).push (seqObj "list" #[] 0)).get? b = some o := fun b o q => Heap.get?_push_of_some _ (Heap.get?_push_of_some _ (keep2 b o q))
   generalize (g2.push (seqObj "tuple" vs.toArray 0)).push (seqObj "list" #[] 0) = g3 at keep3 ho3 ⊢
   rw [if_pos hn2, if_pos hn2]
   refine wpAny_bind (wpAny_pure ?_)
   refine wpAny_bind (wpAny_pure (a := ((), SortSt.mk' general' (vs.toArray.zip vs.toArray) #[] 7 none)) ?_)
   dsimp only
   have hl2 : vs.length < 2 := by rw [List.size_toArray] at hn2; exact hn2
   have hout : Array.map (fun x => x.snd) (arrOf (SortSt.mk' general' (vs.toArray.zip vs.toArray) #[] 7 none)) = (List.toArray ((List.range vs.length).map fun i => vs.getD i Value.none)) := by
    show Array.map (fun x => x.snd) (vs.toArray.zip vs.toArray) = _
    match vs, hl2 with
    | [], _ => simp
    | [v], _ => simp
   rw [hout]
   obtain ⟨c2, hc2⟩ : ∃ c2, (g3.update s1.heap.objs.size (Obj.mapSeq fun _ => List.toArray ((List.range vs.length).map fun i => vs.getD i Value.none))).get? s1.heap.objs.size = some (seqObj "list" (List.toArray ((List.range vs.length).map fun i => vs.getD i Value.none)) c2) := ⟨_, get?_update_seq ho3 fun _ => List.toArray ((List.range vs.length).map fun i => vs.getD i Value.none)⟩
   refine wpAny_bind (seqEpoch_at ho3 rfl ?_)
   refine wpAny_bind (listUpdate_at ho3 rfl ?_ (Nat.zero_le _) (by rw [List.size_toArray, List.length_map, List.length_range, sizeLine_eq]; omega))
   simp only [bne_self_eq_false, Bool.false_eq_true, if_false]
   refine wpAny_pure ⟨_, rfl, wpAny_pure ⟨_, rfl, h _ _ c2 (List.range vs.length) (Nat.le_refl _) (fun b o q => ?_) (List.Perm.refl _) (fun i j hij hj => by omega) hc2⟩⟩
   rw [Heap.get?_update_ne _ _ _ _ (Nat.ne_of_lt (Heap.lt_size q))]
   exact keep3 b o q
  rw [if_neg hn2, if_neg hn2]
  have h2 : 2 ≤ vs.length := by rw [List.size_toArray] at hn2; omega
  have L2 := sort_sat (hlin h2) h2
  have hok := L2.ok.1
  have hso := L2.ok.2
  have ho3 : ((g2.push (seqObj "tuple" vs.toArray 0)).push (seqObj "list" #[] 0)).get? s1.heap.objs.size = some (seqObj "list" #[] e1) := Heap.get?_push_of_some _ (Heap.get?_push_of_some _ ho1)
  have keep3 : ∀ b o, s1.heap.get? b = some o → ((g2.push (seqObj "tuple" vs.toArray 0)).push (seqObj "list" #[] 0)).get? b = some o := fun b o q => Heap.get?_push_of_some _ (Heap.get?_push_of_some _ (keep2 b o q))
  generalize (g2.push (seqObj "tuple" vs.toArray 0)).push (seqObj "list" #[] 0) = g3 at keep3 ho3 ⊢
  have rows : ∀ (i : Nat), i < vs.length → ∃ a o its n, vs.getD i Value.none = .ref a ∧ g3.get? a = some o ∧ o.cls = .type "tuple" ∧ o.data = .seq its n ∧ Nums its.toList (keys.getD i []) ∧ keys.getD i [] ≠ [] := fun i hi => by
   have hi' : i < keys.length := by omega
   obtain ⟨h0, a, o, its, n, e1, e2, e3, e4, e5⟩ := hrow i vs[i] keys[i] (by simp [hi]) (by simp [hi'])
   refine ⟨a, o, its, n, by simp [hi, e1], keep3 _ _ e2, e3, e4, by simpa [hi'] using e5, by simpa [hi'] using h0⟩
  have firsts : ∀ (us : List Value), (∀ v ∈ us, v ∈ vs) → ∃ fs, KatTups g3 us fs ∧ fs.length = us.length ∧ ∀ f ∈ fs, ∃ i t, f = Value.int i t := by
   intro us
   induction us with
   | nil => exact fun _ => ⟨[], trivial, rfl, fun f h => nomatch h⟩
   | cons v us ih =>
    intro hm
    obtain ⟨fs, t1, t2, t3⟩ := ih fun x hx => hm x (List.mem_cons_of_mem _ hx)
    obtain ⟨i, hi, rfl⟩ := List.getElem_of_mem (hm v List.mem_cons_self)
    obtain ⟨a, o, its, n, e1, e2, e3, e4, e5, e6⟩ := rows i hi
    have ev : vs[i] = .ref a := by simpa [hi] using e1
    rw [ev]
    generalize keys.getD i [] = kk at e5 e6
    cases its with | mk il =>
    cases e5 with
    | nil => exact absurd rfl e6
    | @cons j t us' ns' hh => exact ⟨.int j t :: fs, KatTups.cons e2 e3 e4 rfl t1, by rw [List.length_cons, t2]; rfl, fun f hf => by
      rcases List.mem_cons.mp hf with rfl | hf
      ·exact ⟨_, _, rfl⟩
      ·exact t3 f hf⟩
  obtain ⟨fs, t1, t2, t3⟩ := firsts vs fun _ h => h
  refine wpAny_bind (kat_kind (T := .type "int") t1 (by omega) (fun f hf => by
   obtain ⟨i, t, rfl⟩ := t3 f hf
   exact Looks.of_pure rfl) (by decide) ?_)
  have hcmp : ∀ i j C, C (lexI (decide ((keys.getD i []).length < (keys.getD j []).length)) (keys.getD i []) (keys.getD j [])) ({ s1 with heap := g3 } : Shared) → i < vs.length → j < vs.length → kas_ask prog w A.in1.in1 (tuples' (Value.type "int" != Value.type "tuple")) vs i j C { s1 with heap := g3 } := fun i j C hC hi hj => by
   unfold kas_ask
   obtain ⟨a, o, its, n, e1, e2, e3, e4, e5, e6⟩ := rows i hi
   obtain ⟨a', o', its', n', e1', e2', e3', e4', e5', e6'⟩ := rows j hj
   rw [e1, e1']
   refine kat_lt e2 e4 e2' e4' ?_
   have hs1 : its.size = (keys.getD i []).length := by rw [← Array.length_toList]; exact e5.len
   have hs2 : its'.size = (keys.getD j []).length := by rw [← Array.length_toList]; exact e5'.len
   rw [hs1, hs2]
   exact Zm 0 e5 e5' hC
  refine wpAny_bind (wpAny_mono (kat_run (κ := tuples' (Value.type "int" != Value.type "tuple")) (Q := fun st' s' => ∃ p : Array Nat, p.size = vs.length ∧ arrOf st' = p.map (kas_item (vs.toArray.zip vs.toArray)) ∧ failedOf st' = none ∧ p = (kas_sort vs.length).eval (fun i j => lexI (decide ((keys.getD i []).length < (keys.getD j []).length)) (keys.getD i []) (keys.getD j [])) ∧ s' = { s1 with heap := g3 }) rfl h2 h64 (fun p' st' s' a1 a2 a3 a4 => ⟨p', a1, a2, a3, a4⟩) (KasT.eval_wp (n := vs.length) hcmp _ hok ⟨rfl, rfl⟩)) ?_ fun _ _ e => e)
  rintro ⟨⟨⟩, st'⟩ s' ⟨p, hp, har, hf, rfl, rfl⟩
  dsimp only
  have hout := kat_snds rfl har
  generalize (kas_sort vs.length).eval (fun i j => lexI (decide ((keys.getD i []).length < (keys.getD j []).length)) (keys.getD i []) (keys.getD j [])) = p at hp hout hso
  have ppm : p.toList.Perm (List.range vs.length) := hso.1.pm
  have pso : ∀ i j, i < j → j < vs.length → ltR keys (p.toList.getD i 0) (p.toList.getD j 0) = true := fun i j hij hj => by
   have e := hso.2 i j hij hj
   rwa [show p.getD i 0 = p.toList.getD i 0 by simp [Array.getD_eq_getD_getElem?, List.getD_eq_getElem?_getD], show p.getD j 0 = p.toList.getD j 0 by simp [Array.getD_eq_getD_getElem?, List.getD_eq_getElem?_getD]] at e
  have hsz' : (List.toArray (p.toList.map fun i => vs.getD i Value.none)).size = vs.length := by rw [List.size_toArray, List.length_map, Array.length_toList, hp]
  rw [hout]
  obtain ⟨c2, hc2⟩ : ∃ c2, (g3.update s1.heap.objs.size (Obj.mapSeq fun _ => List.toArray (p.toList.map fun i => vs.getD i Value.none))).get? s1.heap.objs.size = some (seqObj "list" (List.toArray (p.toList.map fun i => vs.getD i Value.none)) c2) := ⟨_, get?_update_seq ho3 fun _ => List.toArray (p.toList.map fun i => vs.getD i Value.none)⟩
  refine wpAny_bind (seqEpoch_at ho3 rfl ?_)
  refine wpAny_bind (listUpdate_at ho3 rfl ?_ (Nat.zero_le _) (Nat.le_trans (Nat.le_of_eq hsz') (by rw [sizeLine_eq]; omega)))
  rw [hf]
  simp only [bne_self_eq_false, Bool.false_eq_true, if_false]
  refine wpAny_pure ⟨_, rfl, wpAny_pure ⟨_, rfl, h _ _ c2 p.toList (Nat.le_refl _) (fun b o q => ?_) ppm pso hc2⟩⟩
  rw [Heap.get?_update_ne _ _ _ _ (Nat.ne_of_lt (Heap.lt_size q))]
  exact keep3 b o q
end
theorem Zo : ∀ xs : List Int, lexI false xs xs = false
 | [] => rfl
 | x :: xs => by unfold lexI; rw [if_pos rfl]; exact Zo xs
theorem Yg : ∀ {xs ys zs : List Int}, lexI false xs ys = true → lexI false ys zs = true → lexI false xs zs = true
 | [], _, _, h, _ => by cases h
 | _ :: _, [], _, h, _ => by cases h
 | _ :: _, _ :: _, [], _, h => by cases h
 | x :: xs, y :: ys, z :: zs, h1, h2 => by
  unfold lexI at h1 h2 ⊢
  by_cases e1 : x = y
  ·rw [if_pos e1] at h1
   by_cases e2 : y = z
   ·rw [if_pos e2] at h2
    rw [if_pos (e1.trans e2)]
    exact Yg h1 h2
   ·rw [if_neg e2] at h2
    have := of_decide_eq_true h2
    rw [if_neg (by omega)]
    exact decide_eq_true (by omega)
  ·rw [if_neg e1] at h1
   have a := of_decide_eq_true h1
   by_cases e2 : y = z
   ·rw [if_neg (by omega)]
    exact decide_eq_true (by omega)
   ·rw [if_neg e2] at h2
    have b := of_decide_eq_true h2
    rw [if_neg (by omega)]
    exact decide_eq_true (by omega)
theorem Zn : ∀ {xs ys : List Int}, xs.length = ys.length → xs ≠ ys → lexI false xs ys = false → lexI false ys xs = true
 | [], [], _, h, _ => absurd rfl h
 | [], _ :: _, h, _, _ => by simp at h
 | _ :: _, [], h, _, _ => by simp at h
 | x :: xs, y :: ys, hl, hne, h => by
  unfold lexI at h ⊢
  by_cases e : x = y
  ·subst e
   rw [if_pos rfl] at h ⊢
   exact Zn (by simpa using hl) (fun z => hne (by rw [z])) h
  ·rw [if_neg e] at h
   have := of_decide_eq_false h
   rw [if_neg (Ne.symm e)]
   exact decide_eq_true (by omega)
theorem lin_rows {keys : List (List Int)} {m : Nat} (hl : ∀ k ∈ keys, k.length = m) (nd : keys.Nodup) : Lin (ltR keys) keys.length := by
 have at' : ∀ i, i < keys.length → (keys.getD i []).length = m := fun i hi => hl _ (by rw [List.getD_eq_getElem?_getD, List.getElem?_eq_getElem hi]; exact List.getElem_mem hi)
 have e : ∀ i j, i < keys.length → j < keys.length → ltR keys i j = lexI false (keys.getD i []) (keys.getD j []) := fun i j hi hj => by
  unfold ltR
  rw [at' i hi, at' j hj, decide_eq_false (Nat.lt_irrefl _)]
 refine ⟨fun i hi => by rw [e i i hi hi]; exact Zo _, fun i j k hi hj hk h1 h2 => ?_, fun i j hi hj hne h => ?_⟩
 ·rw [e _ _ hi hj] at h1
  rw [e _ _ hj hk] at h2
  rw [e _ _ hi hk]
  exact Yg h1 h2
 ·rw [e _ _ hi hj] at h
  rw [e _ _ hj hi]
  refine Zn (by rw [at' i hi, at' j hj]) (fun z => hne ?_) h
  rw [List.getD_eq_getElem?_getD, List.getD_eq_getElem?_getD, List.getElem?_eq_getElem hi, List.getElem?_eq_getElem hj] at z
  exact (List.getElem_inj nd).mp z
end PySem.W
namespace L2
open PySem PySem.Spec PyProof.Rows
section
variable {X : Cx} {k : Nat}
theorem RowsAt.perm {H : Hp} {as : List Addr} {keys : List (List Int)} (h : RowsAt H as keys) : ∀ p : List Nat, (∀ i ∈ p, i < keys.length) → RowsAt H (p.map fun i => as.getD i 0) (p.map fun i => keys.getD i [])
 | [], _ => trivial
 | i :: p, hp => by
  have hi := hp i List.mem_cons_self
  have hi' : i < as.length := by rw [h.len]; exact hi
  refine ⟨?_, RowsAt.perm h p fun j hj => hp j (List.mem_cons_of_mem _ hj)⟩
  show H (as.getD i 0) = some (.tup ((keys.getD i []).map V.int))
  obtain ⟨ks, e1, e2⟩ := h.at (i := i) (a := as[i]) (by simp [hi'])
  rw [show as.getD i 0 = as[i] by simp [hi'], e2, show keys.getD i [] = ks by rw [List.getD_eq_getElem?_getD, e1]; rfl]
theorem perm_rows {keys : List (List Int)} {p : List Nat} (hp : p.Perm (List.range keys.length)) : (p.map fun i => keys.getD i []).Perm keys := by
 refine (hp.map _).trans (List.Perm.of_eq ?_)
 refine List.ext_getElem (by simp) fun i h1 h2 => ?_
 have : i < keys.length := h2
 simp [List.getD_eq_getElem?_getD, this]
theorem pair_rows {keys : List (List Int)} {p : List Nat} (hl : p.length = keys.length) (h : ∀ i j, i < j → j < keys.length → PySem.W.lexI false (keys.getD (p.getD i 0) []) (keys.getD (p.getD j 0) []) = true) : (p.map fun i => keys.getD i []).Pairwise fun a b => PySem.W.lexI false a b = true := by
 rw [List.pairwise_iff_getElem]
 intro i j hi hj hij
 have hi' : i < p.length := by simpa using hi
 have hj' : j < p.length := by simpa using hj
 have := h i j hij (by omega)
 rw [List.getElem_map, List.getElem_map]
 rwa [show p.getD i 0 = p[i] by simp [hi'], show p.getD j 0 = p[j] by simp [hj']] at this
def Yv (H : Hp) (Q : VK) (keys : List (List Int)) : Prop := ∀ (D : Addr) (as' : List Addr) (ks' : List (List Int)), H D = none → RowsAt H as' ks' → ks'.Perm keys → (ks'.Pairwise fun a b => PySem.W.lexI false a b = true) → Q (.ref D) (upd H D (.lst (as'.map V.ref)))
theorem sort_end {H : Hp} {Q : VK} {as : List Addr} {keys : List (List Int)} {m : Nat} (hr : RowsAt H as keys) (hl : ∀ ks ∈ keys, ks.length = m) (q : Yv H Q keys) {p : List Nat} (hp : p.Perm (List.range keys.length))
  (hs : ∀ i j, i < j → j < keys.length → PySem.W.ltR keys (p.getD i 0) (p.getD j 0) = true) {D : Addr} (hD : H D = none) : Q (.ref D) (upd H D (.lst ((p.map fun i => as.getD i 0).map V.ref))) := by
 have hpl : p.length = keys.length := by rw [hp.length_eq, List.length_range]
 have hlt : ∀ i ∈ p, i < keys.length := fun i hi => List.mem_range.mp (hp.mem_iff.mp hi)
 have at' : ∀ i, i < keys.length → (keys.getD i []).length = m := fun i hi => hl _ (by rw [List.getD_eq_getElem?_getD, List.getElem?_eq_getElem hi]; exact List.getElem_mem hi)
 refine q D _ _ hD (hr.perm p hlt) (perm_rows hp) (pair_rows hpl fun i j hij hj => ?_)
 have e := hs i j hij hj
 have b1 : p.getD i 0 < keys.length := hlt _ (by rw [List.getD_eq_getElem?_getD, List.getElem?_eq_getElem (by omega)]; exact List.getElem_mem _)
 have b2 : p.getD j 0 < keys.length := hlt _ (by rw [List.getD_eq_getElem?_getD, List.getElem?_eq_getElem (by omega)]; exact List.getElem_mem _)
 unfold PySem.W.ltR at e
 rwa [at' _ b1, at' _ b2, decide_eq_false (Nat.lt_irrefl _)] at e
def rSortL : List V → Hp → VK → Prop := fun xs H Q => ∃ (l : Addr) (as : List Addr) (keys : List (List Int)) (m : Nat), xs = [.ref l] ∧ H l = some (.lst (as.map V.ref)) ∧ RowsAt H as keys ∧ 0 < m ∧ (∀ ks ∈ keys, ks.length = m) ∧ keys.Nodup ∧ keys.length < 64 ∧ Yv H Q keys
theorem refs_perm {as : List Addr} {n : Nat} (hn : as.length = n) {p : List Nat} (hp : ∀ i ∈ p, i < n) : (p.map fun i => (as.map V.ref).getD i .non) = (p.map fun i => as.getD i 0).map V.ref := by
 rw [List.map_map]
 refine List.map_congr_left fun i hi => ?_
 have : i < as.length := by rw [hn]; exact hp i hi
 simp [this]
theorem call_sortL : zT X (.builtin "sorted") rSortL := by
 intro pins s σ H xs us Q I r h
 obtain ⟨l, as, keys, m, rfl, hl, hrows, m0, hlen, nd, h64, q⟩ := h
 obtain ⟨u, rfl, ru⟩ := r.one
 cases ru
 obtain ⟨its, rv, pl, hz⟩ := I.list (SqL.of hl)
 have hlen' : its.length = keys.length := by rw [← rv.length, List.length_map, hrows.len]
 have hsz : ((s.heap.push (seqObj "list" #[] 0)).update s.heap.objs.size (Obj.mapSeq (· ++ its.toArray))).objs.size = s.heap.objs.size + 1 := by rw [Heap.size_update, size_push']
 have keep1 : ∀ b o, s.heap.get? b = some o → ((s.heap.push (seqObj "list" #[] 0)).update s.heap.objs.size (Obj.mapSeq (· ++ its.toArray))).get? b = some o := fun b o e => by
  have hlt : b < s.heap.objs.size := Heap.lt_size e
  rw [Heap.get?_update_ne _ _ _ _ (Nat.ne_of_lt hlt), Heap.get?_push_ne _ _ _ (Nat.ne_of_lt hlt)]
  exact e
 refine PySem.W.sorted_col (u := .ref l) (C := fun s1 => s1 = { s with heap := (s.heap.push (seqObj "list" #[] 0)).update s.heap.objs.size (Obj.mapSeq (· ++ its.toArray)) }) (vs := its) (keys := keys) (fun A' E' R hh hR => collect_list pl.isList (hR _ rfl) (by rw [sizeLine_eq]; omega)) hlen' (by omega) (fun _ => by rw [hlen']; exact PySem.W.lin_rows hlen nd) ?_ ?_
 ·rintro _ rfl i v ks hv hk
  have hi : i < as.length := by
   have := (List.getElem?_eq_some_iff.mp hv).1
   rw [hlen', ← hrows.len] at this
   exact this
  obtain ⟨ks', e1, e2⟩ := hrows.at (i := i) (a := as[i]) (by simp [hi])
  rw [hk] at e1
  cases e1
  obtain ⟨jts, r2, pt, _⟩ := I.tuple (SqT.of e2)
  obtain ⟨o, ho, hc, n, hd⟩ := pt
  refine ⟨fun z => by have := hlen ks (List.mem_of_getElem? hk); rw [z] at this; simp at this; omega, as[i], o, jts.toArray, n, ?_, keep1 _ _ ho, hc, hd, by simpa using Yb r2⟩
  have := Vals.getD rv i
  rw [show (as.map V.ref).getD i .non = V.ref as[i] by simp [hi]] at this
  have hv' : its.getD i .none = v := by rw [List.getD_eq_getElem?_getD, hv]; rfl
  rw [hv'] at this
  exact this
 ·rintro _ rfl D h' c p hD hk hp hs hd
  rw [hlen'] at hp hs
  have hpl : p.length = keys.length := by rw [hp.length_eq, List.length_range]
  have hDs : s.heap.objs.size ≤ D := Nat.le_of_succ_le (Nat.le_trans (Nat.le_of_eq hsz.symm) hD)
  refine ⟨.ref D, _, I.laid (t' := s.toks) (fun b o e => hk b o (keep1 b o e)) hDs ?_, rfl, sort_end hrows hlen q hp hs (I.hok.fresh hDs)⟩
  refine ⟨by rw [List.length_map, List.length_map, hpl]; exact Nat.le_of_lt (zA (by omega)), _, c, ?_, hd⟩
  rw [← refs_perm hrows.len fun i hi => List.mem_range.mp (hp.mem_iff.mp hi)]
  exact Vals.perm rv p
end
end L2
namespace K11
open PySem L2 G2 WG EL
theorem nob {H : Hp} {a : Addr} (o : HO) (h : H a = none) : ∃ H2, upd H a o = H2 ∧ Same H H2 ∧ H2 a = some o := ⟨_, rfl, Same.new (Same.refl _) h, zf⟩
theorem nop {H G : Hp} {a : Addr} (o : HO) (M : Same H G) (h : H a = none) : ∃ H2, upd G a o = H2 ∧ Same H H2 ∧ H2 a = some o := ⟨_, rfl, M.put h, zf⟩
abbrev sCd : Stmt := top 1
abbrev nCd : List Str := ["numbers", "divisor", "number", "other", "rest"]
theorem nmCd : Nm nCd (zc sCd) := nmk (by decide +kernel)
theorem scCd : FnScope nCd ["numbers"] (zc sCd) := fsk (by decide +kernel)
def spCd : Sp := fun vs H Q _ => ∃ (p : Addr) (xs : List Int), vs = [.ref p] ∧ H p = some (.lst (xs.map V.int)) ∧ Q (.int ((gcdL xs : Nat) : Int)) H
section
variable {P : Program} {w : World} {K : W.Frag} {mg : Str → Option Value} {base : Heap}
theorem ok_Cd {f : Addr} {fd : FuncData} (B : Bl mg) (F : Fun K "common_divisor" "common_divisor" sCd f fd) : FnOk P w K mg base CX0 1 f fd ["numbers"] spCd := by
 refine F.ok scCd (fun vs H Q E h => ?_) (fun cdv A outer s H vs Q E hr h => ?_)
 ·obtain ⟨p, xs, rfl, _⟩ := h
  rfl
 obtain ⟨p, xs, rfl, hp, k⟩ := h
 refine' ⟨_, ?hb, ?rd⟩
 case' hb => skip
 case' hb => refine' ze ?g1 ?g2
 case' g2 => refine' ze ?g3 ?g4
 case' g4 => refine' zi ?g5
 case g1 => exact zq nmCd 1 zd
 case' g3 => refine' yR PassesOwn.never rfl ?g6 (pgd nmCd 2) ?g7
 case g6 => exact zP (pvd nmCd 0)
 case' g7 => refine' ze ?g8 ?g9
 case' g9 => refine' zi ?g10
 case g8 => exact zq nmCd 3 (zM ZB B.abs PyProof.Rows.boot_abs (pa_1 (pvd nmCd 2)))
 case' g10 => refine' Zi PassesOwn.never ?g11 ?g12
 case g11 => exact zm yX (pvd nmCd 3) zd (zo _)
 case' g12 => refine' ze ?g13 ?g14
 case' g14 => refine' ze ?g15 ?g16
 case' g16 => refine' zi ?g17
 case g13 => exact zq nmCd 4 (zk yT (pvd nmCd 1) (pvd nmCd 3))
 case g15 => exact zq nmCd 1 (pvd nmCd 3)
 case g17 => exact zq nmCd 3 (pvd nmCd 4)
 case g5 => exact zr (pvd nmCd 1)
 walk_at "v"
 refine ⟨p, rfl, ⟨_, SqL.of hp⟩, ?_⟩
 refine for_list (xs := xs.map V.int) (fun i σ H' => ∃ u2 u3 u4, σ = [some (.ref p), some (.int ((gcdL (xs.take i) : Nat) : Int)), u2, u3, u4] ∧ H = H') ⟨none, none, none, rfl, rfl⟩ (fun i σ H' _ ⟨_, _, _, _, e⟩ => e ▸ SqL.of hp) ?_ ?_
 ·rintro i x σ H' hx ⟨u2, u3, u4, rfl, rfl⟩
  obtain ⟨hi, rfl⟩ := itI hx
  walk_at "v"
  refine ⟨_, rfl, ?_⟩
  rw [absN]
  walk_at "v"
  refine ZR ⟨fun n σ H' => ∃ (d o : Nat) (u4 : Option V), σ = [some (.ref p), some (.int (d : Int)), some (.int (xs.getD i 0)), some (.int (o : Int)), u4] ∧ H = H' ∧ n = o ∧ Nat.gcd d o = Nat.gcd (gcdL (xs.take i)) (xs.getD i 0).natAbs, ⟨_, _, _, u4, rfl, rfl, rfl, rfl⟩, ?_⟩
  rintro n σ H' ⟨d, o, u4', rfl, rfl, rfl, hg⟩
  walk_at "v"
  refine ⟨rfl, ?_⟩
  walk_at "v"
  refine Xv (fun h => ?_) (fun h => ?_)
  ·have ho : n ≠ 0 := fun z => h (by rw [z]; rfl)
   refine ⟨_, fun σ' H' w => ⟨d % n, Nat.mod_lt _ (by omega), w⟩, ?_⟩
   walk_at "v"
   refine ⟨_, _, rfl, rfl, by omega, ?_⟩
   walk_at "v"
   refine ⟨n, d % n, _, rfl, rfl, rfl, ?_⟩
   rw [← hg, Nat.gcd_comm, ← Nat.gcd_rec, Nat.gcd_comm]
  ·have ho : n = 0 := by injection h with h; omega
   subst ho
   rw [Nat.gcd_zero_right] at hg
   rw [hg, ← gcd_take xs i hi]
   exact ⟨_, _, _, rfl, rfl⟩
 ·rintro σ H' ⟨u2, u3, u4, rfl, rfl⟩
  rw [List.length_map, List.take_length]
  walk_at "v"
  exact k
abbrev sMe : Stmt := xO (top 4) 7
abbrev nMe : List Str := ["self", "tops", "unknown", "numbers", "divisor"]
theorem nmMe : Nm nMe (zc sMe) := nmk (by decide +kernel)
theorem scMe : FnScope nMe ["self"] (zc sMe) := fsk (by decide +kernel)
def qMea (s : Stmt) : Scope := match s with
 | .Assign _ (.ListComp _ _ sc _) _ => sc
 | _ => nsc
abbrev cMea : Scope := qMea ((zj sMe).getD 0 (.Pass ⟨0, 0, 0, 0⟩))
theorem bsMea : BScope (zc sMe) cMea ["column"] [] [] := { okind := by decide +kernel, kind := by decide +kernel, nocell := by decide +kernel, names := by decide +kernel, fr := by decide +kernel, ff := by decide +kernel, nd := by decide +kernel, vis := by decide +kernel, loc := by decide +kernel, gl := by decide +kernel }
def qMeb (s : Stmt) : Scope := match s with
 | .Return (some (.Tuple [(.Call _ [(.ListComp _ _ sc _)] _ _), _] _ _)) _ => sc
 | _ => nsc
abbrev cMeb : Scope := qMeb ((zj sMe).getD 3 (.Pass ⟨0, 0, 0, 0⟩))
theorem bsMeb : BScope (zc sMe) cMeb ["top"] ["divisor"] [] := { okind := by decide +kernel, kind := by decide +kernel, nocell := by decide +kernel, names := by decide +kernel, fr := by decide +kernel, ff := by decide +kernel, nd := by decide +kernel, vis := by decide +kernel, loc := by decide +kernel, gl := by decide +kernel }
theorem loMe_1 : (zc sMe).names.lookup ("tops" : Str) = some .local := by decide +kernel
def topF (S : Tb) (n : Nat) : Nat → Nat → Int
 | 0, _ => 0
 | i + 1, j => if S.ru i = j then S.M j n else topF S n i j
theorem ZU {S : Tb} {n : Nat} : ∀ {i j : Nat}, (∃ r, r < i ∧ S.ru r = j) → topF S n i j = S.M j n
 | 0, _, ⟨_, h, _⟩ => by omega
 | i + 1, j, ⟨r, h, e⟩ => by
  unfold topF
  by_cases z : S.ru i = j
  ·rw [if_pos z]
  ·rw [if_neg z]
   exact ZU ⟨r, by have : r ≠ i := fun q => z (q ▸ e); omega, e⟩
theorem Zd {S : Tb} {n : Nat} : ∀ {i j : Nat}, (∀ r, r < i → S.ru r ≠ j) → topF S n i j = 0
 | 0, _, _ => rfl
 | i + 1, j, h => by
  unfold topF
  rw [if_neg (h i (by omega))]
  exact Zd fun r hr => h r (by omega)
theorem topF_all {n m : Nat} {v : Nat → Nat → Int} {S : Tb} (I : Inv n m v S) {j : Nat} (hj : j < n) : topF S n m j = S.M j n := by
 rcases I.al j (by omega) with ⟨r, hr, e⟩ | ⟨c, hc, e⟩
 ·exact ZU ⟨r, hr, e⟩
 ·rw [Zd fun r hr z => I.rc r hr c hc (z.trans e.symm), ← e, I.mc c hc n (Nat.le_refl _), if_neg (by omega)]
def spMe (C : Addr) : Sp := fun vs H Q _ => ∃ (o : Addr) (n m : Nat) (v : Nat → Nat → Int) (S : Tb) (t : Nat) (dx pr pu pc : Addr) (ras : List Addr), vs = [.ref o] ∧ TbA H C o n m S t dx pr pu pc ras ∧ Inv n m v S ∧ n ≤ 40 ∧ m ≤ 60 ∧ Sm S.D ∧
 ∀ H' q p (g : Int), Same H H' → 0 < g → g ∣ S.D → (∀ j < n, g ∣ S.M j n) → H' q = some (.tup [.ref p, .int (S.D / g)]) → H' p = some (.tup ((List.range n).map fun j => V.int (S.M j n / g))) → Q (.ref q) H'
theorem ok_Me {f : Addr} {fd : FuncData} {C : Addr} (R : TC K C) (B : Bl mg) (fC : Has P w K mg base 1 "common_divisor" ["numbers"] spCd) (F : Fun K "met" "Tableau.met" sMe f fd) : FnOk P w K mg base CX0 2 f fd ["self"] (spMe C) := by
 refine F.ok scMe (fun vs H Q E h => ?_) (fun cdv A outer s H vs Q E hr h => ?_)
 ·obtain ⟨o, n, m, v, S, t, dx, pr, pu, pc, ras, rfl, _⟩ := h
  rfl
 obtain ⟨o, n, m, v, S, t, dx, pr, pu, pc, ras, rfl, T, I, hn, hm, hsd, k⟩ := h
 refine' ⟨_, ?hb, ?rd⟩
 case' hb => skip
 case' hb => refine' ze ?g1 ?g2
 case' g2 => refine' ze ?g3 ?g4
 case' g4 => refine' ze ?g5 ?g6
 case' g6 => refine' zi ?g7
 case' g1 => refine' yk (i := 1) (ix := []) nmMe.nd rfl loMe_1 bsMea.toCScope rfl rfl ?g8 ?g9 ?g10 ?g11
 case g8 => exact yx B.range (pa_1 (zw (pvd nmMe 0) rfl))
 case g9 => exact fun _ _ _ _ _ _ => pgb bsMea 0
 case g10 => exact fun _ _ _ _ _ _ => zy
 case g11 => exact fun _ _ _ _ _ _ => zd
 case' g3 => refine' yR PassesOwn.never rfl ?g12 (vQ rfl (zn (pgd nmMe 2) (zn (pgd nmMe 3) zO))) ?g13
 case g12 => exact ZH B.zip (pa_2 (zw (pvd nmMe 0) rfl) (zw (pvd nmMe 0) rfl))
 case' g13 => refine' zi ?g14
 case' g14 => refine' zQ ?g15 ?g16 zE
 case g15 => exact zm xq (pvd nmMe 2) (zw (pvd nmMe 0) rfl) (zo _)
 case' g16 => refine' zi ?g18
 case g18 => exact xm (ziq (pvd nmMe 3) (xo yw zd)) (xn (pvd nmMe 1) (pvd nmMe 2) wB)
 case g5 => exact zq nmMe 4 (pe_f fC hr (by decide) (pa_1 (zk vT (yp (pa_1 (zw (pvd nmMe 0) rfl))) (pvd nmMe 1))))
 case' g7 => refine' zr ?g19
 case' g19 => refine' zR ?g20
 case' g20 => refine' pa_2 ?g21 (zk EL.op_fdivL (zw (pvd nmMe 0) rfl) (pvd nmMe 4))
 case' g21 => refine' yy ya B.tuple PyProof.Rows.boot_tuple ?g22
 case' g22 => refine' pa_1 ?g23
 case' g23 => refine' zI (ix := [4]) bsMeb.toCScope rfl rfl ?g24 ?g25 ?g26 ?g27
 case g24 => exact zP (pvd nmMe 1)
 case g25 => exact fun _ _ _ _ _ _ => pgb bsMeb 0
 case g26 => exact fun _ _ _ _ _ _ => zy
 case g27 => exact fun _ _ _ _ _ _ => zk EL.op_fdivL (pvb bsMeb 0) (pvb bsMeb 1)
 walk_at "v"
 refine zF ?_
 walk_at "v"
 refine ⟨o, C, _, _, _, rfl, T.ob, R.c, R.n1, rfl, ?_⟩
 walk_at "v"
 refine ⟨_, rfl, by omega, by omega, fun D1 hD1 => ?_⟩
 rw [Int.toNat_natCast]
 refine v6 (fun i => V.int 0) (by omega) hD1 (fun i hi H' K' R' kR => ?_) (fun H1 K1 e1 => ?_)
 ·walk_at "v"
  exact kR _ (Same.refl _)
 have T1 := T.same fun a u e _ => K1 a u e
 walk_at "v"
 refine ZS ?_
 walk_at "v"
 refine zF ?_
 walk_at "v"
 refine ⟨o, C, _, _, _, rfl, T1.ob, R.c, R.n4, rfl, ?_⟩
 walk_at "v"
 refine zF ?_
 walk_at "v"
 refine ⟨o, C, _, _, _, rfl, T1.ob, R.c, R.n3, rfl, ?_⟩
 refine ⟨pu, pr, rfl, ⟨_, SqL.of T1.ru⟩, ⟨_, SqL.of T1.rs⟩, ?_⟩
 have hrl := T.rl
 refine Zt (xs := natV m S.ru) (zs := ras.map V.ref) (by rw [zL, List.length_map]; omega) (fun i σ H' => ∃ u2 u3 u4, σ = [some (.ref o), some (.ref D1), u2, u3, u4] ∧ Same H H' ∧ H' D1 = some (.lst ((List.range n).map fun j => V.int (topF S n i j)))) ⟨_, _, _, rfl, K1, e1⟩ (fun i σ H' ⟨_, _, _, _, K', _⟩ => ⟨SqL.of (K' _ _ T.ru), SqL.of (K' _ _ T.rs)⟩) ?_ ?_
 ·rintro i x y σ H' p hx hy ⟨u2, u3, u4, rfl, K', e'⟩ hp
  have hi : i < m := by have := (List.getElem?_eq_some_iff.mp hx).1; rw [zL] at this; exact this
  obtain ⟨a, f1, f2⟩ := T.row hi
  rw [zY hi] at hx
  cases hx
  rw [List.getElem?_map, f1] at hy
  cases hy
  have kp : Same H' (upd H' p (.tup [.int ((S.ru i : Nat) : Int), .ref a])) := Same.new (Same.refl _) hp
  have ep : upd H' p (.tup [.int ((S.ru i : Nat) : Int), .ref a]) p = some (.tup [.int ((S.ru i : Nat) : Int), .ref a]) := zf
  generalize upd H' p (.tup [.int ((S.ru i : Nat) : Int), .ref a]) = H2 at kp ep ⊢
  refine ⟨p, [.int ((S.ru i : Nat) : Int), .ref a], rfl, SqT.of ep, rfl, .int ((S.ru i : Nat) : Int), [.ref a], rfl, ?_⟩
  walk_at "v"
  refine ⟨.ref a, [], rfl, ?_⟩
  walk_at "v"
  refine ⟨rfl, ?_⟩
  have K2 := K'.trans kp
  walk_at "v"
  refine zF ?_
  walk_at "v"
  refine ⟨o, C, _, _, _, rfl, (K2 _ _ T.ob), R.c, R.n1, rfl, ?_⟩
  walk_at "v"
  refine iteD (fun h1 => ?_) (fun h1 => ?_)
  ·walk_at "v"
   refine ⟨_, rfl, ?_⟩
   refine zv (K2 _ _ f2) x4 ?_
   walk_at "v"
   refine wk (kp _ _ e') (j := S.ru i) (by rw [List.length_map, List.length_range]; exact xu (by omega)) ?_
   refine ⟨_, _, _, rfl, K2.put hD1, ?_⟩
   rw [zf]
   congr 2
   refine List.ext_getElem? fun j => ?_
   by_cases hj : j < n
   ·rw [List.getElem?_map, List.getElem?_range hj]
    by_cases e : S.ru i = j
    ·rw [e, List.getElem?_set_self (by simp [hj])]
     simp [topF, e]
    ·rw [List.getElem?_set_ne e, List.getElem?_map, List.getElem?_range hj]
     simp [topF, e]
   ·rw [List.getElem?_eq_none (by simp; omega), List.getElem?_eq_none (by simp; omega)]
  ·refine ⟨_, _, _, rfl, K2, ?_⟩
   rw [kp _ _ e']
   congr 2
   refine List.map_congr_left fun j hj => ?_
   have hj := List.mem_range.mp hj
   have : S.ru i ≠ j := by omega
   simp [topF, this]
 ·rintro σ H2 ⟨u2, u3, u4, rfl, K2, e2⟩
  rw [zL] at e2
  have e2' : H2 D1 = some (.lst (((List.range n).map fun j => S.M j n).map V.int)) := by
   rw [e2, List.map_map]
   congr 2
   exact List.map_congr_left fun j hj => by rw [topF_all I (List.mem_range.mp hj)]; rfl
  have T2 := T.same fun a u e _ => K2 a u e
  walk_at "v"
  refine zF ?_
  walk_at "v"
  refine ⟨o, C, _, _, _, rfl, T2.ob, R.c, R.n2, rfl, ?_⟩
  refine ⟨sz1, fun l2 hl2 => ?_⟩
  obtain ⟨H3, q, k3, e3⟩ := nob (.lst [.int S.D]) hl2; rw [q]; clear q
  walk_at "v"
  refine ⟨l2, D1, _, _, rfl, rfl, e3, k3 _ _ e2', by rw [List.length_map, List.length_map, List.length_range]; show 1 + n ≤ sizeLine; exact Nat.le_trans (show 1 + n ≤ 1000 by omega) (by decide), fun l4 hl4 => ?_⟩
  have k4 : Same H3 (upd H3 l4 (.lst ([.int S.D] ++ ((List.range n).map fun j => S.M j n).map V.int))) := Same.new (Same.refl _) hl4
  have e4 : upd H3 l4 (.lst ([.int S.D] ++ ((List.range n).map fun j => S.M j n).map V.int)) l4 = some (.lst ((S.D :: (List.range n).map fun j => S.M j n).map V.int)) := zf
  generalize upd H3 l4 (.lst ([.int S.D] ++ ((List.range n).map fun j => S.M j n).map V.int)) = H4 at k4 e4 ⊢
  have K04 := (K2.trans k3).trans k4
  refine ⟨l4, _, rfl, e4, ?_⟩
  have hgd : ∀ x ∈ S.D :: (List.range n).map (fun j => S.M j n), ((gcdL (S.D :: (List.range n).map fun j => S.M j n) : Nat) : Int) ∣ x := fun x hx => by
   have := xS hx
   exact Int.ofNat_dvd_left.mpr this
  have hg0 : (0 : Int) < ((gcdL (S.D :: (List.range n).map fun j => S.M j n) : Nat) : Int) := by
   rcases Nat.eq_zero_or_pos (gcdL (S.D :: (List.range n).map fun j => S.M j n)) with z | z
   ·have := vw z S.D List.mem_cons_self
    have := I.D0
    omega
   ·omega
  have hgs : Sm ((gcdL (S.D :: (List.range n).map fun j => S.M j n) : Nat) : Int) := by
   have h1 := Yo (xs := S.D :: (List.range n).map fun j => S.M j n) List.mem_cons_self (by have := I.D0; omega)
   have h2 : S.D.natAbs < 2 ^ 4000 := hsd
   show (Int.natAbs ((gcdL _ : Nat) : Int)) < 2 ^ 4000
   rw [Int.natAbs_natCast]
   exact Nat.lt_of_le_of_lt h1 h2
  generalize ((gcdL (S.D :: (List.range n).map fun j => S.M j n) : Nat) : Int) = g at hgd hg0 hgs ⊢
  walk_at "v"
  have e42 := k4 _ _ (k3 _ _ e2')
  refine ⟨D1, rfl, ⟨_, SqL.of e42⟩, fun D5 hD5 => ?_⟩
  rw [List.map_map] at e42
  refine v7 (ws := List.range n) (V.int ∘ fun j => S.M j n) (fun j => V.int (S.M j n / g)) e42 (by rw [List.length_range]; omega) hD5 (fun j hj H' K' R' kR => ?_) (fun H5 K5 e5 => ?_)
  ·walk_at "v"
   refine ⟨_, _, rfl, rfl, ⟨hg0, ZY hgs⟩, ?_⟩
   exact kR _ (Same.refl _)
  walk_at "v"
  refine ⟨D5, _, rfl, e5, fun l6 H6 K6 e6 => ?_⟩
  have K06 := (K04.trans K5).trans K6
  walk_at "v"
  refine zF ?_
  walk_at "v"
  refine ⟨o, C, _, _, _, rfl, (K06 _ _ T.ob), R.c, R.n2, rfl, ?_⟩
  walk_at "v"
  refine ⟨_, _, rfl, rfl, ⟨hg0, ZY hgs⟩, ?_⟩
  refine ⟨sz2, fun l7 hl7 => ?_⟩
  have k7 : Same H6 (upd H6 l7 (.tup [.ref l6, .int (S.D / g)])) := Same.new (Same.refl _) hl7
  exact k _ l7 l6 g (K06.trans k7) hg0 (hgd _ List.mem_cons_self) (fun j hj => hgd _ (List.mem_cons_of_mem _ (List.mem_map_of_mem (f := fun j => S.M j n) (List.mem_range.mpr hj)))) zf (k7 _ _ e6)
abbrev sBo : Stmt := xO (top 4) 8
abbrev nBo : List Str := ["self", "row", "pairs", "unknown", "number", "divisor"]
theorem nmBo : Nm nBo (zc sBo) := nmk (by decide +kernel)
theorem scBo : FnScope nBo ["self", "row"] (zc sBo) := fsk (by decide +kernel)
def qBoa (s : Stmt) : Scope := match s with
 | .Assign _ (.Call _ [(.ListComp _ _ sc _)] _ _) _ => sc
 | _ => nsc
abbrev cBoa : Scope := qBoa ((zj sBo).getD 2 (.Pass ⟨0, 0, 0, 0⟩))
theorem bsBoa : BScope (zc sBo) cBoa ["number", "times"] [] [] := { okind := by decide +kernel, kind := by decide +kernel, nocell := by decide +kernel, names := by decide +kernel, fr := by decide +kernel, ff := by decide +kernel, nd := by decide +kernel, vis := by decide +kernel, loc := by decide +kernel, gl := by decide +kernel }
def qBob (s : Stmt) : Scope := match s with
 | .Return (some (.Call _ [(.ListComp _ _ sc _)] _ _)) _ => sc
 | _ => nsc
abbrev cBob : Scope := qBob ((zj sBo).getD 3 (.Pass ⟨0, 0, 0, 0⟩))
theorem bsBob : BScope (zc sBo) cBob ["number", "times"] ["divisor"] [] := { okind := by decide +kernel, kind := by decide +kernel, nocell := by decide +kernel, names := by decide +kernel, fr := by decide +kernel, ff := by decide +kernel, nd := by decide +kernel, vis := by decide +kernel, loc := by decide +kernel, gl := by decide +kernel }
def PsA (H : Hp) (qs : List Addr) (ws : List (Int × Int)) : Prop := qs.length = ws.length ∧ ∀ (i : Nat) (q : Addr) (w : Int × Int), qs[i]? = some q → ws[i]? = some w → H q = some (.tup [.int w.1, .int w.2])
theorem PsA.same {H H' : Hp} {qs : List Addr} {ws : List (Int × Int)} (h : PsA H qs ws) (k : Same H H') : PsA H' qs ws := ⟨h.1, fun i q w e1 e2 => k _ _ (h.2 i q w e1 e2)⟩
theorem PsA.snoc {H : Hp} {qs : List Addr} {ws : List (Int × Int)} {q : Addr} {w : Int × Int} (h : PsA H qs ws) (e : H q = some (.tup [.int w.1, .int w.2])) : PsA H (qs ++ [q]) (ws ++ [w]) := by
 refine ⟨by simp [h.1], fun i q' w' e1 e2 => ?_⟩
 by_cases hi : i < qs.length
 ·rw [List.getElem?_append_left hi] at e1
  rw [List.getElem?_append_left (by rw [← h.1]; exact hi)] at e2
  exact h.2 i q' w' e1 e2
 ·have hl : i = qs.length := by
   have := (List.getElem?_eq_some_iff.mp e1).1
   simp at this
   omega
  subst hl
  rw [List.getElem?_append_right (Nat.le_refl _)] at e1
  rw [h.1, List.getElem?_append_right (Nat.le_refl _)] at e2
  simp at e1 e2
  subst e1; subst e2
  exact e
theorem Z3 : ∀ {ys : List V}, (∀ y ∈ ys, ∃ q, y = .ref q) → ∃ qs : List Addr, ys = qs.map V.ref
 | [], _ => ⟨[], rfl⟩
 | y :: ys, h => by
  obtain ⟨q, rfl⟩ := h y List.mem_cons_self
  obtain ⟨qs, rfl⟩ := Z3 fun z hz => h z (List.mem_cons_of_mem _ hz)
  exact ⟨q :: qs, rfl⟩
theorem ZE {x g : Int} (hg : 0 < g) (h : Sm x) : Sm (x / g) := by
 unfold Sm at h ⊢
 refine Nat.lt_of_le_of_lt ?_ h
 exact Int.natAbs_ediv_le_natAbs x g
abbrev pk (w : Int × Int) : List Int := [w.1, w.2]
theorem Zh {H : Hp} : ∀ {qs : List Addr} {ws : List (Int × Int)}, PsA H qs ws → RowsAt H qs (ws.map pk)
 | [], [], _ => trivial
 | [], _ :: _, h => by have := h.1; simp at this
 | _ :: _, [], h => by have := h.1; simp at this
 | q :: qs, w :: ws, h => ⟨h.2 0 q w rfl rfl, Zh ⟨by have := h.1; simpa using this, fun i q' w' e1 e2 => h.2 (i + 1) q' w' e1 e2⟩⟩
theorem rows_psa {H : Hp} {qs : List Addr} {ws : List (Int × Int)} (h : RowsAt H qs (ws.map pk)) : PsA H qs ws := by
 refine ⟨by have := h.len; simpa using this, fun i q w e1 e2 => ?_⟩
 obtain ⟨ks, f1, f2⟩ := h.at e1
 rw [List.getElem?_map, e2] at f1
 cases f1
 exact f2
theorem perm_pk {ks : List (List Int)} {ws : List (Int × Int)} (h : ks.Perm (ws.map pk)) : ∃ us : List (Int × Int), ks = us.map pk ∧ us.Perm ws := by
 refine ⟨ks.map fun k => (k.getD 0 0, k.getD 1 0), ?_, ?_⟩
 ·rw [List.map_map]
  have : ∀ k ∈ ks, k = (pk ∘ fun k : List Int => (k.getD 0 0, k.getD 1 0)) k := fun k hk => by
   obtain ⟨w, _, rfl⟩ := List.mem_map.mp (h.mem_iff.mp hk)
   rfl
  exact (List.map_id ks).symm.trans (List.map_congr_left this)
 ·have := h.map fun k => (k.getD 0 0, k.getD 1 0)
  rw [List.map_map] at this
  have e : ws.map ((fun k : List Int => (k.getD 0 0, k.getD 1 0)) ∘ pk) = ws := (List.map_congr_left fun w _ => rfl).trans (List.map_id ws)
  rwa [e] at this
theorem rise_pk {us : List (Int × Int)} (h : (us.map pk).Pairwise fun a b => PySem.W.lexI false a b = true) (nd : (us.map (·.1)).Nodup) : us.Pairwise fun a b => a.1 < b.1 := by
 rw [List.pairwise_map] at h
 have nd' : us.Pairwise fun a b => a.1 ≠ b.1 := by
  have := nd
  unfold List.Nodup at this
  rwa [List.pairwise_map] at this
 refine List.Pairwise.imp₂ ?_ h nd'
 intro a b h1 h2
 unfold pk PySem.W.lexI at h1
 rw [if_neg h2] at h1
 exact of_decide_eq_true h1
def prsI (n : Nat) (S : Tb) (r i : Nat) : List (Int × Int) := ((S.ru r : Int) - n, S.D) :: ((List.range i).filter fun c => decide (S.M (S.ru r) c ≠ 0)).map fun c => ((S.cu c : Int) - n, - S.M (S.ru r) c)
def spBo (C : Addr) : Sp := fun vs H Q _ => ∃ (o : Addr) (n m r : Nat) (v : Nat → Nat → Int) (S : Tb) (t : Nat) (dx pr pu pc : Addr) (ras : List Addr), vs = [.ref o, .int (r : Int)] ∧ TbA H C o n m S t dx pr pu pc ras ∧ Inv n m v S ∧ Stuck n m S r ∧ n ≤ 40 ∧ m ≤ 60 ∧ Sm S.D ∧ (∀ c ≤ n, Sm (S.M (S.ru r) c)) ∧
 ∀ H' p qs ws, Same H H' → Bw n m v ws → (∀ w ∈ ws, Sm w.2) → H' p = some (.tup (qs.map V.ref)) → PsA H' qs ws → Q (.ref p) H'
theorem ok_Bo {f : Addr} {fd : FuncData} {C : Addr} (R : TC K C) (B : Bl mg) (fC : Has P w K mg base 1 "common_divisor" ["numbers"] spCd) (F : Fun K "borne" "Tableau.borne" sBo f fd) : FnOk P w K mg base CX0 2 f fd ["self", "row"] (spBo C) := by
 refine F.ok scBo (fun vs H Q E h => ?_) (fun cdv A outer s H vs Q E hr h => ?_)
 ·obtain ⟨o, n, m, r, v, S, t, dx, pr, pu, pc, ras, rfl, _⟩ := h
  rfl
 obtain ⟨o, n, m, r, v, S, t, dx, pr, pu, pc, ras, rfl, T, I, Kk, hn, hm, hsd, hsm, k⟩ := h
 refine' ⟨_, ?hb, ?rd⟩
 case' hb => skip
 case' hb => refine' ze ?g1 ?g2
 case' g2 => refine' ze ?g3 ?g4
 case' g4 => refine' ze ?g5 ?g6
 case' g6 => refine' zi ?g7
 case g1 => exact zq nmBo 2 (yp (pa_1 (zR (pa_2 (zk yq (ziq (zw (pvd nmBo 0) rfl) (pvd nmBo 1)) (zw (pvd nmBo 0) rfl)) (zw (pvd nmBo 0) rfl)))))
 case' g3 => refine' yR PassesOwn.never rfl ?g8 (vQ rfl (zn (pgd nmBo 3) (zn (pgd nmBo 4) zO))) ?g9
 case g8 => exact ZH B.zip (pa_2 (zw (pvd nmBo 0) rfl) (ziq (zw (pvd nmBo 0) rfl) (pvd nmBo 1)))
 case' g9 => refine' zi ?g10
 case' g10 => refine' zQ ?g11 ?g12 zE
 case g11 => exact zm yX (pvd nmBo 4) zd (zo _)
 case' g12 => refine' zi ?g14
 case g14 => exact zW (xM PySem.F.plainAttrs_list PySem.F.slot_list_append PySem.F.type_list_append zZ (pvd nmBo 2) (pa_1 (zR (pa_2 (zk yq (pvd nmBo 3) (zw (pvd nmBo 0) rfl)) (xo yw (pvd nmBo 4))))))
 case' g5 => refine' zq nmBo 5 ?g15
 case' g15 => refine' pe_f fC hr (by decide) ?g16
 case' g16 => refine' pa_1 ?g17
 case' g17 => refine' zI (ix := []) bsBoa.toCScope rfl rfl ?g18 ?g19 ?g20 ?g21
 case g18 => exact zP (pvd nmBo 2)
 case g19 =>
  intro _ _ _ _ _ _
  refine' zX (n := 2) rfl ?g22
  case' g22 => refine' zn ?g26 ?g25
  case g26 => exact pgb bsBoa 0
  case' g25 => refine' zn ?g28 zO
  case g28 => exact pgb bsBoa 1
 case g20 => exact fun _ _ _ _ _ _ => zy
 case g21 => exact fun _ _ _ _ _ _ => pvb bsBoa 1
 case' g7 => refine' zr ?g29
 case' g29 => refine' yy ya B.tuple PyProof.Rows.boot_tuple ?g30
 case' g30 => refine' pa_1 ?g31
 case' g31 => refine' zI (ix := [5]) bsBob.toCScope rfl rfl ?g32 ?g33 ?g34 ?g35
 case g32 => exact zP (zM call_sortL B.sorted PyProof.Rows.boot_sorted (pa_1 (pvd nmBo 2)))
 case g33 =>
  intro _ _ _ _ _ _
  refine' zX (n := 2) rfl ?g36
  case' g36 => refine' zn ?g40 ?g39
  case g40 => exact pgb bsBob 0
  case' g39 => refine' zn ?g42 zO
  case g42 => exact pgb bsBob 1
 case g34 => exact fun _ _ _ _ _ _ => zy
 case g35 => exact fun _ _ _ _ _ _ => zR (pa_2 (pvb bsBob 0) (zk EL.op_fdivL (pvb bsBob 1) (pvb bsBob 2)))
 have hrm := Kk.lo.1
 obtain ⟨ra, g1, g2⟩ := T.row hrm
 walk_at "v"
 refine zF ?_
 walk_at "v"
 refine ⟨o, C, _, _, _, rfl, T.ob, R.c, R.n4, rfl, ?_⟩
 walk_at "v"
 refine zv (v := .int ((S.ru r : Nat) : Int)) T.ru (zu (zY hrm)) ?_
 walk_at "v"
 refine zF ?_
 walk_at "v"
 refine ⟨o, C, _, _, _, rfl, T.ob, R.c, R.n1, rfl, ?_⟩
 walk_at "v"
 refine zF ?_
 walk_at "v"
 refine ⟨o, C, _, _, _, rfl, T.ob, R.c, R.n2, rfl, ?_⟩
 walk_at "v"
 refine ⟨sz2, fun p1 hp1 => ?_⟩
 obtain ⟨H1, q, k1, e1⟩ := nob (.tup [.int ((S.ru r : Int) - n), .int S.D]) hp1; rw [q]; clear q
 walk_at "v"
 refine ⟨sz1, fun D1 hD1 => ?_⟩
 obtain ⟨H2, q, k2, e2⟩ := nob (.lst [.ref p1]) hD1; rw [q]; clear q
 have K02 := k1.trans k2
 have hD0 : H D1 = none := Same.free k1 hD1
 have T2 := T.same fun a u e _ => K02 a u e
 walk_at "v"
 refine ZS ?_
 walk_at "v"
 refine zF ?_
 walk_at "v"
 refine ⟨o, C, _, _, _, rfl, T2.ob, R.c, R.n5, rfl, ?_⟩
 walk_at "v"
 refine zF ?_
 walk_at "v"
 refine ⟨o, C, _, _, _, rfl, T2.ob, R.c, R.n3, rfl, ?_⟩
 walk_at "v"
 refine zv (v := .ref ra) T2.rs (zu (by rw [List.getElem?_map, g1]; rfl)) ?_
 refine ⟨pc, ra, rfl, ⟨_, SqL.of T2.cu⟩, ⟨_, SqL.of (K02 _ _ g2)⟩, ?_⟩
 refine Zt (xs := natV n S.cu) (zs := rowV n (S.M (S.ru r))) (by rw [zL, yd]; omega) (fun i σ H' => ∃ u3 u4 u5 qs, σ = [some (.ref o), some (.int (r : Int)), some (.ref D1), u3, u4, u5] ∧ Same H H' ∧ H' D1 = some (.lst (qs.map V.ref)) ∧ PsA H' qs (prsI n S r i)) ⟨_, _, _, [p1], rfl, K02, e2, rfl, fun i q w h1 h2 => ?_⟩ (fun i σ H' ⟨_, _, _, _, _, K', _⟩ => ⟨SqL.of (K' _ _ T.cu), SqL.of (K' _ _ g2)⟩) ?_ ?_
 ·cases i with
  | zero =>
   have z1 : p1 = q := Option.some.inj h1
   have z2 : ((S.ru r : Int) - n, S.D) = w := Option.some.inj h2
   subst z1; subst z2
   exact k2 _ _ e1
  | succ i => simp at h1
 ·rintro i x y σ H' p hx hy ⟨u3, u4, u5, qs, rfl, K', e', hP⟩ hp
  have hi : i < n := by have := (List.getElem?_eq_some_iff.mp hx).1; rw [zL] at this; exact this
  rw [zY hi] at hx
  cases hx
  rw [zU (by omega)] at hy
  cases hy
  have kp : Same H' (upd H' p (.tup [.int ((S.cu i : Nat) : Int), .int (S.M (S.ru r) i)])) := Same.new (Same.refl _) hp
  have ep : upd H' p (.tup [.int ((S.cu i : Nat) : Int), .int (S.M (S.ru r) i)]) p = some (.tup [.int ((S.cu i : Nat) : Int), .int (S.M (S.ru r) i)]) := zf
  generalize upd H' p (.tup [.int ((S.cu i : Nat) : Int), .int (S.M (S.ru r) i)]) = H3 at kp ep ⊢
  refine ⟨p, [.int ((S.cu i : Nat) : Int), .int (S.M (S.ru r) i)], rfl, SqT.of ep, rfl, .int ((S.cu i : Nat) : Int), [.int (S.M (S.ru r) i)], rfl, ?_⟩
  walk_at "v"
  refine ⟨.int (S.M (S.ru r) i), [], rfl, ?_⟩
  walk_at "v"
  refine ⟨rfl, ?_⟩
  have K3 := K'.trans kp
  walk_at "v"
  refine ⟨rfl, ?_⟩
  walk_at "v"
  have e3 := kp _ _ e'
  have hql : qs.length ≤ i + 1 := by
   rw [hP.1]
   unfold prsI
   rw [List.length_cons, List.length_map]
   have := List.length_filter_le (fun c => decide (S.M (S.ru r) c ≠ 0)) (List.range i)
   rw [List.length_range] at this
   omega
  refine Xv (fun h1 => ?_) (fun h1 => ?_)
  ·have hne : S.M (S.ru r) i ≠ 0 := fun z => h1 (by rw [z])
   walk_at "v"
   refine ⟨.inl ⟨rfl, _, SqL.of e3⟩, ?_⟩
   walk_at "v"
   refine zF ?_
   walk_at "v"
   refine ⟨o, C, _, _, _, rfl, (K3 _ _ T.ob), R.c, R.n1, rfl, ?_⟩
   walk_at "v"
   refine ⟨_, rfl, ?_⟩
   refine ⟨sz2, fun p4 hp4 => ?_⟩
   obtain ⟨H4, q, k4, e4⟩ := nob (.tup [.int ((S.cu i : Int) - n), .int (- S.M (S.ru r) i)]) hp4; rw [q]; clear q
   walk_at "v"
   refine ⟨D1, _, _, rfl, rfl, k4 _ _ e3, zA (by rw [List.length_map]; omega), ?_⟩
   have nq : ∀ q w, H4 q = some (.tup w) → q ≠ D1 := fun q w e z => by rw [z, k4 _ _ e3] at e; cases e
   have hP4 := (hP.same (kp.trans k4)).snoc (w := ((S.cu i : Int) - n, - S.M (S.ru r) i)) e4
   refine ⟨_, _, _, qs ++ [p4], rfl, (K3.trans k4).put hD0, by rw [zf]; simp, ?_⟩
   have : prsI n S r (i + 1) = prsI n S r i ++ [((S.cu i : Int) - n, - S.M (S.ru r) i)] := by
    unfold prsI
    rw [List.range_succ, List.filter_append, List.filter_cons_of_pos (by simp [hne])]
    simp
   rw [this]
   exact ⟨hP4.1, fun i q w e1 e2 => by rw [zh (nq _ _ (hP4.2 i q w e1 e2))]; exact hP4.2 i q w e1 e2⟩
  ·have hz : S.M (S.ru r) i = 0 := by injection h1
   refine ⟨_, _, _, qs, rfl, K3, e3, ?_⟩
   have : prsI n S r (i + 1) = prsI n S r i := by
    unfold prsI
    rw [List.range_succ, List.filter_append, List.filter_cons_of_neg (by simp [hz])]
    simp
   rw [this]
   exact hP.same kp
 ·rintro σ H3 ⟨u3, u4, u5, qs, rfl, K3, e3, hP⟩
  rw [zL] at hP
  walk_at "v"
  have hP : PsA H3 qs (prs0 n S r) := hP
  have hlen : (prs0 n S r).length ≤ 41 := by
   unfold prs0
   rw [List.length_cons, List.length_map]
   have := List.length_filter_le (fun c => decide (S.M (S.ru r) c ≠ 0)) (List.range n)
   rw [List.length_range] at this
   omega
  refine ⟨D1, rfl, ⟨_, SqL.of e3⟩, fun D4 hD4 => ?_⟩
  refine prs_mapL (xs := prs0 n S r) (fun w => V.int w.1) (fun w => V.int w.2) (fun w => V.int w.2) e3 hP.1 (by omega) (fun i q w h1 h2 => hP.2 i q w h1 h2) (fun i w H' hw K' R' kR => ?_) (fun H4 K4 e4 => ?_) hD4
  ·walk_at "v"
   exact kR _ (Same.refl _)
  walk_at "v"
  have e4' : H4 D4 = some (.lst (((prs0 n S r).map (·.2)).map V.int)) := by rw [e4, List.map_map]; rfl
  refine ⟨D4, _, rfl, e4', ?_⟩
  have hgd : ∀ w ∈ prs0 n S r, ((gcdL ((prs0 n S r).map (·.2)) : Nat) : Int) ∣ w.2 := fun w hw => Int.ofNat_dvd_left.mpr (xS (List.mem_map_of_mem hw))
  have hDm : S.D ∈ (prs0 n S r).map (·.2) := by unfold prs0; simp
  have hg0 : (0 : Int) < ((gcdL ((prs0 n S r).map (·.2)) : Nat) : Int) := by
   rcases Nat.eq_zero_or_pos (gcdL ((prs0 n S r).map (·.2))) with z | z
   ·have := vw z S.D hDm
    have := I.D0
    omega
   ·omega
  have hgs : Sm ((gcdL ((prs0 n S r).map (·.2)) : Nat) : Int) := by
   have h1 := Yo hDm (by have := I.D0; omega)
   have h2 : S.D.natAbs < 2 ^ 4000 := hsd
   show (Int.natAbs ((gcdL _ : Nat) : Int)) < 2 ^ 4000
   rw [Int.natAbs_natCast]
   exact Nat.lt_of_le_of_lt h1 h2
  generalize ((gcdL ((prs0 n S r).map (·.2)) : Nat) : Int) = g at hgd hg0 hgs ⊢
  have K04 := K3.trans K4
  have hP4 := hP.same K4
  walk_at "v"
  have hnd := prs_nodup I hrm
  refine ⟨D1, qs, (prs0 n S r).map pk, 2, rfl, K4 _ _ e3, Zh hP4, by decide, fun ks hk => ?_, ?_, by rw [List.length_map]; omega, ?_⟩
  ·obtain ⟨w, _, rfl⟩ := List.mem_map.mp hk
   rfl
  ·refine List.pairwise_map.mpr ?_
   have nd' : (prs0 n S r).Pairwise fun a b => a.1 ≠ b.1 := by
    have := hnd
    unfold List.Nodup at this
    rwa [List.pairwise_map] at this
   exact nd'.imp fun h z => h (by injection z)
  intro D5 qs5 ks5 hD5 hr5 hp5 hs5
  obtain ⟨us, rfl, hpu⟩ := perm_pk hp5
  have hP5 := rows_psa hr5
  have hrise := rise_pk hs5 ((hpu.map (·.1)).nodup_iff.mpr hnd)
  have hul := hpu.length_eq
  obtain ⟨H5, q, k5, e5⟩ := nob (.lst (qs5.map V.ref)) hD5; rw [q]; clear q
  have hP6 := hP5.same k5
  refine ⟨D5, rfl, ⟨_, SqL.of e5⟩, fun D6 hD6 => ?_⟩
  refine Yn (S := Same) (rs := qs5) (fun i y H' => ∃ q w, us[i]? = some w ∧ y = .ref q ∧ H' q = some (.tup [.int w.1, .int (w.2 / g)])) (Kp.same hD6) (fun t ⟨q, w, a, b, e⟩ => ⟨q, w, a, b, t.t _ _ e⟩) (fun _ b => TK.same b) (by have := hP5.1; omega) (fun H' K' => SqL.of (K' _ _ e5)) (fun i q H' hq K' => ?_) (fun ys H6 gp e6 => ?_)
  ·have hi : i < us.length := by have := (List.getElem?_eq_some_iff.mp hq).1; have := hP5.1; omega
   have hw : us[i]? = some us[i] := List.getElem?_eq_getElem hi
   refine ⟨.int us[i].1, .int us[i].2, K' _ _ (hP6.2 i q _ hq hw), fun R' kR => ?_⟩
   walk_at "v"
   refine ⟨_, _, rfl, rfl, ⟨hg0, ZY hgs⟩, ?_⟩
   walk_at "v"
   refine ⟨sz2, fun p7 hp7 => ?_⟩
   exact kR _ _ (Same.new (Same.refl _) hp7) ⟨p7, _, hw, rfl, zf⟩
  obtain ⟨K6, hl6, hy6⟩ := gp
  obtain ⟨qs7, rfl, hq7⟩ : ∃ qs7 : List Addr, ys = qs7.map V.ref ∧ PsA H6 qs7 (us.map fun w => (w.1, w.2 / g)) := by
   have hall : ∀ y ∈ ys, ∃ q, y = .ref q := fun y hy => by
    obtain ⟨i, hi⟩ := List.getElem?_of_mem hy
    obtain ⟨q, w, _, e, _⟩ := hy6 i y hi
    exact ⟨q, e⟩
   obtain ⟨qs7, rfl⟩ := Z3 hall
   refine ⟨qs7, rfl, by rw [List.length_map] at hl6 ⊢; rw [hl6, hP5.1], fun i q w e1 e2 => ?_⟩
   obtain ⟨q', w', f1, f2, f3⟩ := hy6 i (.ref q) (by rw [List.getElem?_map, e1]; rfl)
   injection f2 with f2
   subst f2
   rw [List.getElem?_map, f1] at e2
   cases e2
   exact f3
  walk_at "v"
  refine ⟨D6, _, rfl, e6, fun l8 H8 K8 e8 => ?_⟩
  have hB := bears I Kk hg0 hgd hpu hrise
  refine k H8 l8 qs7 _ (((K04.trans k5).trans K6).trans K8) hB (fun w hw => ?_) e8 (hq7.same K8)
  obtain ⟨u, hu, rfl⟩ := List.mem_map.mp hw
  have hu' := hpu.mem_iff.mp hu
  have hsu : Sm u.2 := by
   rcases (vP I Kk hu').2.2 with e | ⟨c, hc, e⟩
   ·rw [e]; exact hsd
   ·rw [e]
    unfold Sm
    rw [Int.natAbs_neg]
    exact hsm c (by omega)
  exact ZE hg0 hsu
end
end K11
namespace WG
theorem Y5 : ∀ n, det n (fun a b => if a = b then 1 else 0) = 1
 | 0 => rfl
 | n + 1 => by
  show sm (n + 1) _ = 1
  rw [yM (k := 0) (by omega) fun i hi hne => by simp [hne]]
  have e : (fun a b => (if skip 0 a = b + 1 then (1 : Int) else 0)) = fun a b => if a = b then 1 else 0 := by
   funext a b
   unfold skip
   by_cases h : a = b
   ·simp [h]
   ·simp [h]
  show sg 0 * 1 * det n (fun a b => (if skip 0 a = b + 1 then (1 : Int) else 0)) = 1
  rw [e, Y5 n]
  rfl
theorem inv0 {n m : Nat} {v : Nat → Nat → Int} (hv : ∀ u < n, ∀ j, v u j = if j = u then 1 else 0) : Inv n m v ⟨1, v, fun r => n + r, fun c => c⟩ := by
 have hw : ∀ a < n + 1, ∀ b < n + 1, wv n v (fun c => c) a b = if a = b then 1 else 0 := fun a ha b hb => by
  unfold wv un
  by_cases h : a < n
  ·rw [if_pos h, hv a h]
   by_cases e : a = b
   ·rw [if_pos e, if_pos e.symm]
   ·rw [if_neg e, if_neg (Ne.symm e)]
  ·rw [if_neg h]
   by_cases e : a = b
   ·rw [if_pos e, if_pos (by omega)]
   ·rw [if_neg e, if_neg (by omega)]
 refine ⟨Int.one_pos, fun r hr => by dsimp only; omega, fun c hc => by dsimp only; omega, fun u hu => ?_, fun a _ b _ e => by dsimp only at e; omega, fun a _ b _ e => e, fun a _ b hb e => by dsimp only at e; omega, fun c hc k hk => ?_, fun u hu j hj => ?_, fun u hu k hk => ?_, ⟨1, rfl, ?_⟩⟩
 ·by_cases h : u < n
  ·exact .inr ⟨u, h, rfl⟩
  ·exact .inl ⟨u - n, by omega, by dsimp only; omega⟩
 ·exact hv c hc k
 ·show 1 * v u j = sm (n + 1) fun c => v u c * wv n v (fun c => c) c j
  rw [yM (k := j) (by omega) fun i hi hne => by rw [hw i hi j (by omega), if_neg hne]; simp, hw j (by omega) j (by omega), if_pos rfl]
  omega
 ·show v u k = (sm n fun j => v u j * v j k) + v u n * (if k = n then 1 else 0)
  by_cases h : k = n
  ·subst h
   rw [if_pos rfl, yL fun j hj => by rw [hv j hj, if_neg (by omega)]; simp]
   omega
  ·rw [if_neg h, yM (k := k) (by omega) fun i hi hne => by rw [hv i hi, if_neg (Ne.symm hne)]; simp, hv k (by omega), if_pos rfl]
   omega
 ·show (1 : Int) = 1 * det (n + 1) (wv n v fun c => c)
  rw [xv (w' := fun a b => if a = b then 1 else 0) fun a ha b hb => hw a ha b hb, Y5]
  rfl
end WG
namespace K11
open PySem L2 G2 WG EL
abbrev sWg : Stmt := top 6
abbrev nWg : List Str := ["many", "problem", "table", "row", "column"]
theorem nmWg : Nm nWg (zc sWg) := nmk (by decide +kernel)
theorem scWg : FnScope nWg ["many", "problem"] (zc sWg) := fsk (by decide +kernel)
theorem w_notN {ta : TE} {σ : St} {H : Hp} {Q : VK} (h : ta σ H fun x H1 => Q (.bl (!decide (x = .non))) H1) : Xh ta σ H Q := h
theorem Xb {ta : TE} {σ : St} {H : Hp} {Q : VK} (h : ta σ H fun x H1 => Q (.bl (decide (x = .non))) H1) : tIsN ta σ H Q := h
def Tbs (H : Hp) (p1 p2 : Addr) : Prop := TabAt H p1 qLr ∧ TabAt H p2 qCf
def SameT (p1 p2 : Addr) (H H' : Hp) : Prop := ∀ a u, a ≠ p1 → a ≠ p2 → H a = some u → H' a = some u
theorem _root_.L2.TabAt.keep {H H' : Hp} {P : Addr} {q : Str} (h : TabAt H P q) (k1 : ∀ ps, H P = some (.tbl ps) → H' P = some (.tbl ps)) (k2 : ∀ a φ, H a = some (.ext φ) → H' a = some (.ext φ)) : TabAt H' P q := by
 obtain ⟨ps, h1, h2, h3⟩ := h
 refine ⟨ps, k1 _ h1, h2, fun pos cv e' => ?_⟩
 obtain ⟨c, rfl, hc⟩ := h3 pos cv e'
 exact ⟨c, rfl, k2 _ _ hc⟩
theorem _root_.L2.TabAt.tbl {H : Hp} {P : Addr} {q : Str} (h : TabAt H P q) : ∃ ps, H P = some (.tbl ps) := let ⟨ps, e, _⟩ := h; ⟨ps, e⟩
theorem _root_.L2.TabAt.other {H H' : Hp} {P P' : Addr} {q q' : Str} (h : TabAt H P q) (h' : TabAt H P' q') (hne : P ≠ P') (k : SameB P' H H') : TabAt H' P q := by
 obtain ⟨ps, e⟩ := h'.tbl
 exact h.keep (fun qs e1 => k _ _ hne e1) fun a φ e1 => k _ _ (fun z => by rw [z, e] at e1; cases e1) e1
structure PrS (n : Nat) (rows : List (List Int × Int)) (Bd : Nat) : Prop where
 n40 : n ≤ 40
 m60 : rows.length ≤ 60
 b1 : 1 ≤ Bd
 bd : ∀ r ∈ rows, (∀ x ∈ r.1, x.natAbs ≤ Bd) ∧ r.2.natAbs ≤ Bd
 big : fac (n + 1) * Bd ^ (n + 1) < 2 ^ 4000
theorem PrS.vec {n : Nat} {rows : List (List Int × Int)} {Bd : Nat} (h : PrS n rows Bd) (u j : Nat) : (vec n rows u j).natAbs ≤ Bd := by
 have h1 := h.b1
 unfold K11.vec
 split
 ·split <;> simp <;> omega
 ·split
  ·rename_i b p e
   have hb := h.bd (b, p) (List.mem_of_getElem? e)
   split
   ·rw [List.getD_eq_getElem?_getD]
    cases e2 : b[j]? with
    | none => simp
    | some x => exact hb.1 x (List.mem_of_getElem? e2)
   ·split
    ·exact hb.2
    ·simp
  ·simp
theorem PrS.sm {n : Nat} {rows : List (List Int × Int)} {Bd : Nat} (h : PrS n rows Bd) {S : Tb} (I : Inv n rows.length (K11.vec n rows) S) {u k : Nat} (hu : u < n + rows.length) (hk : k ≤ n) : Sm (S.M u k) := Nat.lt_of_le_of_lt (I.bound (fun u _ j _ => h.vec u j) h.b1 hu hk) h.big
theorem PrS.smD {n : Nat} {rows : List (List Int × Int)} {Bd : Nat} (h : PrS n rows Bd) {S : Tb} (I : Inv n rows.length (K11.vec n rows) S) : Sm S.D := Nat.lt_of_le_of_lt (I.D_bound (fun u _ j _ => h.vec u j) h.b1) h.big
def spWg (p1 p2 : Addr) : Sp := fun vs H Q _ => ∃ (l : Addr) (n : Nat) (rows : List (List Int × Int)) (Bd : Nat), vs = [.int (n : Int), .ref l] ∧ PrAt H n rows l ∧ PrS n rows Bd ∧ Tbs H p1 p2 ∧
 (∀ H' q p (x : Nat → Int) (d : Int), SameT p1 p2 H H' → Tbs H' p1 p2 → 1 ≤ d → Met n rows.length (vec n rows) x d → Sm d → (∀ j < n, Sm (x j)) → H' q = some (.tup [.str "numbers", .ref p, .int d]) → H' p = some (.tup ((List.range n).map fun j => V.int (x j))) → Q (.ref q) H') ∧
 (∀ H' q p qs ws, SameT p1 p2 H H' → Tbs H' p1 p2 → Bw n rows.length (vec n rows) ws → (∀ w ∈ ws, Sm w.2) → H' q = some (.tup [.str "weights", .ref p]) → H' p = some (.tup (qs.map V.ref)) → PsA H' qs ws → Q (.ref q) H')
section
variable {P : Program} {w : World} {K : W.Frag} {mg : Str → Option Value} {base : Heap}
theorem ok_Wg {f : Addr} {fd : FuncData} {C p1 p2 : Addr} (h12 : p1 ≠ p2) (B : Bl mg) (hK : HasK P w K mg base 1 "Tableau" C ["self", "many", "problem"] (spTi C)) (hL : HasM P w K mg base 3 C "low_row" ["self"] (spLr C p1)) (hF : HasM P w K mg base 3 C "column_for" ["self", "row"] (spCf C p2)) (hT : HasM P w K mg base 2 C "turn" ["self", "row", "column"] (spTn C)) (hM : HasM P w K mg base 2 C "met" ["self"] (spMe C)) (hO : HasM P w K mg base 2 C "borne" ["self", "row"] (spBo C)) (F : Fun K "weighed" "weighed" sWg f fd) : FnOk P w K mg base CX0 5 f fd ["many", "problem"] (spWg p1 p2) := by
 refine F.ok scWg (fun vs H Q E h => ?_) (fun cdv A outer s H vs Q E hr h => ?_)
 ·obtain ⟨l, n, rows, Bd, rfl, _⟩ := h
  rfl
 obtain ⟨l, n, rows, Bd, rfl, hP, hS, hT0, kN, kW⟩ := h
 refine' ⟨_, ?hb, ?rd⟩
 case' hb => skip
 case' hb => refine' ze ?g1 ?g2
 case' g2 => refine' ze ?g3 ?g4
 case' g4 => refine' ze ?g5 ?g6
 case' g6 => refine' zi ?g7
 case g1 => exact zq nmWg 2 (pe_mk hK hr (by decide) (pa_2 (pvd nmWg 0) (pvd nmWg 1)))
 case g3 => exact zq nmWg 3 (YM hL hr (by decide) (pvd nmWg 2))
 case' g5 => refine' Zi PassesOwn.never ?g8 ?g9
 case g8 => exact ZG (pc_notN (pvd nmWg 3))
 case' g9 => refine' ze ?g10 ?g11
 case' g11 => refine' ze ?g12 ?g13
 case' g13 => refine' ze ?g14 ?g15
 case' g15 => refine' zi ?g16
 case g10 => exact zq nmWg 4 (pe_m hF hr (by omega) (pvd nmWg 2) (pa_1 (pvd nmWg 3)))
 case' g12 => refine' zQ ?g17 ?g18 zE
 case g17 => exact ZG (YQ (pvd nmWg 4))
 case' g18 => refine' zi ?g20
 case g20 => exact zr (zR (pa_2 xp (pe_m hO hr (by omega) (pvd nmWg 2) (pa_1 (pvd nmWg 3)))))
 case g14 => exact zW (pe_m hT hr (by omega) (pvd nmWg 2) (pa_2 (pvd nmWg 3) (pvd nmWg 4)))
 case g16 => exact zq nmWg 3 (YM hL hr (by decide) (pvd nmWg 2))
 case g7 => exact zr (zk Z8 (zR (pa_1 xp)) (YM hM hr (by decide) (pvd nmWg 2)))
 have hT1 := hT0.1
 have hT2 := hT0.2
 obtain ⟨tb1, et1⟩ := hT1.tbl
 obtain ⟨tb2, et2⟩ := hT2.tbl
 walk_at "v"
 refine w_make ?_
 walk_at "v"
 rintro o dx0 ho hdx hne
 have k1 : Same H (upd (upd H dx0 (.own o)) o (.ins C dx0 [])) := (Same.new (Same.refl _) hdx).new (by rw [zh (Ne.symm hne)]; exact ho)
 have e1 : upd (upd H dx0 (.own o)) o (.ins C dx0 []) o = some (.ins C dx0 []) := zf
 generalize upd (upd H dx0 (.own o)) o (.ins C dx0 []) = H1 at k1 e1 ⊢
 obtain ⟨ras0, bas0, hP0⟩ := hP
 refine ⟨o, dx0, l, n, rows, rfl, e1, ⟨ras0, bas0, hP0.same fun a u e _ => k1 a u e⟩, hS.n40, hS.m60, fun H2 dx pr0 pu pc ras2 b2 T2 hpu hpc => ⟨rfl, ?_⟩⟩
 have hpu : H pu = none := Same.free k1 hpu
 have hpc : H pc = none := Same.free k1 hpc
 have K2 : Same H H2 := fun a u e => b2 a u (zg e ho) (k1 a u e)
 have hn40 := hS.n40
 have hm60 := hS.m60
 have I0 : Inv n rows.length (vec n rows) (tb0 n rows) := inv0 fun u hu j => by unfold vec; rw [if_pos hu]
 let LI : Hp → Tb → Nat → Addr → List Addr → Prop := fun H' S t pr ras => TbA H' C o n rows.length S t dx pr pu pc ras ∧ Inv n rows.length (vec n rows) S ∧ SameT p1 p2 H H' ∧ Tbs H' p1 p2
 have L2' : LI H2 (tb0 n rows) 0 pr0 ras2 := ⟨T2, I0, fun a u _ _ e => K2 a u e, hT1.same K2, hT2.same K2⟩
 -- low_row
 have lowr : ∀ {H' : Hp} {S : Tb} {t : Nat} {pr : Addr} {ras : List Addr} {Q' : VK}, LI H' S t pr ras → (∀ H'' (ob : Option Nat), LI H'' S t pr ras → (ob = none → ∀ r, ¬ low n rows.length S r) → (∀ r, ob = some r → low n rows.length S r ∧ (200 ≤ t → ∀ q, low n rows.length S q → S.ru r ≤ S.ru q)) → Q' (ob.elim .non fun r => .int (r : Int)) H'') → spLr C p1 [.ref o] H' Q' E0 := fun {H' S t pr ras Q'} ⟨T, I, sT, tT⟩ q => by
  refine ⟨o, n, rows.length, S, t, rfl, ⟨dx, pr, pu, pc, ras, T⟩, hm60, tT.1, fun H'' ob k3 hT3 h0 h1 => q H'' ob ⟨T.tab tT.1 k3, I, fun a u n1 n2 e => k3 a u n1 (sT a u n1 n2 e), hT3, tT.2.other tT.1 (Ne.symm h12) k3⟩ h0 h1⟩
 walk_at "v"
 refine yH ?_
 walk_at "v"
 refine ⟨o, dx, _, rfl, T2.ob, rfl, ?_⟩
 walk_at "v"
 refine lowr L2' fun H3 ob3 L3 h30 h31 => ?_
 walk_at "v"
 refine ZR ⟨fun mm σ H' => ∃ (S : Tb) (t : Nat) (pr : Addr) (ras : List Addr) (k : Nat) (h : Nat → Tb) (rw_ cw : Nat → Nat) (ob : Option Nat) (u4 : Option V), σ = [some (.int (n : Int)), some (.ref l), some (.ref o), some (ob.elim .non fun r => .int (r : Int)), u4] ∧ LI H' S t pr ras ∧ Way n rows.length (vec n rows) k h rw_ cw ∧ h k = S ∧ mm = (200 - t) * (2 ^ (n + rows.length) + 1) + (2 ^ (n + rows.length) - k) ∧ (ob = none → ∀ r, ¬ low n rows.length S r) ∧ (∀ r, ob = some r → low n rows.length S r ∧ (200 ≤ t → ∀ q, low n rows.length S q → S.ru r ≤ S.ru q)),
  ⟨_, _, _, _, _, _, _, _, _, _, _, rfl, L3, Way.one I0, rfl, rfl, h30, h31⟩, ?_⟩
 rintro mm σ H' ⟨S, t, pr, ras, k, h, rw_, cw, ob, u4, rfl, ⟨T, I, sT, tT⟩, Wy, hk, rfl, h0, h1⟩
 walk_at "v"
 refine w_notN ?_
 walk_at "v"
 have hsmD := hS.smD I
 have hsm : ∀ q k, q < rows.length → k ≤ n → Sm (S.M (S.ru q) k) := fun q k hq hk => hS.sm I (I.rl q hq) hk
 cases ob with
 | none =>
  refine iteF ?_
  walk_at "v"
  refine ⟨sz1, fun p5 hp5 => ?_⟩
  have k5 : Same H' (upd H' p5 (.tup [.str "numbers"])) := Same.new (Same.refl _) hp5
  have e5 : upd H' p5 (.tup [.str "numbers"]) p5 = some (.tup [.str "numbers"]) := zf
  generalize upd H' p5 (.tup [.str "numbers"]) = H5 at k5 e5 ⊢
  walk_at "v"
  refine yH ?_
  walk_at "v"
  refine ⟨o, dx, _, rfl, k5 _ _ T.ob, rfl, ?_⟩
  walk_at "v"
  refine ⟨o, n, rows.length, vec n rows, S, t, dx, pr, pu, pc, ras, rfl, T.same fun a u e _ => k5 a u e, I, hn40, hm60, hsmD, fun H6 q6 p6 g K6 hg hgD hgM e6 f6 => ?_⟩
  obtain ⟨hd, hM⟩ := meets I (h0 rfl) hg hgD hgM
  refine ⟨p5, q6, _, _, rfl, rfl, K6 _ _ e5, e6, by show 1 + 2 ≤ 1000; decide, fun q7 H7 K7 e7 => ?_⟩
  have hK := (k5.trans K6).trans K7
  exact kN H7 q7 p6 (fun j => S.M j n / g) (S.D / g) (fun a u n1 n2 e => hK _ _ (sT a u n1 n2 e)) ⟨tT.1.same hK, tT.2.same hK⟩ hd hM (ZE hg hsmD) (fun j hj => ZE hg (hS.sm I (by omega) (Nat.le_refl _))) e7 (K7 _ _ f6)
 | some r =>
  obtain ⟨hlo, hlm⟩ := h1 r rfl
  have hrm := hlo.1
  refine iteT ?_
  refine ⟨_, fun σ' H' z => z, ?_⟩
  walk_at "v"
  refine yH ?_
  walk_at "v"
  refine ⟨o, dx, _, rfl, T.ob, rfl, ?_⟩
  walk_at "v"
  refine ⟨o, n, rows.length, r, S, t, rfl, ⟨dx, pr, pu, pc, ras, T⟩, hrm, hn40, tT.2, fun H4 oc k4 hT4 g0 g1 => ?_⟩
  have T4 := T.tab tT.2 k4
  have sT4 : SameT p1 p2 H H4 := fun a u n1 n2 e => k4 a u n2 (sT a u n1 n2 e)
  have tT4 : Tbs H4 p1 p2 := ⟨tT.1.other tT.2 h12 k4, hT4⟩
  walk_at "v"
  refine Xb ?_
  walk_at "v"
  cases oc with
  | none =>
   refine iteT ?_
   walk_at "v"
   refine yH ?_
   walk_at "v"
   refine ⟨o, dx, _, rfl, T4.ob, rfl, ?_⟩
   walk_at "v"
   refine ⟨o, n, rows.length, r, vec n rows, S, t, dx, pr, pu, pc, ras, rfl, T4, I, ⟨hlo, g0 rfl⟩, hn40, hm60, hsmD, fun c hc => hsm r c hrm hc, fun H6 p6 qs ws K6 hB hws e6 f6 => ?_⟩
   walk_at "v"
   refine ⟨sz2, fun q7 hq7 => ?_⟩
   have k7 : Same H6 (upd H6 q7 (.tup [.str "weights", .ref p6])) := Same.new (Same.refl _) hq7
   exact kW _ q7 p6 qs ws (fun a u n1 n2 e => k7 _ _ (K6 _ _ (sT4 a u n1 n2 e))) ⟨tT4.1.same (K6.trans k7), tT4.2.same (K6.trans k7)⟩ hB hws zf (k7 _ _ e6) (f6.same k7)
  | some c =>
   obtain ⟨hmy, hml⟩ := g1 c rfl
   refine iteF ?_
   have hcn := hmy.1
   have hnz : S.M (S.ru r) c ≠ 0 := by
    rcases hmy.2 with z | z
    ·exact z.2
    ·have := z.2.1
     omega
   walk_at "v"
   refine yH ?_
   walk_at "v"
   refine ⟨o, dx, _, rfl, T4.ob, rfl, ?_⟩
   walk_at "v"
   refine ⟨o, n, rows.length, r, c, vec n rows, S, t, dx, pr, pu, pc, ras, rfl, T4, I, hrm, hcn, hnz, hn40, hm60, hsm, hsmD, fun H6 pr6 ras6 k6 T6 => ?_⟩
   have nT : ∀ {a : Addr} {u : HO}, H4 a = some u → (∀ C dx fs, u ≠ .ins C dx fs) → (∀ xs, u ≠ .lst xs) → H6 a = some u := fun {a u} e n1 n2 => k6 a u (fun z => by rw [z, T4.ob] at e; cases e; exact n1 _ _ _ rfl) (fun z => by rw [z, T4.ru] at e; cases e; exact n2 _ rfl) (fun z => by rw [z, T4.cu] at e; cases e; exact n2 _ rfl) e
   have I6 := I.turn hrm hcn hnz
   have L6 : LI H6 (turn S r c) (t + 1) pr6 ras6 := ⟨T6, I6, fun a u n1 n2 e => k6 a u (zg e ho) (zg e hpu) (zg e hpc) (sT4 a u n1 n2 e), tT4.1.keep (fun ps e => nT e (fun _ _ _ z => by cases z) (fun _ z => by cases z)) (fun a φ e => nT e (fun _ _ _ z => by cases z) (fun _ z => by cases z)), tT4.2.keep (fun ps e => nT e (fun _ _ _ z => by cases z) (fun _ z => by cases z)) (fun a φ e => nT e (fun _ _ _ z => by cases z) (fun _ z => by cases z))⟩
   walk_at "v"
   refine yH ?_
   walk_at "v"
   refine ⟨o, dx, _, rfl, T6.ob, rfl, ?_⟩
   walk_at "v"
   refine lowr L6 fun H8 ob8 L8 h80 h81 => ?_
   walk_at "v"
   have hfew := Wy.few
   by_cases ht : 200 ≤ t
   ·have bs : BStep n rows.length (h k) r c := by
     rw [hk]
     exact ⟨hlo, hlm ht, hcn, hnz, hmy.2.elim (fun z => .inl z.1) fun z => (hml ht).imp id fun q => ⟨z.2.1, z.2.2, q⟩⟩
    obtain ⟨h', r', c', Wy', hk'⟩ := Wy.more bs
    have hfew' := Wy'.few
    rw [hk] at hk'
    refine ⟨_, ?_, _, _, _, _, k + 1, h', r', c', ob8, _, rfl, L8, Wy', hk', rfl, h80, h81⟩
    rw [show 200 - (t + 1) = 0 by omega, show 200 - t = 0 by omega]
    omega
   ·refine ⟨_, ?_, _, _, _, _, 0, _, _, _, ob8, _, rfl, L8, Way.one I6, rfl, rfl, h80, h81⟩
    rw [show 200 - t = (200 - (t + 1)) + 1 by omega, Nat.succ_mul]
    omega
abbrev YD : Stmt := top 8
abbrev YE : Stmt := top 9
def FeedAt (H : Hp) (p : Addr) : Prop := ∃ a b c : Int, H p = some (.lst [.int a, .int b, .int c])
theorem FeedAt.here {H : Hp} {p : Addr} {x y z : Int} : FeedAt (upd H p (.lst [.int x, .int y, .int z])) p := ⟨x, y, z, zf⟩
def YB (K : W.Frag) : Sp := fun vs H Q _ => ∃ (a : Addr) (ns : List Int) (k : Nat), vs = [.ref a, .int k] ∧ SqL K H a (ns.map V.int) ∧ ns.length ≤ 63 ∧ ∀ p x y z, H p = none → Q (.ref p) (upd H p (.lst [.int x, .int y, .int z]))
def xZ : Sp := fun vs H Q _ => ∃ (p : Addr) (m : Int), vs = [.ref p, .int m] ∧ FeedAt H p ∧ 0 < m ∧ m < 2000000 ∧ ∀ (r x y z : Int), 0 ≤ r → r < m → Q (.int r) (upd H p (.lst [.int x, .int y, .int z]))
theorem md {i j : Int} (h : 0 < j) : 0 ≤ i % j ∧ i % j < j := ⟨Int.emod_nonneg _ (Int.ne_of_gt h), Int.emod_lt_of_pos _ h⟩
theorem mulL {i j : Int} (h1 : 0 ≤ i) (h2 : i < 4000000000) : CMul i j := .inl ⟨by omega, by omega⟩
theorem scDraw : FnScope ["_law_feed_here", "_law_many", "_law_found", "_law_mixed"] ["_law_feed_here", "_law_many"] (zc YE) := ⟨rfl, rfl, rfl, by decide +kernel, rfl, by decide +kernel, by decide +kernel⟩
theorem ok_draw {f : Addr} {fd : FuncData} (F : Fun K "_law_draw" "_law_draw" YE f fd) : FnOk P w K mg base CX0 1 f fd ["_law_feed_here", "_law_many"] xZ := by
 refine F.ok scDraw (fun vs H Q E h => ?_) (fun cdv A outer s H vs Q E hr h => ?_)
 ·obtain ⟨p, m, rfl, _⟩ := h
  rfl
 obtain ⟨p, m, rfl, ⟨a, b, c, hp⟩, hm, hm2, k⟩ := h
 refine ⟨_, ze (xm (zk zS (ziq (pv 0) zd) zd) (xn (pv 0) zd wB))
  (ze (zQ (zm wC (ziq (pv 0) zd) zd (zo _))
   (ze (xA (i := 2) scDraw.nd rfl (Or.inl rfl) (zk yT (ziq (pv 0) zd) (pv 1)))
   (ze (xm (zk wN (ziq (pv 0) zd) (pv 1)) (xn (pv 0) zd wB))
   (zi (zr (pv 2))))) zE)
  (ze (xA (i := 3) scDraw.nd rfl (Or.inl rfl) (zk yT (zk xB (zk yT (zk zS (ziq (pv 0) zd) (zk xB zd (ziq (pv 0) zd))) zd) zd) zd))
  (ze (xA (i := 3) scDraw.nd rfl (Or.inl rfl) (zk yT (zk xB (pv 3) (zk zS (pv 3) zd)) zd))
  (zi (zr (zk yT (zk wN (zk yT (zk xB (pv 3) zd) zd) zd) (pv 1))))))), ?_⟩
 walk_at "v"
 refine zv hp rfl ?_
 walk_at "v"
 refine wk hp rfl ?_
 walk_at "v"
 refine zv zf rfl ?_
 walk_at "v"
 refine iteD (fun _ => ?_) (fun _ => ?_)
 ·walk_at "v"
  refine zv zf rfl ?_
  walk_at "v"
  refine w_rI hm ?_
  walk_at "v"
  refine zv zf rfl ?_
  walk_at "v"
  refine w_rI ⟨hm, by omega⟩ ?_
  walk_at "v"
  refine wk zf rfl ?_
  walk_at "v"
  rw [vL]
  exact k _ _ _ _ (md hm).1 (md hm).2
 ·walk_at "v"
  refine zv zf rfl ?_
  walk_at "v"
  refine zv zf rfl ?_
  refine w_rI (mulL (by decide) (by decide)) ?_
  walk_at "v"
  refine w_rI (by decide) ?_
  walk_at "v"
  refine w_rI (mulL (md (by decide)).1 (by have := (md (i := b + 40692 * (c + 1)) (j := 2147483399) (by decide)).2; omega)) ?_
  walk_at "v"
  refine w_rI (by decide) ?_
  generalize hx : (b + 40692 * (c + 1)) % 2147483399 * 48271 % 2147483647 = x
  have h1 := md (i := (b + 40692 * (c + 1)) % 2147483399 * 48271) (j := 2147483647) (by decide)
  rw [hx] at h1
  walk_at "v"
  refine w_rI (mulL h1.1 (by omega)) ?_
  walk_at "v"
  refine w_rI (by decide) ?_
  generalize hy : x * (x + 7919) % 2147483587 = y
  have h2 := md (i := x * (x + 7919)) (j := 2147483587) (by decide)
  rw [hy] at h2
  walk_at "v"
  refine w_rI (mulL h2.1 (by omega)) ?_
  walk_at "v"
  refine w_rI (by decide) ?_
  walk_at "v"
  refine w_rI ⟨by decide, by decide⟩ ?_
  walk_at "v"
  refine w_rI hm ?_
  exact k _ _ _ _ (md hm).1 (md hm).2
theorem scFeed : FnScope ["_law_script", "_law_k", "_law_cell", "_law_left"] ["_law_script", "_law_k"] (zc YD) := ⟨rfl, rfl, rfl, by decide +kernel, rfl, by decide +kernel, by decide +kernel⟩
theorem ok_feed {f : Addr} {fd : FuncData} (hlen : mg "len" = none) (F : Fun K "_law_feed" "_law_feed" YD f fd) : FnOk P w K mg base CX0 1 f fd ["_law_script", "_law_k"] (YB K) := by
 refine F.ok scFeed (fun vs H Q E h => ?_) (fun cdv A outer s H vs Q E hr h => ?_)
 ·obtain ⟨a, ns, k, rfl, _⟩ := h
  rfl
 obtain ⟨a, ns, k, rfl, hS, hl, q⟩ := h
 refine ⟨_, ze (xA (i := 2) scFeed.nd rfl (Or.inl rfl) (zk zS (zk xB zd (pv 1)) zd))
  (ze (zQ (zm wC (xL zt (by rfl) hlen PySem.boot_len (yS (pv 0) yz)) zd (zo _))
   (zi (xA (i := 2) scFeed.nd rfl (Or.inl rfl) (zk zS (zp ix_list (pv 0) (zk yT (pv 1) (xL zt (by rfl) hlen PySem.boot_len (yS (pv 0) yz))) (fun _ _ => rfl))
    (zk xB zd (zk wN (pv 1) (xL zt (by rfl) hlen PySem.boot_len (yS (pv 0) yz)))))))
   zE)
  (ze (xA (i := 3) scFeed.nd rfl (Or.inl rfl) (wY (zm YS (pv 2) (zk ZI zd zd) (zo _)) (pv 2) zd))
  (zi (zr (yp (yS (pv 3) (yS (zk zS (zk zS (zk yT (pv 2) zd) (zk xB zd (pv 1))) zd) (yS zd yz)))))))), ?_⟩
 walk_at "v"
 refine w_rI (mulL (by decide) (by decide)) ?_
 walk_at "v"
 refine ⟨a, _, rfl, .inl hS, ?_⟩
 walk_at "v"
 refine iteD (fun h0 => ?_) (fun _ => ?_)
 ·walk_at "v"
  refine ⟨a, _, rfl, .inl hS, ?_⟩
  rw [List.length_map] at h0 ⊢
  have h0' : 0 < ns.length := by omega
  refine w_rI h0 ?_
  obtain ⟨j, hj⟩ : ∃ j : Nat, (k : Int) % (ns.length : Int) = (j : Int) := ⟨k % ns.length, by omega⟩
  have hjl : j < ns.length := by
   have := (md (i := (k : Int)) h0).2
   omega
  refine ⟨a, _, _, .int ns[j], rfl, rfl, hS, ?_, ?_⟩
  ·rw [hj]
   exact zu (by simp [hjl])
  ·walk_at "v"
   refine ⟨a, _, rfl, .inl hS, ?_⟩
   rw [List.length_map]
   refine w_rI ⟨h0, by omega⟩ ?_
   refine w_rI (mulL (by decide) (by decide)) ?_
   walk_at "v"
   refine w_rI ⟨by decide, by decide, by decide⟩ ?_
   walk_at "v"
   refine iteD (fun _ => ?_) (fun _ => ?_)
   all_goals
    walk_at "v"
    refine w_rI (by decide) ?_
    walk_at "v"
    refine w_rI (mulL (by decide) (by decide)) ?_
    walk_at "v"
    exact ⟨sz3, fun p hp => q p _ _ _ hp⟩
 ·walk_at "v"
  refine w_rI ⟨by decide, by decide, by decide⟩ ?_
  walk_at "v"
  refine iteD (fun _ => ?_) (fun _ => ?_)
  all_goals
   walk_at "v"
   refine w_rI (by decide) ?_
   walk_at "v"
   refine w_rI (mulL (by decide) (by decide)) ?_
   walk_at "v"
   exact ⟨sz3, fun p hp => q p _ _ _ hp⟩
def SB (p : Addr) (H H' : Hp) : Prop := SameB p H H' ∧ (FeedAt H p → FeedAt H' p)
theorem SB.trans {p : Addr} {H H1 H2 : Hp} (a : SB p H H1) (b : SB p H1 H2) : SB p H H2 := ⟨a.1.trans b.1, fun f => b.2 (a.2 f)⟩
theorem SB.same {p : Addr} {H H' : Hp} (k : Same H H') : SB p H H' := ⟨fun a u _ e => k a u e, fun ⟨x, y, z, e⟩ => ⟨x, y, z, k _ _ e⟩⟩
theorem SB.drawn {p : Addr} {H : Hp} {x y z : Int} : SB p H (upd H p (.lst [.int x, .int y, .int z])) := ⟨fun a u n e => by rw [zh n]; exact e, fun _ => FeedAt.here⟩
theorem FeedAt.np {H : Hp} {p a : Addr} (F : FeedAt H p) (h : H a = none) : a ≠ p := fun z => by obtain ⟨x, y, w, e⟩ := F; rw [z, e] at h; cases h
theorem Xs {p D : Addr} {H : Hp} (F : FeedAt H p) (hD : H D = none) : Kp (SB p) D H := by
 have n : D ≠ p := F.np hD
 refine ⟨SB.same (Same.new (Same.refl _) hD), fun a b => a.trans b, fun _ b e => b.1 _ _ n e, fun {H1 o} a => ⟨fun q u hq e => ?_, fun f => ?_⟩⟩
 ·rw [zh (zg e hD)]; exact a.1 q u hq e
 ·obtain ⟨x, y, z, e⟩ := a.2 f
  exact ⟨x, y, z, by rw [zh (Ne.symm n)]; exact e⟩
theorem vp {p : Addr} {H H' : Hp} (F : FeedAt H p) (a : SB p H H') : TK H H' := by
 obtain ⟨x, y, z, e⟩ := F
 exact ⟨fun q xs h => a.1 q _ (fun w => by rw [w, e] at h; cases h) h, fun q o u h => a.1 q _ (fun w => by rw [w, e] at h; cases h) h⟩
theorem Yj {ys : List V} {P : Int → Prop} (h : ∀ (j : Nat) (y : V), ys[j]? = some y → ∃ x : Int, y = .int x ∧ P x) : ∃ xs : List Int, ys = xs.map V.int ∧ ∀ x ∈ xs, P x := by
 induction ys with
 | nil => exact ⟨[], rfl, fun x hx => by cases hx⟩
 | cons y ys ih =>
  obtain ⟨x, rfl, hx⟩ := h 0 y rfl
  obtain ⟨xs, rfl, hxs⟩ := ih fun j z e => h (j + 1) z e
  exact ⟨x :: xs, rfl, fun z hz => by rcases List.mem_cons.mp hz with rfl | hz; exact hx; exact hxs z hz⟩
abbrev sRo : Stmt := top 10
abbrev nRo : List Str := ["_law_feed_here", "_law_many"]
theorem nmRo : Nm nRo (zc sRo) := nmk (by decide +kernel)
theorem scRo : FnScope nRo ["_law_feed_here", "_law_many"] (zc sRo) := fsk (by decide +kernel)
def qRoa (s : Stmt) : Scope := match s with
 | .Return (some (.ListComp _ _ sc _)) _ => sc
 | _ => nsc
abbrev cRoa : Scope := qRoa ((zj sRo).getD 0 (.Pass ⟨0, 0, 0, 0⟩))
theorem bsRoa : BScope (zc sRo) cRoa ["_law_j"] ["_law_feed_here"] ["_law_draw"] := { okind := by decide +kernel, kind := by decide +kernel, nocell := by decide +kernel, names := by decide +kernel, fr := by decide +kernel, ff := by decide +kernel, nd := by decide +kernel, vis := by decide +kernel, loc := by decide +kernel, gl := by decide +kernel }
def spRo : Sp := fun vs H Q _ => ∃ (p : Addr) (n : Nat), vs = [.ref p, .int (n : Int)] ∧ FeedAt H p ∧ n ≤ 40 ∧ ∀ l H' (xs : List Int), SB p H H' → H l = none → H' l = some (.lst (xs.map V.int)) → xs.length = n → (∀ x ∈ xs, -5 ≤ x ∧ x ≤ 5) → Q (.ref l) H'
theorem ok_Ro {f : Addr} {fd : FuncData} (B : Bl mg) (fD : Has P w K mg base 1 "_law_draw" ["_law_feed_here", "_law_many"] xZ) (F : Fun K "_law_row" "_law_row" sRo f fd) : FnOk P w K mg base CX0 2 f fd ["_law_feed_here", "_law_many"] spRo := by
 refine F.ok scRo (fun vs H Q E h => ?_) (fun cdv A outer s H vs Q E hr h => ?_)
 ·obtain ⟨p, n, rfl, _⟩ := h
  rfl
 obtain ⟨p, n, rfl, F0, hn, k⟩ := h
 refine' ⟨_, ?hb, ?rd⟩
 case' hb => skip
 case' hb => refine' zi ?g1
 case' g1 => refine' zr ?g2
 case' g2 => refine' zI (ix := [0]) bsRoa.toCScope rfl rfl ?g3 ?g4 ?g5 ?g6
 case g3 => exact yx B.range (pa_1 (pvd nmRo 1))
 case g4 => exact fun _ _ _ _ _ _ => pgb bsRoa 0
 case g5 => exact fun _ _ _ _ _ _ => zy
 case g6 => exact fun _ _ _ _ _ _ => ziq (yp (pa_c zd (pa_c zd (pa_2 (xo yw zd) (zk yq (pe_f fD hr (by decide) (pa_2 (pvb bsRoa 1) zd) (bsRoa.g 0)) zd))))) (pe_f fD hr (by decide) (pa_2 (pvb bsRoa 1) zd) (bsRoa.g 0))
 walk_at "v"
 refine ⟨_, rfl, by omega, by omega, fun D1 hD1 => ?_⟩
 rw [Int.toNat_natCast]
 refine Y3 (S := SB p) (fun _ y _ => ∃ x : Int, y = .int x ∧ (-5 ≤ x ∧ x ≤ 5)) (Xs F0 hD1) (fun _ h => h) (fun a b => vp (a.2 F0) b) (by omega) (fun i H' R' hi K' kR => ?_) (fun ys H1 gp e1 => ?_)
 ·walk_at "v"
  refine ⟨_, rfl, ?_⟩
  walk_at "v"
  refine ⟨p, 11, rfl, K'.2 F0, by decide, by decide, fun r x y z h0 h1 => ?_⟩
  have k1 : SB p H' (upd H' p (.lst [.int x, .int y, .int z])) := SB.drawn
  have F1 : FeedAt (upd H' p (.lst [.int x, .int y, .int z])) p := FeedAt.here
  generalize upd H' p (.lst [.int x, .int y, .int z]) = H2 at k1 F1 ⊢
  walk_at "v"
  refine ⟨sz4, fun l2 hl2 => ?_⟩
  obtain ⟨H3, q, k2, e2⟩ := nob (.lst [.int 0, .int 1, .int (-1), .int (r - 5)]) hl2; rw [q]; clear q
  have F3 := (SB.same k2).2 F1
  walk_at "v"
  refine ⟨p, 4, rfl, F3, by decide, by decide, fun r' x y z h0' h1' => ?_⟩
  have k3 : SB p H3 (upd H3 p (.lst [.int x, .int y, .int z])) := SB.drawn
  have e3 : upd H3 p (.lst [.int x, .int y, .int z]) l2 = some (.lst [.int 0, .int 1, .int (-1), .int (r - 5)]) := k3.1 _ _ (F1.np hl2) e2
  generalize upd H3 p (.lst [.int x, .int y, .int z]) = H4 at k3 e3 ⊢
  have hK := (k1.trans (SB.same k2)).trans k3
  rcases (by omega : r' = 0 ∨ r' = 1 ∨ r' = 2 ∨ r' = 3) with rfl | rfl | rfl | rfl
  ·refine zv (v := .int 0) e3 rfl (kR _ _ hK ⟨_, rfl, by decide⟩)
  ·refine zv (v := .int 1) e3 rfl (kR _ _ hK ⟨_, rfl, by decide⟩)
  ·refine zv (v := .int (-1)) e3 rfl (kR _ _ hK ⟨_, rfl, by decide⟩)
  ·refine zv (v := .int (r - 5)) e3 rfl (kR _ _ hK ⟨_, rfl, by omega⟩)
 ·obtain ⟨K1, hl, hy⟩ := gp
  obtain ⟨xs, rfl, hxs⟩ := Yj hy
  exact k D1 H1 xs K1 hD1 e1 (by rw [List.length_map] at hl; exact hl) hxs
abbrev sDt : Stmt := top 11
abbrev nDt : List Str := ["_law_by", "_law_tops"]
theorem nmDt : Nm nDt (zc sDt) := nmk (by decide +kernel)
theorem scDt : FnScope nDt ["_law_by", "_law_tops"] (zc sDt) := fsk (by decide +kernel)
def qDta (s : Stmt) : Scope := match s with
 | .Return (some (.Call _ [(.ListComp _ _ sc _)] _ _)) _ => sc
 | _ => nsc
abbrev cDta : Scope := qDta ((zj sDt).getD 0 (.Pass ⟨0, 0, 0, 0⟩))
theorem bsDta : BScope (zc sDt) cDta ["_law_j"] ["_law_by", "_law_tops"] [] := { okind := by decide +kernel, kind := by decide +kernel, nocell := by decide +kernel, names := by decide +kernel, fr := by decide +kernel, ff := by decide +kernel, nd := by decide +kernel, vis := by decide +kernel, loc := by decide +kernel, gl := by decide +kernel }
theorem w8 {xs : List Int} {i : Nat} (h : i < xs.length) : xs.getD i 0 ∈ xs := by rw [List.getD_eq_getElem?_getD, List.getElem?_eq_getElem h]; exact List.getElem_mem h
def SqV (H : Hp) (a : Addr) (xs : List Int) : Prop := H a = some (.tup (xs.map V.int)) ∨ H a = some (.lst (xs.map V.int))
theorem SqV.same {H H' : Hp} {a : Addr} {xs : List Int} (h : SqV H a xs) (k : Same H H') : SqV H' a xs := h.imp (k _ _) (k _ _)
theorem SqV.ix {H : Hp} {a : Addr} {xs : List Int} {i : Nat} {Q : VK} (h : SqV H a xs) (hi : i < xs.length) (q : Q (.int (xs.getD i 0)) H) : rIxd (.ref a) (.int (i : Int)) H Q := by
 rcases h with h | h
 ·exact yb h (atL hi) q
 ·exact zv h (atL hi) q
def dotL (xs ys : List Int) : Int := ((List.range xs.length).map fun j => xs.getD j 0 * ys.getD j 0).sum
def spDt : Sp := fun vs H Q _ => ∃ (a b : Addr) (xs ys : List Int), vs = [.ref a, .ref b] ∧ SqV H a xs ∧ SqV H b ys ∧ xs.length ≤ ys.length ∧ xs.length ≤ 40 ∧ (∀ x ∈ xs, Bb x) ∧ (∀ y ∈ ys, Bb y) ∧ ∀ H', Same H H' → Q (.int (dotL xs ys)) H'
theorem ok_Dt {f : Addr} {fd : FuncData} (B : Bl mg) (F : Fun K "_law_dot" "_law_dot" sDt f fd) : FnOk P w K mg base CX0 1 f fd ["_law_by", "_law_tops"] spDt := by
 refine F.ok scDt (fun vs H Q E h => ?_) (fun cdv A outer s H vs Q E hr h => ?_)
 ·obtain ⟨a, b, xs, ys, rfl, _⟩ := h
  rfl
 obtain ⟨a, b, xs, ys, rfl, ha, hb, hl, hn, bx, by_, k⟩ := h
 refine' ⟨_, ?hb, ?rd⟩
 case' hb => skip
 case' hb => refine' zi ?g1
 case' g1 => refine' zr ?g2
 case' g2 => refine' zM (xr rfl) B.sum PyProof.Rows.boot_sum ?g3
 case' g3 => refine' pa_1 ?g4
 case' g4 => refine' zI (ix := [0, 1]) bsDta.toCScope rfl rfl ?g5 ?g6 ?g7 ?g8
 case g5 => exact yx B.range (pa_1 (zM zt B.len PySem.boot_len (pa_1 (pvd nmDt 0))))
 case g6 => exact fun _ _ _ _ _ _ => pgb bsDta 0
 case g7 => exact fun _ _ _ _ _ _ => zy
 case g8 => exact fun _ _ _ _ _ _ => zk zG (ziq (pvb bsDta 1) (pvb bsDta 0)) (ziq (pvb bsDta 2) (pvb bsDta 0))
 walk_at "v"
 refine ⟨a, xs.map V.int, rfl, ha.elim (fun z => .inr (SqT.of z)) (fun z => .inl (SqL.of z)), ?_⟩
 walk_at "v"
 rw [List.length_map]
 refine ⟨_, rfl, by omega, by omega, fun D1 hD1 => ?_⟩
 rw [Int.toNat_natCast]
 refine v6 (fun j => V.int (xs.getD j 0 * ys.getD j 0)) (by omega) hD1 (fun i hi H' K' R' kR => ?_) (fun H1 K1 e1 => ?_)
 ·walk_at "v"
  rw [Int.zero_add]
  refine (ha.same K').ix hi ?_
  walk_at "v"
  refine (hb.same K').ix (by omega) ?_
  refine ⟨_, _, rfl, rfl, mulBb (bx _ (w8 hi)) (by_ _ (w8 (by omega))), ?_⟩
  exact kR _ (Same.refl _)
 walk_at "v"
 refine ⟨D1, (List.range xs.length).map fun j => xs.getD j 0 * ys.getD j 0, rfl, by rw [e1, List.map_map]; rfl, ?_⟩
 exact k _ K1
abbrev sWl : Stmt := top 15
abbrev nWl : List Str := ["_law_thing"]
theorem nmWl : Nm nWl (zc sWl) := nmk (by decide +kernel)
theorem scWl : FnScope nWl ["_law_thing"] (zc sWl) := fsk (by decide +kernel)
theorem w_notV {ta : TE} {σ : St} {H : Hp} {Q : VK} (h : ta σ H fun x H1 => ∃ c, x = .bl c ∧ Q (.bl (!c)) H1) : Xg ta σ H Q := h
def spWl : Sp := fun vs H Q _ => ∃ i : Int, vs = [.int i] ∧ Q (.bl true) H
theorem ok_Wl {f : Addr} {fd : FuncData} (B : Bl mg) (F : Fun K "_law_whole" "_law_whole" sWl f fd) : FnOk P w K mg base CX0 1 f fd ["_law_thing"] spWl := by
 refine F.ok scWl (fun vs H Q E h => ?_) (fun cdv A outer s H vs Q E hr h => ?_)
 ·obtain ⟨i, rfl, _⟩ := h
  rfl
 obtain ⟨i, rfl, k⟩ := h
 refine' ⟨_, ?hb, ?rd⟩
 case' hb => skip
 case' hb => refine' zi ?g1
 case g1 => exact zr (YO (zM EL.call_isN B.isi PyProof.Rows.boot_isinstance (pa_2 (pvd nmWl 0) (xN (v := .ty "int") rfl B.int PyProof.Rows.boot_int rfl))) (YL (pe_not (zM EL.call_isN B.isi PyProof.Rows.boot_isinstance (pa_2 (pvd nmWl 0) (xN (v := .ty "bool") rfl B.bool PyProof.Rows.boot_bool rfl))))))
 walk_at "v"
 refine w_andV ?_
 walk_at "v"
 refine ⟨i, true, .inl ⟨rfl, rfl⟩, ?_⟩
 walk_at "v"
 refine w_notV ?_
 walk_at "v"
 refine ⟨i, false, .inr ⟨rfl, rfl⟩, ?_⟩
 walk_at "v"
 exact k
def S2 (p l : Addr) (H H' : Hp) : Prop := ∀ a u, a ≠ p → a ≠ l → H a = some u → H' a = some u
theorem S2.refl {p l : Addr} {H : Hp} : S2 p l H H := fun _ _ _ _ e => e
theorem S2.trans {p l : Addr} {H H1 H2 : Hp} (a : S2 p l H H1) (b : S2 p l H1 H2) : S2 p l H H2 := fun x u n1 n2 e => b x u n1 n2 (a x u n1 n2 e)
theorem S2.sb {p l : Addr} {H H' : Hp} (k : SB p H H') : S2 p l H H' := fun a u n _ e => k.1 a u n e
theorem S2.same {p l : Addr} {H H' : Hp} (k : Same H H') : S2 p l H H' := fun a u _ _ e => k a u e
theorem S2.at_ {p l : Addr} {H : Hp} {o : HO} : S2 p l H (upd H l o) := fun a u _ n e => by rw [zh n]; exact e
structure RB (n : Nat) (rows : List (List Int × Int)) : Prop where
 bd : ∀ r ∈ rows, (∀ x ∈ r.1, x.natAbs ≤ 10000) ∧ r.2.natAbs ≤ 10000
structure LR (H : Hp) (p l : Addr) (n : Nat) (rows : List (List Int × Int)) : Prop where
 fd : FeedAt H p
 ne : p ≠ l
 pr : PrAt H n rows l
theorem PrAt.sb {H H' : Hp} {p l : Addr} {n : Nat} {rows : List (List Int × Int)} (h : PrAt H n rows l) (F : FeedAt H p) (hne : p ≠ l) (k : SB p H H') : PrAt H' n rows l := by
 obtain ⟨ras, bas, h⟩ := h
 have t := vp F k
 exact ⟨ras, bas, ⟨k.1 _ _ (Ne.symm hne) h.ob, h.rl, h.bl, fun i b q e => let ⟨a, c, e1, e2, e3, e4⟩ := h.at_ i b q e; ⟨a, c, e1, e2, t.t _ _ e3, t.t _ _ e4⟩, h.wd⟩⟩
theorem LR.sb {H H' : Hp} {p l : Addr} {n : Nat} {rows : List (List Int × Int)} (h : LR H p l n rows) (k : SB p H H') : LR H' p l n rows := ⟨k.2 h.fd, h.ne, h.pr.sb h.fd h.ne k⟩
theorem LR.same {H H' : Hp} {p l : Addr} {n : Nat} {rows : List (List Int × Int)} (h : LR H p l n rows) (k : Same H H') : LR H' p l n rows := h.sb (SB.same k)
theorem LR.snoc {H : Hp} {p l q b : Addr} {n : Nat} {rows : List (List Int × Int)} {xs : List Int} {c : Int} (h : LR H p l n rows) (hq : H q = some (.tup [.ref b, .int c])) (hb : H b = some (.tup (xs.map V.int))) (hn : xs.length = n) :
  ∃ ras : List Addr, H l = some (.lst (ras.map V.ref)) ∧ ras.length = rows.length ∧ LR (upd H l (.lst (ras.map V.ref ++ [.ref q]))) p l n (rows ++ [(xs, c)]) := by
 obtain ⟨ras, bas, h'⟩ := h.pr
 have tl : ∀ a u, H a = some (.tup u) → upd H l (.lst (ras.map V.ref ++ [.ref q])) a = some (.tup u) := fun a u e => by
  rw [zh (fun z => by rw [z, h'.ob] at e; cases e)]; exact e
 refine ⟨ras, h'.ob, h'.rl, ⟨?_, h.ne, ras ++ [q], bas ++ [b], ⟨by rw [zf]; simp, by simp [h'.rl], by simp [h'.bl], fun i xs' c' e => ?_, fun r hr => ?_⟩⟩⟩
 ·obtain ⟨x, y, z, e⟩ := h.fd
  exact ⟨x, y, z, by rw [zh h.ne]; exact e⟩
 ·by_cases hi : i < rows.length
  ·rw [List.getElem?_append_left hi] at e
   obtain ⟨a, d, e1, e2, e3, e4⟩ := h'.at_ i xs' c' e
   exact ⟨a, d, by rw [List.getElem?_append_left (by rw [h'.rl]; exact hi)]; exact e1, by rw [List.getElem?_append_left (by rw [h'.bl]; exact hi)]; exact e2, tl _ _ e3, tl _ _ e4⟩
  ·have hi' : i = rows.length := by
    have := (List.getElem?_eq_some_iff.mp e).1
    simp at this
    omega
   subst hi'
   rw [List.getElem?_append_right (Nat.le_refl _)] at e
   simp at e
   obtain ⟨rfl, rfl⟩ := e
   exact ⟨q, b, by rw [List.getElem?_append_right (by rw [h'.rl]; exact Nat.le_refl _), h'.rl]; simp, by rw [List.getElem?_append_right (by rw [h'.bl]; exact Nat.le_refl _), h'.bl]; simp, tl _ _ hq, tl _ _ hb⟩
 ·rcases List.mem_append.mp hr with hr | hr
  ·exact h'.wd r hr
  ·rw [List.mem_singleton.mp hr]; exact hn
theorem LR.ty {K : W.Frag} {H : Hp} {p l : Addr} {n : Nat} {rows : List (List Int × Int)} (h : LR H p l n rows) : tyV K "list" (.ref l) H := let ⟨_, _, q⟩ := h.pr; .inl ⟨rfl, _, SqL.of q.ob⟩
theorem LR.app {H : Hp} {p l q b : Addr} {n : Nat} {rows : List (List Int × Int)} {xs : List Int} {c : Int} {Q : VK} (h : LR H p l n rows) (hq : H q = some (.tup [.ref b, .int c])) (hb : H b = some (.tup (xs.map V.int))) (hn : xs.length = n) (hm : rows.length ≤ 1000) (k : ∀ H', S2 p l H H' → LR H' p l n (rows ++ [(xs, c)]) → Q .non H') : Z4 (.ref l) [.ref q] H Q := by
 obtain ⟨ras, e, hl, L⟩ := h.snoc hq hb hn
 exact ⟨l, _, _, rfl, rfl, e, by rw [List.length_map, hl]; exact Nat.lt_of_le_of_lt hm (by decide), k _ S2.at_ L⟩
theorem RB.snoc {n : Nat} {rows : List (List Int × Int)} {xs : List Int} {c : Int} (h : RB n rows) (hx : ∀ x ∈ xs, x.natAbs ≤ 10000) (hc : c.natAbs ≤ 10000) : RB n (rows ++ [(xs, c)]) := ⟨fun r hr => by
 rcases List.mem_append.mp hr with hr | hr
 ·exact h.bd r hr
 ·rw [List.mem_singleton.mp hr]; exact ⟨hx, hc⟩⟩
theorem Yz (f : Nat → Int) : ∀ n, ((List.range n).map f).sum = sm n f
 | 0 => rfl
 | n + 1 => by rw [List.range_succ, List.map_append, List.sum_append, Yz f n]; simp [sm]
theorem yG {xs ys : List Int} : dotL xs ys = sm xs.length fun j => xs.getD j 0 * ys.getD j 0 := Yz _ _
theorem getD_map {xs : List Int} {b : Int} {j : Nat} : (xs.map (b * ·)).getD j 0 = b * xs.getD j 0 := by
 rw [List.getD_eq_getElem?_getD, List.getD_eq_getElem?_getD, List.getElem?_map]
 cases xs[j]? <;> simp
theorem vf {xs ys : List Int} {b : Int} : dotL (xs.map (b * ·)) ys = b * dotL xs ys := by
 rw [yG, yG, List.length_map, ← yf]
 exact zx fun j _ => by rw [getD_map, Int.mul_assoc]
theorem xR {xs : List Int} {A : Nat} (h : ∀ x ∈ xs, x.natAbs ≤ A) (j : Nat) : (xs.getD j 0).natAbs ≤ A := by
 rw [List.getD_eq_getElem?_getD]
 cases e : xs[j]? with
 | none => simp
 | some x => exact h x (List.mem_of_getElem? e)
theorem dotL_abs {xs ys : List Int} {A B : Nat} (hx : ∀ x ∈ xs, x.natAbs ≤ A) (hy : ∀ y ∈ ys, y.natAbs ≤ B) : (dotL xs ys).natAbs ≤ xs.length * (A * B) := by
 rw [yG]
 exact YC fun j _ => by rw [Int.natAbs_mul]; exact Nat.mul_le_mul (xR hx j) (xR hy j)
theorem zC {x : Int} (h : x.natAbs < 2 ^ 64) : Bb x := bb_of h (by decide)
def MetR (rows : List (List Int × Int)) (x : List Int) (d : Int) : Prop := ∀ r ∈ rows, 0 ≤ dotL r.1 x + r.2 * d
abbrev sRd : Stmt := top 12
abbrev nRd : List Str := ["_law_feed_here", "_law_many", "_law_rows", "_law_tops", "_law_bottom", "_law_k", "_law_by", "_law_plus"]
theorem nmRd : Nm nRd (zc sRd) := nmk (by decide +kernel)
theorem scRd : FnScope nRd ["_law_feed_here", "_law_many", "_law_rows"] (zc sRd) := fsk (by decide +kernel)
def qRda (s : Stmt) : Scope := match s with
 | .Assign _ (.ListComp _ _ sc _) _ => sc
 | _ => nsc
abbrev cRda : Scope := qRda ((zj sRd).getD 0 (.Pass ⟨0, 0, 0, 0⟩))
theorem bsRda : BScope (zc sRd) cRda ["_law_j"] ["_law_feed_here"] ["_law_draw"] := { okind := by decide +kernel, kind := by decide +kernel, nocell := by decide +kernel, names := by decide +kernel, fr := by decide +kernel, ff := by decide +kernel, nd := by decide +kernel, vis := by decide +kernel, loc := by decide +kernel, gl := by decide +kernel }
def qRdb (s : Stmt) : Scope := match s with
 | .For _ _ [(.Assign _ (.ListComp _ _ sc _) _), _, _] _ _ => sc
 | _ => nsc
abbrev cRdb : Scope := qRdb ((zj sRd).getD 2 (.Pass ⟨0, 0, 0, 0⟩))
theorem bsRdb : BScope (zc sRd) cRdb ["_law_one"] ["_law_bottom"] [] := { okind := by decide +kernel, kind := by decide +kernel, nocell := by decide +kernel, names := by decide +kernel, fr := by decide +kernel, ff := by decide +kernel, nd := by decide +kernel, vis := by decide +kernel, loc := by decide +kernel, gl := by decide +kernel }
theorem loRd_3 : (zc sRd).names.lookup ("_law_tops" : Str) = some .local := by decide +kernel
theorem loRd_6 : (zc sRd).names.lookup ("_law_by" : Str) = some .local := by decide +kernel
def spRd : Sp := fun vs H Q _ => ∃ (p l : Addr) (n : Nat), vs = [.ref p, .int (n : Int), .ref l] ∧ LR H p l n [] ∧ n ≤ 9 ∧ ∀ H' rows (x : List Int) (d : Int), S2 p l H H' → LR H' p l n rows → RB n rows → rows.length ≤ 31 → 1 ≤ d → x.length = n → MetR rows x d → Q .non H'
theorem ok_Rd {f : Addr} {fd : FuncData} (B : Bl mg) (fD : Has P w K mg base 1 "_law_draw" ["_law_feed_here", "_law_many"] xZ) (fR : Has P w K mg base 2 "_law_row" ["_law_feed_here", "_law_many"] spRo) (fT : Has P w K mg base 1 "_law_dot" ["_law_by", "_law_tops"] spDt) (F : Fun K "_law_round" "_law_round" sRd f fd) : FnOk P w K mg base CX0 3 f fd ["_law_feed_here", "_law_many", "_law_rows"] spRd := by
 refine F.ok scRd (fun vs H Q E h => ?_) (fun cdv A outer s H vs Q E hr h => ?_)
 ·obtain ⟨p, l, n, rfl, _⟩ := h
  rfl
 obtain ⟨p, l, n, rfl, L0, hn, k⟩ := h
 refine' ⟨_, ?hb, ?rd⟩
 case' hb => skip
 case' hb => refine' ze ?g1 ?g2
 case' g2 => refine' ze ?g3 ?g4
 case' g4 => refine' zi ?g5
 case' g1 => refine' yk (i := 3) (ix := [0]) nmRd.nd rfl loRd_3 bsRda.toCScope rfl rfl ?g6 ?g7 ?g8 ?g9
 case g6 => exact yx B.range (pa_1 (pvd nmRd 1))
 case g7 => exact fun _ _ _ _ _ _ => pgb bsRda 0
 case g8 => exact fun _ _ _ _ _ _ => zy
 case g9 => exact fun _ _ _ _ _ _ => zk yq (pe_f fD hr (by decide) (pa_2 (pvb bsRda 1) zd) (bsRda.g 0)) zd
 case g3 => exact zq nmRd 4 (zk zS zd (pe_f fD hr (by decide) (pa_2 (pvd nmRd 0) zd)))
 case' g5 => refine' yR PassesOwn.never rfl ?g10 (pgd nmRd 5) ?g11
 case g10 => exact yx B.range (pa_1 (zk zS (pe_f fD hr (by decide) (pa_2 (pvd nmRd 0) zd)) (zk zG zd (yy we B.int PyProof.Rows.boot_int (pa_1 (yF wC (pvd nmRd 1) zd (zo _)))))))
 case' g11 => refine' ze ?g12 ?g13
 case' g13 => refine' ze ?g14 ?g15
 case' g15 => refine' zi ?g16
 case' g12 => refine' yk (i := 6) (ix := [4]) nmRd.nd rfl loRd_6 bsRdb.toCScope rfl rfl ?g17 ?g18 ?g19 ?g20
 case g17 => exact zP (pe_f fR hr (by decide) (pa_2 (pvd nmRd 0) (pvd nmRd 1)))
 case g18 => exact fun _ _ _ _ _ _ => pgb bsRdb 0
 case g19 => exact fun _ _ _ _ _ _ => zy
 case g20 => exact fun _ _ _ _ _ _ => zk zG (pvb bsRdb 1) (pvb bsRdb 0)
 case g14 => exact zq nmRd 7 (zk yq zd (zk wN (pe_f fT hr (by decide) (pa_2 (pvd nmRd 6) (pvd nmRd 3))) (pvd nmRd 4)))
 case g16 => exact zW (xM PySem.F.plainAttrs_list PySem.F.slot_list_append PySem.F.type_list_append zZ (pvd nmRd 2) (pa_1 (zR (pa_2 (yy ya B.tuple PyProof.Rows.boot_tuple (pa_1 (pvd nmRd 6))) (zk zS (pvd nmRd 7) (ziq (yp (pa_c zd (pa_2 zd (pe_f fD hr (by decide) (pa_2 (pvd nmRd 0) zd))))) (pe_f fD hr (by decide) (pa_2 (pvd nmRd 0) zd))))))))
 walk_at "v"
 refine ⟨_, rfl, by omega, by omega, fun D1 hD1 => ?_⟩
 rw [Int.toNat_natCast]
 refine Y3 (S := SB p) (fun _ y _ => ∃ x : Int, y = .int x ∧ (-7 ≤ x ∧ x ≤ 7)) (Xs L0.fd hD1) (fun _ h => h) (fun a b => vp (a.2 L0.fd) b) (by omega) (fun i H' R' hi K' kR => ?_) (fun ys H1 gp e1 => ?_)
 ·walk_at "v"
  refine ⟨p, 15, rfl, K'.2 L0.fd, by decide, by decide, fun r x y z h0 h1 => ?_⟩
  walk_at "v"
  exact kR _ _ SB.drawn ⟨_, rfl, by omega⟩
 obtain ⟨K1, hl, hy⟩ := gp
 obtain ⟨tops, rfl, htops⟩ := Yj hy
 rw [List.length_map] at hl
 have L1 := L0.sb K1
 walk_at "v"
 refine ⟨p, 4, rfl, L1.fd, by decide, by decide, fun r x y z h0 h1 => ?_⟩
 have k2 : SB p H1 (upd H1 p (.lst [.int x, .int y, .int z])) := SB.drawn
 have L2' := L1.sb k2
 generalize upd H1 p (.lst [.int x, .int y, .int z]) = H2 at k2 L2' ⊢
 have e2 := k2.1 _ _ (L0.fd.np hD1) e1
 walk_at "v"
 refine ⟨p, 12, rfl, L2'.fd, by decide, by decide, fun r' x y z h0' h1' => ?_⟩
 have k3 : SB p H2 (upd H2 p (.lst [.int x, .int y, .int z])) := SB.drawn
 have L3 := L2'.sb k3
 generalize upd H2 p (.lst [.int x, .int y, .int z]) = H3 at k3 L3 ⊢
 have e3 := k3.1 _ _ (L0.fd.np hD1) e2
 walk_at "v"
 obtain ⟨g, hg, hg1⟩ : ∃ g : Int, g = (if decide ((6 : Int) < (n : Int)) = true then 1 else 0) ∧ 0 ≤ g ∧ g ≤ 1 := ⟨_, rfl, by split <;> omega⟩
 refine .inr ⟨_, rfl, ?_⟩
 rw [← hg]
 walk_at "v"
 refine ⟨_, _, rfl, rfl, mulBb (zC (by decide)) (zC (by omega)), ?_⟩
 walk_at "v"
 refine ⟨_, rfl, by omega, by omega, ?_⟩
 obtain ⟨c, hc, hc31⟩ : ∃ c : Nat, r' + 20 * g = (c : Int) ∧ c ≤ 31 := ⟨(r' + 20 * g).toNat, by omega, by omega⟩
 rw [hc, Int.toNat_natCast]
 have KS : S2 p l H H3 := (S2.sb K1).trans ((S2.sb k2).trans (S2.sb k3))
 refine yu (n := c) (fun i σ H' => ∃ (u5 u6 u7 : Option V) (rows : List (List Int × Int)), σ = [some (.ref p), some (.int (n : Int)), some (.ref l), some (.ref D1), some (.int (1 + r)), u5, u6, u7] ∧ LR H' p l n rows ∧ RB n rows ∧ rows.length = i ∧ S2 p l H H' ∧ H' D1 = some (.lst (tops.map V.int)) ∧ MetR rows tops (1 + r)) ⟨_, _, _, [], rfl, L3, ⟨fun r hr => nomatch hr⟩, rfl, KS, e3, fun r hr => nomatch hr⟩ ?_ ?_
 ·rintro i σ H' hi ⟨u5, u6, u7, rows, rfl, Lr, hRB, hlen, hS, eD, hM⟩
  walk_at "v"
  refine ⟨p, n, rfl, Lr.fd, by omega, fun l4 H4 xs k4 hl4 e4 hxl hxs => ?_⟩
  have L4 := Lr.sb k4
  have nD : D1 ≠ p := L0.fd.np hD1
  have nDl : D1 ≠ l := fun z => by
   obtain ⟨ras, bas, q⟩ := L0.pr
   rw [z, q.ob] at hD1; cases hD1
  have eD4 := k4.1 _ _ nD eD
  walk_at "v"
  refine ⟨l4, rfl, ⟨_, SqL.of e4⟩, fun D5 hD5 => ?_⟩
  refine v7 (ws := xs) V.int (fun x => V.int ((1 + r) * x)) e4 (by omega) hD5 (fun x hx H' K' R' kR => ?_) (fun H5 K5 e5 => ?_)
  ·have := hxs x hx
   walk_at "v"
   refine ⟨_, _, rfl, rfl, mulBb (zC (by omega)) (zC (by omega)), ?_⟩
   exact kR _ (Same.refl _)
  have e5' : H5 D5 = some (.lst ((xs.map ((1 + r) * ·)).map V.int)) := by rw [e5, List.map_map]; rfl
  have L5 := L4.same K5
  have eD5 := K5 _ _ eD4
  have hxa : ∀ x ∈ xs, x.natAbs ≤ 5 := fun x hx => by have := hxs x hx; omega
  have hta : ∀ x ∈ tops, x.natAbs ≤ 7 := fun x hx => by have := htops x hx; omega
  have hya : ∀ y ∈ xs.map ((1 + r) * ·), y.natAbs ≤ 20 := fun y hy => by
   obtain ⟨x, hx, rfl⟩ := List.mem_map.mp hy
   show ((1 + r) * x).natAbs ≤ 20
   rw [Int.natAbs_mul]
   exact Nat.mul_le_mul (show (1 + r).natAbs ≤ 4 by omega) (hxa x hx)
  walk_at "v"
  refine ⟨D5, D1, _, tops, rfl, .inr e5', .inr eD5, by rw [List.length_map]; omega, by rw [List.length_map]; omega, fun y hy => zC (by have := hya y hy; omega), fun y hy => zC (by have := hta y hy; omega), fun H6 K6 => ?_⟩
  rw [vf]
  have hdb := dotL_abs hxa hta
  rw [hxl] at hdb
  have hd2 : (dotL xs tops).natAbs ≤ 315 := Nat.le_trans hdb (by omega)
  generalize hdo : dotL xs tops = dv at hd2 ⊢
  walk_at "v"
  refine ⟨_, _, rfl, rfl, ⟨by omega, by omega⟩, ?_⟩
  have edv : (1 + r) * dv / (1 + r) = dv := Int.mul_ediv_cancel_left _ (by omega)
  show _
  simp only [edv]
  walk_at "v"
  have L6 := L5.same K6
  refine ⟨L6.ty, ?_⟩
  walk_at "v"
  refine ⟨D5, _, rfl, K6 _ _ e5', fun q7 H7 K7 e7 => ?_⟩
  have L7 := L6.same K7
  walk_at "v"
  refine ⟨p, 5, rfl, L7.fd, by decide, by decide, fun e x y z he0 he1 => ?_⟩
  have k8 : SB p H7 (upd H7 p (.lst [.int x, .int y, .int z])) := SB.drawn
  have L8 := L7.sb k8
  have n7 : q7 ≠ p := fun w => by obtain ⟨_, _, _, o⟩ := L7.fd; rw [w, o] at e7; cases e7
  have e8 := k8.1 _ _ n7 e7
  have eD8 := k8.1 _ _ nD (K7 _ _ (K6 _ _ eD5))
  generalize upd H7 p (.lst [.int x, .int y, .int z]) = H8 at k8 L8 e8 eD8 ⊢
  walk_at "v"
  refine ⟨sz3, fun l9 hl9 => ?_⟩
  obtain ⟨H9, q, k9, e9⟩ := nob (.lst [.int 0, .int 0, .int e]) hl9; rw [q]; clear q
  have L9 := L8.same k9
  walk_at "v"
  refine ⟨p, 3, rfl, L9.fd, by decide, by decide, fun r8 x y z hr0 hr1 => ?_⟩
  have k10 : SB p H9 (upd H9 p (.lst [.int x, .int y, .int z])) := SB.drawn
  have L10 := L9.sb k10
  have n9 : l9 ≠ p := L8.fd.np hl9
  have e10 := k10.1 _ _ n9 e9
  have e7' := k10.1 _ _ n7 (k9 _ _ e8)
  have eD10 := k10.1 _ _ nD (k9 _ _ eD8)
  generalize upd H9 p (.lst [.int x, .int y, .int z]) = H10 at k10 L10 e10 e7' eD10 ⊢
  obtain ⟨g', hg', hg0⟩ : ∃ g' : Int, atI [V.int 0, .int 0, .int e] r8 = some (.int g') ∧ 0 ≤ g' ∧ g' ≤ 4 := by
   rcases (by omega : r8 = 0 ∨ r8 = 1 ∨ r8 = 2) with rfl | rfl | rfl
   ·exact ⟨0, rfl, by decide⟩
   ·exact ⟨0, rfl, by decide⟩
   ·exact ⟨e, rfl, by omega⟩
  refine zv e10 hg' ?_
  walk_at "v"
  refine ⟨sz2, fun q11 hq11 => ?_⟩
  obtain ⟨H11, q, k11, e11⟩ := nob (.tup [.ref q7, .int (0 - dv + g')]) hq11; rw [q]; clear q
  have L11 := L10.same k11
  walk_at "v"
  refine L11.app e11 (k11 _ _ e7') (by rw [List.length_map]; exact hxl) (by omega) fun H12 k12 L12 => ?_
  have hS12 : S2 p l H H12 := hS.trans ((S2.sb k4).trans ((S2.same K5).trans ((S2.same K6).trans ((S2.same K7).trans ((S2.sb k8).trans ((S2.same k9).trans ((S2.sb k10).trans ((S2.same k11).trans k12))))))))
  refine ⟨_, _, _, _, rfl, L12, hRB.snoc (fun y hy => Nat.le_trans (hya y hy) (by decide)) (by omega), by rw [List.length_append, hlen]; rfl, hS12, k12 _ _ nD nDl (k11 _ _ eD10), fun r' hr' => ?_⟩
  rcases List.mem_append.mp hr' with hr' | hr'
  ·exact hM r' hr'
  ·rw [List.mem_singleton.mp hr']
   show 0 ≤ dotL (xs.map ((1 + r) * ·)) tops + (0 - dv + g') * (1 + r)
   rw [vf, hdo, Int.add_mul (0 - dv), Int.sub_mul, Int.zero_mul, Int.mul_comm dv]
   have := Int.mul_nonneg hg0.1 (by omega : 0 ≤ 1 + r)
   omega
 ·rintro σ H' ⟨u5, u6, u7, rows, rfl, Lr, hRB, hlen, hS, eD, hM⟩
  exact k H' rows tops (1 + r) hS Lr hRB (by omega) (by omega) hl hM
end
end K11
namespace L2
open PySem PySem.Spec PyProof.Rows G2
section
variable {S : Hp → Hp → Prop} {D : Addr} {te : TE} {Q : VK} {ρ : St} {H : Hp} {K : W.Frag} {a : Addr} {rs : List Addr}
theorem vY (Ok : Nat → V → Hp → Prop) (kp : Kp S D H) (mono : ∀ {j y H1 H2}, TK H1 H2 → Ok j y H1 → Ok j y H2) (tk : ∀ {H1 H2}, S H H1 → S H1 H2 → TK H1 H2) (hn : rs.length ≤ 1000) (src : ∀ H', S H H' → SqL K H' a (rs.map V.ref))
  (step : ∀ i r H', rs[i]? = some r → S H H' → ∃ u v w, H' r = some (.tup [u, v, w]) ∧ ∀ (R : V → Hp → Prop), (∀ y H4, S H' H4 → Ok i y H4 → R y H4) → te (some u :: some v :: some w :: ρ) H' R)
  (q : ∀ ys H', GP S Ok H rs.length ys H' → H' D = some (.lst ys) → Q (.ref D) H') : CGo (Itl K a) D (gTup K 3 (z0 (zB 0) (z0 (zB 1) (z0 (zB 2) gNil)))) tAll te Q (none :: none :: none :: ρ) H := by
 refine ⟨fun i m τ ys H' => m = rs.length - i ∧ i ≤ rs.length ∧ (∃ tv tw tx, τ = tv :: tw :: tx :: ρ) ∧ GP S Ok H i ys H' ∧ H' D = some (.lst ys), ⟨rs.length, by omega, Nat.zero_le _, ⟨_, _, _, rfl⟩, ⟨kp.refl, rfl, fun j y h => by simp at h⟩, zf⟩, ?_⟩
 rintro i m τ ys H' ⟨rfl, hi, ⟨tv, tw, tx, rfl⟩, g, hD⟩
 refine ⟨hD, ?_⟩
 have sq := src H' g.1
 by_cases hlt : i < rs.length
 ·refine .inr ⟨⟨_, .ref rs[i], sq, by simp [hlt]⟩, ?_⟩
  rintro v H'' ⟨rfl, hv⟩
  have hv' := hv _ sq
  rw [List.getElem?_map, List.getElem?_eq_getElem hlt] at hv'
  cases hv'
  obtain ⟨u, v, w, e, h⟩ := step i rs[i] _ (List.getElem?_eq_getElem hlt) g.1
  refine ⟨rs[i], [u, v, w], rfl, SqT.of e, rfl, u, [v, w], rfl, v, [w], rfl, w, [], rfl, rfl, ?_⟩
  refine yc (iteT (h _ fun y H4 k hy => ⟨kp.at' g.1 k hD, zA (by have := g.2.1; omega), rs.length - (i + 1), by omega, rfl, hlt, ⟨_, _, _, rfl⟩, xQ (Ok := Ok) kp mono tk g k (kp.at' g.1 k hD) hy, zf⟩))
 ·have e : i = rs.length := by omega
  subst e
  exact .inl ⟨⟨_, sq, by simp⟩, q ys _ g hD⟩
end
end L2
namespace K11
open PySem L2 G2 WG EL
theorem pi_listB {X : Cx} {tg l : Expr} {tl : TE} {K : W.Frag} (hl : PE X l tl) (hK : X.K = K) : PI X tg l (Ym K tl) := hK ▸ zP hl
theorem pg_tupK {X : Cx} {pos : Pos} {es : List Expr} {k : Nat} {t : TGs} {n : Nat} {K : W.Frag} (hK : X.K = K) (hc : X.calm = true) (hn : (assignEach es X.env).length = n) (hst : (assignEach es X.env).findIdx? (·.1) = none) (h : PGs X es t) : PG X (.Tuple es k pos) (gTup K n t) := hK ▸ vQ hc h hn hst
theorem sm_add {n : Nat} {f g : Nat → Int} : sm n (fun i => f i + g i) = sm n f + sm n g := by
 have := yI (n := n) (f := f) (g := g) 1 1
 simpa using this
theorem sm_neg {n : Nat} {f : Nat → Int} : sm n (fun i => -f i) = -sm n f := by
 have := yf (n := n) (f := f) (-1)
 simpa using this
theorem LR.nil {H : Hp} {p l : Addr} {n : Nat} (F : FeedAt H p) (hne : p ≠ l) (e : H l = some (.lst [])) : LR H p l n [] := ⟨F, hne, [], [], ⟨e, rfl, rfl, fun i b q e => by simp at e, fun r hr => nomatch hr⟩⟩
theorem LR.emp {H : Hp} {p l : Addr} {n : Nat} (h : LR H p l n []) : H l = some (.lst []) := by
 obtain ⟨ras, bas, q⟩ := h.pr
 have := q.rl
 cases ras with
 | nil => exact q.ob
 | cons => simp at this
theorem LR.put {H : Hp} {p l s : Addr} {n : Nat} {o : HO} (h : LR H p l n []) (h1 : s ≠ p) (h2 : s ≠ l) : LR (upd H s o) p l n [] := by
 refine .nil ?_ h.ne (by rw [zh (Ne.symm h2)]; exact h.emp)
 obtain ⟨x, y, z, e⟩ := h.fd
 exact ⟨x, y, z, by rw [zh (Ne.symm h1)]; exact e⟩
theorem S2.put {p l s : Addr} {H H' : Hp} {o : HO} (hs : H s = none) (k : S2 p l H H') : S2 p l H (upd H' s o) := fun a u n1 n2 e => by
 rw [zh (zg e hs)]; exact k a u n1 n2 e
theorem YJ {H : Hp} : ∀ (rows : List (List Int × Int)) (ys : List V), ys.length = rows.length → (∀ (j : Nat) (y : V), ys[j]? = some y → ∃ r q b, rows[j]? = some r ∧ y = .ref q ∧ H q = some (.tup [.ref b, .int r.2]) ∧ H b = some (.tup (r.1.map V.int))) →
  ∃ ras bas : List Addr, ys = ras.map V.ref ∧ ras.length = rows.length ∧ bas.length = rows.length ∧ ∀ (i : Nat) (xs : List Int) (c : Int), rows[i]? = some (xs, c) → ∃ a b, ras[i]? = some a ∧ bas[i]? = some b ∧ H a = some (.tup [.ref b, .int c]) ∧ H b = some (.tup (xs.map V.int))
 | [], [], _, _ => ⟨[], [], rfl, rfl, rfl, fun i xs c e => by simp at e⟩
 | [], _ :: _, hl, _ => by simp at hl
 | _ :: _, [], hl, _ => by simp at hl
 | r :: rows, y :: ys, hl, h => by
  obtain ⟨ras, bas, e1, e2, e3, e4⟩ := YJ rows ys (by simpa using hl) (fun j y e => by
   obtain ⟨r, q, b, f⟩ := h (j + 1) y (by simpa using e)
   exact ⟨r, q, b, by simpa using f⟩)
  obtain ⟨r', q, b, f1, rfl, f3, f4⟩ := h 0 y rfl
  cases f1
  refine ⟨q :: ras, b :: bas, by rw [e1]; rfl, by simp [e2], by simp [e3], fun i xs c e => ?_⟩
  cases i with
  | zero => cases e; exact ⟨q, b, rfl, rfl, f3, f4⟩
  | succ i => exact e4 i xs c (by simpa using e)
theorem LR.of {H : Hp} {p l : Addr} {n : Nat} {rows : List (List Int × Int)} {ras bas : List Addr} {us : List V} (F : FeedAt H p) (hne : p ≠ l) (hl : H l = some (.lst us)) (e2 : ras.length = rows.length) (e3 : bas.length = rows.length)
  (e4 : ∀ (i : Nat) (xs : List Int) (c : Int), rows[i]? = some (xs, c) → ∃ a b, ras[i]? = some a ∧ bas[i]? = some b ∧ H a = some (.tup [.ref b, .int c]) ∧ H b = some (.tup (xs.map V.int))) (wd : ∀ r ∈ rows, r.1.length = n) : LR (upd H l (.lst (ras.map V.ref))) p l n rows := by
 have tl : ∀ a u, H a = some (.tup u) → upd H l (.lst (ras.map V.ref)) a = some (.tup u) := fun a u e => by
  rw [zh (fun z => by rw [z, hl] at e; cases e)]; exact e
 refine ⟨?_, hne, ras, bas, zf, e2, e3, fun i xs c e => ?_, wd⟩
 ·obtain ⟨x, y, z, e⟩ := F
  exact ⟨x, y, z, by rw [zh hne]; exact e⟩
 ·obtain ⟨a, b, f1, f2, f3, f4⟩ := e4 i xs c e
  exact ⟨a, b, f1, f2, tl _ _ f3, tl _ _ f4⟩
abbrev T3 := Int × List Int × Int
def tsum (tr : List T3) (j : Nat) : Int := (tr.map fun t => t.1 * t.2.1.getD j 0).sum
def tw (tr : List T3) : Int := (tr.map fun t => t.1 * t.2.2).sum
theorem Xc {n : Nat} {x : List Int} {d : Int} : ∀ (tr : List T3), (∀ t ∈ tr, 1 ≤ t.1 ∧ t.2.1.length = n) → (∀ t ∈ tr, 0 ≤ dotL t.2.1 x + t.2.2 * d) → 0 ≤ (sm n fun j => tsum tr j * x.getD j 0) + tw tr * d
 | [], _, _ => by simp [tsum, tw, yL]
 | t :: tr, h, g => by
  have ih := Xc tr (fun u hu => h u (List.mem_cons_of_mem _ hu)) (fun u hu => g u (List.mem_cons_of_mem _ hu))
  have h0 := h t List.mem_cons_self
  have g0 := Int.mul_nonneg (Int.le_trans (by decide) h0.1 : 0 ≤ t.1) (g t List.mem_cons_self)
  rw [yG, h0.2, Int.mul_add, ← yf, ← Int.mul_assoc] at g0
  have e1 : (sm n fun j => tsum (t :: tr) j * x.getD j 0) = (sm n fun j => t.1 * (t.2.1.getD j 0 * x.getD j 0)) + sm n fun j => tsum tr j * x.getD j 0 := by
   rw [← sm_add]
   exact zx fun j _ => by
    show (t.1 * t.2.1.getD j 0 + tsum tr j) * _ = _
    rw [Int.add_mul, Int.mul_assoc]
  have e2 : tw (t :: tr) * d = t.1 * t.2.2 * d + tw tr * d := by
   show (t.1 * t.2.2 + tw tr) * d = _
   rw [Int.add_mul]
  rw [e1, e2]
  omega
theorem t_no {n : Nat} {tr : List T3} {last : List Int} {e : Int} {x : List Int} {d : Int} (h : ∀ t ∈ tr, 1 ≤ t.1 ∧ t.2.1.length = n) (hl : last.length = n) (hj : ∀ j, j < n → last.getD j 0 = 0 - tsum tr j) (he : 0 ≤ e) (hd : 1 ≤ d)
  (hM : MetR ((tr.map fun t => (t.2.1, t.2.2)) ++ [(last, -tw tr - 1 - e)]) x d) : False := by
 have h1 := Xc (x := x) (d := d) tr h fun t ht => hM (t.2.1, t.2.2) (List.mem_append.mpr (.inl (List.mem_map.mpr ⟨t, ht, rfl⟩)))
 have h2 := hM (last, -tw tr - 1 - e) (List.mem_append.mpr (.inr (List.mem_singleton.mpr rfl)))
 have e1 : dotL last x = -(sm n fun j => tsum tr j * x.getD j 0) := by
  rw [yG, hl, ← sm_neg]
  exact zx fun j hjn => by rw [hj j hjn, Int.zero_sub, Int.neg_mul]
 have e2 : (-tw tr - 1 - e) * d = -(tw tr * d) - d - e * d := by rw [Int.sub_mul, Int.sub_mul, Int.neg_mul, Int.one_mul]
 have e3 := Int.mul_nonneg he (by omega : 0 ≤ d)
 simp only [e1, e2] at h2
 omega
theorem vM {α : Type} (f : α → Int) {B : Nat} : ∀ (tr : List α), (∀ t ∈ tr, (f t).natAbs ≤ B) → ((tr.map f).sum).natAbs ≤ tr.length * B
 | [], _ => by simp
 | t :: tr, h => by
  have ih := vM f tr fun u hu => h u (List.mem_cons_of_mem _ hu)
  have h0 := h t List.mem_cons_self
  rw [List.map_cons, List.sum_cons, List.length_cons, Nat.succ_mul]
  omega
structure Tri (H : Hp) (p l s : Addr) (n : Nat) (ts : List Addr) (tr : List T3) : Prop where
 ln : ts.length = tr.length
 at_ : ∀ (i : Nat) (t : T3), tr[i]? = some t → ∃ a b, ts[i]? = some a ∧ H a = some (.tup [.int t.1, .ref b, .int t.2.2]) ∧ H b = some (.lst (t.2.1.map V.int)) ∧ b ≠ p ∧ b ≠ l ∧ b ≠ s
 bd : ∀ t ∈ tr, 1 ≤ t.1 ∧ t.1 ≤ 3 ∧ t.2.1.length = n ∧ (∀ x ∈ t.2.1, x.natAbs ≤ 5) ∧ t.2.2.natAbs ≤ 4
theorem Tri.sb {H H' : Hp} {p l s : Addr} {n : Nat} {ts : List Addr} {tr : List T3} (h : Tri H p l s n ts tr) (F : FeedAt H p) (k : SB p H H') : Tri H' p l s n ts tr :=
 ⟨h.ln, fun i t e => let ⟨a, b, e1, e2, e3, e4, e5, e6⟩ := h.at_ i t e; ⟨a, b, e1, (vp F k).t _ _ e2, k.1 _ _ e4 e3, e4, e5, e6⟩, h.bd⟩
theorem Tri.same {H H' : Hp} {p l s : Addr} {n : Nat} {ts : List Addr} {tr : List T3} (h : Tri H p l s n ts tr) (k : Same H H') : Tri H' p l s n ts tr :=
 ⟨h.ln, fun i t e => let ⟨a, b, e1, e2, e3, e4, e5, e6⟩ := h.at_ i t e; ⟨a, b, e1, k _ _ e2, k _ _ e3, e4, e5, e6⟩, h.bd⟩
theorem Tri.snoc {H : Hp} {p l s a b : Addr} {n : Nat} {ts : List Addr} {tr : List T3} {t : T3} {us us' : List V} (h : Tri H p l s n ts tr) (hs : H s = some (.lst us)) (ha : H a = some (.tup [.int t.1, .ref b, .int t.2.2])) (hb : H b = some (.lst (t.2.1.map V.int))) (h1 : b ≠ p) (h2 : b ≠ l) (h3 : b ≠ s)
  (hd : 1 ≤ t.1 ∧ t.1 ≤ 3 ∧ t.2.1.length = n ∧ (∀ x ∈ t.2.1, x.natAbs ≤ 5) ∧ t.2.2.natAbs ≤ 4) : Tri (upd H s (.lst us')) p l s n (ts ++ [a]) (tr ++ [t]) := by
 have tl : ∀ a u, H a = some (.tup u) → upd H s (.lst us') a = some (.tup u) := fun a u e => by
  rw [zh (fun z => by rw [z, hs] at e; cases e)]; exact e
 refine ⟨by simp [h.ln], fun i u e => ?_, fun u hu => ?_⟩
 ·by_cases hi : i < tr.length
  ·rw [List.getElem?_append_left hi] at e
   obtain ⟨a, b, e1, e2, e3, e4, e5, e6⟩ := h.at_ i u e
   exact ⟨a, b, by rw [List.getElem?_append_left (by rw [h.ln]; exact hi)]; exact e1, tl _ _ e2, by rw [zh e6]; exact e3, e4, e5, e6⟩
  ·have hi' : i = tr.length := by
    have := (List.getElem?_eq_some_iff.mp e).1
    simp at this
    omega
   subst hi'
   rw [List.getElem?_append_right (Nat.le_refl _)] at e
   simp at e
   subst e
   exact ⟨a, b, by rw [List.getElem?_append_right (by rw [h.ln]; exact Nat.le_refl _), h.ln]; simp, tl _ _ ha, by rw [zh h3]; exact hb, h1, h2, h3⟩
 ·rcases List.mem_append.mp hu with hu | hu
  ·exact h.bd u hu
  ·rw [List.mem_singleton.mp hu]; exact hd
theorem Tri.at' {H : Hp} {p l s r : Addr} {n i : Nat} {ts : List Addr} {tr : List T3} (h : Tri H p l s n ts tr) (e : ts[i]? = some r) : ∃ t b, tr[i]? = some t ∧ t ∈ tr ∧ H r = some (.tup [.int t.1, .ref b, .int t.2.2]) ∧ H b = some (.lst (t.2.1.map V.int)) := by
 have hi : i < tr.length := by rw [← h.ln]; exact (List.getElem?_eq_some_iff.mp e).1
 obtain ⟨a, b, e1, e2, e3, _⟩ := h.at_ i _ (List.getElem?_eq_getElem hi)
 rw [e] at e1
 cases e1
 exact ⟨tr[i], b, List.getElem?_eq_getElem hi, List.getElem_mem hi, e2, e3⟩
abbrev sNo : Stmt := top 13
abbrev nNo : List Str := ["_law_feed_here", "_law_many", "_law_rows", "_law_some", "_law_k", "_law_last", "_law_whole_here"]
theorem nmNo : Nm nNo (zc sNo) := nmk (by decide +kernel)
theorem scNo : FnScope nNo ["_law_feed_here", "_law_many", "_law_rows"] (zc sNo) := fsk (by decide +kernel)
def qNoa (s : Stmt) : Scope := match s with
 | .Assign _ (.ListComp _ _ sc _) _ => sc
 | _ => nsc
abbrev cNoa : Scope := qNoa ((zj sNo).getD 2 (.Pass ⟨0, 0, 0, 0⟩))
def qNoc (s : Stmt) : Scope := match s with
 | .Assign _ (.Call _ [(.ListComp _ _ sc _)] _ _) _ => sc
 | _ => nsc
abbrev cNoc : Scope := qNoc ((zj sNo).getD 3 (.Pass ⟨0, 0, 0, 0⟩))
theorem bsNoc : BScope (zc sNo) cNoc ["_law_times", "_law_by", "_law_plus"] [] [] := { okind := by decide +kernel, kind := by decide +kernel, nocell := by decide +kernel, names := by decide +kernel, fr := by decide +kernel, ff := by decide +kernel, nd := by decide +kernel, vis := by decide +kernel, loc := by decide +kernel, gl := by decide +kernel }
def qNod (s : Stmt) : Scope := match s with
 | .Expr (.Call _ [(.ListComp _ _ sc _)] _ _) _ => sc
 | _ => nsc
abbrev cNod : Scope := qNod ((zj sNo).getD 4 (.Pass ⟨0, 0, 0, 0⟩))
theorem bsNod : BScope (zc sNo) cNod ["_law_times", "_law_by", "_law_plus"] [] ["tuple"] := { okind := by decide +kernel, kind := by decide +kernel, nocell := by decide +kernel, names := by decide +kernel, fr := by decide +kernel, ff := by decide +kernel, nd := by decide +kernel, vis := by decide +kernel, loc := by decide +kernel, gl := by decide +kernel }
theorem loNo_5 : (zc sNo).names.lookup ("_law_last" : Str) = some .local := by decide +kernel
def qNob (s : Stmt) : Scope := match s with
 | .Assign _ (.ListComp (.BinOp _ _ (.Call _ [.ListComp _ _ sc _] _ _) _) _ _ _) _ => sc
 | _ => nsc
abbrev cNob : Scope := qNob ((zj sNo).getD 2 (.Pass ⟨0, 0, 0, 0⟩))
theorem nbNo : NBScope (zc sNo) cNoa ["_law_j"] ["_law_some"] ["sum"] := { okind := by decide +kernel, kind := by decide +kernel, names := by decide +kernel, clN := by decide +kernel, fr := by decide +kernel, ff := by decide +kernel, nd := by decide +kernel, vis := by decide +kernel, loc := by decide +kernel, gl := by decide +kernel }
theorem bsNob : BScope (ye cNoa (zc sNo)) cNob ["_law_times", "_law_by", "_law_plus"] ["_law_j"] [] := { okind := by decide +kernel, kind := by decide +kernel, nocell := by decide +kernel, names := by decide +kernel, fr := by decide +kernel, ff := by decide +kernel, nd := by decide +kernel, vis := by decide +kernel, loc := by decide +kernel, gl := by decide +kernel }
def spNo : Sp := fun vs H Q _ => ∃ (p l : Addr) (n : Nat), vs = [.ref p, .int (n : Int), .ref l] ∧ LR H p l n [] ∧ n ≤ 9 ∧ ∀ H' rows, S2 p l H H' → LR H' p l n rows → RB n rows → rows.length ≤ 31 → (∀ (x : List Int) (d : Int), 1 ≤ d → x.length = n → ¬MetR rows x d) → Q .non H'
section
variable {P : Program} {w : World} {K : W.Frag} {mg : Str → Option Value} {base : Heap}
theorem ok_No {f : Addr} {fd : FuncData} (B : Bl mg) (fD : Has P w K mg base 1 "_law_draw" ["_law_feed_here", "_law_many"] xZ) (fR : Has P w K mg base 2 "_law_row" ["_law_feed_here", "_law_many"] spRo) (F : Fun K "_law_no" "_law_no" sNo f fd) : FnOk P w K mg base CX0 3 f fd ["_law_feed_here", "_law_many", "_law_rows"] spNo := by
 refine F.ok scNo (fun vs H Q E h => ?_) (fun cdv A outer s H vs Q E hr h => ?_)
 ·obtain ⟨p, l, n, rfl, _⟩ := h
  rfl
 obtain ⟨p, l, n, rfl, L0, hn, k⟩ := h
 refine' ⟨_, ?hb, ?rd⟩
 case' hb => skip
 case' hb => refine' ze ?g1 ?g2
 case' g2 => refine' ze ?g3 ?g4
 case' g4 => refine' ze ?g5 ?g6
 case' g6 => refine' ze ?g7 ?g8
 case' g8 => refine' ze ?g9 ?g10
 case' g10 => refine' ze ?g11 ?g12
 case' g12 => refine' zi ?g13
 case g1 => exact zq nmNo 3 (yp yz)
 case' g3 => refine' yR PassesOwn.never rfl ?g14 (pgd nmNo 4) ?g15
 case g14 => exact yx B.range (pa_1 (zk zS zd (pe_f fD hr (by decide) (pa_2 (pvd nmNo 0) zd))))
 case' g15 => refine' zi ?g16
 case g16 => exact zW (xM PySem.F.plainAttrs_list PySem.F.slot_list_append PySem.F.type_list_append zZ (pvd nmNo 3) (pa_1 (zR (pa_c (zk zS zd (pe_f fD hr (by decide) (pa_2 (pvd nmNo 0) zd))) (pa_2 (pe_f fR hr (by decide) (pa_2 (pvd nmNo 0) (pvd nmNo 1))) (zk yq (pe_f fD hr (by decide) (pa_2 (pvd nmNo 0) zd)) zd))))))
 case' g5 => refine' ps_setCN (i := 5) (ix := [3]) nmNo.nd rfl loNo_5 nbNo.toNScope rfl rfl ?g17 ?g18 ?g19 ?g20
 case g17 => exact yx B.range (pa_1 (pvd nmNo 1))
 case g18 => exact fun _ _ _ _ _ _ => pgbN nbNo 0
 case g19 => exact fun _ _ _ _ _ _ => zy
 case g20 =>
  intro _ _ _ _ _ _
  refine' zk yq zd ?x0
  case' x0 => refine' zM (xr rfl) B.sum PyProof.Rows.boot_sum ?x1 (nbNo.g 0)
  case' x1 => refine' pa_1 ?x2
  case x2 =>
   refine' zI (ix := [0]) bsNob.toCScope rfl rfl ?i3 ?i4 ?i5 ?i6
   case i3 => exact pi_listB (K := K) (pvbN nbNo 1) rfl
   case i4 =>
    intro _ _ _ _ _ _
    refine' pg_tupK (K := K) (n := 3) rfl rfl rfl rfl ?y1
    case' y1 => refine' zn ?y2 ?y3
    case y2 => exact pgb bsNob 0
    case' y3 => refine' zn ?y4 ?y5
    case y4 => exact pgb bsNob 1
    case' y5 => refine' zn ?y6 zO
    case y6 => exact pgb bsNob 2
   case i5 => exact fun _ _ _ _ _ _ => zy
   case i6 => exact fun _ _ _ _ _ _ => zk zG (pvb bsNob 0) (ziq (pvb bsNob 1) (pvb bsNob 3))
 case' g7 => refine' zq nmNo 6 ?g21
 case' g21 => refine' zM (xr rfl) B.sum PyProof.Rows.boot_sum ?g22
 case' g22 => refine' pa_1 ?g23
 case' g23 => refine' zI (ix := []) bsNoc.toCScope rfl rfl ?g24 ?g25 ?g26 ?g27
 case g24 => exact zP (pvd nmNo 3)
 case g25 =>
  intro _ _ _ _ _ _
  refine' zX (n := 3) rfl ?g28
  case' g28 => refine' zn ?g33 ?g32
  case g33 => exact pgb bsNoc 0
  case' g32 => refine' zn ?g35 ?g34
  case g35 => exact pgb bsNoc 1
  case' g34 => refine' zn ?g37 zO
  case g37 => exact pgb bsNoc 2
 case g26 => exact fun _ _ _ _ _ _ => zy
 case g27 => exact fun _ _ _ _ _ _ => zk zG (pvb bsNoc 0) (pvb bsNoc 2)
 case' g9 => refine' zW ?g38
 case' g38 => refine' xM PySem.F.plainAttrs_list PySem.F.slot_list_extend PySem.F.type_list_extend mt_extend (pvd nmNo 2) ?g39
 case' g39 => refine' pa_1 ?g40
 case' g40 => refine' zI (ix := []) bsNod.toCScope rfl rfl ?g41 ?g42 ?g43 ?g44
 case g41 => exact zP (pvd nmNo 3)
 case g42 =>
  intro _ _ _ _ _ _
  refine' zX (n := 3) rfl ?g45
  case' g45 => refine' zn ?g50 ?g49
  case g50 => exact pgb bsNod 0
  case' g49 => refine' zn ?g52 ?g51
  case g52 => exact pgb bsNod 1
  case' g51 => refine' zn ?g54 zO
  case g54 => exact pgb bsNod 2
 case g43 => exact fun _ _ _ _ _ _ => zy
 case g44 => exact fun _ _ _ _ _ _ => zR (pa_2 (yy ya B.tuple PyProof.Rows.boot_tuple (pa_1 (pvb bsNod 1)) (bsNod.g 0)) (pvb bsNod 2))
 case g11 => exact zW (xM PySem.F.plainAttrs_list PySem.F.slot_list_append PySem.F.type_list_append zZ (pvd nmNo 2) (pa_1 (zR (pa_2 (yy ya B.tuple PyProof.Rows.boot_tuple (pa_1 (pvd nmNo 5))) (zk yq (zk yq (xo yw (pvd nmNo 6)) zd) (zk zG (pe_f fD hr (by decide) (pa_2 (pvd nmNo 0) zd)) (pe_f fD hr (by decide) (pa_2 (pvd nmNo 0) zd))))))))
 case' g13 => refine' yR PassesOwn.never rfl ?g55 (pgd nmNo 4) ?g56
 case g55 => exact yx B.range (pa_1 (zk zS (pe_f fD hr (by decide) (pa_2 (pvd nmNo 0) zd)) (zk zG zd (yy we B.int PyProof.Rows.boot_int (pa_1 (yF wC (pvd nmNo 1) zd (zo _)))))))
 case' g56 => refine' zi ?g57
 case g57 => exact zW (xM PySem.F.plainAttrs_list PySem.F.slot_list_append PySem.F.type_list_append zZ (pvd nmNo 2) (pa_1 (zR (pa_2 (yy ya B.tuple PyProof.Rows.boot_tuple (pa_1 (pe_f fR hr (by decide) (pa_2 (pvd nmNo 0) (pvd nmNo 1))))) (zk yq (pe_f fD hr (by decide) (pa_2 (pvd nmNo 0) zd)) zd)))))
 walk_at "v"
 refine ⟨Nat.zero_le _, fun s hs => ?_⟩
 have e1 : upd H s (.lst []) s = some (.lst (([] : List Addr).map V.ref)) := zf
 have hsp : s ≠ p := L0.fd.np hs
 have hsl : s ≠ l := fun z => by rw [z, L0.emp] at hs; cases hs
 have L1 := L0.put (o := .lst []) hsp hsl
 have S1 : S2 p l H (upd H s (.lst [])) := S2.put hs S2.refl
 generalize upd H s (.lst []) = H1 at e1 L1 S1 ⊢
 walk_at "v"
 refine ⟨p, 4, rfl, L1.fd, by decide, by decide, fun r x y z h0 h1 => ?_⟩
 have k2 : SB p H1 (upd H1 p (.lst [.int x, .int y, .int z])) := SB.drawn
 have L2' := L1.sb k2
 have e2 := k2.1 _ _ hsp e1
 have S2' := S1.trans (S2.sb k2)
 generalize upd H1 p (.lst [.int x, .int y, .int z]) = H2 at k2 L2' e2 S2' ⊢
 walk_at "v"
 refine ⟨_, rfl, by omega, by omega, ?_⟩
 obtain ⟨c, hc, hc4⟩ : ∃ c : Nat, 1 + r = (c : Int) ∧ c ≤ 4 := ⟨(1 + r).toNat, by omega, by omega⟩
 rw [hc, Int.toNat_natCast]
 refine yu (n := c) (fun i σ H' => ∃ (u4 : Option V) (ts : List Addr) (tr : List T3), σ = [some (.ref p), some (.int (n : Int)), some (.ref l), some (.ref s), u4, none, none] ∧ LR H' p l n [] ∧ H' s = some (.lst (ts.map V.ref)) ∧ Tri H' p l s n ts tr ∧ tr.length = i ∧ S2 p l H H') ⟨_, [], [], rfl, L2', e2, ⟨rfl, fun i t e => by simp at e, fun t ht => nomatch ht⟩, rfl, S2'⟩ ?_ ?_
 ·rintro i σ H' hi ⟨u4, ts, tr, rfl, L3, e3, hT, hlen, hS⟩
  walk_at "v"
  refine ⟨.inl ⟨rfl, _, SqL.of e3⟩, ?_⟩
  walk_at "v"
  refine ⟨p, 3, rfl, L3.fd, by decide, by decide, fun r1 x y z h0' h1' => ?_⟩
  have k4 : SB p H' (upd H' p (.lst [.int x, .int y, .int z])) := SB.drawn
  have L4 := L3.sb k4
  have e4 := k4.1 _ _ hsp e3
  have T4 := hT.sb L3.fd k4
  generalize upd H' p (.lst [.int x, .int y, .int z]) = H4 at k4 L4 e4 T4 ⊢
  walk_at "v"
  refine ⟨p, n, rfl, L4.fd, by omega, fun b H5 xs k5 hb5 eb5 hxl hxs => ?_⟩
  have hbp : b ≠ p := L4.fd.np hb5
  have hbl : b ≠ l := fun z => by rw [z, L4.emp] at hb5; cases hb5
  have hbs : b ≠ s := fun z => by rw [z, e4] at hb5; cases hb5
  have L5 := L4.sb k5
  have e5 := k5.1 _ _ hsp e4
  have T5 := T4.sb L4.fd k5
  walk_at "v"
  refine ⟨p, 9, rfl, L5.fd, by decide, by decide, fun r2 x y z h0'' h1'' => ?_⟩
  have k6 : SB p H5 (upd H5 p (.lst [.int x, .int y, .int z])) := SB.drawn
  have L6 := L5.sb k6
  have e6 := k6.1 _ _ hsp e5
  have T6 := T5.sb L5.fd k6
  have eb6 := k6.1 _ _ hbp eb5
  generalize upd H5 p (.lst [.int x, .int y, .int z]) = H6 at k6 L6 e6 T6 eb6 ⊢
  walk_at "v"
  refine ⟨sz3, fun q hq => ?_⟩
  obtain ⟨H7, q, k7, e7⟩ := nob (.tup [.int (1 + r1), .ref b, .int (r2 - 4)]) hq; rw [q]; clear q
  have L7 := L6.same k7
  have hTl := T6.ln
  walk_at "v"
  refine ⟨s, _, _, rfl, rfl, k7 _ _ e6, by rw [List.length_map]; exact Nat.lt_of_le_of_lt (by omega : ts.length ≤ 4) (by decide), ?_⟩
  refine ⟨_, ts ++ [q], tr ++ [(1 + r1, xs, r2 - 4)], rfl, L7.put hsp hsl, by rw [zf]; simp, (T6.same k7).snoc (t := (1 + r1, xs, r2 - 4)) (k7 _ _ e6) e7 (k7 _ _ eb6) hbp hbl hbs ⟨by show 1 ≤ 1 + r1; omega, by show 1 + r1 ≤ 3; omega, hxl, fun x hx => by have := hxs x hx; omega, by show (r2 - 4).natAbs ≤ 4; omega⟩, by simp [hlen], S2.put hs ((((hS.trans (S2.sb k4)).trans (S2.sb k5)).trans (S2.sb k6)).trans (S2.same k7))⟩
 rintro σ H3 ⟨u4, ts, tr, rfl, L3, e3, hT, hlen, hS⟩
 have hln := hT.ln
 walk_at "v"
 refine ⟨_, rfl, by omega, by omega, fun D4 hD4 => ?_⟩
 rw [Int.toNat_natCast]
 refine v6 (fun j => V.int (0 - tsum tr j)) (by omega) hD4 (fun j hj H' K' R' kR => ?_) (fun H4 K4 e4 => ?_)
 ·walk_at "v"
  refine ⟨s, rfl, ⟨_, SqL.of (K' _ _ e3)⟩, fun D5 hD5 => ?_⟩
  refine vY (S := Same) (rs := ts) (fun i y _ => ∃ t, tr[i]? = some t ∧ y = .int (t.1 * t.2.1.getD j 0)) (Kp.same hD5) (fun _ h => h) (fun _ b => TK.same b) (by omega) (fun H2 k2 => SqL.of (k2 _ _ (K' _ _ e3))) (fun i r H2 er k2 => ?_) (fun ys H5 gp e5 => ?_)
  ·obtain ⟨t, b, et, hm, ea, eb⟩ := ((hT.same K').same k2).at' er
   have hb := hT.bd t hm
   refine ⟨_, _, _, ea, fun R kR => ?_⟩
   walk_at "v"
   rw [Int.zero_add]
   refine zv eb (atL (by omega)) ?_
   refine ⟨_, _, rfl, rfl, mulBb (zC (by omega)) (zC (by have := xR hb.2.2.2.1 j; omega)), ?_⟩
   exact kR _ _ (Same.refl _) ⟨t, et, rfl⟩
  ·obtain ⟨k5, hl5, hy5⟩ := gp
   obtain rfl := xP (zs := tr) (f := fun t => V.int (t.1 * t.2.1.getD j 0)) (by omega) hy5
   walk_at "v"
   refine ⟨D5, tr.map fun t => t.1 * t.2.1.getD j 0, rfl, by rw [e5, List.map_map]; rfl, ?_⟩
   walk_at "v"
   exact kR _ k5
 have e4' : H4 D4 = some (.lst (((List.range n).map fun j => 0 - tsum tr j).map V.int)) := by rw [e4, List.map_map]; rfl
 have L4 := L3.same K4
 have T4 := hT.same K4
 have s4 := K4 _ _ e3
 have S4 := hS.trans (S2.same K4)
 have hDp : D4 ≠ p := L3.fd.np hD4
 have hDl : D4 ≠ l := fun z => by rw [z, L3.emp] at hD4; cases hD4
 clear e4 hD4 K4 L3 e3 hT hS
 walk_at "v"
 refine ⟨s, rfl, ⟨_, SqL.of s4⟩, fun D5 hD5 => ?_⟩
 refine vY (S := Same) (rs := ts) (fun i y _ => ∃ t, tr[i]? = some t ∧ y = .int (t.1 * t.2.2)) (Kp.same hD5) (fun _ h => h) (fun _ b => TK.same b) (by omega) (fun H2 k2 => SqL.of (k2 _ _ s4)) (fun i r H2 er k2 => ?_) (fun ys H5 gp e5 => ?_)
 ·obtain ⟨t, b, et, hm, ea, eb⟩ := (T4.same k2).at' er
  have hb := T4.bd t hm
  refine ⟨_, _, _, ea, fun R kR => ?_⟩
  walk_at "v"
  refine ⟨_, _, rfl, rfl, mulBb (zC (by omega)) (zC (by omega)), ?_⟩
  exact kR _ _ (Same.refl _) ⟨t, et, rfl⟩
 obtain ⟨k5, hl5, hy5⟩ := gp
 obtain rfl := xP (zs := tr) (f := fun t => V.int (t.1 * t.2.2)) (by omega) hy5
 walk_at "v"
 refine ⟨D5, tr.map fun t => t.1 * t.2.2, rfl, by rw [e5, List.map_map]; rfl, ?_⟩
 have L5 := L4.same k5
 have T5 := T4.same k5
 have s5 := k5 _ _ s4
 have S5 := S4.trans (S2.same k5)
 have d5 := k5 _ _ e4'
 clear e4' L4 T4 s4 S4 e5 hy5 hD5 k5 hl5
 have hw : (tr.map fun t => t.1 * t.2.2).sum = tw tr := rfl
 rw [hw]
 clear hw
 walk_at "v"
 refine ⟨L5.ty, ?_⟩
 walk_at "v"
 refine ⟨s, rfl, ⟨_, SqL.of s5⟩, fun D6 hD6 => ?_⟩
 refine vY (S := Same) (rs := ts) (fun i y H' => ∃ r q b, (tr.map fun t => (t.2.1, t.2.2))[i]? = some r ∧ y = .ref q ∧ H' q = some (.tup [.ref b, .int r.2]) ∧ H' b = some (.tup (r.1.map V.int))) (Kp.same hD6) (fun k ⟨r, q, b, f1, f2, f3, f4⟩ => ⟨r, q, b, f1, f2, k.t _ _ f3, k.t _ _ f4⟩) (fun _ b => TK.same b) (by omega) (fun H2 k2 => SqL.of (k2 _ _ s5)) (fun i r H2 er k2 => ?_) (fun ys H6 gp e6 => ?_)
 ·obtain ⟨t, b, et, hm, ea, eb⟩ := (T5.same k2).at' er
  refine ⟨_, _, _, ea, fun R kR => ?_⟩
  walk_at "v"
  refine ⟨b, _, rfl, eb, fun q7 H7 k7 e7 => ?_⟩
  walk_at "v"
  refine ⟨sz2, fun q8 hq8 => ?_⟩
  exact kR _ _ (k7.trans (Same.new (Same.refl _) hq8)) ⟨(t.2.1, t.2.2), q8, q7, by rw [List.getElem?_map, et]; rfl, rfl, zf, by rw [zh (zg e7 hq8)]; exact e7⟩
 obtain ⟨k6, hl6, hy6⟩ := gp
 obtain ⟨ras, bas, rfl, f2, f3, f4⟩ := YJ (tr.map fun t => (t.2.1, t.2.2)) ys (by rw [List.length_map]; omega) hy6
 have L6 := L5.same k6
 have T6 := T5.same k6
 have d6 := k6 _ _ d5
 have S6 := S5.trans (S2.same k6)
 walk_at "v"
 refine ⟨l, D6, [], _, rfl, rfl, L6.emp, e6, by rw [List.length_nil, List.length_map, f2, List.length_map]; exact Nat.le_trans (by omega : 0 + tr.length ≤ 4) (by decide), ?_⟩
 rw [List.nil_append]
 have L7 := LR.of (n := n) L6.fd L6.ne L6.emp f2 f3 f4 fun r hr => by
  obtain ⟨t, ht, rfl⟩ := List.mem_map.mp hr
  exact (T6.bd t ht).2.2.1
 have S7 := S6.trans (S2.at_ (o := .lst (ras.map V.ref)))
 have d7 : upd H6 l (.lst (ras.map V.ref)) D4 = some (.lst (((List.range n).map fun j => 0 - tsum tr j).map V.int)) := by rw [zh hDl]; exact d6
 have hbd := T6.bd
 generalize upd H6 l (.lst (ras.map V.ref)) = H7 at L7 S7 d7 ⊢
 clear L5 L6 T5 T6 d5 d6 S5 S6 s5 hy6 f2 f3 f4 e6 k6
 walk_at "v"
 refine ⟨L7.ty, ?_⟩
 walk_at "v"
 refine ⟨D4, _, rfl, d7, fun q8 H8 K8 e8 => ?_⟩
 walk_at "v"
 have L8 := L7.same K8
 have S8 := S7.trans (S2.same K8)
 have n8 : q8 ≠ p := fun w => by obtain ⟨_, _, _, o⟩ := L8.fd; rw [w, o] at e8; cases e8
 refine ⟨_, rfl, ?_⟩
 walk_at "v"
 refine ⟨p, 2, rfl, L8.fd, by decide, by decide, fun e1 x y z he0 he1 => ?_⟩
 have k9 : SB p H8 (upd H8 p (.lst [.int x, .int y, .int z])) := SB.drawn
 have L9 := L8.sb k9
 have e9 := k9.1 _ _ n8 e8
 have S9 := S8.trans (S2.sb k9)
 generalize upd H8 p (.lst [.int x, .int y, .int z]) = H9 at k9 L9 e9 S9 ⊢
 walk_at "v"
 refine ⟨p, 9, rfl, L9.fd, by decide, by decide, fun e2 x y z he2 he3 => ?_⟩
 have k10 : SB p H9 (upd H9 p (.lst [.int x, .int y, .int z])) := SB.drawn
 have L10 := L9.sb k10
 have e10 := k10.1 _ _ n8 e9
 have S10 := S9.trans (S2.sb k10)
 generalize upd H9 p (.lst [.int x, .int y, .int z]) = H10 at k10 L10 e10 S10 ⊢
 walk_at "v"
 refine ⟨_, _, rfl, rfl, mulBb (zC (by omega)) (zC (by omega)), ?_⟩
 obtain ⟨e, he, hen⟩ : ∃ e : Int, e = e1 * e2 ∧ 0 ≤ e ∧ e ≤ 8 := ⟨_, rfl, Int.mul_nonneg he0 he2, by
  rcases (by omega : e1 = 0 ∨ e1 = 1) with rfl | rfl <;> omega⟩
 simp only [← he]
 walk_at "v"
 refine ⟨sz2, fun q11 hq11 => ?_⟩
 obtain ⟨H11, q, k11, e11⟩ := nob (.tup [.ref q8, .int (-tw tr - 1 - e)]) hq11; rw [q]; clear q
 have L11 := L10.same k11
 walk_at "v"
 refine L11.app e11 (k11 _ _ e10) (by simp) (by rw [List.length_map]; omega) fun H12 k12 L12 => ?_
 have S12 := S10.trans ((S2.same k11).trans k12)
 have hlast : ∀ j, j < n → ((List.range n).map fun j => 0 - tsum tr j).getD j 0 = 0 - tsum tr j := fun j hj => by
  rw [List.getD_eq_getElem?_getD, List.getElem?_map, List.getElem?_range hj]; rfl
 have hno : ∀ (x : List Int) (d : Int), 1 ≤ d → ¬MetR ((tr.map fun t => (t.2.1, t.2.2)) ++ [((List.range n).map fun j => 0 - tsum tr j, -tw tr - 1 - e)]) x d := fun x d hd hM =>
  t_no (fun t ht => ⟨(hbd t ht).1, (hbd t ht).2.2.1⟩) (by simp) hlast hen.1 hd hM
 have hts : ∀ j, (tsum tr j).natAbs ≤ 60 := fun j => Nat.le_trans (vM (B := 15) (fun t : T3 => t.1 * t.2.1.getD j 0) tr fun t ht => by
  have h := hbd t ht
  rw [Int.natAbs_mul]
  exact Nat.mul_le_mul (show t.1.natAbs ≤ 3 by omega) (xR h.2.2.2.1 j)) (by omega)
 have htw : (tw tr).natAbs ≤ 48 := Nat.le_trans (vM (B := 12) (fun t : T3 => t.1 * t.2.2) tr fun t ht => by
  have h := hbd t ht
  rw [Int.natAbs_mul]
  exact Nat.mul_le_mul (show t.1.natAbs ≤ 3 by omega) h.2.2.2.2) (by omega)
 have hRB : RB n ((tr.map fun t => (t.2.1, t.2.2)) ++ [((List.range n).map fun j => 0 - tsum tr j, -tw tr - 1 - e)]) := RB.snoc ⟨fun r hr => by
   obtain ⟨t, ht, rfl⟩ := List.mem_map.mp hr
   have h := hbd t ht
   exact ⟨fun x hx => Nat.le_trans (h.2.2.2.1 x hx) (by decide), Nat.le_trans h.2.2.2.2 (by decide)⟩⟩ (fun x hx => by
   obtain ⟨j, _, rfl⟩ := List.mem_map.mp hx
   have := hts j
   show (0 - tsum tr j).natAbs ≤ 10000
   omega) (by omega)
 have hrl : ((tr.map fun t => (t.2.1, t.2.2)) ++ [((List.range n).map fun j => 0 - tsum tr j, -tw tr - 1 - e)]).length ≤ 5 := by simp; omega
 generalize hrs : (tr.map fun t => (t.2.1, t.2.2)) ++ [((List.range n).map fun j => 0 - tsum tr j, -tw tr - 1 - e)] = rs0 at L12 hno hRB hrl
 clear L11 L10 L9 L8 L7 S7 S8 S9 S10 e8 e9 e10 e11 k12 k11 k10 k9 hlast hrs K8
 walk_at "v"
 refine ⟨p, 6, rfl, L12.fd, by decide, by decide, fun r' x y z h0' h1' => ?_⟩
 have k13 : SB p H12 (upd H12 p (.lst [.int x, .int y, .int z])) := SB.drawn
 have L13 := L12.sb k13
 have S13 := S12.trans (S2.sb k13)
 generalize upd H12 p (.lst [.int x, .int y, .int z]) = H13 at k13 L13 S13 ⊢
 walk_at "v"
 obtain ⟨g, hg, hg1⟩ : ∃ g : Int, g = (if decide ((6 : Int) < (n : Int)) = true then 1 else 0) ∧ 0 ≤ g ∧ g ≤ 1 := ⟨_, rfl, by split <;> omega⟩
 refine .inr ⟨_, rfl, ?_⟩
 rw [← hg]
 walk_at "v"
 refine ⟨_, _, rfl, rfl, mulBb (zC (by decide)) (zC (by omega)), ?_⟩
 walk_at "v"
 refine ⟨_, rfl, by omega, by omega, ?_⟩
 obtain ⟨m, hm, hm25⟩ : ∃ m : Nat, r' + 20 * g = (m : Int) ∧ m ≤ 25 := ⟨(r' + 20 * g).toNat, by omega, by omega⟩
 rw [hm, Int.toNat_natCast]
 refine yu (n := m) (fun i σ H' => ∃ (u4 : Option V) (ws : List (List Int × Int)), σ = [some (.ref p), some (.int (n : Int)), some (.ref l), some (.ref s), u4, some (.ref D4), some (.int (tw tr))] ∧ LR H' p l n (rs0 ++ ws) ∧ RB n (rs0 ++ ws) ∧ ws.length = i ∧ S2 p l H H') ⟨_, [], rfl, by rw [List.append_nil]; exact L13, by rw [List.append_nil]; exact hRB, rfl, S13⟩ ?_ ?_
 ·rintro i σ H' hi ⟨u4, ws, rfl, L3, hR3, hwl, hS⟩
  walk_at "v"
  refine ⟨L3.ty, ?_⟩
  walk_at "v"
  refine ⟨p, n, rfl, L3.fd, by omega, fun l4 H4 xs k4 hl4 e4 hxl hxs => ?_⟩
  have L4 := L3.sb k4
  walk_at "v"
  refine ⟨l4, _, rfl, e4, fun q5 H5 k5 e5 => ?_⟩
  have L5 := L4.same k5
  have n5 : q5 ≠ p := fun w => by obtain ⟨_, _, _, o⟩ := L5.fd; rw [w, o] at e5; cases e5
  walk_at "v"
  refine ⟨p, 9, rfl, L5.fd, by decide, by decide, fun r2 x y z h0'' h1'' => ?_⟩
  have k6 : SB p H5 (upd H5 p (.lst [.int x, .int y, .int z])) := SB.drawn
  have L6 := L5.sb k6
  have e6 := k6.1 _ _ n5 e5
  generalize upd H5 p (.lst [.int x, .int y, .int z]) = H6 at k6 L6 e6 ⊢
  walk_at "v"
  refine ⟨sz2, fun q7 hq7 => ?_⟩
  obtain ⟨H7, q, k7, e7⟩ := nob (.tup [.ref q5, .int (r2 - 3)]) hq7; rw [q]; clear q
  have L7 := L6.same k7
  walk_at "v"
  refine L7.app e7 (k7 _ _ e6) hxl (by rw [List.length_append]; omega) fun H8 k8 L8 => ?_
  refine ⟨_, ws ++ [(xs, r2 - 3)], rfl, by rw [← List.append_assoc]; exact L8, by rw [← List.append_assoc]; exact hR3.snoc (fun x hx => by have := hxs x hx; omega) (by omega), by simp [hwl], hS.trans ((S2.sb k4).trans ((S2.same k5).trans ((S2.sb k6).trans ((S2.same k7).trans k8))))⟩
 ·rintro σ H' ⟨u4, ws, rfl, L3, hR3, hwl, hS⟩
  exact k H' _ hS L3 hR3 (by rw [List.length_append]; omega) fun x d hd hx hM => hno x d hd fun r hr => hM r (List.mem_append.mpr (.inl hr))
abbrev sPb : Stmt := top 14
abbrev nPb : List Str := ["_law_feed_here", "_law_many", "_law_way", "_law_rows", "_law_k", "_law_turn"]
theorem nmPb : Nm nPb (zc sPb) := nmk (by decide +kernel)
theorem scPb : FnScope nPb ["_law_feed_here", "_law_many", "_law_way"] (zc sPb) := fsk (by decide +kernel)
theorem vI {a b : TS} {D : Ends} {σ : St} {H : Hp} (M : St → Hp → Prop) (h2 : ∀ σ H, M σ H → b D σ H) (h1 : ∀ C : St → Hp → Prop, (∀ σ H, M σ H → C σ H) → a { D with nx := C } σ H) : tSeq a b D σ H := h1 _ h2
theorem zH {b : Bool} {A B : Prop} (h1 : b = true → A) (h2 : b = false → B) : if b = true then A else B := by
 cases b
 ·exact h2 rfl
 ·exact h1 rfl
theorem vH {i : Nat} {v : V} {σ : St} {H : Hp} {C : St → Hp → Prop} (h : C (σ.set i (some v)) H) : zB i v σ H C := h
def Feas (n : Nat) (rows : List (List Int × Int)) : Prop := ∃ (x : List Int) (d : Int), 1 ≤ d ∧ x.length = n ∧ MetR rows x d
theorem Feas.mono {n : Nat} {rows rs : List (List Int × Int)} (h : Feas n rows) (k : ∀ r ∈ rs, r ∈ rows) : Feas n rs := let ⟨x, d, h1, h2, h3⟩ := h; ⟨x, d, h1, h2, fun r hr => h3 r (k r hr)⟩
theorem dotL_zero {n : Nat} {x : List Int} : dotL (List.replicate n 0) x = 0 := by
 rw [yG]
 exact yL fun j hj => by
  rw [List.length_replicate] at hj
  rw [List.getD_eq_getElem?_getD, List.getElem?_replicate, if_pos hj]
  exact Int.zero_mul _
def PW (H : Hp) (us : List V) (rows : List (List Int × Int)) : Prop := us.length = rows.length ∧ ∀ (j : Nat) (y : V), us[j]? = some y → ∃ r q b, rows[j]? = some r ∧ y = .ref q ∧ H q = some (.tup [.ref b, .int r.2]) ∧ H b = some (.tup (r.1.map V.int))
theorem PW.app {H : Hp} {us vs : List V} {rs ws : List (List Int × Int)} (h : PW H us rs) (g : PW H vs ws) : PW H (us ++ vs) (rs ++ ws) := by
 refine ⟨by simp [h.1, g.1], fun j y e => ?_⟩
 by_cases hj : j < us.length
 ·rw [List.getElem?_append_left hj] at e
  obtain ⟨r, q, b, e1, e2⟩ := h.2 j y e
  exact ⟨r, q, b, by rw [List.getElem?_append_left (by rw [← h.1]; exact hj)]; exact e1, e2⟩
 ·rw [List.getElem?_append_right (by omega)] at e
  obtain ⟨r, q, b, e1, e2⟩ := g.2 _ y e
  exact ⟨r, q, b, by rw [List.getElem?_append_right (by rw [← h.1]; omega), ← h.1]; exact e1, e2⟩
theorem PW.drop {H : Hp} {us : List V} {rs : List (List Int × Int)} (h : PW H us rs) (t : Nat) : PW H (us.drop t) (rs.drop t) := ⟨by simp [h.1], fun j y e => by
 rw [List.getElem?_drop] at e
 obtain ⟨r, q, b, e1, e2⟩ := h.2 _ y e
 exact ⟨r, q, b, by rw [List.getElem?_drop]; exact e1, e2⟩⟩
theorem PW.take {H : Hp} {us : List V} {rs : List (List Int × Int)} (h : PW H us rs) (t : Nat) : PW H (us.take t) (rs.take t) := ⟨by simp [h.1], fun j y e => by
 rw [List.getElem?_take] at e
 split at e
 ·next hj =>
  obtain ⟨r, q, b, e1, e2⟩ := h.2 _ y e
  exact ⟨r, q, b, by rw [List.getElem?_take, if_pos hj]; exact e1, e2⟩
 ·cases e⟩
theorem PW.rev {H : Hp} {us : List V} {rs : List (List Int × Int)} (h : PW H us rs) : PW H us.reverse rs.reverse := ⟨by simp [h.1], fun j y e => by
 have hj : j < us.length := by simpa using (List.getElem?_eq_some_iff.mp e).1
 rw [List.getElem?_reverse hj] at e
 obtain ⟨r, q, b, e1, e2⟩ := h.2 _ y e
 exact ⟨r, q, b, by rw [List.getElem?_reverse (by rw [← h.1]; exact hj), ← h.1]; exact e1, e2⟩⟩
theorem PW.tk {H H' : Hp} {us : List V} {rs : List (List Int × Int)} (h : PW H us rs) (k : TK H H') : PW H' us rs := ⟨h.1, fun j y e => let ⟨r, q, b, e1, e2, e3, e4⟩ := h.2 j y e; ⟨r, q, b, e1, e2, k.t _ _ e3, k.t _ _ e4⟩⟩
theorem LR.pw {H : Hp} {p l : Addr} {n : Nat} {rows : List (List Int × Int)} (h : LR H p l n rows) : ∃ us, H l = some (.lst us) ∧ PW H us rows := by
 obtain ⟨ras, bas, g⟩ := h.pr
 refine ⟨_, g.ob, by rw [List.length_map, g.rl], fun j y e => ?_⟩
 have hj : j < rows.length := by rw [← g.rl]; simpa using (List.getElem?_eq_some_iff.mp e).1
 obtain ⟨a, b, e1, e2, e3, e4⟩ := g.at_ j (rows[j]).1 (rows[j]).2 (List.getElem?_eq_getElem hj)
 rw [List.getElem?_map, e1] at e
 cases e
 exact ⟨rows[j], a, b, List.getElem?_eq_getElem hj, rfl, e3, e4⟩
theorem LR.wd {H : Hp} {p l : Addr} {n : Nat} {rows : List (List Int × Int)} (h : LR H p l n rows) : ∀ r ∈ rows, r.1.length = n := let ⟨_, _, g⟩ := h.pr; g.wd
theorem PW.prat {H : Hp} {l : Addr} {n : Nat} {us : List V} {rows : List (List Int × Int)} (h : PW H us rows) (e : H l = some (.lst us)) (wd : ∀ r ∈ rows, r.1.length = n) : PrAt H n rows l := by
 obtain ⟨ras, bas, rfl, f2, f3, f4⟩ := YJ rows us h.1 h.2
 exact ⟨ras, bas, e, f2, f3, f4, wd⟩
def PbM (p l : Addr) (n : Nat) (way : Int) (H H' : Hp) : Prop := ∃ rows, S2 p l H H' ∧ LR H' p l n rows ∧ RB n rows ∧ rows.length ≤ 33 ∧ (2 ≤ way → way < 4 → Feas n rows) ∧ (4 ≤ way → ¬Feas n rows)
theorem LR.at' {H : Hp} {p l : Addr} {n i : Nat} {rows : List (List Int × Int)} (h : LR H p l n rows) (hi : i < rows.length) : ∃ us q b, H l = some (.lst us) ∧ us.length = rows.length ∧ us[i]? = some (.ref q) ∧ H q = some (.tup [.ref b, .int (rows[i]).2]) ∧ H b = some (.tup ((rows[i]).1.map V.int)) := by
 obtain ⟨ras, bas, h'⟩ := h.pr
 obtain ⟨a, c, e1, e2, e3, e4⟩ := h'.at_ i (rows[i]).1 (rows[i]).2 (List.getElem?_eq_getElem hi)
 exact ⟨_, a, c, h'.ob, by rw [List.length_map, h'.rl], by rw [List.getElem?_map, e1]; rfl, e3, e4⟩
def spPb : Sp := fun vs H Q _ => ∃ (p : Addr) (n : Nat) (way : Int), vs = [.ref p, .int (n : Int), .int way] ∧ FeedAt H p ∧ n ≤ 9 ∧ 0 ≤ way ∧ way < 6 ∧ ∀ l H' rows, SB p H H' → LR H' p l n rows → RB n rows → rows.length ≤ 34 → (2 ≤ way → way < 4 → Feas n rows) → (4 ≤ way → ¬Feas n rows) → Q (.ref l) H'
theorem ok_Pb {f : Addr} {fd : FuncData} (B : Bl mg) (fD : Has P w K mg base 1 "_law_draw" ["_law_feed_here", "_law_many"] xZ) (fR : Has P w K mg base 2 "_law_row" ["_law_feed_here", "_law_many"] spRo) (fO : Has P w K mg base 3 "_law_round" ["_law_feed_here", "_law_many", "_law_rows"] spRd) (fN : Has P w K mg base 3 "_law_no" ["_law_feed_here", "_law_many", "_law_rows"] spNo) (F : Fun K "_law_problem" "_law_problem" sPb f fd) : FnOk P w K mg base CX0 4 f fd ["_law_feed_here", "_law_many", "_law_way"] spPb := by
 refine F.ok scPb (fun vs H Q E h => ?_) (fun cdv A outer s H vs Q E hr h => ?_)
 ·obtain ⟨p, n, way, rfl, _⟩ := h
  rfl
 obtain ⟨p, n, way, rfl, F0, hn, h0, h6, k⟩ := h
 refine' ⟨_, ?hb, ?rd⟩
 case' hb => skip
 case' hb => refine' ze ?g1 ?g2
 case' g2 => refine' ze ?g3 ?g4
 case' g4 => refine' ze ?g5 ?g6
 case' g6 => refine' ze ?g7 ?g8
 case' g8 => refine' zi ?g9
 case g1 => exact zq nmPb 3 (yp yz)
 case' g3 => refine' zQ ?g10 ?g11 ?g12
 case g10 => exact zm xq (pvd nmPb 2) zd (zo _)
 case' g11 => refine' zi ?g13
 case' g13 => refine' yR PassesOwn.never rfl ?g14 (pgd nmPb 4) ?g15
 case g14 => exact yx B.range (pa_1 (zk zS (pe_f fD hr (by decide) (pa_2 (pvd nmPb 0) zd)) (zk zG zd (yy we B.int PyProof.Rows.boot_int (pa_1 (yF wC (pvd nmPb 1) zd (zo _)))))))
 case' g15 => refine' zi ?g16
 case g16 => exact zW (xM PySem.F.plainAttrs_list PySem.F.slot_list_append PySem.F.type_list_append zZ (pvd nmPb 3) (pa_1 (zR (pa_2 (yy ya B.tuple PyProof.Rows.boot_tuple (pa_1 (pe_f fR hr (by decide) (pa_2 (pvd nmPb 0) (pvd nmPb 1))))) (zk yq (pe_f fD hr (by decide) (pa_2 (pvd nmPb 0) zd)) zd)))))
 case' g12 => refine' zi ?g17
 case' g17 => refine' zQ ?g18 ?g19 ?g20
 case g18 => exact zm xq (pvd nmPb 2) zd (zo _)
 case' g19 => refine' ze ?g21 ?g22
 case' g22 => refine' zi ?g23
 case g21 => exact zW (pe_f fO hr (by decide) (pa_c (pvd nmPb 0) (pa_2 (pvd nmPb 1) (pvd nmPb 3))))
 case g23 => exact zW (xM PySem.F.plainAttrs_list PySem.F.slot_list_append PySem.F.type_list_append zZ (pvd nmPb 3) (pa_1 (zR (pa_2 (zk op_repG (zR (pa_1 zd)) (pvd nmPb 1)) (pe_f fD hr (by decide) (pa_2 (pvd nmPb 0) zd))))))
 case' g20 => refine' zi ?g24
 case g24 => exact zW (pe_f fN hr (by decide) (pa_c (pvd nmPb 0) (pa_2 (pvd nmPb 1) (pvd nmPb 3))))
 case' g5 => refine' zQ ?g25 ?g26 zE
 case g25 => exact PW.pt (xz (zm (YR hr) (pvd nmPb 3) (yp yz) (zo _)) (yP (zm Zj (pe_f fD hr (by decide) (pa_2 (pvd nmPb 0) zd)) zd (zo _))))
 case' g26 => refine' zi ?g28
 case g28 => exact zW (xM PySem.F.plainAttrs_list PySem.F.slot_list_append PySem.F.type_list_append zZ (pvd nmPb 3) (pa_1 (ziq (pvd nmPb 3) (pe_f fD hr (by decide) (pa_2 (pvd nmPb 0) (zM zt B.len PySem.boot_len (pa_1 (pvd nmPb 3))))))))
 case g7 => exact zq nmPb 5 (pe_f fD hr (by decide) (pa_2 (pvd nmPb 0) (zk zS (zM zt B.len PySem.boot_len (pa_1 (pvd nmPb 3))) zd)))
 case g9 => exact zr (zk vT (xK vN (pvd nmPb 3) (xJ (pvd nmPb 5)) wJ) (xK vN (pvd nmPb 3) wJ (xJ (pvd nmPb 5))))
 walk_at "v"
 refine ⟨Nat.zero_le _, fun l hl => ?_⟩
 have hlp : l ≠ p := F0.np hl
 have L1 : LR (upd H l (.lst [])) p l n [] := .nil (let ⟨x, y, z, e⟩ := F0; ⟨x, y, z, by rw [zh (Ne.symm hlp)]; exact e⟩) (Ne.symm hlp) zf
 have K1 : Same H (upd H l (.lst [])) := Same.new (Same.refl _) hl
 generalize upd H l (.lst []) = H1 at L1 K1 ⊢
 have fin : ∀ {H2 : Hp}, S2 p l H1 H2 → FeedAt H2 p → SB p H H2 := fun {H2} a b => ⟨fun q u hq e => a q u hq (zg e hl) (K1 _ _ e), fun _ => b⟩
 refine vH ?_
 dsimp only
 refine vI (M := fun σ H2 => ∃ u4, σ = [some (.ref p), some (.int (n : Int)), some (.int way), some (.ref l), u4, none] ∧ PbM p l n way H1 H2) ?_ ?_
 ·rintro σ H2 ⟨u4, rfl, rows, S3, L3, R3, hl3, hA, hB⟩
  refine vI (M := fun σ H2 => ∃ u4, σ = [some (.ref p), some (.int (n : Int)), some (.int way), some (.ref l), u4, none] ∧ ∃ rows, S2 p l H1 H2 ∧ LR H2 p l n rows ∧ RB n rows ∧ rows.length ≤ 34 ∧ (2 ≤ way → way < 4 → Feas n rows) ∧ (4 ≤ way → ¬Feas n rows)) ?_ ?_
  ·clear S3 L3 R3 hl3 hA hB
   rintro σ H2 ⟨u4, rfl, rows, S3, L3, R3, hl3, hA, hB⟩
   walk_at "v"
   obtain ⟨us, e3, P3⟩ := L3.pw
   refine ⟨l, us, rfl, .inl (SqL.of e3), ?_⟩
   walk_at "v"
   refine ⟨p, _, rfl, L3.fd, by omega, by rw [P3.1]; omega, fun t x y z h0' h1' => ?_⟩
   have k4 : SB p H2 (upd H2 p (.lst [.int x, .int y, .int z])) := SB.drawn
   have L4 := L3.sb k4
   have e4 := k4.1 _ _ hlp e3
   have P4 := P3.tk (vp L3.fd k4)
   have S4 := S3.trans (S2.sb k4)
   generalize upd H2 p (.lst [.int x, .int y, .int z]) = H4 at k4 L4 e4 P4 S4 ⊢
   obtain ⟨t, rfl⟩ : ∃ t' : Nat, t = (t' : Int) := ⟨t.toNat, by omega⟩
   have ht : t ≤ us.length := by omega
   have ul := P3.1
   walk_at "v"
   refine ⟨_, rfl, ?_⟩
   walk_at "v"
   refine ⟨l, us, rfl, SqL.of e4, fun a5 ha5 => ?_⟩
   rw [cut_from ht]
   obtain ⟨H5, q, k5, e5⟩ := nob (.lst (us.drop t)) ha5; rw [q]; clear q
   walk_at "v"
   refine ⟨_, rfl, ?_⟩
   walk_at "v"
   refine ⟨l, us, rfl, SqL.of (k5 _ _ e4), fun a6 ha6 => ?_⟩
   rw [Y7 ht]
   obtain ⟨H6, q, k6, e6⟩ := nob (.lst (us.take t)) ha6; rw [q]; clear q
   walk_at "v"
   refine ⟨a5, a6, _, _, rfl, rfl, k6 _ _ e5, e6, by rw [List.length_drop, List.length_take]; exact Nat.le_trans (by omega : _ ≤ 40) (by decide), fun a7 ha7 => ?_⟩
   obtain ⟨H7, q, k7, e7⟩ := nob (.lst (us.drop t ++ us.take t)) ha7; rw [q]; clear q
   have L7 := ((L4.same k5).same k6).same k7
   have n7 : a7 ≠ p := ((L4.same k5).same k6).fd.np ha7
   have hm : ∀ r, r ∈ rows.drop t ++ rows.take t ↔ r ∈ rows := fun r => by
    rw [List.mem_append]
    constructor
    ·rintro (h | h)
     ·exact List.mem_of_mem_drop h
     ·exact List.mem_of_mem_take h
    ·intro h
     rw [← List.take_append_drop t rows] at h
     exact (List.mem_append.mp h).symm
   have P7 := (P4.tk (TK.same ((k5.trans k6).trans k7)))
   walk_at "v"
   exact k a7 H7 (rows.drop t ++ rows.take t) (fin (S4.trans ((S2.same k5).trans ((S2.same k6).trans (S2.same k7)))) L7.fd) ⟨L7.fd, Ne.symm n7, ((P7.drop t).app (P7.take t)).prat e7 fun r hr => L7.wd r ((hm r).mp hr)⟩ ⟨fun r hr => R3.bd r ((hm r).mp hr)⟩ (by rw [List.length_append, List.length_drop, List.length_take]; omega) (fun h1 h2 => (hA h1 h2).mono fun r hr => (hm r).mp hr) (fun h1 h2 => hB h1 (h2.mono fun r hr => (hm r).mpr hr))
  ·intro C hC
   walk_at "v"
   refine ⟨Nat.zero_le _, fun a4 ha4 => ?_⟩
   obtain ⟨H4, q, k4, e4⟩ := nob (.lst []) ha4; rw [q]; clear q
   have L4 := L3.same k4
   have S4 := S3.trans (S2.same k4)
   obtain ⟨us, el, P4⟩ := L4.pw
   have ul := P4.1
   refine ⟨l, a4, us, rfl, rfl, el, e4, ?_⟩
   refine ⟨_, rfl, ?_⟩
   refine zH (fun hne => ?_) (fun _ => ?_)
   ·have hpos : 0 < rows.length := by
     rw [← ul]
     cases us with
     | nil => simp at hne
     | cons => simp
    walk_at "v"
    refine ⟨p, 3, rfl, L4.fd, by decide, by decide, fun t x y z h0' h1' => ?_⟩
    have k5 : SB p H4 (upd H4 p (.lst [.int x, .int y, .int z])) := SB.drawn
    have L5 := L4.sb k5
    have e5 := k5.1 _ _ hlp el
    have P5 := P4.tk (vp L4.fd k5)
    have S5 := S4.trans (S2.sb k5)
    generalize upd H4 p (.lst [.int x, .int y, .int z]) = H5 at k5 L5 e5 P5 S5 ⊢
    walk_at "v"
    refine ⟨rfl, _, rfl, ?_⟩
    refine zH (fun _ => ?_) (fun _ => ?_)
    ·walk_at "v"
     refine ⟨L5.ty, ?_⟩
     walk_at "v"
     refine ⟨l, us, rfl, .inl (SqL.of e5), ?_⟩
     walk_at "v"
     refine ⟨p, _, rfl, L5.fd, by omega, by omega, fun t x y z h0'' h1'' => ?_⟩
     have k6 : SB p H5 (upd H5 p (.lst [.int x, .int y, .int z])) := SB.drawn
     have L6 := L5.sb k6
     have S6 := S5.trans (S2.sb k6)
     generalize upd H5 p (.lst [.int x, .int y, .int z]) = H6 at k6 L6 S6 ⊢
     obtain ⟨t, rfl⟩ : ∃ t' : Nat, t = (t' : Int) := ⟨t.toNat, by omega⟩
     have ht : t < rows.length := by omega
     obtain ⟨us6, q, b, f1, f2, f3, f4, f5⟩ := L6.at' ht
     refine zv f1 (show atI us6 (t : Int) = some (.ref q) from zu f3) ?_
     walk_at "v"
     refine L6.app f4 f5 (L6.wd _ (List.getElem_mem ht)) (by omega) fun H7 k7 L7 => ?_
     have hm : ∀ r, r ∈ rows ++ [((rows[t]).1, (rows[t]).2)] ↔ r ∈ rows := fun r => by
      rw [List.mem_append]
      constructor
      ·rintro (h | h)
       ·exact h
       ·rw [List.mem_singleton.mp h]; exact List.getElem_mem ht
      ·exact .inl
     exact hC _ _ ⟨_, rfl, _, S6.trans k7, L7, ⟨fun r hr => R3.bd r ((hm r).mp hr)⟩, by rw [List.length_append]; show _ + 1 ≤ 34; omega, fun h1 h2 => (hA h1 h2).mono fun r hr => (hm r).mp hr, fun h1 h2 => hB h1 (h2.mono fun r hr => (hm r).mpr hr)⟩
    ·exact hC _ _ ⟨_, rfl, rows, S5, L5, R3, by omega, hA, hB⟩
   ·refine zH (fun h => by cases h) (fun _ => ?_)
    exact hC _ _ ⟨_, rfl, rows, S4, L4, R3, by omega, hA, hB⟩
 ·intro C hC
  walk_at "v"
  refine iteD (fun hw => ?_) (fun hw => ?_)
  ·have hw' : way < 2 := hw
   walk_at "v"
   refine ⟨p, 13, rfl, L1.fd, by decide, by decide, fun r' x y z h0' h1' => ?_⟩
   have k13 : SB p H1 (upd H1 p (.lst [.int x, .int y, .int z])) := SB.drawn
   have L13 := L1.sb k13
   have S13 : S2 p l H1 _ := S2.sb k13
   generalize upd H1 p (.lst [.int x, .int y, .int z]) = H13 at k13 L13 S13 ⊢
   walk_at "v"
   obtain ⟨g, hg, hg1⟩ : ∃ g : Int, g = (if decide ((6 : Int) < (n : Int)) = true then 1 else 0) ∧ 0 ≤ g ∧ g ≤ 1 := ⟨_, rfl, by split <;> omega⟩
   refine .inr ⟨_, rfl, ?_⟩
   rw [← hg]
   walk_at "v"
   refine ⟨_, _, rfl, rfl, mulBb (zC (by decide)) (zC (by omega)), ?_⟩
   walk_at "v"
   refine ⟨_, rfl, by omega, by omega, ?_⟩
   obtain ⟨m, hm, hm27⟩ : ∃ m : Nat, r' + 15 * g = (m : Int) ∧ m ≤ 27 := ⟨(r' + 15 * g).toNat, by omega, by omega⟩
   rw [hm, Int.toNat_natCast]
   refine yu (n := m) (fun i σ H' => ∃ (u4 : Option V) (ws : List (List Int × Int)), σ = [some (.ref p), some (.int (n : Int)), some (.int way), some (.ref l), u4, none] ∧ LR H' p l n ws ∧ RB n ws ∧ ws.length = i ∧ S2 p l H1 H') ⟨_, [], rfl, L13, ⟨fun r hr => nomatch hr⟩, rfl, S13⟩ ?_ ?_
   ·rintro i σ H' hi ⟨u4, ws, rfl, L3, hR3, hwl, hS⟩
    walk_at "v"
    refine ⟨L3.ty, ?_⟩
    walk_at "v"
    refine ⟨p, n, rfl, L3.fd, by omega, fun l4 H4 xs k4 hl4 e4 hxl hxs => ?_⟩
    have L4 := L3.sb k4
    walk_at "v"
    refine ⟨l4, _, rfl, e4, fun q5 H5 k5 e5 => ?_⟩
    have L5 := L4.same k5
    have n5 : q5 ≠ p := fun w => by obtain ⟨_, _, _, o⟩ := L5.fd; rw [w, o] at e5; cases e5
    walk_at "v"
    refine ⟨p, 11, rfl, L5.fd, by decide, by decide, fun r2 x y z h0'' h1'' => ?_⟩
    have k6 : SB p H5 (upd H5 p (.lst [.int x, .int y, .int z])) := SB.drawn
    have L6 := L5.sb k6
    have e6 := k6.1 _ _ n5 e5
    generalize upd H5 p (.lst [.int x, .int y, .int z]) = H6 at k6 L6 e6 ⊢
    walk_at "v"
    refine ⟨sz2, fun q7 hq7 => ?_⟩
    obtain ⟨H7, q, k7, e7⟩ := nob (.tup [.ref q5, .int (r2 - 5)]) hq7; rw [q]; clear q
    have L7 := L6.same k7
    walk_at "v"
    refine L7.app e7 (k7 _ _ e6) hxl (by omega) fun H8 k8 L8 => ?_
    refine ⟨_, ws ++ [(xs, r2 - 5)], rfl, L8, hR3.snoc (fun x hx => by have := hxs x hx; omega) (by omega), by simp [hwl], hS.trans ((S2.sb k4).trans ((S2.same k5).trans ((S2.sb k6).trans ((S2.same k7).trans k8))))⟩
   ·rintro σ H' ⟨u4, ws, rfl, L3, hR3, hwl, hS⟩
    exact hC _ _ ⟨_, rfl, ws, hS, L3, hR3, by omega, fun _ _ => by omega, fun _ => by omega⟩
  ·have hw' : ¬way < 2 := hw
   walk_at "v"
   refine iteD (fun hw2 => ?_) (fun hw2 => ?_)
   ·have hw2' : way < 4 := hw2
    walk_at "v"
    refine ⟨p, l, n, rfl, L1, hn, fun H3 rows x d S3 L3 R3 hl3 hd hx hM => ?_⟩
    walk_at "v"
    refine ⟨L3.ty, ?_⟩
    walk_at "v"
    refine ⟨sz1, fun q4 hq4 => ?_⟩
    obtain ⟨H4, q, k4, e4⟩ := nob (.tup [.int 0]) hq4; rw [q]; clear q
    walk_at "v"
    refine ⟨q4, n, _, rfl, rfl, e4, by omega, fun q5 H5 k5 e5 => ?_⟩
    have L5 := (L3.same k4).same k5
    have n5 : q5 ≠ p := fun w => by obtain ⟨_, _, _, o⟩ := L5.fd; rw [w, o] at e5; cases e5
    have e5' : H5 q5 = some (.tup ((List.replicate n (0 : Int)).map V.int)) := by rw [List.map_replicate]; exact e5
    walk_at "v"
    refine ⟨p, 2, rfl, L5.fd, by decide, by decide, fun r2 x y z h0'' h1'' => ?_⟩
    have k6 : SB p H5 (upd H5 p (.lst [.int x, .int y, .int z])) := SB.drawn
    have L6 := L5.sb k6
    have e6 := k6.1 _ _ n5 e5'
    generalize upd H5 p (.lst [.int x, .int y, .int z]) = H6 at k6 L6 e6 ⊢
    walk_at "v"
    refine ⟨sz2, fun q7 hq7 => ?_⟩
    obtain ⟨H7, q, k7, e7⟩ := nob (.tup [.ref q5, .int r2]) hq7; rw [q]; clear q
    have L7 := L6.same k7
    walk_at "v"
    refine L7.app e7 (k7 _ _ e6) (by simp) (by omega) fun H8 k8 L8 => ?_
    refine hC _ _ ⟨_, rfl, _, S3.trans ((S2.same k4).trans ((S2.same k5).trans ((S2.sb k6).trans ((S2.same k7).trans k8)))), L8, R3.snoc (fun x hx => by rw [(List.mem_replicate.mp hx).2]; decide) (by omega), by rw [List.length_append]; show _ + 1 ≤ 33; omega, fun _ _ => ⟨_, d, hd, hx, fun r hr => ?_⟩, fun _ => by omega⟩
    rcases List.mem_append.mp hr with hr | hr
    ·exact hM r hr
    ·rw [List.mem_singleton.mp hr]
     show 0 ≤ dotL (List.replicate n 0) _ + r2 * d
     rw [dotL_zero]
     have := Int.mul_nonneg h0'' (by omega : 0 ≤ d)
     omega
   ·have hw2' : ¬way < 4 := hw2
    walk_at "v"
    refine ⟨p, l, n, rfl, L1, hn, fun H' rows hS hL hR hl hF => ?_⟩
    exact hC _ _ ⟨_, rfl, rows, hS, hL, hR, by omega, fun _ _ => by omega, fun _ ⟨x, d, hd, hx, hM⟩ => hF x d hd hx hM⟩
end
end K11
namespace L2
open PySem PySem.Spec PyProof.Rows G2
section
variable {S : Hp → Hp → Prop} {D : Addr} {te : TE} {Q : VK} {ρ : St} {H : Hp} {K : W.Frag} {a : Addr} {rs : List Addr}
theorem cg_none2 {tc : TT} (ha : H a = some (.lst (rs.map V.ref))) (hD : H D = none)
  (step : ∀ (i : Nat) (r : Addr) (H' : Hp), rs[i]? = some r → Same H H' → ∃ u v, H' r = some (.tup [u, v]) ∧ ∀ QB : Bool → Hp → Prop, (∀ H4, Same H' H4 → QB false H4) → tc (some u :: some v :: ρ) H' QB)
  (q : ∀ H', Same H H' → H' D = some (.lst []) → Q (.ref D) H') : CGo (Itl K a) D (gTup K 2 (z0 (zB 0) (z0 (zB 1) gNil))) tc te Q (none :: none :: ρ) H := by
 refine ⟨fun i m τ ys H' => m = rs.length - i ∧ i ≤ rs.length ∧ (∃ tv tw, τ = tv :: tw :: ρ) ∧ ys = [] ∧ Same H H' ∧ H' D = some (.lst []), ⟨rs.length, by omega, Nat.zero_le _, ⟨_, _, rfl⟩, rfl, Same.new (Same.refl _) hD, zf⟩, ?_⟩
 rintro i m τ ys H' ⟨rfl, hi, ⟨tv, tw, rfl⟩, rfl, g, hDe⟩
 refine ⟨hDe, ?_⟩
 have sq : SqL K H' a (rs.map V.ref) := SqL.of (g _ _ ha)
 by_cases hlt : i < rs.length
 ·refine .inr ⟨⟨_, .ref rs[i], sq, by simp [hlt]⟩, ?_⟩
  rintro v H'' ⟨rfl, hv⟩
  have hv' := hv _ sq
  rw [List.getElem?_map, List.getElem?_eq_getElem hlt] at hv'
  cases hv'
  obtain ⟨u, v, e, h⟩ := step i rs[i] _ (List.getElem?_eq_getElem hlt) g
  refine ⟨rs[i], [u, v], rfl, SqT.of e, rfl, u, [v], rfl, v, [], rfl, rfl, ?_⟩
  exact h _ fun H4 k4 => iteF ⟨rs.length - (i + 1), by omega, rfl, hlt, ⟨_, _, rfl⟩, rfl, g.trans k4, k4 _ _ hDe⟩
 ·have e : i = rs.length := by omega
  subst e
  exact .inl ⟨⟨_, sq, by simp⟩, q _ g hDe⟩
theorem cg_none2T {tc : TT} (ha : H a = some (.tup (rs.map V.ref))) (hD : H D = none)
  (step : ∀ (i : Nat) (r : Addr) (H' : Hp), rs[i]? = some r → Same H H' → ∃ u v, H' r = some (.tup [u, v]) ∧ ∀ QB : Bool → Hp → Prop, (∀ H4, Same H' H4 → QB false H4) → tc (some u :: some v :: ρ) H' QB)
  (q : ∀ H', Same H H' → H' D = some (.lst []) → Q (.ref D) H') : CGo (Itt K a) D (gTup K 2 (z0 (zB 0) (z0 (zB 1) gNil))) tc te Q (none :: none :: ρ) H := by
 refine ⟨fun i m τ ys H' => m = rs.length - i ∧ i ≤ rs.length ∧ (∃ tv tw, τ = tv :: tw :: ρ) ∧ ys = [] ∧ Same H H' ∧ H' D = some (.lst []), ⟨rs.length, by omega, Nat.zero_le _, ⟨_, _, rfl⟩, rfl, Same.new (Same.refl _) hD, zf⟩, ?_⟩
 rintro i m τ ys H' ⟨rfl, hi, ⟨tv, tw, rfl⟩, rfl, g, hDe⟩
 refine ⟨hDe, ?_⟩
 have sq : SqT K H' a (rs.map V.ref) := SqT.of (g _ _ ha)
 by_cases hlt : i < rs.length
 ·refine .inr ⟨⟨_, .ref rs[i], sq, by simp [hlt]⟩, ?_⟩
  rintro v H'' ⟨rfl, hv⟩
  have hv' := hv _ sq
  rw [List.getElem?_map, List.getElem?_eq_getElem hlt] at hv'
  cases hv'
  obtain ⟨u, v, e, h⟩ := step i rs[i] _ (List.getElem?_eq_getElem hlt) g
  refine ⟨rs[i], [u, v], rfl, SqT.of e, rfl, u, [v], rfl, v, [], rfl, rfl, ?_⟩
  exact h _ fun H4 k4 => iteF ⟨rs.length - (i + 1), by omega, rfl, hlt, ⟨_, _, rfl⟩, rfl, g.trans k4, k4 _ _ hDe⟩
 ·have e : i = rs.length := by omega
  subst e
  exact .inl ⟨⟨_, sq, by simp⟩, q _ g hDe⟩
end
end L2
namespace K11
open PySem L2 G2 WG EL
abbrev sIn : Stmt := top 16
abbrev nIn : List Str := ["_law_many", "_law_rows", "_law_found"]
theorem nmIn : Nm nIn (zc sIn) := nmk (by decide +kernel)
theorem scIn : FnScope nIn ["_law_many", "_law_rows", "_law_found"] (zc sIn) := fsk (by decide +kernel)
def qIna (s : Stmt) : Scope := match s with
 | .If (.BoolOp _ [(.Compare _ _ [(.ListComp _ _ sc _)] _), _] _) _ _ _ => sc
 | _ => nsc
abbrev cIna : Scope := qIna ((zj sIn).getD 1 (.Pass ⟨0, 0, 0, 0⟩))
theorem bsIna : BScope (zc sIn) cIna ["_law_one"] [] ["_law_whole"] := { okind := by decide +kernel, kind := by decide +kernel, nocell := by decide +kernel, names := by decide +kernel, fr := by decide +kernel, ff := by decide +kernel, nd := by decide +kernel, vis := by decide +kernel, loc := by decide +kernel, gl := by decide +kernel }
def qInb (s : Stmt) : Scope := match s with
 | .Return (some (.Compare (.ListComp _ _ sc _) _ _ _)) _ => sc
 | _ => nsc
abbrev cInb : Scope := qInb ((zj sIn).getD 2 (.Pass ⟨0, 0, 0, 0⟩))
theorem bsInb : BScope (zc sIn) cInb ["_law_by", "_law_plus"] ["_law_found"] ["_law_dot"] := { okind := by decide +kernel, kind := by decide +kernel, nocell := by decide +kernel, names := by decide +kernel, fr := by decide +kernel, ff := by decide +kernel, nd := by decide +kernel, vis := by decide +kernel, loc := by decide +kernel, gl := by decide +kernel }
theorem kit_tt (K : W.Frag) : PySem.W.kitOne K (.type "tuple") (.type "tuple") = some true := by rfl
def rIsT : List V → Hp → VK → Prop := fun xs H Q => ∃ p ys, xs = [.ref p, .ty "tuple"] ∧ H p = some (.tup ys) ∧ Q (.bl true) H
theorem vn {X : Cx} : zT X (.builtin "isinstance") rIsT := fun pins s σ H xs us Q I r h => ZA pins s σ H xs us Q I r (by
 obtain ⟨p, ys, e, hp, q⟩ := h
 exact ⟨_, "tuple", _, true, e, .tup hp, kit_tt _, q⟩)
theorem PrAt.same {H H' : Hp} {n : Nat} {rows : List (List Int × Int)} {l : Addr} (h : PrAt H n rows l) (k : Same H H') : PrAt H' n rows l := let ⟨ras, bas, g⟩ := h; ⟨ras, bas, g.same fun a u e _ => k a u e⟩
def spIn : Sp := fun vs H Q _ => ∃ (l q p : Addr) (n : Nat) (rows : List (List Int × Int)) (x : List Int) (d : Int), vs = [.int (n : Int), .ref l, .ref q] ∧ PrAt H n rows l ∧ n ≤ 40 ∧ rows.length ≤ 60 ∧ H q = some (.tup [.str "numbers", .ref p, .int d]) ∧ H p = some (.tup (x.map V.int)) ∧ x.length = n ∧ 1 ≤ d ∧ MetR rows x d ∧ (∀ r ∈ rows, (∀ y ∈ r.1, Bb y) ∧ Bb r.2) ∧ (∀ y ∈ x, Bb y) ∧ Bb d ∧ ∀ H', Same H H' → Q (.bl true) H'
section
variable {P : Program} {w : World} {K : W.Frag} {mg : Str → Option Value} {base : Heap}
theorem ok_In {f : Addr} {fd : FuncData} (B : Bl mg) (fW : Has P w K mg base 1 "_law_whole" ["_law_thing"] spWl) (fT : Has P w K mg base 1 "_law_dot" ["_law_by", "_law_tops"] spDt) (F : Fun K "_law_is_numbers" "_law_is_numbers" sIn f fd) : FnOk P w K mg base CX0 2 f fd ["_law_many", "_law_rows", "_law_found"] spIn := by
 refine F.ok scIn (fun vs H Q E h => ?_) (fun cdv A outer s H vs Q E hr h => ?_)
 ·obtain ⟨l, q, p, n, rows, x, d, rfl, _⟩ := h
  rfl
 obtain ⟨l, q, p, n, rows, x, d, rfl, hP, hn, hm, eq, ep, hx, hd, hM, bR, bX, bD, k⟩ := h
 refine' ⟨_, ?hb, ?rd⟩
 case' hb => skip
 case' hb => refine' ze ?g1 ?g2
 case' g2 => refine' ze ?g3 ?g4
 case' g4 => refine' zi ?g5
 case' g1 => refine' zQ ?g6 ?g7 zE
 case g6 => exact PW.pt (yV (zm yX (zM zt B.len PySem.boot_len (pa_1 (pvd nmIn 2))) zd (zo _)) (yV (wW (yQ (zM vn B.isi PyProof.Rows.boot_isinstance (pa_2 (ziq (pvd nmIn 2) zd) (xN (v := .ty "tuple") rfl B.tuple PyProof.Rows.boot_tuple rfl))))) (xk (zm yX (zM zt B.len PySem.boot_len (pa_1 (ziq (pvd nmIn 2) zd))) (pvd nmIn 0) (zo _)))))
 case' g7 => refine' zi ?g9
 case g9 => exact zr yW
 case' g3 => refine' zQ ?g10 ?g11 zE
 case' g10 => refine' PW.pt ?g13
 case' g13 => refine' yV ?g14 (xk (zm xq (ziq (pvd nmIn 2) zd) zd (zo _)))
 case' g14 => refine' zm wa yW ?g15 (by with_unfolding_all rfl)
 case' g15 => refine' zI (ix := []) bsIna.toCScope rfl rfl ?g16 ?g17 ?g18 ?g19
 case g16 => exact x8 (zk Z8 (ziq (pvd nmIn 2) zd) (xK sl_tupG (pvd nmIn 2) (xJ zd) wJ))
 case g17 => exact fun _ _ _ _ _ _ => pgb bsIna 0
 case g18 => exact fun _ _ _ _ _ _ => zy
 case g19 => exact fun _ _ _ _ _ _ => pe_f fW hr (by decide) (pa_1 (pvb bsIna 0)) (bsIna.g 0)
 case' g11 => refine' zi ?g20
 case g20 => exact zr yW
 case' g5 => refine' zr ?g21
 case' g21 => refine' yF (op_eqE hr) ?g22 (yp yz) (zo _)
 case' g22 => refine' zI (ix := [2]) bsInb.toCScope rfl rfl ?g23 ?g24 ?g25 ?g26
 case g23 => exact zP (pvd nmIn 1)
 case g24 =>
  intro _ _ _ _ _ _
  refine' zX (n := 2) rfl ?g27
  case' g27 => refine' zn ?g31 ?g30
  case g31 => exact pgb bsInb 0
  case' g30 => refine' zn ?g33 zO
  case g33 => exact pgb bsInb 1
 case g25 => exact fun _ _ _ _ _ _ => xI (zm xq (zk zS (pe_f fT hr (by decide) (pa_2 (pvb bsInb 0) (ziq (pvb bsInb 2) zd)) (bsInb.g 0)) (zk zG (pvb bsInb 1) (ziq (pvb bsInb 2) zd))) zd (zo _))
 case g26 => exact fun _ _ _ _ _ _ => pvb bsInb 1
 walk_at "v"
 refine ⟨q, _, rfl, .inr (SqT.of eq), ?_⟩
 walk_at "v"
 refine ⟨rfl, _, rfl, ?_⟩
 refine zH (fun h => by simp at h) (fun _ => ?_)
 walk_at "v"
 refine yb eq rfl ?_
 walk_at "v"
 refine ⟨p, _, rfl, ep, _, rfl, ?_⟩
 refine zH (fun h => by simp at h) (fun _ => ?_)
 walk_at "v"
 refine yb eq rfl ?_
 walk_at "v"
 refine ⟨p, _, rfl, .inr (SqT.of ep), ?_⟩
 walk_at "v"
 refine ⟨rfl, _, rfl, ?_⟩
 refine zH (fun h => by rw [List.length_map, hx] at h; simp at h) (fun _ => ?_)
 walk_at "v"
 refine yb eq rfl ?_
 walk_at "v"
 refine ⟨_, rfl, ?_⟩
 walk_at "v"
 refine ⟨q, _, rfl, eq, fun q3 H3 k3 e3 => ?_⟩
 have e3' : H3 q3 = some (.tup [.int d]) := e3
 walk_at "v"
 refine ⟨p, q3, _, _, rfl, rfl, k3 _ _ ep, e3', by rw [List.length_map, hx]; show n + 1 ≤ 1000; omega, fun q4 H4 k4 e4 => ?_⟩
 have e4' : H4 q4 = some (.tup ((x ++ [d]).map V.int)) := by rw [e4, List.map_append]; rfl
 walk_at "v"
 refine ⟨q4, rfl, ⟨_, SqT.of e4'⟩, fun D5 hD5 => ?_⟩
 refine Y8 (ws := x ++ [d]) V.int (fun _ => V.bl true) (SqT.of e4') (by rw [List.length_append, hx]; show n + 1 ≤ 1000; omega) hD5 (fun y hy H' K' R' kR => ?_) (fun H5 K5 e5 => ?_)
 ·walk_at "v"
  refine ⟨y, rfl, ?_⟩
  exact kR _ (Same.refl _)
 walk_at "v"
 have hf : ∀ ws : List Int, (ws.map fun _ => V.bl true).all xx = true ∧ inV (.bl false) (ws.map fun _ => V.bl true) = false := fun ws => by
  induction ws with
  | nil => exact ⟨rfl, rfl⟩
  | cons w ws ih =>
   refine ⟨by rw [List.map_cons, List.all_cons, ih.1]; rfl, ?_⟩
   have := ih.2
   unfold inV at this ⊢
   rw [List.map_cons, List.any_cons, this]
   rfl
 refine ⟨D5, _, rfl, .inl (SqL.of e5), rfl, (hf _).1, ?_⟩
 rw [(hf _).2]
 refine ⟨_, rfl, ?_⟩
 refine zH (fun h => by cases h) (fun _ => ?_)
 have K5' := (k3.trans k4).trans K5
 walk_at "v"
 refine yb (K5' _ _ eq) rfl ?_
 walk_at "v"
 refine iteD (fun h => absurd h (by omega)) (fun _ => ?_)
 walk_at "v"
 obtain ⟨ras, bas, hA⟩ := hP.same K5'
 refine ⟨l, rfl, ⟨_, SqL.of hA.ob⟩, fun D6 hD6 => ?_⟩
 refine cg_none2 hA.ob hD6 (fun i r H' er K' => ?_) (fun H6 K6 e6 => ?_)
 ·have hi : i < rows.length := by rw [← hA.rl]; exact (List.getElem?_eq_some_iff.mp er).1
  obtain ⟨a, b, f1, f2, f3, f4⟩ := hA.at_ i (rows[i]).1 (rows[i]).2 (List.getElem?_eq_getElem hi)
  rw [er] at f1
  cases f1
  have hr := List.getElem_mem hi
  have hmet := hM _ hr
  have hbr := bR _ hr
  have hwd := hA.wd _ hr
  generalize rows[i] = row at f3 f4 hmet hbr hwd
  refine ⟨_, _, K' _ _ f3, fun QB kB => ?_⟩
  walk_at "v"
  refine yb (K' _ _ (K5' _ _ eq)) rfl ?_
  walk_at "v"
  refine ⟨b, p, row.1, x, rfl, .inl (K' _ _ f4), .inl (K' _ _ (K5' _ _ ep)), by omega, by omega, hbr.1, bX, fun H7 K7 => ?_⟩
  walk_at "v"
  refine yb (K7 _ _ (K' _ _ (K5' _ _ eq))) rfl ?_
  refine ⟨_, _, rfl, rfl, mulBb hbr.2 bD, ?_⟩
  walk_at "v"
  have hz : decide (dotL row.1 x + row.2 * d < 0) = false := decide_eq_false (by omega)
  rw [hz]
  exact kB _ K7
 walk_at "v"
 refine ⟨Nat.zero_le _, fun z hz => ?_⟩
 refine ⟨D6, z, [], rfl, rfl, by rw [zh (zg e6 hz)]; exact e6, zf, ?_⟩
 exact k _ ((K5'.trans K6).trans (Same.new (Same.refl _) hz))
end
end K11
set_option maxHeartbeats 4000000
namespace SB
open PySem PySem.SetTable PyProof.Rows
theorem ZO {xs : Array Nat} {j : Nat} : ∀ (f lo hi : Nat), lo ≤ hi → hi ≤ xs.size → hi - lo ≤ f → xs.toList.Pairwise (· < ·) → (∀ i, i < lo → xs.getD i j < j) → (∀ i, hi ≤ i → i < xs.size → ¬ xs.getD i j < j) →
  below.go xs j f lo hi ≤ xs.size ∧ (∀ i, i < below.go xs j f lo hi → xs.getD i j < j) ∧ ∀ i, below.go xs j f lo hi ≤ i → i < xs.size → ¬ xs.getD i j < j
 | 0, lo, hi, h1, h2, h3, _, a, b => by
  have e : lo = hi := by omega
  subst e
  exact ⟨h2, a, b⟩
 | f + 1, lo, hi, h1, h2, h3, r, a, b => by
  unfold below.go
  by_cases hl : lo < hi
  ·rw [if_pos hl]
   have mono : ∀ i k, i < k → k < xs.size → xs.getD i j < xs.getD k j := fun i k hik hk => by
    have hi' : i < xs.size := by omega
    have := (List.pairwise_iff_getElem.mp r) i k (by simpa using hi') (by simpa using hk) hik
    simpa [Array.getD_eq_getD_getElem?, hi', hk] using this
   dsimp only
   by_cases hm : xs.getD ((lo + hi) / 2) j < j
   ·rw [if_pos hm]
    refine ZO f _ _ (by omega) h2 (by omega) r (fun i hi' => ?_) b
    rcases Nat.lt_or_ge i ((lo + hi) / 2) with z | z
    ·exact Nat.lt_trans (mono i _ z (by omega)) hm
    ·have e : i = (lo + hi) / 2 := by omega
     rw [e]; exact hm
   ·rw [if_neg hm]
    refine ZO f _ _ (by omega) (by omega) (by omega) r a fun i hi' hs => ?_
    rcases Nat.lt_or_ge ((lo + hi) / 2) i with z | z
    ·have := mono _ i z hs
     omega
    ·have e : i = (lo + hi) / 2 := by omega
     rw [e]; exact hm
  ·rw [if_neg hl]
   have e : lo = hi := by omega
   subst e
   exact ⟨h2, a, b⟩
theorem bel {xs : Array Nat} {j : Nat} (r : xs.toList.Pairwise (· < ·)) : below xs j ≤ xs.size ∧ (∀ i, i < below xs j → xs.getD i j < j) ∧ ∀ i, below xs j ≤ i → i < xs.size → ¬ xs.getD i j < j :=
 ZO xs.size 0 xs.size (Nat.zero_le _) (Nat.le_refl _) (Nat.le_refl _) r (fun i h => absurd h (Nat.not_lt_zero _)) fun i h1 h2 => by omega
theorem ins_rise {xs : Array Nat} {j : Nat} (r : xs.toList.Pairwise (· < ·)) (hn : ¬ (xs[below xs j]? == some j) = true) : (insertAt xs (below xs j) j).toList.Pairwise (· < ·) := by
 rw [toList_insertAt]
 obtain ⟨b1, b2, b3⟩ := bel (j := j) r
 generalize below xs j = p at b1 b2 b3 hn
 have hlo : ∀ x ∈ xs.toList.take p, x < j := fun x hx => by
  obtain ⟨i, hi, rfl⟩ := List.getElem_of_mem hx
  have hip : i < p := by rw [List.length_take] at hi; omega
  have his : i < xs.size := by omega
  have := b2 i hip
  simpa [Array.getD_eq_getD_getElem?, his] using this
 have hhi : ∀ x ∈ xs.toList.drop p, j < x := fun x hx => by
  obtain ⟨i, hi, rfl⟩ := List.getElem_of_mem hx
  rw [List.length_drop, Array.length_toList] at hi
  have h0 : p < xs.size := by omega
  have c0 : j ≤ xs[p] := by
   have := b3 p (Nat.le_refl _) h0
   simp [Array.getD_eq_getD_getElem?, h0] at this
   exact this
  have c1 : xs[p] ≠ j := fun e => hn (by simp [h0, e])
  rw [List.getElem_drop]
  rcases Nat.eq_zero_or_pos i with rfl | hp
  ·simp only [Nat.add_zero, Array.getElem_toList]; omega
  ·have := (List.pairwise_iff_getElem.mp r) p (p + i) (by simpa using h0) (by simp; omega) (by omega)
   simp only [Array.getElem_toList] at this ⊢
   omega
 refine List.pairwise_append.mpr ⟨r.sublist (List.take_sublist _ _), List.pairwise_cons.mpr ⟨hhi, r.sublist (List.drop_sublist _ _)⟩, fun a ha b hb => ?_⟩
 rcases List.mem_cons.mp hb with rfl | hb
 ·exact hlo a ha
 ·exact Nat.lt_trans (hlo a ha) (hhi b hb)
structure Tb (L : Bool) (t : SetTable) : Prop where
 du : t.dummies = #[]
 led : t.led = L
 rise : t.plain = true → t.place.toList.Pairwise (· < ·)
theorem YT (j : Nat) : has #[] j = false := by
 unfold SetTable.has
 simp
theorem Tb.empty {L : Bool} {t : SetTable} (b : Tb L t) {h : Int} : ∀ (f : Nat) (p : Probe) {j : Nat} {d : Option Nat}, probe.go t (fun _ => h + 1) h f p = some (.empty j d) → t.slot j = .empty ∧ d = p.dummy
 | 0, p, j, d, e => by simp [probe.go] at e
 | f + 1, p, j, d, e => by
  unfold probe.go at e
  cases hs : t.slot p.j with
  | empty => rw [hs] at e; simp only [Option.some.injEq, Met.empty.injEq] at e; rw [← e.1, ← e.2]; exact ⟨hs, rfl⟩
  | dummy =>
   exfalso
   unfold SetTable.slot at hs
   rw [b.du, YT] at hs
   dsimp only at hs
   split at hs
   ·cases hs
   ·simp at hs
  | live i =>
   rw [hs] at e
   have hne : ((h + 1 == h)) = false := by simp; omega
   simp only [hne, Bool.false_eq_true, if_false] at e
   have := b.empty f _ e
   refine ⟨this.1, this.2.trans ?_⟩
   unfold SetTable.advance
   split
   ·rfl
   ·rfl
theorem Tb.stand {L : Bool} {t : SetTable} (b : Tb L t) (n : Nat) : Tb L (t.standIn n) := ⟨rfl, b.led, fun h => by cases h⟩
theorem Tb.lay {L : Bool} {t : SetTable} (b : Tb L t) (es : Array (Int × Value)) (h : Int) (x : Value) : Tb L (layNew t es h x).2.1 := by
 unfold layNew
 cases hf : t.freeSlot h with
 | none => exact b.stand _
 | some q =>
  obtain ⟨j, wd⟩ := q
  have hsl : t.slot j = .empty := by
   unfold freeSlot at hf
   unfold probe at hf
   split at hf
   ·rename_i j' d e
    obtain ⟨c1, c2⟩ := b.empty _ _ e
    have c3 : d = none := c2
    subst c3
    simp at hf
    rw [← hf.1]; exact c1
   ·cases hf
  dsimp only
  have hput : Tb L (t.put j).1 := by
   unfold SetTable.put
   refine ⟨?_, b.led, fun hp => ?_⟩
   ·rw [b.du, YT]; rfl
   ·refine ins_rise (b.rise hp) fun e => ?_
    unfold SetTable.slot at hsl
    dsimp only at hsl
    rw [if_pos e] at hsl
    cases hsl
  unfold orStandIn
  split
  ·exact hput
  ·exact hput.stand _
theorem Tb.plainOff {L : Bool} {t : SetTable} (b : Tb L t) : Tb L { t with plain := false } := ⟨b.du, b.led, fun h => by cases h⟩
theorem vt (f : Nat → Option Nat) : ∀ (n k : Nat), (((List.range' k n).filterMap fun j => (f j).map (j, ·)).map (·.1)).Pairwise (· < ·) ∧ ∀ x ∈ ((List.range' k n).filterMap fun j => (f j).map (j, ·)).map (·.1), k ≤ x
 | 0, k => by simp
 | n + 1, k => by
  obtain ⟨a, b⟩ := vt f n (k + 1)
  rw [List.range'_succ, List.filterMap_cons]
  cases f k with
  | none =>
   simp only [Option.map_none]
   exact ⟨a, fun x hx => by have := b x hx; omega⟩
  | some v =>
   simp only [Option.map_some, List.map_cons]
   refine ⟨List.pairwise_cons.mpr ⟨fun x hx => by have := b x hx; omega, a⟩, fun x hx => ?_⟩
   rcases List.mem_cons.mp hx with rfl | hx
   ·exact Nat.le_refl _
   ·have := b x hx; omega
theorem Tb.relay {L : Bool} {t : SetTable} (b : Tb L t) (es : Array (Int × Value)) (n : Nat) : Tb L (relayAll t es n).2.1 := by
 unfold relayAll
 cases hr : t.relaid (es.map (·.1)) n with
 | none => exact b.stand _
 | some q =>
  obtain ⟨t', o⟩ := q
  have ht : Tb L t' := by
   unfold relaid laid at hr
   cases hc : layClean (sizeAbove n - 1) (es.map (·.1)) with
   | none => rw [hc] at hr; cases hr
   | some ow =>
    rw [hc] at hr
    simp only [Option.bind_eq_bind, Option.bind_some, Option.pure_def, Option.some.injEq, Prod.mk.injEq] at hr
    rw [← hr.1]
    refine ⟨rfl, b.led, fun _ => ?_⟩
    have := (vt (fun j => ow.getD j none) (sizeAbove n - 1 + 1) 0).1
    rw [← List.range_eq_range'] at this
    simpa using this
  dsimp only
  split
  ·exact ht
  ·exact b.stand _
theorem bel_next {xs : Array Nat} (r : xs.toList.Pairwise (· < ·)) {i : Nat} (hi : i < xs.size) : below xs (xs.getD i 0 + 1) = i + 1 := by
 obtain ⟨b1, b2, b3⟩ := bel (j := xs.getD i 0 + 1) r
 have mono : ∀ a c, a < c → (hc : c < xs.size) → xs.getD a 0 < xs.getD c 0 := fun a c hac hc => by
  have ha : a < xs.size := by omega
  have := (List.pairwise_iff_getElem.mp r) a c (by simpa using ha) (by simpa using hc) hac
  simpa [Array.getD_eq_getD_getElem?, ha, hc] using this
 have gd : ∀ a d, a < xs.size → xs.getD a d = xs.getD a 0 := fun a d ha => by simp [Array.getD_eq_getD_getElem?, ha]
 have h1 : ¬ below xs (xs.getD i 0 + 1) ≤ i := fun z => by
  have := b3 i z hi
  rw [gd i _ hi] at this
  omega
 have h2 : ¬ i + 1 < below xs (xs.getD i 0 + 1) := fun z => by
  have hc : i + 1 < xs.size := by omega
  have := b2 (i + 1) z
  rw [gd _ _ hc] at this
  have := mono i (i + 1) (by omega) hc
  omega
 omega
theorem bel_zero {xs : Array Nat} (r : xs.toList.Pairwise (· < ·)) : below xs 0 = 0 := by
 obtain ⟨b1, b2, b3⟩ := bel (j := 0) r
 rcases Nat.eq_zero_or_pos (below xs 0) with e | e
 ·exact e
 ·have := b2 0 e; omega
end SB
set_option maxHeartbeats 4000000
namespace SB
open PySem PySem.SetTable PyProof.Rows
section
variable {prog : Program} {w : World} {A : Around} {E : Value → Shared → Prop} {s : Shared} {L : Bool} {a : Addr} {ks : List Int}
def ivE (e : Int × Value) : Int := match e.2 with | .int k _ => k | _ => 0
theorem Y1 {k : Int} {v : Value} (h : (intKind prog w).is k v = true) : ∃ t, v = .int k t := by
 cases v <;> simp_all [intKind, Value.isInt]
structure StO (prog : Program) (w : World) (L : Bool) (o : Obj) (es : Array (Int × Value)) (ep : Nat) (t : SetTable) (ks : List Int) : Prop where
 ex : o.ExactSet
 da : o.data = .set es ep t
 el : ElemsOf (intKind prog w) es.toList
 pm : (es.toList.map ivE).Perm ks
 lt : es.size < scanBound
 fit : t.fits es.size = true
 tb : Tb L t
def SetL (prog : Program) (w : World) (L : Bool) (a : Addr) (ks : List Int) (h : Heap) : Prop := ∃ o es ep t, h.get? a = some o ∧ StO prog w L o es ep t ks
theorem StO.sz {o : Obj} {es : Array (Int × Value)} {ep : Nat} {t : SetTable} (S : StO prog w L o es ep t ks) : es.size = ks.length := by
 have := S.pm.length_eq
 simpa using this
theorem XB {es : List (Int × Value)} (el : ElemsOf (intKind prog w) es) {e : Int × Value} (he : e ∈ es) : ∃ t, e = ((intKind prog w).hash (ivE e), .int (ivE e) t) := by
 obtain ⟨⟨k, h1, h2⟩, _⟩ := el e he
 obtain ⟨x, v⟩ := e
 obtain ⟨t, rfl⟩ := Y1 h1
 exact ⟨t, by simpa [ivE] using h2⟩
theorem StO.has {o : Obj} {es : Array (Int × Value)} {ep : Nat} {t : SetTable} (S : StO prog w L o es ep t ks) (k : Int) : (∃ e ∈ es.toList, (intKind prog w).is k e.2 = true) ↔ k ∈ ks := by
 rw [← S.pm.mem_iff, List.mem_map]
 constructor
 ·rintro ⟨e, he, hk⟩
  obtain ⟨t, ht⟩ := Y1 hk
  exact ⟨e, he, by unfold ivE; rw [ht]⟩
 ·rintro ⟨e, he, rfl⟩
  obtain ⟨t, ht⟩ := XB S.el he
  exact ⟨e, he, by rw [ht]; exact intKind_is _ _ _ _⟩
theorem YA {h : Heap} {o : Obj} {es : Array (Int × Value)} {ep : Nat} {t : SetTable} (ho : h.get? a = some o) (S : StO prog w L o es ep t ks) {es' : Array (Int × Value)} {t' : SetTable} {ks' : List Int}
  (el : ElemsOf (intKind prog w) es'.toList) (pm : (es'.toList.map ivE).Perm ks') (lt : es'.size < scanBound) (fit : t'.fits es'.size = true) (tb : Tb L t') :
  (h.update a (Obj.putSet es' t')).get? a = some { o with data := .set es' (ep + 1) t' } ∧ StO prog w L { o with data := .set es' (ep + 1) t' } es' (ep + 1) t' ks' := by
 have g := Heap.get?_update_self (Obj.putSet es' t') ho (by rw [putSet_of es' t' S.da]; rfl)
 rw [putSet_of es' t' S.da] at g
 exact ⟨g, S.ex, rfl, el, pm, lt, fit, tb⟩
def addK (ks : List Int) (k : Int) : List Int := if k ∈ ks then ks else ks ++ [k]
theorem ZC {g : Bool → Sem Unit} (hg : ∀ (b : Bool) (s1 : Shared) (Q' : Unit → Shared → Prop), Q' () s1 → wpAny (model prog w) A (g b) Q' E s1)
  {o : Obj} {es : Array (Int × Value)} {ep : Nat} {t : SetTable} (ho : s.heap.get? a = some o) (S : StO prog w L o es ep t ks) {e1 : Array (Int × Value)} {t2 : SetTable} {ks' : List Int}
  (el : ElemsOf (intKind prog w) e1.toList) (pm : (e1.toList.map ivE).Perm ks') (lt : e1.size < scanBound) (fit : t2.fits e1.size = true) (tb : Tb L t2) {wd : Bool} {R : Option Bool → Shared → Prop}
  (h : ∀ h', Heap.SameBut a s.heap h' → SetL prog w L a ks' h' → R (some true) { s with heap := h' }) :
  wpAny (model prog w) A (do
    storeSet a e1 t2
    if (!wd && t2.tooFull) = true then do
      g (relayAll t2 e1 (SetTable.grown e1.size)).2.2
      storeSet a (relayAll t2 e1 (SetTable.grown e1.size)).1 (relayAll t2 e1 (SetTable.grown e1.size)).2.1
      pure (some true)
     else pure (some true)) R E s := by
 refine wpAny_bind (wpAny_storeSet_of ho S.da ?_ (fits_of_scanBound lt))
 obtain ⟨o1, S1⟩ := YA ho S el pm lt fit tb
 have b1 := Heap.SameBut.update s.heap a (Obj.putSet e1 t2)
 split
 ·have hp := relayAll_perm t2 e1 (SetTable.grown e1.size)
  have hf := relayAll_fits t2 e1 (SetTable.grown e1.size)
  have ht := tb.relay e1 (SetTable.grown e1.size)
  generalize relayAll t2 e1 (SetTable.grown e1.size) = Z at hp hf ht ⊢
  obtain ⟨e2, t3, g3⟩ := Z
  dsimp only at hp hf ht ⊢
  have z : e2.size = e1.size := by rw [← Array.length_toList, hp.length_eq, Array.length_toList]
  have lt2 : e2.size < scanBound := by rw [z]; exact lt
  refine wpAny_bind (hg _ _ _ ?_)
  refine wpAny_bind (wpAny_storeSet_of o1 rfl ?_ (fits_of_scanBound lt2))
  obtain ⟨o2, S2⟩ := YA o1 S1 (el.perm hp) ((hp.map ivE).trans pm) lt2 hf ht
  exact wpAny_pure (h _ (b1.trans (Heap.SameBut.update _ a _)) ⟨_, _, _, _, o2, S2⟩)
 ·exact wpAny_pure (h _ b1 ⟨_, _, _, _, o1, S1⟩)
theorem add_T {k : Int} {tk : Tok} {Q : Bool → Shared → Prop} (hS : SetL prog w L a ks s.heap) (hroom : ks.length + 1 < scanBound)
  (h : ∀ (b : Bool) h', Heap.SameBut a s.heap h' → SetL prog w L a (addK ks k) h' → Q b { s with heap := h' }) :
  wpAny (model prog w) A (setAddHashed a (.int k tk) ((intKind prog w).hash k)) Q E s := by
 obtain ⟨o, es, ep, t, ho, S⟩ := hS
 have hkey := intKind_is prog w k tk
 have b1 : es.size + 1 < scanBound := by rw [S.sz]; exact hroom
 unfold setAddHashed setAddHashedIn
 refine wpAny_holding (wpAny_bind (wpAny_setState_of ho S.da S.fit ?_))
 dsimp only
 rw [byScan_of rfl S.lt S.el]
 simp only [if_true]
 unfold setAddByScan
 refine wpAny_bind (wpAny_bind (wpAny_rule ?_))
 refine wpAny_bind (wpAny_setScan_of hkey ho S.da S.fit S.el ?_)
 cases hr : es.toList.findIdx? (fun e => (intKind prog w).is k e.2) with
 | some j =>
  dsimp only
  obtain ⟨hj, hp, _⟩ := List.findIdx?_eq_some_iff_getElem.mp hr
  have hm : k ∈ ks := (S.has k).mp ⟨_, List.getElem_mem hj, hp⟩
  refine wpAny_pure (wpAny_pure ?_)
  have := h false s.heap (Heap.SameBut.refl a s.heap) ⟨o, es, ep, t, ho, by unfold addK; rw [if_pos hm]; exact S⟩
  exact this
 | none =>
  dsimp only
  have hm : k ∉ ks := fun z => by
   obtain ⟨e, he, hp⟩ := (S.has k).mpr z
   have := List.findIdx?_eq_none_iff.mp hr e he
   rw [hp] at this
   cases this
  have gw : ∀ (b : Bool) {s1 : Shared} {Q' : Unit → Shared → Prop}, Q' () s1 → wpAny (model prog w) A (match b with | true => rule "set.scan.the-table-gave-way" | false => pure ()) Q' E s1 := fun b s1 Q' hq => by
   cases b
   ·exact wpAny_pure hq
   ·exact wpAny_rule hq
  have hp := layNew_perm t es ((intKind prog w).hash k) (.int k tk)
  have hf := layNew_fits t es ((intKind prog w).hash k) (.int k tk)
  have ht := S.tb.lay es ((intKind prog w).hash k) (.int k tk)
  generalize layNew t es ((intKind prog w).hash k) (.int k tk) = Z at hp hf ht ⊢
  obtain ⟨e1, t1, wd, gave⟩ := Z
  dsimp only at hp hf ht ⊢
  rw [Array.toList_push] at hp
  have el1 : ElemsOf (intKind prog w) e1.toList := (S.el.push hkey rfl).perm hp
  have pm1 : (e1.toList.map ivE).Perm (addK ks k) := by
   unfold addK
   rw [if_neg hm]
   refine (hp.map ivE).trans ?_
   rw [List.map_append]
   exact List.Perm.append S.pm (List.Perm.refl _)
  have z1 : e1.size = es.size + 1 := by rw [← Array.length_toList, hp.length_eq, List.length_append, Array.length_toList]; rfl
  have lt1 : e1.size < scanBound := by rw [z1]; exact b1
  refine wpAny_bind (gw _ ?_)
  have fin : ∀ h', Heap.SameBut a s.heap h' → SetL prog w L a (addK ks k) h' → Q true { s with heap := h' } := fun h' hb hs => h true h' hb hs
  split
  ·refine wpAny_bind ?_
   rw [hashByValue_scannable 8 rfl]
   refine wpAny_pure ?_
   refine ZC (fun b s1 Q' hq => gw b hq) ho S el1 pm1 lt1 ?_ ?_ fun h' hb hs => wpAny_pure (fin h' hb hs)
   ·split
    ·exact hf
    ·exact SetTable.fits_plain_off hf
   ·split
    ·exact ht
    ·exact ht.plainOff
  ·refine wpAny_bind (wpAny_pure ?_)
   simp only [if_true]
   exact ZC (fun b s1 Q' hq => gw b hq) ho S el1 pm1 lt1 hf ht fun h' hb hs => wpAny_pure (fin h' hb hs)
end
end SB
set_option maxHeartbeats 4000000
namespace SB
open PySem PySem.SetTable PyProof.Rows
def LL (w : World) : Bool := !(w.params.followText "set-order")
def ddV (val : Nat → Int) (i : Nat) : List Int := ((List.range i).map val).foldl addK []
theorem Zy (val : Nat → Int) (i : Nat) : ddV val (i + 1) = addK (ddV val i) (val i) := by
 unfold ddV
 rw [List.range_succ, List.map_append, List.foldl_append]
 rfl
theorem addK_len (ks : List Int) (k : Int) : (addK ks k).length ≤ ks.length + 1 := by
 unfold addK
 split <;> simp
theorem Ys (val : Nat → Int) : ∀ i, (ddV val i).length ≤ i
 | 0 => Nat.le_refl _
 | i + 1 => by
  rw [Zy]
  exact Nat.le_trans (addK_len _ _) (Nat.succ_le_succ (Ys val i))
section
variable {prog : Program} {w : World} {A : Around} {R : Result → Shared → Prop} {I : Addr} {fp wr : List Addr} {G : Array GenState → Array GenState → Prop} {n : Nat} {P : Nat → Value → Prop} {St : Nat → Shared → Prop} {L : Bool}
theorem SetL.mv {a : Addr} {ks : List Int} {h h' : Heap} (x : SetL prog w L a ks h) (k : ∀ o, h.get? a = some o → h'.get? a = some o) : SetL prog w L a ks h' := by
 obtain ⟨o, es, ep, t, ho, S⟩ := x
 exact ⟨o, es, ep, t, k o ho, S⟩
theorem Zc (W : WalksS prog w A.in1 I fp wr G n P St) (S : Addr) (nf : S ∉ fp) (val : Nat → Int) (hval : ∀ i v, P i v → ∃ t, v = .int (val i) t) (hb : n + 1 < scanBound) :
  ∀ (k i : Nat) (s : Shared), n - i = k → i ≤ n → St i s → SetL prog w L S (ddV val i) s.heap →
   (∀ s', Moved (S :: wr) G s s' → SetL prog w L S (ddV val n) s'.heap → R (.ok (.ret .none)) s') →
   codeAny (model prog w) A (.builtin "set.update.loop" ⟨[.ref S, .ref I], []⟩) R s
 | 0, i, s, hk, hi, st, hS, hR => by
  have e : i = n := by omega
  subst e
  refine codeAny_builtin PyProof.Rows.F.entry_set_update_loop ?_
  rw [Around.under_plainId PyProof.Rows.F.plain_set_update_loop _]
  show wpAny _ A.in1 (pyNext (.ref I) >>= _) _ _ s
  refine wpAny_bind (W.done s _ _ st fun s' hm => ?_)
  show wpAny _ A.in1 (ret Value.none) _ _ s'
  exact wpAny_pure (hR s' (hm.mono fun b hb => List.mem_cons_of_mem _ hb) (hS.mv fun o e => hm.heap S _ (fun z => nf (W.sub _ z)) e))
 | k + 1, i, s, hk, hi, st, hS, hR => by
  have hw : S ∉ wr := fun z => nf (W.sub _ z)
  have hlt : i < n := by omega
  have hsub : ∀ b ∈ wr, b ∈ S :: wr := fun b hb => List.mem_cons_of_mem _ hb
  refine codeAny_builtin PyProof.Rows.F.entry_set_update_loop ?_
  rw [Around.under_plainId PyProof.Rows.F.plain_set_update_loop _]
  show wpAny _ A.in1 (pyNext (.ref I) >>= _) _ _ s
  refine wpAny_bind (W.item i s _ _ hlt st fun v s' hP st' hm => ?_)
  obtain ⟨t, rfl⟩ := hval i v hP
  have hS' := hS.mv (h' := s'.heap) fun o e => hm.heap S _ hw e
  show wpAny _ A.in1 (holding [Value.int (val i) t] (setAdd S (.int (val i) t)) >>= _) _ _ s'
  unfold setAdd
  refine wpAny_bind (wpAny_holding (wpAny_holding ?_))
  refine wpAny_bind ((intKind prog w).pyHash (k := val i) (intKind_is _ _ _ _) ?_)
  have room : (ddV val i).length + 1 < scanBound := by have := Ys val i; omega
  refine add_T (s := { s' with toks := s'.toks + 1 }) hS' room fun b h' hsb hS2 => ?_
  rw [← Zy] at hS2
  refine wpAny_pure ⟨plainId_quiet PyProof.Rows.F.plain_set_update_loop _, Zc W S nf val hval hb k (i + 1) _ (by omega) hlt (W.frame _ s' _ _ st' (Nat.le_succ _) fun b hb o e => ?_) hS2 fun s2 hm2 hS3 => ?_⟩
  ·rw [hsb.2 b fun z : b = S => nf (by rw [← z]; exact hb)]
   exact e
  ·refine hR s2 (Moved.trans W.gtrans ((hm.mono hsub).then_heap (Nat.le_succ _) fun b o hb e => ?_) hm2) hS3
   rw [hsb.2 b fun z : b = S => hb (by rw [z]; exact List.mem_cons_self)]
   exact e
end
section
variable {prog : Program} {w : World} {A : Around} {E : Value → Shared → Prop} {s : Shared}
abbrev newS (w : World) : Obj := { cls := .type "set", dict := none, data := .set #[] 0 (.fresh 0 0 (LL w)) }
theorem new_S : SetL prog w (LL w) s.heap.objs.size [] (s.heap.push (newS w)) :=
 ⟨newS w, #[], 0, .fresh 0 0 (LL w), Heap.get?_push_size _ rfl, ⟨rfl, rfl, rfl⟩, rfl, fun e he => by simp at he, List.Perm.refl _, by decide, rfl, rfl, rfl, fun _ => List.Pairwise.nil⟩
theorem code_new (a : Value) {Q : Value → Shared → Prop} (h : Q (.ref s.heap.objs.size) { s with heap := s.heap.push (newS w) }) :
  codeAny (model prog w) A (.call (.builtin "set.__new__") ⟨[.type "set", a], []⟩) (wants Q E) s := by
 refine codeAny_of_tree ?_
 show wpAny _ A.in1 (do checkBuiltinCall "set.__new__" ⟨[.type "set", a], []⟩; again (.builtin "set.__new__" ⟨[.type "set", a], []⟩)) _ _ s
 refine wpAny_bind (wpAny_of_eq (PySem.F.newCall_set_1 a) ?_)
 refine wpAny_pure ⟨plainId_quiet PySem.F.plain_set_new _, codeAny_builtin PySem.F.entry_set_new ?_⟩
 rw [Around.under_plainId PySem.F.plain_set_new _]
 unfold Builtin.«set.__new__» Builtin.Frozenset.newClass
 have hsub := PySem.sub_set_self
 obtain ⟨hp, g, d, tk, os⟩ := s
 dsimp only
 wp_walk
 refine wpAny_askSetting (wpAny_pure ?_)
 dsimp only
 simp only [newObj]
 exact wpAny_bind (wpAny_alloc (wpAny_pure (wpAny_pure h)))
end
end SB
set_option maxHeartbeats 4000000
namespace SB
open PySem PySem.SetTable PyProof.Rows
section
variable {prog : Program} {w : World} {A : Around} {E : Value → Shared → Prop} {s : Shared}
theorem call_setL {l : Addr} {its : Array Value} {ns : List Int} {Q : Value → Shared → Prop}
  (hh : A.handled = none) (hl : s.heap.IsList l its) (hi : IntsAre its.toList ns) (hb : its.size + 1 < scanBound)
  (h : ∀ (h' : Heap) (tk : Nat), SetL prog w (LL w) s.heap.objs.size (ddV (fun i => ns.getD i 0) its.size) h' →
   (∀ b o, b < s.heap.objs.size → s.heap.get? b = some o → h'.get? b = some o) → Q (.ref s.heap.objs.size) { s with heap := h', toks := tk }) :
  wpAny (model prog w) A (call (.type "set") [.ref l]) Q E s := by
 obtain ⟨c, tl, hmro⟩ := PySem.F.called_set.mro
 have hmade := PySem.F.called_set.made
 have hsub := PySem.F.called_set.sub
 refine wpAny_call (codeAny_of_tree ?_)
 show wpAny _ _ (callAny (.type "set") _) _ _ _
 refine wpAny_pure ⟨Code.quiet_builtin _ (by decide +kernel), codeAny_builtin PySem.F.entry_type_call ?_⟩
 rw [Around.under_plain (weight_type_call_type "set" [.ref l] []) rfl]
 have q1 := PySem.F.called_set.notType
 have q2 := PySem.F.called_set.canCreate
 have q3 := PySem.F.typeCall_set_1 (.ref l)
 repeat (any_goals (first | assumption | wp_step))
 refine codeAny_mono (code_new (.ref l) (E := E) (Q := fun obj s1 => obj = .ref s.heap.objs.size ∧ s1 = { s with heap := s.heap.push (newS w) }) ⟨rfl, rfl⟩) fun r s1 hr => ?_
 cases r with
 | error e => exact hr
 | ok fl =>
  cases fl with
  | ret obj =>
   obtain ⟨rfl, rfl⟩ := hr
   have hS : (s.heap.push (newS w)).get? s.heap.objs.size = some (newS w) := Heap.get?_push_size _ rfl
   have hT : Shared.TypeIs { s with heap := s.heap.push (newS w) } (.ref s.heap.objs.size) "set" := ⟨_, hS, rfl⟩
   have i1 := PySem.F.called_set.init.lookup
   have i2 := PySem.F.called_set.init.bind (.ref s.heap.objs.size)
   repeat (any_goals (first | assumption | wp_step))
   refine codeAny_mono (codeAny_call_builtin (R := wants (fun r s2 => r = .none ∧ ∃ h' tk, s2 = { s with heap := h', toks := tk } ∧ SetL prog w (LL w) s.heap.objs.size (ddV (fun i => ns.getD i 0) its.size) h' ∧
     (∀ b o, b < s.heap.objs.size → s.heap.get? b = some o → h'.get? b = some o)) E) PySem.F.called_set.init.plain PySem.F.entry_set_init (PySem.check_set_init_1 hT ?_)) fun r2 s2 hr2 => ?_
   ·obtain ⟨ol, hol, hcl, nl, hdl⟩ := hl
    obtain ⟨ocls, odict, odata, oslots⟩ := ol
    simp only at hcl hdl
    subst hcl; subst hdl
    have hol' : (s.heap.push (newS w)).get? l = some { cls := .type "list", dict := odict, data := .seq its nl, slots := oslots } := Heap.get?_push_of_some _ hol
    have j1 := PySem.F.sub_list_set
    have j2 := PySem.F.sub_list_frozenset
    have hne : (Value.type "list" == Value.type "dict") = false := by decide
    have hl1 : (s.heap.push (newS w)).IsList l its := ⟨_, hol', rfl, nl, rfl⟩
    unfold Builtin.«set.__init__» noKeywords Builtin.Frozenset.updateFrom
    generalize hPI : pyIter = PI
    wp_walk
    subst hPI
    refine wpAny_pyIter_list hl1 ?_
    refine wpAny_bind (wpAny_runValue ?_)
    have hlS : l < s.heap.objs.size := Heap.lt_size hol
    have hh3 : A.in1.in1.in1.handled = none := by simp [hh]
    have nI : l ≠ (s.heap.push (newS w)).objs.size := by
     rw [Heap.size_push]
     exact Nat.ne_of_lt (Nat.lt_succ_of_lt hlS)
    have nf : s.heap.objs.size ∉ [(s.heap.push (newS w)).objs.size, l] := by
     rw [Heap.size_push]
     simp only [List.mem_cons, List.mem_singleton, List.not_mem_nil, or_false, not_or]
     exact ⟨Nat.ne_of_lt (Nat.lt_succ_self _), Nat.ne_of_gt hlS⟩
    have hval : ∀ (i : Nat) (v : Value), its[i]? = some v → ∃ t, v = .int ((fun i => ns.getD i 0) i) t := fun i v hv => IntsAre.int_at hi i v (by rw [Array.getElem?_toList]; exact hv)
    refine Zc (L := LL w) ((Walks.list hh3 _ l nI its).toS) s.heap.objs.size nf (fun i => ns.getD i 0) hval hb (its.size - 0) 0 _ (by omega) (Nat.zero_le _) ⟨⟨_, Heap.get?_push_size _ rfl, rfl, rfl⟩, (hl1.push _)⟩ ?hS0 ?hR
    case hS0 => exact (new_S (prog := prog) (w := w) (s := s)).mv fun o e => Heap.get?_push_of_some _ e
    case hR =>
     intro s' hm hS'
     obtain ⟨h', g', d', tk', os'⟩ := s'
     have eg : g' = s.gens := hm.gens
     have ed : d' = s.drawn := hm.drawn
     have eo : os' = s.os := hm.os
     subst eg; subst ed; subst eo
     show wpAny _ _ _ _ _ _
     refine wpAny_pure ?_
     show wpAny _ _ (ret Value.none) _ _ _
     refine wpAny_pure ⟨rfl, h', tk', rfl, hS', fun b o hb e => ?_⟩
     have c1 : b ≠ s.heap.objs.size := Nat.ne_of_lt hb
     have c2 : b ≠ (s.heap.push (newS w)).objs.size := by
      rw [Heap.size_push]
      exact Nat.ne_of_lt (Nat.lt_succ_of_lt hb)
     refine hm.heap b o ?_ (Heap.get?_push_of_some _ (Heap.get?_push_of_some _ e))
     simp only [List.mem_cons, List.mem_singleton, List.not_mem_nil, or_false, not_or]
     exact ⟨c1, c2⟩
   ·cases r2 with
    | error e => exact hr2
    | ok f2 =>
     cases f2 with
     | ret r =>
      obtain ⟨rfl, h', tk, rfl, hS', hk'⟩ := hr2
      repeat (any_goals (first | assumption | wp_step))
      exact h _ _ hS' hk'
     | _ => exact hr2.elim
  | _ => exact hr.elim
end
end SB
set_option maxHeartbeats 4000000
namespace SB
open PySem PySem.SetTable PyProof.Rows
theorem sl_next : Slot "set_iterator" "__next__" "set_iterator.__next__" := .of (owner := "set_iterator") (n := "__next__") (by rw [typeLookup_type, builtinLookup_eq_fast]; kernel_rfl) (by decide +kernel) (by decide +kernel) (by decide +kernel) (by first | exact .inl (by decide +kernel) | exact .inr (by decide +kernel)) (by rw [isSubtype_type]; kernel_rfl)
theorem ZZ : Slot "set_iterator" "__iter__" "set_iterator.__iter__" := .of (owner := "set_iterator") (n := "__iter__") (by rw [typeLookup_type, builtinLookup_eq_fast]; kernel_rfl) (by decide +kernel) (by decide +kernel) (by decide +kernel) (by first | exact .inl (by decide +kernel) | exact .inr (by decide +kernel)) (by rw [isSubtype_type]; kernel_rfl)
theorem wP : entryFor table "set_iterator.__next__" = some Builtin.«set_iterator.__next__» := entryFor_of_tree (by kernel_rfl)
theorem en_iter : entryFor table "set_iterator.__iter__" = some Builtin.«dict_keyiterator.__iter__» := entryFor_alias (id' := "dict_keyiterator.__iter__") (by kernel_rfl) rfl (by decide +kernel) (by kernel_rfl)
theorem en_sit : entryFor table "set.__iter__" = some Builtin.«frozenset.__iter__» := entryFor_alias (id' := "frozenset.__iter__") (by kernel_rfl) rfl (by decide +kernel) (by kernel_rfl)
theorem wR (a : Value) : argsOk "set_iterator.__next__" ⟨[a], []⟩ := by unfold argsOk; kernel_rfl
theorem ar_iter (a : Value) : argsOk "set_iterator.__iter__" ⟨[a], []⟩ := by unfold argsOk; kernel_rfl
section
variable {prog : Program} {w : World} {A : Around} {E : Value → Shared → Prop} {s : Shared}
theorem wQ {Q : Bool → Shared → Prop} (h : Q (!LL w) s) : wpAny (model prog w) A setsByText Q E s := by
 unfold setsByText
 refine wpAny_bind (wpAny_askSetting (wpAny_pure ?_))
 unfold LL at h
 rw [Bool.not_not] at h
 exact h
theorem nx_txt {S : Addr} {o : Obj} {es : Array (Int × Value)} {ep : Nat} {t : SetTable} {slot i : Nat} {Q : Option (Value × Nat) → Shared → Prop} (hL : LL w = false) (ho : s.heap.get? S = some o) (hd : o.data = .set es ep t) (hf : t.fits es.size = true)
  (h : Q (((pickOrder (w.params.setOrder S ep) es)[i]?).map fun e => (e.2, slot)) s) : wpAny (model prog w) A (setNext S slot i ep) Q E s := by
 unfold setNext
 refine wpAny_bind (wpAny_setState_of ho hd hf ?_)
 dsimp only
 refine wpAny_bind (wQ ?_)
 rw [hL]
 simp only [Bool.not_false, if_true, bne_self_eq_false, Bool.false_eq_true, if_false]
 unfold setWalk
 refine wpAny_bind (wpAny_bind (wpAny_setState_of ho hd hf ?_))
 dsimp only
 refine wpAny_bind (wQ ?_)
 rw [hL]
 simp only [Bool.not_false, if_true]
 refine wpAny_bind (wpAny_askSetting (wpAny_pure ?_))
 exact wpAny_pure h
theorem nx_pl {S : Addr} {o : Obj} {es : Array (Int × Value)} {ep : Nat} {t : SetTable} {slot i : Nat} {Q : Option (Value × Nat) → Shared → Prop} (hL : LL w = true) (hle : t.led = true) (hdr : t.plain = true ∨ es.size ≤ 1) (ho : s.heap.get? S = some o) (hd : o.data = .set es ep t) (hf : t.fits es.size = true)
  (h : Q (match es[below t.place slot]?, t.place[below t.place slot]? with | some (_, x), some j => some (x, j + 1) | _, _ => none) s) : wpAny (model prog w) A (setNext S slot i ep) Q E s := by
 unfold setNext
 refine wpAny_bind (wpAny_setState_of ho hd hf ?_)
 dsimp only
 refine wpAny_bind (wQ ?_)
 rw [hL]
 simp only [Bool.not_true, Bool.false_eq_true, if_false]
 refine wpAny_ite_split (fun z => ?_) (fun _ => ?_)
 ·have z' : (!t.plain && decide (es.size > 1)) = true := z
  exfalso
  rcases hdr with e | e
  ·rw [e] at z'; cases z'
  ·rw [decide_eq_false (by omega)] at z'; simp at z'
 ·refine wpAny_bind ?_
  show wpAny _ _ (if (!t.led && !es.isEmpty) = true then _ else _) _ _ _
  rw [hle]
  simp only [Bool.not_true, Bool.false_and, Bool.false_eq_true, if_false]
  refine wpAny_pure (wpAny_pure h)
end
end SB
set_option maxHeartbeats 4000000
namespace SB
open PySem PySem.SetTable PyProof.Rows
section
variable {prog : Program} {w : World} {A : Around} {E : Value → Shared → Prop} {s : Shared}
theorem wp_choose {src : Source} {n : Nat} {Q : Nat → Shared → Prop} (hn : n ≠ 0) (h : ∀ i d, i < n → Q i { s with drawn := d }) : wpAny (model prog w) A (choose src n) Q E s :=
 fun Γ p hΓ => ⟨hn, h _ _ (Nat.mod_lt _ (Nat.pos_of_ne_zero hn))⟩
theorem v1 {α : Type} : ∀ (xs : List α) (i : Nat) (hi : i < xs.length), (xs[i] :: xs.eraseIdx i).Perm xs
 | x :: xs, 0, _ => by simp
 | x :: xs, i + 1, hi => by
  have hi' : i < xs.length := by simpa using hi
  have := v1 xs i hi'
  simp only [List.getElem_cons_succ, List.eraseIdx_cons_succ]
  exact (List.Perm.swap _ _ _).trans (this.cons x)
theorem vz {α : Type} : ∀ (n : Nat) (xs : List α) (s : Shared) (Q : List α → Shared → Prop), xs.length = n → (∀ ys d, ys.Perm xs → Q ys { s with drawn := d }) → wpAny (model prog w) A (drawOrder n xs) Q E s
 | 0, [], s, Q, _, h => by
  unfold drawOrder
  exact wpAny_pure (h [] s.drawn (List.Perm.refl _))
 | n + 1, [], s, Q, e, h => by simp at e
 | 0, x :: xs, s, Q, e, h => by simp at e
 | n + 1, x :: xs, s, Q, e, h => by
  unfold drawOrder
  refine wpAny_bind (wp_choose (by simp) fun i d hi => ?_)
  rw [List.getElem?_eq_getElem hi]
  dsimp only
  exact wpAny_bind (vz n _ _ _ (by rw [List.length_eraseIdx_of_lt hi]; omega) fun ys d2 h2 => wpAny_pure (h _ d2 ((h2.cons _).trans (v1 _ i hi))))
abbrev itO (f : Value) (i : Nat) (S : Addr) (n ep : Nat) : Obj := { cls := .type "set_iterator", dict := none, data := .fields #[f, .int i 0, .ref S, .int n 0, .int ep 0], slots := #[] }
def Nx (prog : Program) (w : World) (S : Addr) (o : Obj) (ep : Nat) (sl : Nat → Nat) (vs : List Value) : Prop :=
 ∀ (A : Around) (E : Value → Shared → Prop) (s : Shared) (i : Nat) (Q : Option (Value × Nat) → Shared → Prop), i ≤ vs.length → s.heap.get? S = some o → Q ((vs[i]?).map fun v => (v, sl (i + 1))) s → wpAny (model prog w) A (setNext S (sl i) i ep) Q E s
theorem nx_item {I S : Addr} {o : Obj} {es : Array (Int × Value)} {ep i : Nat} {t : SetTable} {sl : Nat → Nat} {vs : List Value} {v : Value} {Q : Option Value → Shared → Prop} (N : Nx prog w S o ep sl vs) (hd : o.data = .set es ep t) (hf : t.fits es.size = true) (hn : es.size = vs.length)
  (hI : s.heap.get? I = some (itO (.int (sl i) 0) i S vs.length ep)) (ho : s.heap.get? S = some o) (hv : vs[i]? = some v)
  (hQ : ∀ h', h'.get? I = some (itO (.int (sl (i + 1)) 0) (i + 1) S vs.length ep) → Heap.SameBut I s.heap h' → Q (some v) { s with heap := h' }) : wpAny (model prog w) A (pyNext (.ref I)) Q E s := by
 have hT : s.TypeIs (.ref I) "set_iterator" := ⟨_, hI, rfl⟩
 have hi : i < vs.length := by
  rcases Nat.lt_or_ge i vs.length with h | h
  ·exact h
  ·rw [List.getElem?_eq_none h] at hv; cases hv
 unfold pyNext
 refine wpAny_bind (wpAny_attempt (wpAny_callSpecial?_slot (name := Str.ofString "__next__") hT sl_next (wpAny_call_entry sl_next hT wP ?_ (wR _))))
 unfold Builtin.«set_iterator.__next__»
 refine wpAny_bind (wpAny_pure ?_)
 refine wpAny_bind (wpAny_fieldsOf hI rfl ?_)
 dsimp only
 refine wpAny_bind (wpAny_setEntries_of ho hd hf ?_)
 rw [if_neg (by rw [hn]; simp)]
 refine wpAny_bind (N _ _ _ i _ (by omega) ho ?_)
 rw [hv]
 dsimp only [Option.map]
 refine wpAny_bind (wpAny_setField_rec hI (by simp) fun h1 e1 b1 => ?_)
 refine wpAny_bind (wpAny_setField_rec e1 (by simp) fun h2 e2 b2 => ?_)
 refine wpAny_pure ?_
 exact ⟨_, rfl, wpAny_pure (hQ h2 (by simpa [rawInt, itO] using e2) (b1.trans b2))⟩
theorem Zg {x : Addr} {g : Heap} {Q : Option Value → Shared → Prop} (hh : A.handled = none) (b : Heap.ExtBut x s.heap g) (hQ : ∀ h', Heap.ExtBut x s.heap h' → Q none { s with heap := h' }) :
  wpAny (model prog w) A.in1 (newExc (.type "StopIteration") [] >>= raiseNew) (fun (_ : Fin) _ => False) (fun e s' => wpAny (model prog w) A (do if ← isInstance e (.type "StopIteration") then pure none else throw e) Q E s') { s with heap := g } := by
 refine wpAny_bind ?_
 simp only [newExc, newTuple]
 refine wpAny_bind (wpAny_newObj_type ?_ (by size_fits))
 refine wpAny_bind (m := firstArgMember _ _) (wpAny_of_eq (a := Value.none) (by first | rfl | (simp only [firstArgMember]; rfl)) ?_)
 refine wpAny_newObj_type ?_ (by size_fits)
 simp only [raiseNew]
 refine wpAny_bind (wpAny_handled ?_)
 rw [show A.in1.handled = none from hh]
 refine wpAny_bind (wpAny_pure (wpAny_throw ?_))
 refine wpAny_bind (wpAny_isInstance (T := "StopIteration") (b := true) ⟨_, Heap.get?_push_size _ rfl, rfl⟩ isSubtype_stop ?_)
 exact wpAny_pure (hQ _ ((b.push _).push _))
theorem nx_end {I S : Addr} {o : Obj} {es : Array (Int × Value)} {ep : Nat} {t : SetTable} {sl : Nat → Nat} {vs : List Value} {Q : Option Value → Shared → Prop} (hh : A.handled = none) (N : Nx prog w S o ep sl vs) (hd : o.data = .set es ep t) (hf : t.fits es.size = true) (hn : es.size = vs.length)
  (hI : s.heap.get? I = some (itO (.int (sl vs.length) 0) vs.length S vs.length ep)) (ho : s.heap.get? S = some o)
  (hQ : ∀ h', Heap.ExtBut I s.heap h' → Q none { s with heap := h' }) : wpAny (model prog w) A (pyNext (.ref I)) Q E s := by
 have hT : s.TypeIs (.ref I) "set_iterator" := ⟨_, hI, rfl⟩
 unfold pyNext
 refine wpAny_bind (wpAny_attempt (wpAny_callSpecial?_slot (name := Str.ofString "__next__") hT sl_next (wpAny_call_entry sl_next hT wP ?_ (wR _))))
 unfold Builtin.«set_iterator.__next__»
 refine wpAny_bind (wpAny_pure ?_)
 refine wpAny_bind (wpAny_fieldsOf hI rfl ?_)
 dsimp only
 refine wpAny_bind (wpAny_setEntries_of ho hd hf ?_)
 rw [if_neg (by rw [hn]; simp)]
 refine wpAny_bind (N _ _ _ vs.length _ (Nat.le_refl _) ho ?_)
 rw [List.getElem?_eq_none (Nat.le_refl _)]
 dsimp only [Option.map]
 refine wpAny_bind (wpAny_setField_rec hI (by simp) fun h1 e1 b1 => ?_)
 refine wpAny_mono (Zg (s := s) (x := I) (g := h1) (E := E) (Q := Q) hh b1.extBut hQ) (fun a s' z => z.elim) fun e s' z => ?_
 exact z
abbrev plO (ps : List Nat) : Obj := { cls := .type "tuple", data := .seq (ps.map fun (i : Nat) => rawInt (i : Int)).toArray }
theorem dr_item {I S T : Addr} {o : Obj} {es : Array (Int × Value)} {ep i p n : Nat} {t : SetTable} {ps : List Nat} {e : Int × Value} {Q : Option Value → Shared → Prop} (hd : o.data = .set es ep t) (hf : t.fits es.size = true) (hn : es.size = n)
  (hI : s.heap.get? I = some (itO (.ref T) i S n ep)) (ho : s.heap.get? S = some o) (hT' : s.heap.get? T = some (plO ps)) (hp : ps[i]? = some p) (he : es[p]? = some e)
  (hQ : ∀ h', h'.get? I = some (itO (.ref T) (i + 1) S n ep) → Heap.SameBut I s.heap h' → Q (some e.2) { s with heap := h' }) : wpAny (model prog w) A (pyNext (.ref I)) Q E s := by
 have hT : s.TypeIs (.ref I) "set_iterator" := ⟨_, hI, rfl⟩
 unfold pyNext
 refine wpAny_bind (wpAny_attempt (wpAny_callSpecial?_slot (name := Str.ofString "__next__") hT sl_next (wpAny_call_entry sl_next hT wP ?_ (wR _))))
 unfold Builtin.«set_iterator.__next__»
 refine wpAny_bind (wpAny_pure ?_)
 refine wpAny_bind (wpAny_fieldsOf hI rfl ?_)
 dsimp only
 refine wpAny_bind (wpAny_setEntries_of ho hd hf ?_)
 rw [if_neg (by rw [hn]; simp)]
 refine wpAny_bind (wpAny_seqItems hT' rfl ?_)
 dsimp only
 have hg : ((ps.map fun (i : Nat) => rawInt (i : Int)).toArray)[((i : Nat) : Int).toNat]? = some (.int (p : Int) 0) := by simp [hp, rawInt]
 rw [hg]
 dsimp only
 refine wpAny_bind ?_
 unfold setNextDrawn
 refine wpAny_bind (wpAny_setState_of ho hd hf ?_)
 dsimp only
 simp only [Int.toNat_natCast, bne_self_eq_false, Bool.false_eq_true, if_false, he]
 refine wpAny_pure ?_
 refine wpAny_bind (wpAny_setField_rec hI (by simp) fun h1 e1 b1 => ?_)
 refine wpAny_pure ?_
 exact ⟨_, rfl, wpAny_pure (hQ h1 (by simpa [rawInt, itO] using e1) b1)⟩
theorem dr_end {I S T : Addr} {o : Obj} {es : Array (Int × Value)} {ep n : Nat} {t : SetTable} {ps : List Nat} {Q : Option Value → Shared → Prop} (hh : A.handled = none) (hd : o.data = .set es ep t) (hf : t.fits es.size = true) (hn : es.size = n)
  (hI : s.heap.get? I = some (itO (.ref T) n S n ep)) (ho : s.heap.get? S = some o) (hT' : s.heap.get? T = some (plO ps)) (hp : ps.length = n)
  (hQ : ∀ h', Heap.ExtBut I s.heap h' → Q none { s with heap := h' }) : wpAny (model prog w) A (pyNext (.ref I)) Q E s := by
 have hT : s.TypeIs (.ref I) "set_iterator" := ⟨_, hI, rfl⟩
 unfold pyNext
 refine wpAny_bind (wpAny_attempt (wpAny_callSpecial?_slot (name := Str.ofString "__next__") hT sl_next (wpAny_call_entry sl_next hT wP ?_ (wR _))))
 unfold Builtin.«set_iterator.__next__»
 refine wpAny_bind (wpAny_pure ?_)
 refine wpAny_bind (wpAny_fieldsOf hI rfl ?_)
 dsimp only
 refine wpAny_bind (wpAny_setEntries_of ho hd hf ?_)
 rw [if_neg (by rw [hn]; simp)]
 refine wpAny_bind (wpAny_seqItems hT' rfl ?_)
 dsimp only
 have hg : ((ps.map fun (i : Nat) => rawInt (i : Int)).toArray)[((n : Nat) : Int).toNat]? = none := by simp [hp]
 rw [hg]
 dsimp only
 refine wpAny_bind (wpAny_setField_rec hI (by simp) fun h1 e1 b1 => ?_)
 refine wpAny_bind (wpAny_setField_rec e1 (by simp) fun h2 e2 b2 => ?_)
 refine wpAny_mono (Zg (s := s) (x := I) (g := h2) (E := E) (Q := Q) hh (b1.trans b2).extBut hQ) (fun a s' z => z.elim) fun e s' z => ?_
 exact z
theorem Z1 {I S : Addr} {f : Value} {i n ep : Nat} {Q : Value → Shared → Prop} (hI : s.heap.get? I = some (itO f i S n ep)) (h : Q (.ref I) s) : wpAny (model prog w) A (pyIter (.ref I)) Q E s := by
 have hT : s.TypeIs (.ref I) "set_iterator" := ⟨_, hI, rfl⟩
 refine wpAny_pyIter_slot hT ZZ (wpAny_call_entry ZZ hT en_iter ?_ (ar_iter _))
 show wpAny _ _ (ret (.ref I)) _ _ s
 exact wpAny_pure ⟨_, rfl, "set_iterator", _, hT, sl_next.lookup, h⟩
end
section
variable {prog : Program} {w : World} {A : Around}
theorem ZQ (hh : A.handled = none) (I S : Addr) (hne : S ≠ I) {o : Obj} {es : Array (Int × Value)} {ep : Nat} {t : SetTable} {sl : Nat → Nat} {vs : List Value} (N : Nx prog w S o ep sl vs) (hd : o.data = .set es ep t) (hf : t.fits es.size = true) (hn : es.size = vs.length) :
  Walks prog w A I [I, S] [I] vs.length (fun i v => vs[i]? = some v) (fun i h => h.get? I = some (itO (.int (sl i) 0) i S vs.length ep) ∧ h.get? S = some o) where
 sub := fun b hb => by simp at hb; simp [hb]
 frame := fun i h h' st k => ⟨k I (by simp) _ st.1, k S (by simp) _ st.2⟩
 item := fun i s Q E hi st hQ => by
  have hv : vs[i]? = some vs[i] := by simp [hi]
  exact nx_item N hd hf hn st.1 st.2 hv fun h' e b => hQ _ h' s.toks hv ⟨e, by rw [b.2 S hne]; exact st.2⟩ fun c oc hc ec => by rw [b.2 c fun z => hc (by simp [z])]; exact ec
 done := fun s Q E st hQ => nx_end hh N hd hf hn st.1 st.2 fun h' b => hQ h' s.toks fun c oc hc ec => b c oc (fun z => hc (by simp [z])) ec
 self := fun i s Q E st hQ => Z1 st.1 hQ
theorem walk_dr (hh : A.handled = none) (I S T : Addr) (hne : S ≠ I) (hTI : T ≠ I) {o : Obj} {es : Array (Int × Value)} {ep : Nat} {t : SetTable} {ps : List Nat} {vs : List Value} (hd : o.data = .set es ep t) (hf : t.fits es.size = true) (hn : es.size = vs.length) (hl : ps.length = vs.length)
  (hv : ∀ (i : Nat) (v : Value), vs[i]? = some v → ∃ p e, ps[i]? = some p ∧ es[p]? = some e ∧ e.2 = v) :
  Walks prog w A I [I, S, T] [I] vs.length (fun i v => vs[i]? = some v) (fun i h => h.get? I = some (itO (.ref T) i S vs.length ep) ∧ h.get? S = some o ∧ h.get? T = some (plO ps)) where
 sub := fun b hb => by simp at hb; simp [hb]
 frame := fun i h h' st k => ⟨k I (by simp) _ st.1, k S (by simp) _ st.2.1, k T (by simp) _ st.2.2⟩
 item := fun i s Q E hi st hQ => by
  have h0 : vs[i]? = some vs[i] := by simp [hi]
  obtain ⟨p, e, e1, e2, e3⟩ := hv i _ h0
  refine dr_item hd hf hn st.1 st.2.1 st.2.2 e1 e2 fun h' e b => ?_
  rw [e3]
  exact hQ _ h' s.toks h0 ⟨e, by rw [b.2 S hne]; exact st.2.1, by rw [b.2 T hTI]; exact st.2.2⟩ fun c oc hc ec => by rw [b.2 c fun z => hc (by simp [z])]; exact ec
 done := fun s Q E st hQ => dr_end hh hd hf hn st.1 st.2.1 st.2.2 hl fun h' b => hQ h' s.toks fun c oc hc ec => b c oc (fun z => hc (by simp [z])) ec
 self := fun i s Q E st hQ => Z1 st.1 hQ
end
end SB
set_option maxHeartbeats 4000000
namespace SB
open PySem PySem.SetTable PyProof.Rows
theorem Z5 {α : Type} (nx : Nat → Nat) : ∀ (n k : Nat) (left : List α) (out : Array α), left.length = n → (pickOrder.go nx n k left out).toList.Perm (out.toList ++ left)
 | 0, k, [], out, _ => by unfold pickOrder.go; simp
 | n + 1, k, [], out, e => by simp at e
 | 0, k, x :: xs, out, e => by simp at e
 | n + 1, k, x :: xs, out, e => by
  unfold pickOrder.go
  have hi : nx k % (x :: xs).length < (x :: xs).length := Nat.mod_lt _ (by simp)
  rw [List.getElem?_eq_getElem hi]
  dsimp only
  refine (Z5 nx n (k + 1) _ _ (by rw [List.length_eraseIdx_of_lt hi]; omega)).trans ?_
  rw [Array.toList_push, List.append_assoc]
  exact List.Perm.append (List.Perm.refl _) (v1 _ _ hi)
theorem pick_perm {α : Type} (nx : Nat → Nat) (xs : Array α) : (pickOrder nx xs).toList.Perm xs.toList := by
 unfold pickOrder
 have := Z5 nx xs.size 0 xs.toList #[] (by simp)
 simpa using this
section
variable {prog : Program} {w : World} {A : Around} {E : Value → Shared → Prop} {s : Shared}
theorem set_drawn {S : Addr} {o : Obj} {es : Array (Int × Value)} {ep : Nat} {t : SetTable} {Q : Bool → Shared → Prop} (ho : s.heap.get? S = some o) (hd : o.data = .set es ep t) (hf : t.fits es.size = true)
  (h : Q (LL w && (!t.plain && decide (es.size > 1))) s) : wpAny (model prog w) A (setDrawn S) Q E s := by
 unfold setDrawn
 refine wpAny_bind (wpAny_setState_of ho hd hf ?_)
 dsimp only
 refine wpAny_bind (wQ ?_)
 refine wpAny_pure ?_
 rw [Bool.not_not]
 exact h
def Vps (vs : List Value) (ks : List Int) : Prop := ∃ ns, IntsAre vs ns ∧ ns.Perm ks
theorem vW {es : List (Int × Value)} (el : ElemsOf (intKind prog w) es) : IntsAre (es.map (·.2)) (es.map ivE) := by
 induction es with
 | nil => exact .nil
 | cons e es ih =>
  obtain ⟨t, ht⟩ := XB el (e := e) List.mem_cons_self
  rw [List.map_cons, List.map_cons]
  have : e.2 = .int (ivE e) t := by rw [ht]; rfl
  rw [this]
  exact .cons _ _ (ih fun x hx => el x (List.mem_cons_of_mem _ hx))
structure Itd (prog : Program) (w : World) (s : Shared) (S : Addr) (ks : List Int) (I : Addr) (vs : List Value) (h1 : Heap) (d1 : Drawn) : Prop where
 vps : Vps vs ks
 ex : ∃ fp St, (∀ A : Around, A.handled = none → Walks prog w A I fp [I] vs.length (fun i v => vs[i]? = some v) St) ∧ St 0 h1 ∧ (∀ b ∈ fp, b = S ∨ s.heap.objs.size ≤ b)
 keep : ∀ b o, s.heap.get? b = some o → h1.get? b = some o
 new : s.heap.objs.size ≤ I
theorem it_set {S : Addr} {ks : List Int} {Q : Value → Shared → Prop} (hS : SetL prog w (LL w) S ks s.heap) (hQ : ∀ I vs h1 d1, Itd prog w s S ks I vs h1 d1 → Q (.ref I) { s with heap := h1, drawn := d1 }) : wpAny (model prog w) A (pyIter (.ref S)) Q E s := by
 obtain ⟨o, es, ep, t, ho, Z⟩ := hS
 have hT : s.TypeIs (.ref S) "set" := ⟨o, ho, Z.ex.1⟩
 have hSlt : S < s.heap.objs.size := Heap.lt_size ho
 refine wpAny_pyIter_slot hT PySem.F.slot_set_iter (wpAny_call_entry PySem.F.slot_set_iter hT en_sit ?_ (PySem.F.args_set_iter_1 _))
 unfold Builtin.«frozenset.__iter__» Builtin.Frozenset.slot0 slotArgs Builtin.Frozenset.addrOf Builtin.Frozenset.sizeOf
 simp only [List.isEmpty_nil, Bool.not_true, Bool.false_eq_true, if_false, bind_assoc, List.length_nil, bne_self_eq_false]
 refine wpAny_bind (wpAny_pure ?_)
 try dsimp only
 refine wpAny_bind (wpAny_pure ?_)
 refine wpAny_bind (wpAny_setEntries_of ho Z.da Z.fit ?_)
 refine wpAny_bind (wpAny_pure ?_)
 refine wpAny_bind (set_drawn ho Z.da Z.fit ?_)
 have hsz : es.size ≤ sizeLine := fits_of_scanBound Z.lt
 have fin : ∀ (g : Heap) (d1 : Drawn) (f : Value) (vs : List Value), Vps vs ks → es.size = vs.length → (∀ b o, s.heap.get? b = some o → g.get? b = some o) →
   (∃ fp St, (∀ A : Around, A.handled = none → Walks prog w A g.objs.size fp [g.objs.size] vs.length (fun i v => vs[i]? = some v) St) ∧ St 0 (g.push (itO f 0 S vs.length ep)) ∧ (∀ b ∈ fp, b = S ∨ s.heap.objs.size ≤ b)) → s.heap.objs.size ≤ g.objs.size →
   wpAny (model prog w) A.in1 (do
    let e ← setEpoch S
    let x ← newFields "set_iterator" [f, rawInt 0, Value.ref S, rawInt ↑es.size, rawInt ↑e]
    ret x) (fun fin s' => ∃ v, fin = Fin.done (Flow.ret v) ∧ ∃ T' r, s'.TypeIs v T' ∧ typeLookup (Value.type T') (Str.ofString "__next__") = pure (some r) ∧ Q v s') E { s with heap := g, drawn := d1 } := fun g d1 f vs hv hn hk hW hle => by
  refine wpAny_bind (wpAny_setEpoch_of (hk _ _ ho) Z.da Z.fit ?_)
  refine wpAny_bind (wpAny_newObj_type ?_)
  refine wpAny_pure ⟨_, rfl, "set_iterator", _, ⟨_, Heap.get?_push_size _ rfl, rfl⟩, sl_next.lookup, ?_⟩
  have e1 : (({ cls := .type "set_iterator", dict := none, data := .fields [f, rawInt 0, Value.ref S, rawInt ↑es.size, rawInt ↑ep].toArray } : Obj)) = itO f 0 S vs.length ep := by rw [hn]; rfl
  rw [e1]
  exact hQ _ vs _ _ ⟨hv, hW, fun b o q => Heap.get?_push_of_some _ (hk b o q), hle⟩
 have hSn : S ≠ s.heap.objs.size := Nat.ne_of_lt hSlt
 by_cases hdr : (LL w && (!t.plain && decide (es.size > 1))) = true
 ·rw [if_pos hdr]
  refine wpAny_bind (vz es.size (List.range es.size) _ _ List.length_range fun ps d1 hp => ?_)
  have hl : ps.length = es.size := by have := hp.length_eq; simpa using this
  refine wpAny_bind (wpAny_newTuple ?_ (by rw [List.length_map, hl]; exact hsz))
  have hp' : (ps.map fun p => es.toList.getD p (0, Value.none)).Perm es.toList := by
   refine (hp.map _).trans ?_
   have : (List.range es.size).map (fun p => es.toList.getD p (0, Value.none)) = es.toList := by
    refine List.ext_getElem (by simp) fun i h1 h2 => ?_
    simp only [List.getElem_map, List.getElem_range]
    rw [List.getD_eq_getElem?_getD, List.getElem?_eq_getElem h2]
    rfl
   rw [this]
  have hps : ∀ p ∈ ps, p < es.size := fun p h => List.mem_range.mp (hp.mem_iff.mp h)
  have hgT : (s.heap.push (plO ps)).get? s.heap.objs.size = some (plO ps) := Heap.get?_push_size _ rfl
  refine fin (s.heap.push (plO ps)) d1 (.ref s.heap.objs.size) ((ps.map fun p => es.toList.getD p (0, Value.none)).map (·.2)) ⟨_, vW (Z.el.perm hp'), (hp'.map ivE).trans Z.pm⟩ (by simp [hl]) (fun b o q => Heap.get?_push_of_some _ q) ⟨_, _, fun A hh => walk_dr hh _ S s.heap.objs.size (by rw [Heap.size_push]; exact Nat.ne_of_lt (Nat.lt_succ_of_lt hSlt)) (by rw [Heap.size_push]; exact Nat.ne_of_lt (Nat.lt_succ_self _)) Z.da Z.fit (by simp [hl]) (by simp) ?_, ⟨Heap.get?_push_size _ rfl, Heap.get?_push_of_some _ (Heap.get?_push_of_some _ ho), Heap.get?_push_of_some _ hgT⟩, ?_⟩ (by rw [Heap.size_push]; exact Nat.le_succ _)
  ·intro i v hv
   rw [List.map_map, List.getElem?_map] at hv
   cases hpi : ps[i]? with
   | none => rw [hpi] at hv; cases hv
   | some p =>
    rw [hpi] at hv
    simp only [Option.map_some, Function.comp, Option.some.injEq] at hv
    have hlt := hps p (List.mem_of_getElem? hpi)
    refine ⟨p, es[p], rfl, by simp [hlt], ?_⟩
    rw [← hv, List.getD_eq_getElem?_getD, List.getElem?_eq_getElem (by simpa using hlt)]
    rfl
  ·intro b hb
   rw [Heap.size_push] at hb
   simp only [List.mem_cons, List.not_mem_nil, or_false] at hb
   rcases hb with rfl | rfl | rfl
   ·exact .inr (Nat.le_succ _)
   ·exact .inl rfl
   ·exact .inr (Nat.le_refl _)
 ·rw [if_neg hdr]
  refine wpAny_bind (wpAny_pure ?_)
  have fpS : ∀ b ∈ [s.heap.objs.size, S], b = S ∨ s.heap.objs.size ≤ b := fun b hb => by
   simp only [List.mem_cons, List.not_mem_nil, or_false] at hb
   rcases hb with rfl | rfl
   ·exact .inr (Nat.le_refl _)
   ·exact .inl rfl
  cases hL : LL w with
  | false =>
   have pp := pick_perm (w.params.setOrder S ep) es
   have hn : es.size = ((pickOrder (w.params.setOrder S ep) es).toList.map (·.2)).length := by rw [List.length_map, pp.length_eq, Array.length_toList]
   have N : Nx prog w S o ep (fun _ => 0) ((pickOrder (w.params.setOrder S ep) es).toList.map (·.2)) := fun A E s i Q _ h1 h2 => nx_txt hL h1 Z.da Z.fit (by rw [List.getElem?_map, Option.map_map, Array.getElem?_toList] at h2; exact h2)
   exact fin s.heap s.drawn (rawInt 0) ((pickOrder (w.params.setOrder S ep) es).toList.map (·.2)) ⟨_, vW (Z.el.perm pp), (pp.map ivE).trans Z.pm⟩ hn (fun b o q => q) ⟨_, _, fun A hh => ZQ hh _ S hSn N Z.da Z.fit hn, ⟨Heap.get?_push_size _ rfl, Heap.get?_push_of_some _ ho⟩, fpS⟩ (Nat.le_refl _)
  | true =>
   have hpl : t.plain = true ∨ es.size ≤ 1 := by
    rw [hL] at hdr
    cases hp : t.plain with
    | true => exact .inl rfl
    | false =>
     rw [hp] at hdr
     simp at hdr
     exact .inr hdr
   have hle : t.led = true := Z.tb.led.trans hL
   have hpz : t.place.size = es.size := by
    have := Z.fit
    simp only [SetTable.fits, Bool.and_eq_true, beq_iff_eq] at this
    exact this.1
   have hr : t.place.toList.Pairwise (· < ·) := by
    rcases hpl with e | e
    ·exact Z.tb.rise e
    ·have h1 : t.place.toList.length ≤ 1 := by rw [Array.length_toList, hpz]; exact e
     match t.place.toList, h1 with
     | [], _ => exact .nil
     | [x], _ => exact List.pairwise_singleton _ _
   have hn : es.size = (es.toList.map (·.2)).length := by simp
   have N : Nx prog w S o ep (fun i => match i with | 0 => 0 | i + 1 => t.place.getD i 0 + 1) (es.toList.map (·.2)) := fun A E s i Q hi h1 h2 => by
    refine nx_pl hL hle hpl h1 Z.da Z.fit ?_
    have hb : below t.place ((fun i => match i with | 0 => 0 | i + 1 => t.place.getD i 0 + 1 : Nat → Nat) i) = i := by
     cases i with
     | zero => exact bel_zero hr
     | succ i => exact bel_next hr (by rw [hpz]; simp at hi; omega)
    rw [hb]
    rcases Nat.lt_or_ge i es.size with h | h
    ·have hpi : i < t.place.size := by rw [hpz]; exact h
     simp only [Array.getElem?_eq_getElem h, Array.getElem?_eq_getElem hpi]
     simpa [List.getElem?_map, h, Array.getD_eq_getD_getElem?, hpi] using h2
    ·simp only [Array.getElem?_eq_none h]
     simpa [List.getElem?_map, Array.getElem?_eq_none h] using h2
   exact fin s.heap s.drawn (rawInt 0) (es.toList.map (·.2)) ⟨_, vW Z.el, Z.pm⟩ hn (fun b o q => q) ⟨_, _, fun A hh => ZQ hh _ S hSn N Z.da Z.fit hn, ⟨Heap.get?_push_size _ rfl, Heap.get?_push_of_some _ ho⟩, fpS⟩ (Nat.le_refl _)
end
end SB
set_option maxHeartbeats 4000000
namespace SB
open PySem PySem.SetTable PyProof.Rows
section
variable {prog : Program} {w : World} {A : Around} {E : Value → Shared → Prop} {s : Shared}
theorem hint_set {S : Addr} {Q : Bool → Shared → Prop} (hT : s.TypeIs (.ref S) "set") (h : Q false s) : wpAny (model prog w) A (Builtin.List.listLengthHint (.ref S)) Q E s := by
 unfold Builtin.List.listLengthHint
 refine wpAny_bind (wpAny_specialOf hT PySem.F.slot_set_len.lookup ?_)
 generalize hid : ("set.__len__" : String) = id0
 wp_delta
 rw [show splitId id0 = some ("set", "__len__") from by subst hid; decide +kernel]
 subst hid
 refine wpAny_bind (wpAny_isInstance (T := "set") (b := true) hT (by rw [isSubtype_type]; kernel_rfl) ?_)
 refine wpAny_ite_split (fun z => absurd z (by decide)) (fun _ => ?_)
 refine wpAny_ite_split (fun _ => ?_) (fun z => absurd (by decide +kernel) z)
 exact wpAny_bind (wpAny_typeOf hT (wpAny_pure h))
theorem collect_set {S : Addr} {ks : List Int} {Q : List Value → Shared → Prop} (hh : A.handled = none) (hS : SetL prog w (LL w) S ks s.heap)
  (hQ : ∀ vs h' d tk, Vps vs ks → (∀ b o, s.heap.get? b = some o → h'.get? b = some o) → s.heap.objs.size < h'.objs.size → Q vs { s with heap := h', drawn := d, toks := tk }) : wpAny (model prog w) A (collect (.ref S)) Q E s := by
 have hlt : S < s.heap.objs.size := by
  obtain ⟨o, es, ep, t, ho, Z⟩ := hS
  exact Heap.lt_size ho
 unfold collect
 refine wpAny_bind (wpAny_runValue (codeAny_builtin PySem.F.entry_proto_collect ?_))
 rw [Around.under_plainId PySem.F.plain_proto_collect _]
 show wpAny _ A.in1 (newList [] >>= fun l => again (.builtin "list.__iadd__" ⟨[l, .ref S], []⟩)) _ _ s
 refine wpAny_bind (wpAny_newObj_type ?_)
 refine wpAny_pure ⟨plainId_quiet PySem.F.plain_list_iadd _, codeAny_builtin PySem.F.entry_list_iadd ?_⟩
 rw [Around.under_plainId PySem.F.plain_list_iadd _]
 have k1 : ∀ b o, s.heap.get? b = some o → (s.heap.push { cls := .type "list", data := .seq ([] : List Value).toArray }).get? b = some o := fun b o q => Heap.get?_push_of_some _ q
 have hD : (s.heap.push { cls := .type "list", data := .seq ([] : List Value).toArray }).get? s.heap.objs.size = some { cls := .type "list", data := .seq ([] : List Value).toArray } := Heap.get?_push_size _ rfl
 have hz : (s.heap.push { cls := .type "list", data := .seq ([] : List Value).toArray }).objs.size = s.heap.objs.size + 1 := by rw [Heap.size_push]
 show wpAny _ A.in1 (Builtin.List.listExtendWith (.ref s.heap.objs.size) (.ref S) (.ref s.heap.objs.size)) _ _ _
 generalize s.heap.push { cls := .type "list", data := .seq ([] : List Value).toArray } = g1 at k1 hD hz ⊢
 have hS1 : SetL prog w (LL w) S ks g1 := hS.mv fun o e => k1 S o e
 have ht1 : ∀ {g : Heap} {d : Drawn} {tk : Nat}, SetL prog w (LL w) S ks g → Shared.TypeIs { s with heap := g, drawn := d, toks := tk } (.ref S) "set" := fun x => by
  obtain ⟨o, es, ep, t, ho, Z⟩ := x
  exact ⟨o, ho, Z.ex.1⟩
 unfold Builtin.List.listExtendWith
 refine wpAny_bind (wpAny_typeOf (ht1 (d := s.drawn) (tk := s.toks) hS1) ?_)
 have h1 : Builtin.List.listSameRef (.ref s.heap.objs.size) (.ref S) = false := by simp [Builtin.List.listSameRef, Nat.ne_of_gt hlt]
 rw [if_neg (by rw [h1]; decide)]
 refine wpAny_bind (it_set hS1 fun I vs h2 d2 T => ?_)
 obtain ⟨fp, St, W, st, hfp⟩ := T.ex
 have hn : vs.length ≤ sizeLine := by
  obtain ⟨ns, a1, a2⟩ := T.vps
  obtain ⟨o, es, ep, t, ho, Z⟩ := hS
  rw [IntsAre.length a1, a2.length_eq, ← Z.sz]
  exact fits_of_scanBound Z.lt
 refine wpAny_bind (wpAny_holding (hint_set (ht1 (d := d2) (tk := s.toks) (hS1.mv fun o e => T.keep S o e)) ?_))
 have nf : s.heap.objs.size ∉ fp := fun z => by
  rcases hfp _ z with e | e
  ·exact absurd e (Nat.ne_of_gt hlt)
  ·rw [hz] at e; exact absurd e (Nat.not_succ_le_self _)
 rw [if_pos (by decide +kernel)]
 refine wpAny_bind (wpAny_rule ?_)
 refine wpAny_bind ?_
 show wpAny _ _ (updateSeq s.heap.objs.size (·.push .none) >>= fun _ => updateSeq s.heap.objs.size (·.pop)) _ _ _
 have d1 := T.keep _ _ hD
 refine wpAny_bind (wpAny_updateSeq d1 rfl ?_)
 have d2' := Heap.get?_update_self (Obj.mapSeq (·.push Value.none)) d1 rfl
 refine wpAny_updateSeq (hz := by seq_fits) d2' rfl ?_
 have d3 := Heap.get?_update_self (Obj.mapSeq (·.pop)) d2' rfl
 have k3 : ∀ b o, b ≠ s.heap.objs.size → h2.get? b = some o → ((h2.update s.heap.objs.size (Obj.mapSeq (·.push Value.none))).update s.heap.objs.size (Obj.mapSeq (·.pop))).get? b = some o := fun b o hb q => (Heap.get?_update_other _ _ (Ne.symm hb)).trans ((Heap.get?_update_other _ _ (Ne.symm hb)).trans q)
 have st3 := (W A hh).frame 0 _ _ st fun b hb o q => k3 b o (fun z => nf (z ▸ hb)) q
 refine wpAny_pure ⟨plainId_quiet PySem.F.plain_extend_loop _, codeAny_extend_loopS (W A.in1 hh).toS hn _ nf _ vs.length 0 _ #[] _ rfl (Nat.zero_le _) st3 d3 (ItemsOf.nil _) fun s' acc c' hm hS' hacc => ?_⟩
 show wpAny _ A (load s.heap.objs.size >>= _) _ _ s'
 refine wpAny_bind (wpAny_load hS' ?_)
 refine wpAny_pure ?_
 have e : acc.toList = vs := List.ext_getElem? fun i => by
  rcases Nat.lt_or_ge i vs.length with h | h
  ·have hi : i < acc.size := by rw [hacc.1]; exact h
   have := hacc.2 i acc[i] (by simp [hi])
   rw [this]
   simp [hi]
  ·rw [List.getElem?_eq_none h, List.getElem?_eq_none (by rw [Array.length_toList, hacc.1]; exact h)]
 rw [e, Moved.eq_with hm]
 refine hQ vs s'.heap d2 s'.toks T.vps (fun b o q => hm.heap b o (fun z => ?_) (k3 b o (Nat.ne_of_lt (Heap.lt_size q)) (T.keep b o (k1 b o q)))) (Heap.lt_size hS')
 have hb := Heap.lt_size q
 simp only [List.mem_cons, List.not_mem_nil, or_false] at z
 rcases z with rfl | rfl
 ·exact Nat.lt_irrefl _ hb
 ·have := T.new
  rw [hz] at this
  exact absurd (Nat.lt_of_lt_of_le hb (Nat.le_of_succ_le this)) (Nat.lt_irrefl _)
end
end SB
set_option maxHeartbeats 4000000
namespace SB
open PySem PySem.SetTable PyProof.Rows
section
variable {prog : Program} {w : World} {A : Around} {E : Value → Shared → Prop} {s : Shared}
theorem sorted_set {S : Addr} {ks : List Int} {Q : Value → Shared → Prop} (hh : A.handled = none) (hS : SetL prog w (LL w) S ks s.heap) (h64 : ks.length < 64)
  (h : ∀ D h' d tk (out : Array Value) ns c, s.heap.objs.size ≤ D → (∀ b o, s.heap.get? b = some o → h'.get? b = some o) → h'.get? D = some (seqObj "list" out c) → IntsAre out.toList ns → ns.Perm ks → ns.Pairwise (· ≤ ·) → Q (.ref D) { s with heap := h', drawn := d, toks := tk }) :
  wpAny (model prog w) A (call (.builtin "sorted") [.ref S]) Q E s := by
 refine Calls.call_function_entry kind_sorted plain_sorted entry_sorted (args_sorted1 _) ?_
 unfold Builtin.«sorted»
 refine wpAny_bind (m := checkCount "sorted" 1 1 _) (wpAny_pure ?_)
 refine wpAny_bind (collect_set (A := A.in1) hh hS fun vs g d tk hv hk hgt => ?_)
 obtain ⟨ns, a1, a2⟩ := hv
 have hl : vs.length < 64 := by rw [IntsAre.length a1, a2.length_eq]; exact h64
 refine wpAny_bind (wpAny_newList ?_ (by rw [sizeLine_eq]; omega))
 have hoL : (g.push (seqObj "list" vs.toArray 0)).get? g.objs.size = some (seqObj "list" vs.toArray 0) := Heap.get?_push_size _ rfl
 show wpAny _ _ _ _ _ { s with heap := g.push (seqObj "list" vs.toArray 0), drawn := d, toks := tk }
 refine wpAny_bind (wpAny_holding (wpAny_call_entry slot_list_sort ⟨_, hoL, rfl⟩ entry_list_sort (list_sort_tree hoL a1 hl fun out ns' b1 b2 b3 => ⟨_, rfl, ?_⟩) (args_list_sort _)))
 obtain ⟨c, hc⟩ := sortedHeap_at (vs := vs) (out := out) hoL
 refine wpAny_pure ⟨_, rfl, h _ _ d tk out ns' c (Nat.le_of_lt hgt) (fun b o q => ?_) hc b1 (b2.trans a2) b3⟩
 have hb := Heap.lt_size (hk b o q)
 rw [sortedHeap_old (Nat.ne_of_lt hb) (by rw [Heap.size_push]; exact Nat.lt_succ_of_lt hb)]
 exact Heap.get?_push_of_some _ (hk b o q)
end
end SB
namespace L2
open PySem PyProof.Rows
section
variable {X : Cx} {k : Nat}
theorem Inv.drw {pins : List (Addr × Obj)} {σ : St} {H : Hp} {s : Shared} (I : Inv X pins σ H s) (d : Drawn) : Inv X pins σ H { s with drawn := d } :=
 ⟨I.ok, I.os, I.bare, I.base, I.loc, I.cell, I.free, I.freeC, I.pin, I.hok, I.len⟩
def stO (P : Program) (w : World) (q : Addr) (ks : List Int) : HO := .ext (SB.SetL P w (SB.LL w) q ks)
def rSetG (P : Program) (w : World) : List V → Hp → VK → Prop := fun xs H Q => ∃ (p : Addr) (ns : List Int), xs = [.ref p] ∧ H p = some (.lst (ns.map V.int)) ∧ ns.length ≤ 1000 ∧ ∀ q, H q = none → Q (.ref q) (upd H q (stO P w q (ns.foldl SB.addK [])))
def rSrtG (P : Program) (w : World) : List V → Hp → VK → Prop := fun xs H Q => ∃ (q : Addr) (ks : List Int), xs = [.ref q] ∧ H q = some (stO P w q ks) ∧ ks.length < 64 ∧ ∀ D (rs : List Int), H D = none → rs.Perm ks → rs.Pairwise (· ≤ ·) → Q (.ref D) (upd H D (.lst (rs.map V.int)))
theorem Xw : ∀ {ns : List Int} {us : List Value}, Vals (ns.map V.int) us → IntsAre us ns
 | [], _, h => by cases h; exact .nil
 | n :: ns, _, h => by
  cases h with
  | cons a b =>
   obtain ⟨t, rfl⟩ := a
   exact .cons _ _ (Xw b)
theorem Xx : ∀ {ns : List Int} {us : List Value}, IntsAre us ns → Vals (ns.map V.int) us
 | _, _, .nil => .nil
 | _, _, .cons n t h => .cons ⟨t, rfl⟩ (Xx h)
theorem dd_eq (ns : List Int) : SB.ddV (fun i => ns.getD i 0) ns.length = ns.foldl SB.addK [] := by
 unfold SB.ddV
 congr 1
 refine List.ext_getElem (by simp) fun i h1 h2 => ?_
 simp [List.getD_eq_getElem?_getD, h2]
theorem call_setR (hr : Room k X.A) : zT X (.type "set") (rSetG X.prog X.w) := by
 intro pins s σ H xs us Q I r h
 obtain ⟨p, ns, rfl, hp, hn, q⟩ := h
 obtain ⟨u, rfl, ru⟩ := r.one
 cases ru
 obtain ⟨its, rv, pl, hz⟩ := I.list (SqL.of hp)
 have hi := Xw rv
 have hl : its.length = ns.length := IntsAre.length hi
 refine SB.call_setL hr.hd pl.isList (by simpa using hi) (by rw [List.size_toArray, hl]; unfold scanBound; omega) fun h' tk hS hk => ?_
 have hs' : its.toArray.size = ns.length := by rw [List.size_toArray, hl]
 rw [hs', dd_eq] at hS
 have hk' : ∀ b o, s.heap.get? b = some o → h'.get? b = some o := fun b o e => hk b o (Heap.lt_size e) e
 refine ⟨.ref s.heap.objs.size, _, I.laid (o := stO X.prog X.w s.heap.objs.size (ns.foldl SB.addK [])) (t' := tk) hk' (Nat.le_refl _) ⟨hS, ?_, fun h1 h2 x y => x.mv fun o e => y o e⟩, rfl, q _ (I.hok.fresh (Nat.le_refl _))⟩
 obtain ⟨o, es, ep, t, ho, Z⟩ := hS
 exact ⟨o, ho⟩
theorem call_srtR (hr : Room k X.A) : zT X (.builtin "sorted") (rSrtG X.prog X.w) := by
 intro pins s σ H xs us Q I r h
 obtain ⟨p, ks, rfl, hp, hn, q⟩ := h
 obtain ⟨u, rfl, ru⟩ := r.one
 cases ru
 have hS : SB.SetL X.prog X.w (SB.LL X.w) p ks s.heap := (I.hok p _ hp).1
 refine SB.sorted_set hr.hd hS hn fun D h' d tk out ns c hD hk ho hi hpm hpw => ?_
 refine ⟨.ref D, _, (I.laid (o := .lst (ns.map V.int)) (t' := tk) hk hD ⟨?_, out.toList, c, Xx hi, ?_⟩).drw d, rfl, q D ns (I.hok.fresh hD) hpm hpw⟩
 ·rw [List.length_map, hpm.length_eq]
  exact Nat.le_of_lt (zA (by omega))
 ·simpa using ho
end
end L2
namespace K11
open PySem L2 G2 WG EL
abbrev sIw : Stmt := top 17
abbrev nIw : List Str := ["_law_many", "_law_rows", "_law_found", "_law_numbers", "_law_j"]
theorem nmIw : Nm nIw (zc sIw) := nmk (by decide +kernel)
theorem scIw : FnScope nIw ["_law_many", "_law_rows", "_law_found"] (zc sIw) := fsk (by decide +kernel)
def qIwa (s : Stmt) : Scope := match s with
 | .Assign _ (.ListComp _ _ sc _) _ => sc
 | _ => nsc
abbrev cIwa : Scope := qIwa ((zj sIw).getD 1 (.Pass ⟨0, 0, 0, 0⟩))
theorem bsIwa : BScope (zc sIw) cIwa ["_law_number", "_law_times"] [] [] := { okind := by decide +kernel, kind := by decide +kernel, nocell := by decide +kernel, names := by decide +kernel, fr := by decide +kernel, ff := by decide +kernel, nd := by decide +kernel, vis := by decide +kernel, loc := by decide +kernel, gl := by decide +kernel }
def qIwb (s : Stmt) : Scope := match s with
 | .If (.Compare _ _ [(.ListComp _ _ sc _)] _) _ _ _ => sc
 | _ => nsc
abbrev cIwb : Scope := qIwb ((zj sIw).getD 2 (.Pass ⟨0, 0, 0, 0⟩))
theorem bsIwb : BScope (zc sIw) cIwb ["_law_number"] [] ["_law_whole"] := { okind := by decide +kernel, kind := by decide +kernel, nocell := by decide +kernel, names := by decide +kernel, fr := by decide +kernel, ff := by decide +kernel, nd := by decide +kernel, vis := by decide +kernel, loc := by decide +kernel, gl := by decide +kernel }
def qIwc (s : Stmt) : Scope := match s with
 | .If (.Compare (.ListComp _ _ sc _) _ _ _) _ _ _ => sc
 | _ => nsc
abbrev cIwc : Scope := qIwc ((zj sIw).getD 4 (.Pass ⟨0, 0, 0, 0⟩))
theorem bsIwc : BScope (zc sIw) cIwc ["_law_number", "_law_times"] [] ["_law_whole"] := { okind := by decide +kernel, kind := by decide +kernel, nocell := by decide +kernel, names := by decide +kernel, fr := by decide +kernel, ff := by decide +kernel, nd := by decide +kernel, vis := by decide +kernel, loc := by decide +kernel, gl := by decide +kernel }
def qIwd (s : Stmt) : Scope := match s with
 | .For _ _ [(.If (.Compare (.Call _ [(.ListComp _ _ sc _)] _ _) _ _ _) _ _ _)] _ _ => sc
 | _ => nsc
abbrev cIwd : Scope := qIwd ((zj sIw).getD 5 (.Pass ⟨0, 0, 0, 0⟩))
theorem bsIwd : BScope (zc sIw) cIwd ["_law_number", "_law_times"] ["_law_j", "_law_rows"] [] := { okind := by decide +kernel, kind := by decide +kernel, nocell := by decide +kernel, names := by decide +kernel, fr := by decide +kernel, ff := by decide +kernel, nd := by decide +kernel, vis := by decide +kernel, loc := by decide +kernel, gl := by decide +kernel }
def qIwe (s : Stmt) : Scope := match s with
 | .Return (some (.Compare (.Call _ [(.ListComp _ _ sc _)] _ _) _ _ _)) _ => sc
 | _ => nsc
abbrev cIwe : Scope := qIwe ((zj sIw).getD 6 (.Pass ⟨0, 0, 0, 0⟩))
theorem bsIwe : BScope (zc sIw) cIwe ["_law_number", "_law_times"] ["_law_rows"] [] := { okind := by decide +kernel, kind := by decide +kernel, nocell := by decide +kernel, names := by decide +kernel, fr := by decide +kernel, ff := by decide +kernel, nd := by decide +kernel, vis := by decide +kernel, loc := by decide +kernel, gl := by decide +kernel }
theorem loIw_3 : (zc sIw).names.lookup ("_law_numbers" : Str) = some .local := by decide +kernel
def rEqTe : R2 := fun x y H Q => ∃ (a z : Addr) (xs : List V), x = .ref a ∧ y = .ref z ∧ H a = some (.tup xs) ∧ H z = some (.tup []) ∧ Q (.bl xs.isEmpty) H
theorem op_eqTe {X : Cx} {k : Nat} (hr : Room k X.A) : OpR X (compareOp .Eq) rEqTe := by
 intro pins s σ H x y v u Q I rx ry h
 obtain ⟨a, z, xs, rfl, rfl, ha, hz, q⟩ := h
 cases rx
 cases ry
 have hu := hr.units
 obtain ⟨its, r, pl, _⟩ := I.tuple (SqT.of ha)
 obtain ⟨its2, r2, pl2, _⟩ := I.tuple (SqT.of hz)
 have e2 : its2 = [] := r2.nil_iff.mpr rfl
 subst e2
 have R := SeqAt.RcAt.tuples (A := X.A) (e := fun _ => true) pl pl2 (by omega) (fun j h1 h2 => absurd h2 (by simp))
 refine R X.prog X.w X.xe _ ⟨.bl _, H, I, rfl, ?_⟩
 have e : ((List.range (min its.toArray.size (#[] : Array Value).size)).all (fun _ => true) && its.toArray.size == (#[] : Array Value).size) = xs.isEmpty := by
  cases xs with
  | nil =>
   have e1 : its = [] := r.nil_iff.mpr rfl
   subst e1
   rfl
  | cons y ys =>
   have hne : its ≠ [] := fun e => by have := r.nil_iff.mp e; cases this
   simp [hne]
 rw [← e] at q
 exact q
def YH (G : Addr → List Int → HO) : List V → Hp → VK → Prop := fun xs H Q => ∃ (p : Addr) (ns : List Int), xs = [.ref p] ∧ H p = some (.lst (ns.map V.int)) ∧ ns.Pairwise (· < ·) ∧ ns.length ≤ 60 ∧ ∀ q H', Same H H' → H' q = some (G q ns) → Q (.ref q) H'
def rSrt (G : Addr → List Int → HO) : List V → Hp → VK → Prop := fun xs H Q => ∃ (q : Addr) (ns : List Int), xs = [.ref q] ∧ H q = some (G q ns) ∧ ns.Pairwise (· < ·) ∧ ns.length ≤ 60 ∧ ∀ d H', Same H H' → H' d = some (.lst (ns.map V.int)) → Q (.ref d) H'
theorem vy : ∀ (ns acc : List Int), (acc ++ ns).Pairwise (· < ·) → ns.foldl SB.addK acc = acc ++ ns
 | [], acc, _ => by simp
 | n :: ns, acc, h => by
  have hn : n ∉ acc := fun z => by
   have := (List.pairwise_append.mp h).2.2 n z n List.mem_cons_self
   omega
  have e : SB.addK acc n = acc ++ [n] := by unfold SB.addK; rw [if_neg hn]
  rw [List.foldl_cons, e, vy ns (acc ++ [n]) (by simpa using h)]
  simp
theorem vq : ∀ {rs ks : List Int}, rs.Perm ks → ks.Pairwise (· < ·) → rs.Pairwise (· ≤ ·) → rs = ks
 | [], ks, p, _, _ => by rw [List.nil_perm.mp p]
 | r :: rs, [], p, _, _ => by cases p.length_eq
 | r :: rs, k :: ks, p, hk, hr => by
  have e : r = k := by
   have a : k ≤ r := by
    rcases List.mem_cons.mp (p.mem_iff.mp (List.mem_cons_self (a := r) (l := rs))) with z | z
    ·omega
    ·have := (List.pairwise_cons.mp hk).1 r z; omega
   have b : r ≤ k := by
    rcases List.mem_cons.mp (p.mem_iff.mpr (List.mem_cons_self (a := k) (l := ks))) with z | z
    ·omega
    ·exact (List.pairwise_cons.mp hr).1 k z
   omega
  subst e
  rw [vq ((List.perm_cons r).mp p) (List.pairwise_cons.mp hk).2 (List.pairwise_cons.mp hr).2]
theorem hsL {X : Cx} {k : Nat} (hr : Room k X.A) : zT X (.type "set") (YH (stO X.prog X.w)) := by
 intro pins s σ H xs us Q I r h
 obtain ⟨p, ns, rfl, hp, hw, hn, q⟩ := h
 refine call_setR hr pins s σ H _ us Q I r ⟨p, ns, rfl, hp, by omega, fun a ha => q a _ (Same.new (Same.refl _) ha) ?_⟩
 rw [vy ns [] (by simpa using hw)]
 exact zf
theorem hsS {X : Cx} {k : Nat} (hr : Room k X.A) : zT X (.builtin "sorted") (rSrt (stO X.prog X.w)) := by
 intro pins s σ H xs us Q I r h
 obtain ⟨p, ns, rfl, hp, hw, hn, q⟩ := h
 refine call_srtR hr pins s σ H _ us Q I r ⟨p, ns, rfl, hp, by omega, fun a rs ha h1 h2 => q a _ (Same.new (Same.refl _) ha) ?_⟩
 rw [vq h1 hw h2]
 exact zf
theorem w_neL {H : Hp} {Q : VK} {p q : Addr} {ns ms : List Int} (hp : H p = some (.lst (ns.map V.int))) (hq : H q = some (.lst (ms.map V.int))) (h : Q (.bl (!decide (ns = ms))) H) : G2.rNeD (.ref p) (.ref q) H Q := by
 refine ⟨_, _, .lst hp (vO ns), .lst hq (vO ms), vb ns, vb ms, ?_, ?_⟩
 ·show PyData.depthAll _ + 1 ≤ 60
  rw [vh]
  decide
 ·show Q (.bl (!PyData.eqvAll _ _)) H
  rw [Zu]
  exact h
theorem Zp {m : Int} : ∀ (ws : List (Int × Int)) (lo : Int), ws.Pairwise (fun a b => a.1 < b.1) → (∀ w ∈ ws, lo ≤ w.1 ∧ w.1 < m) → lo ≤ m → lo + ws.length ≤ m
 | [], lo, _, _, h => by simpa using h
 | w :: ws, lo, hp, hb, h => by
  have h0 := hb w List.mem_cons_self
  rw [List.pairwise_cons] at hp
  have ih := Zp ws (w.1 + 1) hp.2 (fun u hu => ⟨by have := hp.1 u hu; omega, (hb u (List.mem_cons_of_mem _ hu)).2⟩) (by omega)
  rw [List.length_cons]
  omega
theorem PsA.at' {H : Hp} {qs : List Addr} {ws : List (Int × Int)} {i : Nat} {r : Addr} (h : PsA H qs ws) (e : qs[i]? = some r) : ∃ w, ws[i]? = some w ∧ w ∈ ws ∧ H r = some (.tup [.int w.1, .int w.2]) := by
 have hi : i < ws.length := by rw [← h.1]; exact (List.getElem?_eq_some_iff.mp e).1
 exact ⟨ws[i], List.getElem?_eq_getElem hi, List.getElem_mem hi, h.2 i r _ e (List.getElem?_eq_getElem hi)⟩
theorem vK {n i j : Nat} {rows : List (List Int × Int)} (hi : i < rows.length) (hj : j < n) : vec n rows (n + i) j = (rows[i]).1.getD j 0 := by
 unfold vec
 rw [if_neg (by omega), Nat.add_sub_cancel_left, List.getElem?_eq_getElem hi]
 show (if j < n then _ else _) = _
 rw [if_pos hj]
 rfl
theorem vJ {n i : Nat} {rows : List (List Int × Int)} (hi : i < rows.length) : vec n rows (n + i) n = (rows[i]).2 := by
 unfold vec
 rw [if_neg (by omega), Nat.add_sub_cancel_left, List.getElem?_eq_getElem hi]
 show (if n < n then _ else if n = n then _ else _) = _
 rw [if_neg (Nat.lt_irrefl _), if_pos rfl]
 rfl
theorem atI_lastN {xs : List V} {v : V} {k : Nat} (h : xs.length = k + 1) (e : xs[k]? = some v) : atI xs (-1) = some v := by
 unfold atI ixN
 rw [if_neg (by decide), if_pos (by omega), show ((-1 : Int) + (xs.length : Int)).toNat = k by omega]
 exact e
theorem PrA.row {H : Hp} {n i : Nat} {rows : List (List Int × Int)} {l : Addr} {ras bas : List Addr} (h : PrA H n rows l ras bas) (hi : i < rows.length) : ∃ a b, atI (ras.map V.ref) (i : Int) = some (.ref a) ∧ H a = some (.tup [.ref b, .int (rows[i]).2]) ∧ H b = some (.tup ((rows[i]).1.map V.int)) := by
 obtain ⟨a, b, f1, f2, f3, f4⟩ := h.at_ i (rows[i]).1 (rows[i]).2 (List.getElem?_eq_getElem hi)
 exact ⟨a, b, zu (by rw [List.getElem?_map, f1]; rfl), f3, f4⟩
def spIw : Sp := fun vs H Q _ => ∃ (l q p : Addr) (n : Nat) (rows : List (List Int × Int)) (qs : List Addr) (ws : List (Int × Int)), vs = [.int (n : Int), .ref l, .ref q] ∧ PrAt H n rows l ∧ n ≤ 40 ∧ rows.length ≤ 60 ∧ H q = some (.tup [.str "weights", .ref p]) ∧ H p = some (.tup (qs.map V.ref)) ∧ PsA H qs ws ∧ Bw n rows.length (vec n rows) ws ∧ (∀ r ∈ rows, (∀ y ∈ r.1, Bb y) ∧ Bb r.2) ∧ (∀ w ∈ ws, Bb w.2) ∧ ∀ H', Same H H' → Q (.bl true) H'
section
variable {P : Program} {w : World} {K : W.Frag} {mg : Str → Option Value} {base : Heap}
theorem ok_Iw {f : Addr} {fd : FuncData} (B : Bl mg) (fW : Has P w K mg base 1 "_law_whole" ["_law_thing"] spWl) (F : Fun K "_law_is_weights" "_law_is_weights" sIw f fd) : FnOk P w K mg base CX0 2 f fd ["_law_many", "_law_rows", "_law_found"] spIw := by
 refine F.ok scIw (fun vs H Q E h => ?_) (fun cdv A outer s H vs Q E hr h => ?_)
 ·obtain ⟨l, q, p, n, rows, qs, ws, rfl, _⟩ := h
  rfl
 obtain ⟨l, q, p, n, rows, qs, ws, rfl, hP, hn, hm, eq, ep, hW, hB, bR, bW, k⟩ := h
 refine' ⟨_, ?hb, ?rd⟩
 case' hb => skip
 case' hb => refine' ze ?g1 ?g2
 case' g2 => refine' ze ?g3 ?g4
 case' g4 => refine' ze ?g5 ?g6
 case' g6 => refine' ze ?g7 ?g8
 case' g8 => refine' ze ?g9 ?g10
 case' g10 => refine' ze ?g11 ?g12
 case' g12 => refine' zi ?g13
 case' g1 => refine' zQ ?g14 ?g15 zE
 case g14 => exact PW.pt (yV (zm yX (zM zt B.len PySem.boot_len (pa_1 (pvd nmIw 2))) zd (zo _)) (yV (wW (yQ (zM vn B.isi PyProof.Rows.boot_isinstance (pa_2 (ziq (pvd nmIw 2) zd) (xN (v := .ty "tuple") rfl B.tuple PyProof.Rows.boot_tuple rfl))))) (xk (zm (op_eqTe hr) (ziq (pvd nmIw 2) zd) (zR yz) (zo _)))))
 case' g15 => refine' zi ?g17
 case g17 => exact zr yW
 case' g3 => refine' yk (i := 3) (ix := []) nmIw.nd rfl loIw_3 bsIwa.toCScope rfl rfl ?g18 ?g19 ?g20 ?g21
 case g18 => exact x8 (ziq (pvd nmIw 2) zd)
 case g19 =>
  intro _ _ _ _ _ _
  refine' zX (n := 2) rfl ?g22
  case' g22 => refine' zn ?g26 ?g25
  case g26 => exact pgb bsIwa 0
  case' g25 => refine' zn ?g28 zO
  case g28 => exact pgb bsIwa 1
 case g20 => exact fun _ _ _ _ _ _ => zy
 case g21 => exact fun _ _ _ _ _ _ => pvb bsIwa 0
 case' g5 => refine' zQ ?g29 ?g30 zE
 case' g29 => refine' zm wa yW ?g32 (by with_unfolding_all rfl)
 case' g32 => refine' zI (ix := []) bsIwb.toCScope rfl rfl ?g33 ?g34 ?g35 ?g36
 case g33 => exact zP (pvd nmIw 3)
 case g34 => exact fun _ _ _ _ _ _ => pgb bsIwb 0
 case g35 => exact fun _ _ _ _ _ _ => zy
 case g36 => exact fun _ _ _ _ _ _ => pe_f fW hr (by decide) (pa_1 (pvb bsIwb 0)) (bsIwb.g 0)
 case' g30 => refine' zi ?g37
 case g37 => exact zr yW
 case' g7 => refine' zQ ?g38 ?g39 zE
 case g38 => exact PW.pt (yV (zm (op_neD hr) (pvd nmIw 3) (zM (hsS hr) B.sorted PyProof.Rows.boot_sorted (pa_1 (yy (hsL hr) B.set PyProof.Rows.boot_set (pa_1 (pvd nmIw 3))))) (zo _)) (yV (zm xq (ziq (pvd nmIw 3) zd) zd (zo _)) (xk (zm YS (ziq (pvd nmIw 3) (xo yw zd)) (zM zt B.len PySem.boot_len (pa_1 (pvd nmIw 1))) (zo _)))))
 case' g39 => refine' zi ?g41
 case g41 => exact zr yW
 case' g9 => refine' zQ ?g42 ?g43 zE
 case' g42 => refine' zm (YR hr) ?g45 (yp yz) (zo _)
 case' g45 => refine' zI (ix := []) bsIwc.toCScope rfl rfl ?g46 ?g47 ?g48 ?g49
 case g46 => exact x8 (ziq (pvd nmIw 2) zd)
 case g47 =>
  intro _ _ _ _ _ _
  refine' zX (n := 2) rfl ?g50
  case' g50 => refine' zn ?g54 ?g53
  case g54 => exact pgb bsIwc 0
  case' g53 => refine' zn ?g56 zO
  case g56 => exact pgb bsIwc 1
 case g48 => exact fun _ _ _ _ _ _ => xI (PW.pt (yV (wW (yQ (pe_f fW hr (by decide) (pa_1 (pvb bsIwc 1)) (bsIwc.g 0)))) (xk (zm xq (pvb bsIwc 1) zd (zo _)))))
 case g49 => exact fun _ _ _ _ _ _ => pvb bsIwc 1
 case' g43 => refine' zi ?g57
 case g57 => exact zr yW
 case' g11 => refine' yR PassesOwn.never rfl ?g58 (pgd nmIw 4) ?g59
 case g58 => exact yx B.range (pa_1 (pvd nmIw 0))
 case' g59 => refine' zi ?g60
 case' g60 => refine' zQ ?g61 ?g62 zE
 case' g61 => refine' zm yX ?g64 zd (zo _)
 case' g64 => refine' zM (xr rfl) B.sum PyProof.Rows.boot_sum ?g65
 case' g65 => refine' pa_1 ?g66
 case' g66 => refine' zI (ix := [4, 1]) bsIwd.toCScope rfl rfl ?g67 ?g68 ?g69 ?g70
 case g67 => exact x8 (ziq (pvd nmIw 2) zd)
 case g68 =>
  intro _ _ _ _ _ _
  refine' zX (n := 2) rfl ?g71
  case' g71 => refine' zn ?g75 ?g74
  case g75 => exact pgb bsIwd 0
  case' g74 => refine' zn ?g77 zO
  case g77 => exact pgb bsIwd 1
 case g69 => exact fun _ _ _ _ _ _ => zy
 case g70 => exact fun _ _ _ _ _ _ => zk zG (pvb bsIwd 1) (ziq (ziq (ziq (pvb bsIwd 3) (pvb bsIwd 0)) zd) (pvb bsIwd 2))
 case' g62 => refine' zi ?g78
 case g78 => exact zr yW
 case' g13 => refine' zr ?g79
 case' g79 => refine' yF op_le ?g80 (xo yw zd) (zo _)
 case' g80 => refine' zM (xr rfl) B.sum PyProof.Rows.boot_sum ?g81
 case' g81 => refine' pa_1 ?g82
 case' g82 => refine' zI (ix := [1]) bsIwe.toCScope rfl rfl ?g83 ?g84 ?g85 ?g86
 case g83 => exact x8 (ziq (pvd nmIw 2) zd)
 case g84 =>
  intro _ _ _ _ _ _
  refine' zX (n := 2) rfl ?g87
  case' g87 => refine' zn ?g91 ?g90
  case g91 => exact pgb bsIwe 0
  case' g90 => refine' zn ?g93 zO
  case g93 => exact pgb bsIwe 1
 case g85 => exact fun _ _ _ _ _ _ => zy
 case g86 => exact fun _ _ _ _ _ _ => zk zG (pvb bsIwe 1) (ziq (ziq (pvb bsIwe 2) (pvb bsIwe 0)) zd)
 have h60 : ws.length ≤ 60 := by
  have := Zp (m := rows.length) ws 0 hB.rise hB.rng (by omega)
  omega
 walk_at "v"
 refine ⟨q, _, rfl, .inr (SqT.of eq), ?_⟩
 walk_at "v"
 refine ⟨rfl, _, rfl, ?_⟩
 refine zH (fun h => by simp at h) (fun _ => ?_)
 walk_at "v"
 refine yb eq rfl ?_
 walk_at "v"
 refine ⟨p, _, rfl, ep, _, rfl, ?_⟩
 refine zH (fun h => by simp at h) (fun _ => ?_)
 walk_at "v"
 refine yb eq rfl ?_
 walk_at "v"
 refine ⟨Nat.zero_le _, fun z hz => ?_⟩
 obtain ⟨H1, q, k1, e1⟩ := nob (.tup []) hz; rw [q]; clear q
 refine ⟨p, z, _, rfl, rfl, k1 _ _ ep, e1, _, rfl, ?_⟩
 have hqne : (qs.map V.ref).isEmpty = false := by
  cases qs with
  | nil =>
   have := hW.1
   exact absurd (List.length_eq_zero_iff.mp this.symm) hB.ne
  | cons => rfl
 rw [hqne]
 refine zH (fun h => by cases h) (fun _ => ?_)
 walk_at "v"
 refine yb (k1 _ _ eq) rfl ?_
 walk_at "v"
 refine ⟨p, rfl, ⟨_, SqT.of (k1 _ _ ep)⟩, fun D2 hD2 => ?_⟩
 have W1 := hW.same k1
 refine vX (S := Same) (rs := qs) (fun i y _ => ∃ w, ws[i]? = some w ∧ y = .int w.1) (Kp.same hD2) (fun _ h => h) (fun _ b => TK.same b) (by rw [hW.1]; omega) (fun H2 k2 => SqT.of (k2 _ _ (k1 _ _ ep))) (fun i r H2 er k2 => ?_) (fun ys H2 gp e2 => ?_)
 ·obtain ⟨w', ew, hm', ea⟩ := (W1.same k2).at' er
  refine ⟨_, _, ea, fun R kR => ?_⟩
  walk_at "v"
  exact kR _ _ (Same.refl _) ⟨w', ew, rfl⟩
 obtain ⟨k2, hl2, hy2⟩ := gp
 obtain rfl := xP (zs := ws) (f := fun w => V.int w.1) (by rw [hl2, hW.1]) hy2
 have e2' : H2 D2 = some (.lst ((ws.map (·.1)).map V.int)) := by rw [e2, List.map_map]; rfl
 clear e2 hy2 hl2 hD2
 have K2 := k1.trans k2
 walk_at "v"
 refine ⟨D2, rfl, ⟨_, SqL.of e2'⟩, fun D3 hD3 => ?_⟩
 refine v7 (ws := ws.map (·.1)) V.int (fun _ => V.bl true) e2' (by rw [List.length_map]; omega) hD3 (fun y hy H' K' R' kR => ?_) (fun H3 K3 e3 => ?_)
 ·walk_at "v"
  refine ⟨y, rfl, ?_⟩
  exact kR _ (Same.refl _)
 walk_at "v"
 have hf : ∀ ws : List Int, (ws.map fun _ => V.bl true).all xx = true ∧ inV (.bl false) (ws.map fun _ => V.bl true) = false := fun ws => by
  induction ws with
  | nil => exact ⟨rfl, rfl⟩
  | cons w ws ih =>
   refine ⟨by rw [List.map_cons, List.all_cons, ih.1]; rfl, ?_⟩
   have := ih.2
   unfold inV at this ⊢
   rw [List.map_cons, List.any_cons, this]
   rfl
 refine ⟨D3, _, rfl, .inl (SqL.of e3), rfl, (hf _).1, ?_⟩
 rw [(hf _).2]
 refine ⟨_, rfl, ?_⟩
 refine zH (fun h => by cases h) (fun _ => ?_)
 have KK3 := K2.trans K3
 have d3 := K3 _ _ e2'
 clear e3 hD3
 have hrise : (ws.map (·.1)).Pairwise (· < ·) := List.pairwise_map.mpr hB.rise
 walk_at "v"
 refine ⟨D2, _, rfl, d3, hrise, by rw [List.length_map]; omega, fun s4 H4 K4 e4 => ?_⟩
 walk_at "v"
 refine ⟨s4, _, rfl, e4, hrise, by rw [List.length_map]; omega, fun d5 H5 K5 e5 => ?_⟩
 have d5' := K5 _ _ (K4 _ _ d3)
 walk_at "v"
 refine w_neL d5' e5 ?_
 refine ⟨_, rfl, ?_⟩
 refine zH (fun h => by simp at h) (fun _ => ?_)
 have KK5 := (KK3.trans K4).trans K5
 clear d3 K3 e4 e5 K4 K5
 obtain ⟨w0, ws0, rfl⟩ : ∃ w0 ws0, ws = w0 :: ws0 := by
  cases ws with
  | nil => exact absurd rfl hB.ne
  | cons w0 ws0 => exact ⟨w0, ws0, rfl⟩
 walk_at "v"
 refine zv (v := .int w0.1) d5' (zu (j := 0) rfl) ?_
 walk_at "v"
 have h0 := hB.rng w0 List.mem_cons_self
 refine iteD (fun h => absurd h (by omega)) (fun _ => ?_)
 walk_at "v"
 refine ⟨_, rfl, ?_⟩
 have hll : ws0.length < (w0 :: ws0).length := by simp
 obtain ⟨wl, hwl⟩ : ∃ wl, (w0 :: ws0)[ws0.length]? = some wl := ⟨_, List.getElem?_eq_getElem hll⟩
 refine zv (v := .int wl.1) d5' (atI_lastN (k := ws0.length) (by simp) (by rw [List.map_map, List.getElem?_map, hwl]; rfl)) ?_
 obtain ⟨ras, bas, hA⟩ := hP.same KK5
 walk_at "v"
 refine ⟨l, _, rfl, .inl (SqL.of hA.ob), ?_⟩
 rw [List.length_map, hA.rl]
 walk_at "v"
 have hlr := hB.rng wl (List.mem_of_getElem? hwl)
 refine iteD (fun h => absurd h (by omega)) (fun _ => ?_)
 generalize w0 :: ws0 = ws at *
 walk_at "v"
 refine yb (KK5 _ _ eq) rfl ?_
 walk_at "v"
 refine ⟨p, rfl, ⟨_, SqT.of (KK5 _ _ ep)⟩, fun D6 hD6 => ?_⟩
 refine cg_none2T (KK5 _ _ ep) hD6 (fun i r H' er K' => ?_) (fun H6 K6 e6 => ?_)
 ·obtain ⟨w', ew, hm', ea⟩ := ((hW.same KK5).same K').at' er
  refine ⟨_, _, ea, fun QB kB => ?_⟩
  walk_at "v"
  refine ⟨w'.2, rfl, ?_⟩
  refine ⟨_, rfl, ?_⟩
  refine zH (fun h => by cases h) (fun _ => ?_)
  walk_at "v"
  have hp := hB.pos w' hm'
  rw [decide_eq_false (by omega)]
  exact kB _ (Same.refl _)
 walk_at "v"
 refine ⟨Nat.zero_le _, fun z hz => ?_⟩
 obtain ⟨H7, q, k7, e7⟩ := nob (.lst []) hz; rw [q]; clear q
 refine ⟨D6, z, [], rfl, rfl, k7 _ _ e6, e7, _, rfl, ?_⟩
 refine zH (fun h => by cases h) (fun _ => ?_)
 have KK7 := (KK5.trans K6).trans k7
 clear hA
 walk_at "v"
 refine ⟨_, rfl, by omega, by omega, ?_⟩
 rw [Int.toNat_natCast]
 refine yu (n := n) (fun i σ H' => ∃ u4, σ = [some (.int (n : Int)), some (.ref l), some (.ref q), some (.ref D2), u4] ∧ Same H H') ⟨_, rfl, KK7⟩ ?_ ?_
 ·rintro j σ H8 hj ⟨u4, rfl, K8⟩
  obtain ⟨ras, bas, hA⟩ := hP.same K8
  walk_at "v"
  refine yb (K8 _ _ eq) rfl ?_
  walk_at "v"
  refine ⟨p, rfl, ⟨_, SqT.of (K8 _ _ ep)⟩, fun D9 hD9 => ?_⟩
  refine vX (S := Same) (rs := qs) (fun i y _ => ∃ w, ws[i]? = some w ∧ y = .int (w.2 * vec n rows (n + w.1.toNat) j)) (Kp.same hD9) (fun _ h => h) (fun _ b => TK.same b) (by rw [hW.1]; omega) (fun H2 k2 => SqT.of (k2 _ _ (K8 _ _ ep))) (fun i r H2 er k2 => ?_) (fun ys H9 gp e9 => ?_)
  ·obtain ⟨w', ew, hm', ea⟩ := ((hW.same K8).same k2).at' er
   have hr' := hB.rng w' hm'
   obtain ⟨i', hi'⟩ : ∃ i' : Nat, w'.1 = (i' : Int) := ⟨w'.1.toNat, by omega⟩
   have hil : i' < rows.length := by omega
   obtain ⟨a, b, g1, g2, g3⟩ := hA.row hil
   have hrm := List.getElem_mem hil
   refine ⟨_, _, ea, fun R kR => ?_⟩
   walk_at "v"
   refine zv (k2 _ _ hA.ob) (by rw [hi']; exact g1) ?_
   walk_at "v"
   refine yb (k2 _ _ g2) rfl ?_
   walk_at "v"
   rw [Int.zero_add]
   refine yb (k2 _ _ g3) (atL (by rw [hA.wd _ hrm]; exact hj)) ?_
   refine ⟨_, _, rfl, rfl, mulBb (bW _ hm') ((bR _ hrm).1 _ (w8 (by rw [hA.wd _ hrm]; exact hj))), ?_⟩
   refine kR _ _ (Same.refl _) ⟨w', ew, ?_⟩
   rw [hi', Int.toNat_natCast, vK hil hj]
  obtain ⟨k9, hl9, hy9⟩ := gp
  obtain rfl := xP (zs := ws) (f := fun w => V.int (w.2 * vec n rows (n + w.1.toNat) j)) (by rw [hl9, hW.1]) hy9
  walk_at "v"
  refine ⟨D9, ws.map fun w => w.2 * vec n rows (n + w.1.toNat) j, rfl, by rw [e9, List.map_map]; rfl, ?_⟩
  have hz0 : (ws.map fun w => w.2 * vec n rows (n + w.1.toNat) j).sum = 0 := hB.zer j hj
  rw [hz0]
  walk_at "v"
  refine ⟨rfl, _, rfl, ?_⟩
  refine zH (fun h => by simp at h) (fun _ => ?_)
  exact ⟨_, rfl, K8.trans k9⟩
 ·rintro σ H8 ⟨u4, rfl, K8⟩
  obtain ⟨ras, bas, hA⟩ := hP.same K8
  walk_at "v"
  refine yb (K8 _ _ eq) rfl ?_
  walk_at "v"
  refine ⟨p, rfl, ⟨_, SqT.of (K8 _ _ ep)⟩, fun D9 hD9 => ?_⟩
  refine vX (S := Same) (rs := qs) (fun i y _ => ∃ w, ws[i]? = some w ∧ y = .int (w.2 * vec n rows (n + w.1.toNat) n)) (Kp.same hD9) (fun _ h => h) (fun _ b => TK.same b) (by rw [hW.1]; omega) (fun H2 k2 => SqT.of (k2 _ _ (K8 _ _ ep))) (fun i r H2 er k2 => ?_) (fun ys H9 gp e9 => ?_)
  ·obtain ⟨w', ew, hm', ea⟩ := ((hW.same K8).same k2).at' er
   have hr' := hB.rng w' hm'
   obtain ⟨i', hi'⟩ : ∃ i' : Nat, w'.1 = (i' : Int) := ⟨w'.1.toNat, by omega⟩
   have hil : i' < rows.length := by omega
   obtain ⟨a, b, g1, g2, g3⟩ := hA.row hil
   have hrm := List.getElem_mem hil
   refine ⟨_, _, ea, fun R kR => ?_⟩
   walk_at "v"
   refine zv (k2 _ _ hA.ob) (by rw [hi']; exact g1) ?_
   walk_at "v"
   refine yb (k2 _ _ g2) rfl ?_
   refine ⟨_, _, rfl, rfl, mulBb (bW _ hm') (bR _ hrm).2, ?_⟩
   refine kR _ _ (Same.refl _) ⟨w', ew, ?_⟩
   rw [hi', Int.toNat_natCast, vJ hil]
  obtain ⟨k9, hl9, hy9⟩ := gp
  obtain rfl := xP (zs := ws) (f := fun w => V.int (w.2 * vec n rows (n + w.1.toNat) n)) (by rw [hl9, hW.1]) hy9
  walk_at "v"
  refine ⟨D9, ws.map fun w => w.2 * vec n rows (n + w.1.toNat) n, rfl, by rw [e9, List.map_map]; rfl, ?_⟩
  have hz0 : (ws.map fun w => w.2 * vec n rows (n + w.1.toNat) n).sum ≤ -1 := hB.neg
  generalize (ws.map fun w => w.2 * vec n rows (n + w.1.toNat) n).sum = sm0 at hz0 ⊢
  walk_at "v"
  refine ⟨_, rfl, ?_⟩
  walk_at "v"
  rw [decide_eq_true (show sm0 ≤ -1 from hz0)]
  exact k _ (K8.trans k9)
abbrev sKi : Stmt := top 18
abbrev nKi : List Str := ["_law_many", "_law_rows", "_law_kept", "_law_found"]
theorem nmKi : Nm nKi (zc sKi) := nmk (by decide +kernel)
theorem scKi : FnScope nKi ["_law_many", "_law_rows"] (zc sKi) := fsk (by decide +kernel)
theorem SameT.k {p1 p2 : Addr} {H H' : Hp} (T : Tbs H p1 p2) (s : SameT p1 p2 H H') : ∀ a u, H a = some u → (∀ ps, u ≠ .tbl ps) → H' a = some u := fun a u e h => by
 obtain ⟨⟨q1, e1, _⟩, q2, e2, _⟩ := T
 exact s a u (fun z => by rw [z, e1] at e; cases e; exact h _ rfl) (fun z => by rw [z, e2] at e; cases e; exact h _ rfl) e
theorem yo {p1 p2 : Addr} {H H' : Hp} (T : Tbs H p1 p2) (k : Same H H') : Tbs H' p1 p2 := ⟨T.1.keep (fun _ e => k _ _ e) (fun _ _ e => k _ _ e), T.2.keep (fun _ e => k _ _ e) (fun _ _ e => k _ _ e)⟩
theorem wI {H : Hp} {l : Addr} {n : Nat} {rows : List (List Int × Int)} (h : PrAt H n rows l) : ∃ us, H l = some (.lst us) ∧ PW H us rows := by
 obtain ⟨ras, bas, g⟩ := h
 refine ⟨_, g.ob, by rw [List.length_map, g.rl], fun j y e => ?_⟩
 have hj : j < rows.length := by rw [← g.rl]; simpa using (List.getElem?_eq_some_iff.mp e).1
 obtain ⟨a, b, e1, e2, e3, e4⟩ := g.at_ j (rows[j]).1 (rows[j]).2 (List.getElem?_eq_getElem hj)
 rw [List.getElem?_map, e1] at e
 cases e
 exact ⟨rows[j], a, b, List.getElem?_eq_getElem hj, rfl, e3, e4⟩
def rowD (r : List Int × Int) : PyData := .tuple [.tuple (r.1.map PyData.int), .int r.2]
theorem wH {H : Hp} : ∀ {us : List V} {rows : List (List Int × Int)}, PW H us rows → RdVs H us (rows.map rowD)
 | [], [], _ => .nil
 | [], _ :: _, h => by have := h.1; simp at this
 | _ :: _, [], h => by have := h.1; simp at this
 | u :: us, r :: rows, h => by
  obtain ⟨r', q, b, e1, rfl, e3, e4⟩ := h.2 0 u rfl
  cases e1
  refine .cons (.tup e3 (.cons (.tup e4 (vO r.1)) (.cons (.int r.2) .nil))) (wH ⟨by have := h.1; simpa using this, fun j y e => ?_⟩)
  obtain ⟨r', q, b, f1, f2⟩ := h.2 (j + 1) y (by simpa using e)
  exact ⟨r', q, b, by simpa using f1, f2⟩
theorem shw_rows {n : Nat} {rows : List (List Int × Int)} (hn : n ≤ 9) (hm : rows.length ≤ 60) (wd : ∀ r ∈ rows, r.1.length = n) (bd : ∀ r ∈ rows, (∀ y ∈ r.1, Bg y) ∧ Bg r.2) : Shw (.list (rows.map rowD)) 101400 3 := by
 refine (Shw.lsts (n := 1687) (h := 2) fun d hd => ?_).up (by rw [List.length_map]; omega) (by decide)
 obtain ⟨r, hr, rfl⟩ := List.mem_map.mp hd
 have h := bd r hr
 refine (Shw.tups (n := 840) (h := 1) fun d hd => ?_).up (by show (840 + 2) * 2 + 3 ≤ 1687; decide) (by decide)
 rcases List.mem_cons.mp hd with rfl | hd
 ·refine (Shw.tups (n := 91) (h := 0) fun d hd => ?_).up (by rw [List.length_map, wd r hr]; omega) (by decide)
  obtain ⟨y, hy, rfl⟩ := List.mem_map.mp hd
  exact Shw.big (h.1 y hy)
 ·rw [List.mem_singleton.mp hd]
  exact (Shw.big h.2).up (by decide) (by decide)
theorem met_R {n : Nat} {rows : List (List Int × Int)} {x : Nat → Int} {d : Int} (wd : ∀ r ∈ rows, r.1.length = n) (h : Met n rows.length (vec n rows) x d) : MetR rows ((List.range n).map x) d := fun r hr => by
 obtain ⟨i, hi, rfl⟩ := List.getElem_of_mem hr
 have := h i hi
 rw [vJ hi, zx (g := fun j => (rows[i]).1.getD j 0 * ((List.range n).map x).getD j 0) fun j hj => by
  rw [vK hi hj, List.getD_eq_getElem?_getD (l := (List.range n).map x), List.getElem?_map, List.getElem?_range hj]; rfl] at this
 rw [yG, wd _ hr]
 exact this
theorem R_met {n : Nat} {rows : List (List Int × Int)} {x : List Int} {d : Int} (wd : ∀ r ∈ rows, r.1.length = n) (h : MetR rows x d) : Met n rows.length (vec n rows) (fun j => x.getD j 0) d := fun i hi => by
 have := h _ (List.getElem_mem hi)
 rw [yG, wd _ (List.getElem_mem hi)] at this
 rw [vJ hi, zx (g := fun j => (rows[i]).1.getD j 0 * x.getD j 0) fun j hj => by rw [vK hi hj]]
 exact this
theorem bw_no {n : Nat} {rows : List (List Int × Int)} {ws : List (Int × Int)} (wd : ∀ r ∈ rows, r.1.length = n) (W : Bw n rows.length (vec n rows) ws) : ¬Feas n rows := fun ⟨x, d, hd, hx, hM⟩ => not_both hd W (R_met wd hM)
structure RG (n : Nat) (rows : List (List Int × Int)) : Prop where
 n9 : n ≤ 9
 m60 : rows.length ≤ 60
 bd : ∀ r ∈ rows, (∀ x ∈ r.1, x.natAbs ≤ 10 ^ 40) ∧ r.2.natAbs ≤ 10 ^ 40
def spKi (p1 p2 : Addr) : Sp := fun vs H Q _ => ∃ (l : Addr) (n : Nat) (rows : List (List Int × Int)), vs = [.int (n : Int), .ref l] ∧ PrAt H n rows l ∧ RG n rows ∧ Tbs H p1 p2 ∧
 (∀ H', SameT p1 p2 H H' → Tbs H' p1 p2 → Feas n rows → Q (.str "numbers") H') ∧ (∀ H', SameT p1 p2 H H' → Tbs H' p1 p2 → ¬Feas n rows → Q (.str "weights") H')
variable {p1 p2 : Addr}
theorem ok_Ki {f : Addr} {fd : FuncData} (B : Bl mg) (fG : Has P w K mg base 5 "weighed" ["many", "problem"] (spWg p1 p2)) (fI : Has P w K mg base 2 "_law_is_numbers" ["_law_many", "_law_rows", "_law_found"] spIn) (fJ : Has P w K mg base 2 "_law_is_weights" ["_law_many", "_law_rows", "_law_found"] spIw) (F : Fun K "_law_kind" "_law_kind" sKi f fd) : FnOk P w K mg base CX0 6 f fd ["_law_many", "_law_rows"] (spKi p1 p2) := by
 refine F.ok scKi (fun vs H Q E h => ?_) (fun cdv A outer s H vs Q E hr h => ?_)
 ·obtain ⟨l, n, rows, rfl, _⟩ := h
  rfl
 obtain ⟨l, n, rows, rfl, hP, hG, hT, k1, k2⟩ := h
 refine' ⟨_, ?hb, ?rd⟩
 case' hb => skip
 case' hb => refine' ze ?g1 ?g2
 case' g2 => refine' ze ?g3 ?g4
 case' g4 => refine' ze ?g5 ?g6
 case' g6 => refine' ze ?g7 ?g8
 case' g8 => refine' zi ?g9
 case g1 => exact zq nmKi 2 (zM (vB hr) B.repr PyProof.Rows.boot_repr (pa_1 (pvd nmKi 1)))
 case g3 => exact zq nmKi 3 (pe_f fG hr (by decide) (pa_2 (pvd nmKi 0) (pvd nmKi 1)))
 case' g5 => refine' zQ ?g10 ?g11 zE
 case g10 => exact PW.pt (yV (wW (yQ (zM vn B.isi PyProof.Rows.boot_isinstance (pa_2 (pvd nmKi 3) (xN (v := .ty "tuple") rfl B.tuple PyProof.Rows.boot_tuple rfl))))) (xk (zm yX (zM (vB hr) B.repr PyProof.Rows.boot_repr (pa_1 (pvd nmKi 1))) (pvd nmKi 2) (zo _))))
 case' g11 => refine' zi ?g13
 case g13 => exact zr vR
 case' g7 => refine' zQ ?g14 ?g15 zE
 case g14 => exact PW.pt (xz (zm Zj (ziq (pvd nmKi 3) zd) xp (zo _)) (yP (yQ (pe_f fI hr (by decide) (pa_c (pvd nmKi 0) (pa_2 (pvd nmKi 1) (pvd nmKi 3)))))))
 case' g15 => refine' zi ?g17
 case g17 => exact zr xp
 case g9 => exact zr (wY (PW.pt (xz (zm Zj (ziq (pvd nmKi 3) zd) xp (zo _)) (yP (yQ (pe_f fJ hr (by decide) (pa_c (pvd nmKi 0) (pa_2 (pvd nmKi 1) (pvd nmKi 3)))))))) xp vR)
 have n9 := hG.n9
 have m60 := hG.m60
 obtain ⟨us, el, hPW⟩ := wI hP
 have wd : ∀ r ∈ rows, r.1.length = n := let ⟨_, _, g⟩ := hP; g.wd
 have bg : ∀ r ∈ rows, (∀ y ∈ r.1, Bg y) ∧ Bg r.2 := fun r hr => ⟨fun y hy => Nat.lt_of_le_of_lt ((hG.bd r hr).1 y hy) (by decide), Nat.lt_of_le_of_lt (hG.bd r hr).2 (by decide)⟩
 have bb : ∀ r ∈ rows, (∀ y ∈ r.1, Bb y) ∧ Bb r.2 := fun r hr => ⟨fun y hy => bb_of (m := 200) (Nat.lt_of_le_of_lt ((hG.bd r hr).1 y hy) (by decide)) (by decide), bb_of (m := 200) (Nat.lt_of_le_of_lt (hG.bd r hr).2 (by decide)) (by decide)⟩
 have sh := shw_rows n9 m60 wd bg
 have hS : PrS n rows (10 ^ 40) := ⟨by omega, m60, by decide, hG.bd, by
  have h1 : fac (n + 1) * (10 ^ 40) ^ (n + 1) ≤ fac 10 * (10 ^ 40) ^ 10 := by
   rcases (by omega : n = 0 ∨ n = 1 ∨ n = 2 ∨ n = 3 ∨ n = 4 ∨ n = 5 ∨ n = 6 ∨ n = 7 ∨ n = 8 ∨ n = 9) with rfl | rfl | rfl | rfl | rfl | rfl | rfl | rfl | rfl | rfl <;> decide +kernel
  exact Nat.lt_of_le_of_lt h1 (by decide +kernel)⟩
 walk_at "v"
 refine ⟨_, _, rfl, .lst el (wH hPW), sh.s, sh.nd, Nat.le_trans sh.p (by decide), Nat.le_trans sh.l (by decide), ?_⟩
 walk_at "v"
 refine ⟨l, n, rows, _, rfl, hP, hS, hT, fun H1 q p x d s1 t1 hd hM bd bx eq ep => ?_, fun H1 q p qs ws s1 t1 hB bw eq ep hW => ?_⟩
 ·have kk := s1.k hT
  have P1 : PrAt H1 n rows l := let ⟨ras, bas, g⟩ := hP; ⟨ras, bas, g.same kk⟩
  obtain ⟨us', el', hPW'⟩ := wI P1
  walk_at "v"
  refine ⟨q, _, rfl, eq, _, rfl, ?_⟩
  refine zH (fun h => by simp at h) (fun _ => ?_)
  walk_at "v"
  refine ⟨_, _, rfl, .lst el' (wH hPW'), sh.s, sh.nd, Nat.le_trans sh.p (by decide), Nat.le_trans sh.l (by decide), ?_⟩
  walk_at "v"
  refine ⟨rfl, _, rfl, ?_⟩
  refine zH (fun h => by simp at h) (fun _ => ?_)
  walk_at "v"
  refine yb eq rfl ?_
  walk_at "v"
  refine ⟨rfl, _, rfl, ?_⟩
  refine zH (fun _ => ?_) (fun h => by simp at h)
  have hMR := met_R wd hM
  walk_at "v"
  refine ⟨l, q, p, n, rows, (List.range n).map x, d, rfl, P1, by omega, m60, eq, by rw [ep, List.map_map]; rfl, by simp, hd, hMR, bb, fun y hy => ?_, bb_of (m := 4000) bd (by decide), fun H2 K2 => ?_⟩
  ·obtain ⟨j, hj, rfl⟩ := List.mem_map.mp hy
   exact bb_of (m := 4000) (bx j (List.mem_range.mp hj)) (by decide)
  refine ⟨_, rfl, ?_⟩
  refine zH (fun _ => ?_) (fun h => by cases h)
  walk_at "v"
  exact k1 _ (fun a u n1 n2 e => K2 _ _ (s1 a u n1 n2 e)) (yo t1 K2) ⟨_, d, hd, by simp, hMR⟩
 ·have kk := s1.k hT
  have P1 : PrAt H1 n rows l := let ⟨ras, bas, g⟩ := hP; ⟨ras, bas, g.same kk⟩
  obtain ⟨us', el', hPW'⟩ := wI P1
  walk_at "v"
  refine ⟨q, _, rfl, eq, _, rfl, ?_⟩
  refine zH (fun h => by simp at h) (fun _ => ?_)
  walk_at "v"
  refine ⟨_, _, rfl, .lst el' (wH hPW'), sh.s, sh.nd, Nat.le_trans sh.p (by decide), Nat.le_trans sh.l (by decide), ?_⟩
  walk_at "v"
  refine ⟨rfl, _, rfl, ?_⟩
  refine zH (fun h => by simp at h) (fun _ => ?_)
  walk_at "v"
  refine yb eq rfl ?_
  walk_at "v"
  refine ⟨rfl, _, rfl, ?_⟩
  refine zH (fun h => absurd h (by decide)) (fun _ => ?_)
  refine zH (fun h => by cases h) (fun _ => ?_)
  walk_at "v"
  refine yb eq rfl ?_
  walk_at "v"
  refine ⟨rfl, _, rfl, ?_⟩
  refine zH (fun _ => ?_) (fun h => by simp at h)
  walk_at "v"
  refine ⟨l, q, p, n, rows, qs, ws, rfl, P1, by omega, m60, eq, ep, hW, hB, bb, fun w' hw' => bb_of (m := 4000) (bw w' hw') (by decide), fun H2 K2 => ?_⟩
  refine ⟨_, rfl, ?_⟩
  refine zH (fun _ => ?_) (fun h => by cases h)
  walk_at "v"
  exact k2 _ (fun a u n1 n2 e => K2 _ _ (s1 a u n1 n2 e)) (yo t1 K2) (bw_no wd hB)
abbrev sLw : Stmt := top 19
abbrev nLw : List Str := ["_law_script", "_law_k", "_law_feed_here", "_law_many", "_law_way", "_law_rows", "_law_found"]
theorem nmLw : Nm nLw (zc sLw) := nmk (by decide +kernel)
theorem scLw : FnScope nLw ["_law_script"] (zc sLw) := fsk (by decide +kernel)
def qLwa (s : Stmt) : Scope := match s with
 | .For _ _ [_, _, _, _, (.If _ [(.Assign _ (.ListComp _ _ sc _) _)] _ _), _, _, _] _ _ => sc
 | _ => nsc
abbrev cLwa : Scope := qLwa ((zj sLw).getD 0 (.Pass ⟨0, 0, 0, 0⟩))
theorem bsLwa : BScope (zc sLw) cLwa ["_law_by", "_law_plus"] [] ["tuple"] := { okind := by decide +kernel, kind := by decide +kernel, nocell := by decide +kernel, names := by decide +kernel, fr := by decide +kernel, ff := by decide +kernel, nd := by decide +kernel, vis := by decide +kernel, loc := by decide +kernel, gl := by decide +kernel }
theorem loLw_5 : (zc sLw).names.lookup ("_law_rows" : Str) = some .local := by decide +kernel
def qLwb (s : Stmt) : Scope := match s with
 | .For _ _ [_, _, _, _, (.If _ [(.Assign _ (.ListComp (.Tuple [(.Call _ [.ListComp _ _ sc _] _ _), _] _ _) _ _ _) _)] _ _), _, _, _] _ _ => sc
 | _ => nsc
abbrev cLwb : Scope := qLwb ((zj sLw).getD 0 (.Pass ⟨0, 0, 0, 0⟩))
theorem bsLwb : BScope (ye cLwa (zc sLw)) cLwb ["_law_one"] [] [] := { okind := by decide +kernel, kind := by decide +kernel, nocell := by decide +kernel, names := by decide +kernel, fr := by decide +kernel, ff := by decide +kernel, nd := by decide +kernel, vis := by decide +kernel, loc := by decide +kernel, gl := by decide +kernel }
theorem pi_tupB {X : Cx} {tg l : Expr} {tl : TE} {K : W.Frag} (hl : PE X l tl) (hK : X.K = K) : PI X tg l (iTup K tl) := hK ▸ x8 hl
theorem sql_keep {K : W.Frag} {H H' : Hp} {a : Addr} {xs : List V} (h : SqL K H a xs) (k : ∀ u, H a = some u → (∀ ps, u ≠ .tbl ps) → H' a = some u) : SqL K H' a xs := by
 rcases h with (h | ⟨o, h⟩) | h
 ·exact .inl (.inl (k _ h fun ps z => by cases z))
 ·exact .inl (.inr ⟨o, k _ h fun ps z => by cases z⟩)
 ·exact .inr h
theorem w_sb {p1 p2 p : Addr} {H0 H1 H2 : Hp} (hp : H0 p = none) (k : SameT p1 p2 H0 H1) (b : SB p H1 H2) : SameT p1 p2 H0 H2 := fun a u n1 n2 e => b.1 a u (zg e hp) (k a u n1 n2 e)
theorem Yw {p1 p2 p : Addr} {H1 H2 : Hp} (T : Tbs H1 p1 p2) (F : FeedAt H1 p) (b : SB p H1 H2) : Tbs H2 p1 p2 := by
 obtain ⟨x, y, z, e⟩ := F
 exact ⟨T.1.keep (fun _ h => b.1 _ _ (fun w => by rw [w, e] at h; cases h) h) (fun _ _ h => b.1 _ _ (fun w => by rw [w, e] at h; cases h) h), T.2.keep (fun _ h => b.1 _ _ (fun w => by rw [w, e] at h; cases h) h) (fun _ _ h => b.1 _ _ (fun w => by rw [w, e] at h; cases h) h)⟩
def scR (c : Int) (rows : List (List Int × Int)) : List (List Int × Int) := rows.map fun r => (r.1.map (· * c), r.2 * c)
theorem dotL_mulR {xs ys : List Int} {c : Int} : dotL (xs.map (· * c)) ys = c * dotL xs ys := by
 rw [← vf]
 exact congrArg (fun zs => dotL zs ys) (List.map_congr_left fun x _ => Int.mul_comm x c)
theorem feas_sc {n : Nat} {c : Int} {rows : List (List Int × Int)} (hc : 0 < c) : Feas n (scR c rows) ↔ Feas n rows := by
 have e : ∀ (r : List Int × Int) (x : List Int) (d : Int), dotL (r.1.map (· * c)) x + r.2 * c * d = c * (dotL r.1 x + r.2 * d) := fun r x d => by
  rw [dotL_mulR, Int.mul_add, Int.mul_comm r.2 c, Int.mul_assoc]
 constructor
 ·rintro ⟨x, d, h1, h2, h3⟩
  refine ⟨x, d, h1, h2, fun r hr => ?_⟩
  have := h3 _ (List.mem_map.mpr ⟨r, hr, rfl⟩)
  rw [show dotL (r.1.map (· * c), r.2 * c).1 x + (r.1.map (· * c), r.2 * c).2 * d = _ from e r x d] at this
  exact Int.nonneg_of_mul_nonneg_right (a := c) this hc
 ·rintro ⟨x, d, h1, h2, h3⟩
  refine ⟨x, d, h1, h2, fun r hr => ?_⟩
  obtain ⟨r', hr', rfl⟩ := List.mem_map.mp hr
  rw [show dotL (r'.1.map (· * c), r'.2 * c).1 x + (r'.1.map (· * c), r'.2 * c).2 * d = _ from e r' x d]
  exact Int.mul_nonneg (by omega) (h3 r' hr')
theorem xT {n : Nat} {rs rows : List (List Int × Int)} (h : ∀ r, r ∈ rs ↔ r ∈ rows) : Feas n rs ↔ Feas n rows := ⟨fun f => f.mono fun r hr => (h r).mpr hr, fun f => f.mono fun r hr => (h r).mp hr⟩
theorem Y0 {p1 p2 : Addr} {H : Hp} {Q : VK} {E : XK} {l : Addr} {n : Nat} {rows : List (List Int × Int)} (v : Str) (h1 : Feas n rows → v = "numbers") (h2 : ¬Feas n rows → v = "weights") (P : PrAt H n rows l) (G : RG n rows) (T : Tbs H p1 p2) (k : ∀ H', SameT p1 p2 H H' → Tbs H' p1 p2 → Q (.str v) H') : spKi p1 p2 [.int (n : Int), .ref l] H Q E :=
 ⟨l, n, rows, rfl, P, G, T, fun H' s t f => h1 f ▸ k H' s t, fun H' s t f => h2 f ▸ k H' s t⟩
theorem w_revLK {K : W.Frag} {te : TE} {ts : TO} {σ : St} {H : Hp} {Q : VK} (h : te σ H fun x H1 => ts σ H1 fun k H2 => k = some (-1) ∧ ∃ a xs, x = .ref a ∧ SqL K H2 a xs ∧ ∀ p, H2 p = none → Q (.ref p) (upd H2 p (.lst xs.reverse))) : Xe K te ts σ H Q := h
theorem cut_two (us : List V) : ∃ t, cutV us none (some 2) = us.take t ∧ t ≤ 2 := by
 match us with
 | [] => exact ⟨0, rfl, by decide⟩
 | [x] => exact ⟨1, rfl, by decide⟩
 | x :: y :: us => exact ⟨2, Y7 (k := 2) (by simp), Nat.le_refl _⟩
def ZX (K : W.Frag) (p1 p2 : Addr) : Sp := fun vs H Q _ => ∃ (a : Addr) (ns : List Int), vs = [.ref a] ∧ SqL K H a (ns.map V.int) ∧ ns.length ≤ 63 ∧ Tbs H p1 p2 ∧ ∀ H', Q (.bl true) H'
variable {p1 p2 : Addr}
theorem ok_Lw {f : Addr} {fd : FuncData} (B : Bl mg) (fF : Has P w K mg base 1 "_law_feed" ["_law_script", "_law_k"] (YB K)) (fD : Has P w K mg base 1 "_law_draw" ["_law_feed_here", "_law_many"] xZ) (fP : Has P w K mg base 4 "_law_problem" ["_law_feed_here", "_law_many", "_law_way"] spPb) (fK : Has P w K mg base 6 "_law_kind" ["_law_many", "_law_rows"] (spKi p1 p2)) (F : Fun K "law" "law" sLw f fd) : FnOk P w K mg base CX0 7 f fd ["_law_script"] (ZX K p1 p2) := by
 refine F.ok scLw (fun vs H Q E h => ?_) (fun cdv A outer s H vs Q E hr h => ?_)
 ·obtain ⟨a, ns, rfl, _⟩ := h
  rfl
 obtain ⟨a, ns, rfl, hS, hl, hT, k⟩ := h
 refine' ⟨_, ?hb, ?rd⟩
 case' hb => skip
 case' hb => refine' ze ?g1 ?g2
 case' g2 => refine' zi ?g3
 case' g1 => refine' yR PassesOwn.never rfl ?g4 (pgd nmLw 1) ?g5
 case g4 => exact yx B.range (pa_1 zd)
 case' g5 => refine' ze ?g6 ?g7
 case' g7 => refine' ze ?g8 ?g9
 case' g9 => refine' ze ?g10 ?g11
 case' g11 => refine' ze ?g12 ?g13
 case' g13 => refine' ze ?g14 ?g15
 case' g15 => refine' ze ?g16 ?g17
 case' g17 => refine' ze ?g18 ?g19
 case' g19 => refine' zi ?g20
 case g6 => exact zq nmLw 2 (pe_f fF hr (by decide) (pa_2 (pvd nmLw 0) (pvd nmLw 1)))
 case g8 => exact zq nmLw 3 (ziq (yp (pa_c (pe_f fD hr (by decide) (pa_2 (pvd nmLw 2) zd)) (pa_c (pe_f fD hr (by decide) (pa_2 (pvd nmLw 2) zd)) (pa_2 (pe_f fD hr (by decide) (pa_2 (pvd nmLw 2) zd)) zd)))) (pe_f fD hr (by decide) (pa_2 (pvd nmLw 2) zd)))
 case g10 => exact zq nmLw 4 (pe_f fD hr (by decide) (pa_2 (pvd nmLw 2) zd))
 case g12 => exact zq nmLw 5 (pe_f fP hr (by decide) (pa_c (pvd nmLw 2) (pa_2 (pvd nmLw 3) (pvd nmLw 4))))
 case' g14 => refine' zQ ?g21 ?g22 zE
 case g21 => exact zm Zj (pe_f fD hr (by decide) (pa_2 (pvd nmLw 2) zd)) zd (zo _)
 case' g22 => refine' zi ?g24
 case' g24 => refine' yk (i := 5) (ix := []) nmLw.nd rfl loLw_5 bsLwa.toCScope rfl rfl ?g25 ?g26 ?g27 ?g28
 case g25 => exact zP (pvd nmLw 5)
 case g26 =>
  intro _ _ _ _ _ _
  refine' zX (n := 2) rfl ?g29
  case' g29 => refine' zn ?g33 ?g32
  case g33 => exact pgb bsLwa 0
  case' g32 => refine' zn ?g35 zO
  case g35 => exact pgb bsLwa 1
 case g27 => exact fun _ _ _ _ _ _ => zy
 case g28 =>
  intro _ _ _ _ _ _
  refine' zR ?x0
  case' x0 => refine' pa_2 ?x1 ?x9
  case x9 => exact zk zG (pvb bsLwa 1) (zk ZI zd zd)
  case' x1 => refine' yy ya B.tuple PyProof.Rows.boot_tuple ?x2 (bsLwa.g 0)
  case' x2 => refine' pa_1 ?x3
  case x3 =>
   refine' zI (ix := []) bsLwb.toCScope rfl rfl ?i3 ?i4 ?i5 ?i6
   case i3 => exact pi_tupB (K := K) (pvb bsLwa 0) rfl
   case i4 => exact fun _ _ _ _ _ _ => pgb bsLwb 0
   case i5 => exact fun _ _ _ _ _ _ => zy
   case i6 => exact fun _ _ _ _ _ _ => zk zG (pvb bsLwb 0) (zk ZI zd zd)
 case g16 => exact zq nmLw 6 (pe_f fK hr (by decide) (pa_2 (pvd nmLw 3) (pvd nmLw 5)))
 case' g18 => refine' zQ ?g36 ?g37 zE
 case g36 => exact PW.pt (yV (ZG (YQ (pvd nmLw 6))) (yV (PW.pt (xz (zm wa (pvd nmLw 4) (zR (pa_2 zd zd)) (by with_unfolding_all rfl)) (yP (zm yX (pvd nmLw 6) xp (zo _))))) (xk (PW.pt (xz (zm wC (pvd nmLw 4) zd (zo _)) (yP (zm yX (pvd nmLw 6) xp (zo _))))))))
 case' g37 => refine' zi ?g39
 case g39 => exact zr yW
 case' g20 => refine' zQ ?g40 ?g41 zE
 case g40 => exact PW.pt (yV (zm yX (pe_f fK hr (by decide) (pa_2 (pvd nmLw 3) (pe_revL (pvd nmLw 5) (xJ (xo yw zd))))) (pvd nmLw 6) (zo _)) (xk (zm yX (pe_f fK hr (by decide) (pa_2 (pvd nmLw 3) (zk vT (pvd nmLw 5) (xK vN (pvd nmLw 5) wJ (xJ zd))))) (pvd nmLw 6) (zo _))))
 case' g41 => refine' zi ?g43
 case g43 => exact zr yW
 case g3 => exact zr yW
 walk_at "v"
 refine ⟨_, rfl, by decide, by decide, ?_⟩
 refine yu (n := 8) (fun i σ H' => ∃ (u1 u2 u3 u4 u5 u6 : Option V), σ = [some (.ref a), u1, u2, u3, u4, u5, u6] ∧ SameT p1 p2 H H' ∧ Tbs H' p1 p2) ⟨_, _, _, _, _, _, rfl, fun a u _ _ e => e, hT⟩ ?_ ?_
 ·rintro i σ H1 hi ⟨u1, u2, u3, u4, u5, u6, rfl, S1, T1⟩
  have hS1 : SqL K H1 a (ns.map V.int) := sql_keep hS fun u e hu => S1.k hT _ _ e hu
  rw [Int.zero_add]
  walk_at "v"
  refine ⟨a, ns, i, rfl, hS1, hl, fun p x y z hp => ?_⟩
  have F2 : FeedAt (upd H1 p (.lst [.int x, .int y, .int z])) p := FeedAt.here
  have k2 : Same H1 (upd H1 p (.lst [.int x, .int y, .int z])) := Same.new (Same.refl _) hp
  generalize upd H1 p (.lst [.int x, .int y, .int z]) = H2 at F2 k2 ⊢
  have S2' : SameT p1 p2 H1 H2 := fun a u _ _ e => k2 _ _ e
  have T2 := yo T1 k2
  walk_at "v"
  refine ⟨p, 6, rfl, F2, by decide, by decide, fun m1 x y z h10 h11 => ?_⟩
  have k3 : SB p H2 (upd H2 p (.lst [.int x, .int y, .int z])) := SB.drawn
  have F3 := k3.2 F2
  generalize upd H2 p (.lst [.int x, .int y, .int z]) = H3 at F3 k3 ⊢
  walk_at "v"
  refine ⟨p, 6, rfl, F3, by decide, by decide, fun m2 x y z h20 h21 => ?_⟩
  have k4 : SB p H3 (upd H3 p (.lst [.int x, .int y, .int z])) := SB.drawn
  have F4 := k4.2 F3
  generalize upd H3 p (.lst [.int x, .int y, .int z]) = H4 at F4 k4 ⊢
  walk_at "v"
  refine ⟨p, 6, rfl, F4, by decide, by decide, fun m3 x y z h30 h31 => ?_⟩
  have k5 : SB p H4 (upd H4 p (.lst [.int x, .int y, .int z])) := SB.drawn
  have F5 := k5.2 F4
  generalize upd H4 p (.lst [.int x, .int y, .int z]) = H5 at F5 k5 ⊢
  walk_at "v"
  refine ⟨sz4, fun l6 hl6 => ?_⟩
  obtain ⟨H6, q, k6, e6⟩ := nob (.lst [.int m1, .int m2, .int m3, .int 9]) hl6; rw [q]; clear q
  have F6 := (SB.same k6).2 F5
  walk_at "v"
  refine ⟨p, 4, rfl, F6, by decide, by decide, fun m4 x y z h40 h41 => ?_⟩
  have k7 : SB p H6 (upd H6 p (.lst [.int x, .int y, .int z])) := SB.drawn
  have F7 := k7.2 F6
  have e7 := k7.1 _ _ (F5.np hl6) e6
  generalize upd H6 p (.lst [.int x, .int y, .int z]) = H7 at F7 k7 e7 ⊢
  obtain ⟨n, hn, hn9⟩ : ∃ n : Nat, atI [V.int m1, .int m2, .int m3, .int 9] m4 = some (.int (n : Int)) ∧ n ≤ 9 := by
   rcases (by omega : m4 = 0 ∨ m4 = 1 ∨ m4 = 2 ∨ m4 = 3) with rfl | rfl | rfl | rfl
   ·exact ⟨m1.toNat, by rw [Int.toNat_of_nonneg h10]; rfl, by omega⟩
   ·exact ⟨m2.toNat, by rw [Int.toNat_of_nonneg h20]; rfl, by omega⟩
   ·exact ⟨m3.toNat, by rw [Int.toNat_of_nonneg h30]; rfl, by omega⟩
   ·exact ⟨9, rfl, by decide⟩
  refine zv e7 hn ?_
  have k27 : SB p H2 H7 := k3.trans (k4.trans (k5.trans ((SB.same k6).trans k7)))
  walk_at "v"
  refine ⟨p, 6, rfl, F7, by decide, by decide, fun way x y z hw0 hw1 => ?_⟩
  have k8 : SB p H7 (upd H7 p (.lst [.int x, .int y, .int z])) := SB.drawn
  have F8 := k8.2 F7
  generalize upd H7 p (.lst [.int x, .int y, .int z]) = H8 at F8 k8 ⊢
  walk_at "v"
  refine ⟨p, n, way, rfl, F8, hn9, hw0, hw1, fun l H9 rows k9 L9 R9 hl9 hA hB => ?_⟩
  have k29 : SB p H2 H9 := k27.trans (k8.trans k9)
  have S9 : SameT p1 p2 H1 H9 := fun a u n1 n2 e => k29.1 a u (zg e hp) (k2 _ _ e)
  have T9 : Tbs H9 p1 p2 := Yw T2 F2 k29
  clear k3 k4 k5 k6 k7 k8 k9 k27 k29 F2 F3 F4 F5 F6 F7 F8 e6 e7 T2 S2' k2
  refine vH ?_
  dsimp only
  refine vI (M := fun σ H' => ∃ (l' : Addr) (rows' : List (List Int × Int)), σ = [some (.ref a), some (.int (i : Int)), some (.ref p), some (.int (n : Int)), some (.int way), some (.ref l'), u6] ∧ SameT p1 p2 H1 H' ∧ Tbs H' p1 p2 ∧ PrAt H' n rows' l' ∧ RG n rows' ∧ rows'.length ≤ 34 ∧ (Feas n rows' ↔ Feas n rows)) ?_ ?_
  ·rintro σ H3 ⟨l', rows', rfl, S3, T3, P3, G3, hl3, hF⟩
   rw [← hF] at hA hB
   obtain ⟨v, hv1, hv2⟩ : ∃ v : Str, (Feas n rows' → v = "numbers") ∧ (¬Feas n rows' → v = "weights") := by
    by_cases hf : Feas n rows'
    ·exact ⟨_, fun _ => rfl, fun h => absurd hf h⟩
    ·exact ⟨_, fun h => absurd h hf, fun _ => rfl⟩
   walk_at "v"
   refine Y0 v hv1 hv2 P3 G3 T3 fun H4 S4 T4 => ?_
   refine vH ?_
   dsimp only
   refine vI (M := fun σ H' => σ = [some (.ref a), some (.int (i : Int)), some (.ref p), some (.int (n : Int)), some (.int way), some (.ref l'), some (.str v)] ∧ SameT p1 p2 H3 H' ∧ Tbs H' p1 p2) ?_ ?_
   ·rintro σ H5 ⟨rfl, S5, T5⟩
    have P5 : PrAt H5 n rows' l' := let ⟨ras, bas, g⟩ := P3; ⟨ras, bas, g.same (S5.k T3)⟩
    obtain ⟨us, e5, W5⟩ := wI P5
    have wd5 : ∀ r ∈ rows', r.1.length = n := let ⟨_, _, g⟩ := P5; g.wd
    walk_at "v"
    refine w_revLK ?_
    walk_at "v"
    refine ⟨_, rfl, ?_⟩
    walk_at "v"
    refine ⟨_, rfl, rfl, l', us, rfl, SqL.of e5, fun q6 hq6 => ?_⟩
    obtain ⟨H6, q, k6, e6⟩ := nob (.lst us.reverse) hq6; rw [q]; clear q
    have S6 : SameT p1 p2 H5 H6 := fun a u _ _ e => k6 _ _ e
    have T6 := yo T5 k6
    have W6 : PW H6 us rows' := W5.tk (TK.same k6)
    have m6 : ∀ r, r ∈ rows'.reverse ↔ r ∈ rows' := fun r => List.mem_reverse
    walk_at "v"
    refine Y0 v (fun h => hv1 ((xT m6).mp h)) (fun h => hv2 fun z => h ((xT m6).mpr z)) (W6.rev.prat e6 fun r hr => wd5 r ((m6 r).mp hr)) ⟨G3.n9, by rw [List.length_reverse]; exact G3.m60, fun r hr => G3.bd r ((m6 r).mp hr)⟩ T6 fun H7 S7 T7 => ?_
    walk_at "v"
    refine ⟨rfl, _, rfl, ?_⟩
    refine zH (fun h => by simp at h) (fun _ => ?_)
    have e7 := S7.k T6 _ _ (k6 _ _ e5) (fun ps z => by cases z)
    have W7 : PW H7 us rows' := ⟨W6.1, fun j y e => let ⟨r, q, b, f1, f2, f3, f4⟩ := W6.2 j y e; ⟨r, q, b, f1, f2, S7.k T6 _ _ f3 (fun ps z => by cases z), S7.k T6 _ _ f4 (fun ps z => by cases z)⟩⟩
    walk_at "v"
    refine ⟨_, rfl, ?_⟩
    walk_at "v"
    refine ⟨l', us, rfl, SqL.of e7, fun q8 hq8 => ?_⟩
    obtain ⟨H8, q, k8, e8⟩ := nob (.lst (cutV us none (some 2))) hq8; rw [q]; clear q
    obtain ⟨t, ht, ht2⟩ := cut_two us
    rw [ht] at e8
    have W8 : PW H8 us rows' := W7.tk (TK.same k8)
    have ul := W8.1
    walk_at "v"
    refine ⟨l', q8, us, _, rfl, rfl, k8 _ _ e7, e8, by rw [List.length_take]; exact Nat.le_trans (by omega : _ ≤ 100) (by decide), fun q9 hq9 => ?_⟩
    have k9 : Same H8 (upd H8 q9 (.lst (us ++ us.take t))) := Same.new (Same.refl _) hq9
    have e9 : upd H8 q9 (.lst (us ++ us.take t)) q9 = some (.lst (us ++ us.take t)) := zf
    generalize upd H8 q9 (.lst (us ++ us.take t)) = H9' at k9 e9 ⊢
    have W9 : PW H9' us rows' := W8.tk (TK.same k9)
    have T9' := yo (yo T7 k8) k9
    have m9 : ∀ r, r ∈ rows' ++ rows'.take t ↔ r ∈ rows' := fun r => by
     rw [List.mem_append]
     exact ⟨fun h => h.elim id List.mem_of_mem_take, .inl⟩
    walk_at "v"
    refine Y0 v (fun h => hv1 ((xT m9).mp h)) (fun h => hv2 fun z => h ((xT m9).mpr z)) ((W9.app (W9.take t)).prat e9 fun r hr => wd5 r ((m9 r).mp hr)) ⟨G3.n9, by rw [List.length_append, List.length_take]; omega, fun r hr => G3.bd r ((m9 r).mp hr)⟩ T9' fun H10 S10 T10 => ?_
    walk_at "v"
    refine ⟨rfl, _, rfl, ?_⟩
    refine zH (fun h => by simp at h) (fun _ => ?_)
    walk_at "v"
    refine ⟨_, _, _, _, _, _, rfl, fun a u n1 n2 e => S10 a u n1 n2 (k9 _ _ (k8 _ _ (S7 a u n1 n2 (k6 _ _ (S5 a u n1 n2 (S3 a u n1 n2 (S1 a u n1 n2 e))))))), T10⟩
   ·intro C hC
    walk_at "v"
    refine Xb ?_
    walk_at "v"
    refine zH (fun h => by simp at h) (fun _ => ?_)
    walk_at "v"
    refine ⟨sz2, fun z5 hz5 => ?_⟩
    obtain ⟨H5, q, k5, e5⟩ := nob (.tup [.int 2, .int 3]) hz5; rw [q]; clear q
    have hCC := hC _ H5 ⟨rfl, fun a u n1 n2 e => k5 _ _ (S4 a u n1 n2 e), yo T4 k5⟩
    refine ⟨z5, _, rfl, .inr (SqT.of e5), rfl, rfl, ?_⟩
    walk_at "v"
    have inB : inV (.int way) [.int 2, .int 3] = decide (way = 2 ∨ way = 3) := by
     rcases (by omega : way = 0 ∨ way = 1 ∨ way = 2 ∨ way = 3 ∨ way = 4 ∨ way = 5) with rfl | rfl | rfl | rfl | rfl | rfl <;> rfl
    by_cases h23 : way = 2 ∨ way = 3
    ·have hv : v = "numbers" := hv1 (hA (by omega) (by omega))
     refine zH (fun _ => ?_) (fun h => by rw [inB, decide_eq_true h23] at h; cases h)
     walk_at "v"
     rw [hv] at hCC ⊢
     refine ⟨rfl, _, rfl, ?_⟩
     refine zH (fun h => absurd h (by decide)) (fun _ => ?_)
     walk_at "v"
     refine iteD (fun h => absurd h (by omega)) (fun _ => ?_)
     walk_at "v"
     exact hCC
    ·refine zH (fun h => by rw [inB, decide_eq_false h23] at h; cases h) (fun _ => ?_)
     walk_at "v"
     refine iteD (fun h3 => ?_) (fun h3 => ?_)
     ·have hv : v = "weights" := hv2 (hB (by omega))
      walk_at "v"
      rw [hv] at hCC ⊢
      refine ⟨rfl, _, rfl, ?_⟩
      refine zH (fun h => absurd h (by decide)) (fun _ => ?_)
      walk_at "v"
      exact hCC
     ·walk_at "v"
      exact hCC
  ·intro C hC
   walk_at "v"
   refine ⟨p, 8, rfl, L9.fd, by decide, by decide, fun sc x y z hs0 hs1 => ?_⟩
   have k10 : SB p H9 (upd H9 p (.lst [.int x, .int y, .int z])) := SB.drawn
   have L10 := L9.sb k10
   have S10 : SameT p1 p2 H1 (upd H9 p (.lst [.int x, .int y, .int z])) := w_sb hp S9 k10
   have T10 := Yw T9 L9.fd k10
   generalize upd H9 p (.lst [.int x, .int y, .int z]) = H10 at L10 k10 S10 T10 ⊢
   walk_at "v"
   refine ⟨rfl, _, rfl, ?_⟩
   refine zH (fun _ => ?_) (fun _ => ?_)
   ·obtain ⟨ras, bas, hA10⟩ := L10.pr
    walk_at "v"
    refine ⟨l, rfl, ⟨_, SqL.of hA10.ob⟩, fun D hD => ?_⟩
    have hc30 : ((10 : Int) ^ (30 : Int).toNat) = 10 ^ 30 := rfl
    refine Yn (S := Same) (rs := ras) (fun i y H' => ∃ r q b, (scR (10 ^ 30) rows)[i]? = some r ∧ y = .ref q ∧ H' q = some (.tup [.ref b, .int r.2]) ∧ H' b = some (.tup (r.1.map V.int))) (Kp.same hD) (fun k ⟨r, q, b, f1, f2, f3, f4⟩ => ⟨r, q, b, f1, f2, k.t _ _ f3, k.t _ _ f4⟩) (fun _ b => TK.same b) (by rw [hA10.rl]; omega) (fun H2 k2 => SqL.of (k2 _ _ hA10.ob)) (fun i r H2 er k2 => ?_) (fun ys H11 gp e11 => ?_)
    ·have hi : i < rows.length := by rw [← hA10.rl]; exact (List.getElem?_eq_some_iff.mp er).1
     obtain ⟨a', b', f1, f2, f3, f4⟩ := hA10.at_ i (rows[i]).1 (rows[i]).2 (List.getElem?_eq_getElem hi)
     rw [er] at f1
     cases f1
     have hr := List.getElem_mem hi
     have hbd := R9.bd _ hr
     have hwd := hA10.wd _ hr
     have hsr : (scR (10 ^ 30) rows)[i]? = some ((rows[i]).1.map (· * 10 ^ 30), (rows[i]).2 * 10 ^ 30) := by unfold scR; rw [List.getElem?_map, List.getElem?_eq_getElem hi]; rfl
     generalize rows[i] = row at f3 f4 hbd hwd hsr
     refine ⟨_, _, k2 _ _ f3, fun R kR => ?_⟩
     walk_at "v"
     refine ⟨b', rfl, ⟨_, SqT.of (k2 _ _ f4)⟩, fun D3 hD3 => ?_⟩
     refine Y8 (ws := row.1) V.int (fun x => V.int (x * 10 ^ 30)) (SqT.of (k2 _ _ f4)) (by omega) hD3 (fun y hy H' K' R' kR' => ?_) (fun H4 K4 e4 => ?_)
     ·have hy' := hbd.1 y hy
      walk_at "v"
      refine ⟨_, _, rfl, rfl, ⟨by decide, by decide, by decide⟩, ?_⟩
      refine ⟨_, _, rfl, rfl, mulBb (zC (by omega)) (bb_of (m := 200) (by decide) (by decide)), ?_⟩
      exact kR' _ (Same.refl _)
     have e4' : H4 D3 = some (.lst ((row.1.map (· * 10 ^ 30)).map V.int)) := by rw [e4, List.map_map]; rfl
     walk_at "v"
     refine ⟨D3, _, rfl, e4', fun q5 H5 k5 e5 => ?_⟩
     walk_at "v"
     refine ⟨_, _, rfl, rfl, ⟨by decide, by decide, by decide⟩, ?_⟩
     refine ⟨_, _, rfl, rfl, mulBb (zC (by omega)) (bb_of (m := 200) (by decide) (by decide)), ?_⟩
     walk_at "v"
     refine ⟨sz2, fun q6 hq6 => ?_⟩
     exact kR _ _ ((K4.trans k5).trans (Same.new (Same.refl _) hq6)) ⟨_, q6, q5, hsr, rfl, zf, by rw [zh (zg e5 hq6)]; exact e5⟩
    obtain ⟨k11, hl11, hy11⟩ := gp
    have hsl : (scR (10 ^ 30) rows).length = rows.length := List.length_map _
    have P11 : PW H11 ys (scR (10 ^ 30) rows) := ⟨by rw [hl11, hA10.rl, hsl], hy11⟩
    have wd11 : ∀ r ∈ scR (10 ^ 30) rows, r.1.length = n := fun r hr => by
     obtain ⟨r', hr', rfl⟩ := List.mem_map.mp hr
     rw [List.length_map]; exact hA10.wd r' hr'
    walk_at "v"
    refine hC _ _ ⟨D, _, rfl, fun a u n1 n2 e => k11 _ _ (S10 a u n1 n2 e), yo T10 k11, P11.prat e11 wd11, ⟨hn9, by rw [hsl]; omega, fun r hr => ?_⟩, by rw [hsl]; exact hl9, feas_sc (by decide)⟩
    obtain ⟨r', hr', rfl⟩ := List.mem_map.mp hr
    have hbd := R9.bd _ hr'
    refine ⟨fun y hy => ?_, ?_⟩
    ·obtain ⟨y', hy', rfl⟩ := List.mem_map.mp hy
     rw [Int.natAbs_mul]
     exact Nat.le_trans (Nat.mul_le_mul (hbd.1 y' hy') (by decide : (10 ^ 30 : Int).natAbs ≤ 10 ^ 30)) (by decide)
    ·show (r'.2 * 10 ^ 30).natAbs ≤ _
     rw [Int.natAbs_mul]
     exact Nat.le_trans (Nat.mul_le_mul hbd.2 (by decide : (10 ^ 30 : Int).natAbs ≤ 10 ^ 30)) (by decide)
   ·exact hC _ _ ⟨l, rows, rfl, S10, T10, L10.pr, ⟨hn9, by omega, fun r hr => ⟨fun x hx => Nat.le_trans ((R9.bd r hr).1 x hx) (by decide), Nat.le_trans (R9.bd r hr).2 (by decide)⟩⟩, hl9, Iff.rfl⟩
 ·rintro σ H1 ⟨u1, u2, u3, u4, u5, u6, rfl, S1, T1⟩
  walk_at "v"
  exact k _
end
end K11
namespace L2
open PySem PySem.Spec PyProof.Rows
section
variable {P : Program} {w : World} {K : W.Frag} {mg : Str → Option Value} {base h : Heap} {x : Str} {st : Stmt} {ps : List Str}
theorem FnAt.lawT {l : PySem.W.OpenLaw} {k : Nat} {sp : Sp} {fa : Addr} {a : Str} {tabs : List (Addr × Addr)} (A : FnAt K x st) (X : K.In h) (G : h.Ns mainGlobals mg) (hfa : mg x = some (.ref fa))
  (b : ∀ (kV doc pm : Value) (an : Option Addr) (cdv ct : Value) (s : Shared) (v : Value), BindsTo s (PySem.W.fnOf x x (zJ st) (zj st) (zc st) .none kV doc pm an cdv ct) ⟨[v], []⟩ [(a, v)])
  (ok : ∀ base : Heap, K.In base → base.Ns mainGlobals mg → base.NoSeer → (∀ q ∈ tabs, PySem.W.CodeHd base q.1 q.2) → BmIn mg base → ∀ {f fd}, Fun K x x st f fd → FnOk l.prog w K mg base CX0 k f fd [a] sp) :
  ∃ fd : FuncData, (∀ (s : Shared) (v : Value), BindsTo s fd ⟨[v], []⟩ [(a, v)]) ∧ ∀ base : Heap, K.In base → base.Ns mainGlobals mg → base.NoSeer → (∀ q ∈ tabs, PySem.W.CodeHd base q.1 q.2) → BmIn mg base → FnOk l.prog w K mg base CX0 k fa fd [a] sp := by
 obtain ⟨f, oc, od, kV, doc, pm, an, cdv, ct, osl, e, l, c, k⟩ := A
 cases hfa.symm.trans (PySem.W.mg_of X G e)
 exact ⟨_, b _ _ _ _ _ _, fun base h1 h2 h3 h4 h5 => ok base h1 h2 h3 h4 h5 (vZ (st := st) l c k)⟩
end
theorem Ye {T : W.Frag} {a : Addr} {o : Obj} : ∀ {K : W.Frag}, K.lookup a = some o → (K ++ T).lookup a = some o
 | [], e => by cases e
 | p :: K, e => by
  simp only [List.cons_append, List.lookup] at e ⊢
  split
  ·rename_i h; rw [h] at e; exact e
  ·rename_i h; rw [h] at e; exact Ye e
theorem in_app {K T : W.Frag} {h : Heap} (x : W.Frag.In (K ++ T) h) : K.In h := fun a o e => x a o (Ye e)
theorem TabAt.nil {H : Hp} {p : Addr} {q : Str} (h : H p = some (.tbl #[])) : TabAt H p q := ⟨#[], h, trivial, fun _ _ e => by cases e⟩
theorem Xy {K : W.Frag} {h : Heap} (x : K.In h) {c p : Addr} {o : Obj} (e : K.lookup c = some o) {vs : Array Value} {file : Str} {tf : Tok} {fl : Int} {tg : Tok} {i : Bool} {te : Int} {tt : Tok} (a1 : o.cls = .type "code") (a2 : o.data = .fields vs) (a3 : vs[11]? = some (.ref p)) (a4 : vs.getD 11 .none = .ref p) (a5 : vs.getD 18 .none = .str file tf)
  (a6 : vs.getD 7 .none = .int fl tg) (a7 : vs.getD 9 .none = .bool i) (a8 : vs.getD 10 .none = .int te tt) (a9 : c ≠ p) : PySem.W.CodeHd h c p := ⟨o, vs, file, tf, fl, tg, i, te, tt, x c o e, a1, a2, a3, a4, a5, a6, a7, a8, a9⟩
end L2
namespace K11
open PySem L2 G2
abbrev tbs : List (Addr × Addr) := [(37, 35), (49, 47)]
set_option maxHeartbeats 0 in
theorem all_mk {l : PySem.W.OpenLaw} {w : World} {K : W.Frag} {h : Heap} {mg : Str → Option Value} {fa : Addr} {C : Addr} (X : K.In h) (G : h.Ns mainGlobals mg) (hfa : mg "law" = some (.ref fa))
  (a1 : FnAt K "common_divisor" sCd) (a2 : FnAt K "_law_feed" YD) (a3 : FnAt K "_law_draw" YE) (a4 : FnAt K "_law_row" sRo) (a5 : FnAt K "_law_dot" sDt) (a6 : FnAt K "_law_whole" sWl) (a7 : FnAt K "_law_round" sRd) (a8 : FnAt K "_law_no" sNo) (a9 : FnAt K "_law_problem" sPb) (a10 : FnAt K "_law_is_numbers" sIn) (a11 : FnAt K "_law_is_weights" sIw) (a12 : FnAt K "weighed" sWg) (a13 : FnAt K "_law_kind" sKi) (a14 : FnAt K "law" sLw)
  (z1 : NoIn K "len") (z2 : NoIn K "range") (z3 : NoIn K "tuple") (z4 : NoIn K "int") (z5 : NoIn K "bool") (z6 : NoIn K "list") (z7 : NoIn K "str") (z8 : NoIn K "all") (z9 : NoIn K "any") (z10 : NoIn K "isinstance") (z11 : NoIn K "repr") (z12 : NoIn K "zip") (z13 : NoIn K "min") (z14 : NoIn K "max") (z15 : NoIn K "sum") (z16 : NoIn K "enumerate") (z17 : NoIn K "sorted") (z18 : NoIn K "set") (z19 : NoIn K "dict") (z20 : NoIn K "abs")
  (g1 : IntIn K "QUICK_TURNS" (200))
  (cna : PySem.W.nsIn K mainGlobals "Tableau" = some (some (.ref C)))
  (D : ClsIn K C)
  (cf1 : NoAttr K C "many")
  (cf2 : NoAttr K C "bottom")
  (cf3 : NoAttr K C "rows")
  (cf4 : NoAttr K C "row_unknowns")
  (cf5 : NoAttr K C "column_unknowns")
  (cf6 : NoAttr K C "turns")
  (c0 : MthAt K C "__init__" "Tableau.__init__" sTi)
  (c1 : MthAt K C "is_low" "Tableau.is_low" sLo)
  (c2 : MthAt K C "is_sought" "Tableau.is_sought" sSo)
  (c3 : MthC K C "low_row" "Tableau.low_row" sLr 37)
  (c4 : MthC K C "column_for" "Tableau.column_for" sCf 49)
  (c5 : MthAt K C "turned" "Tableau.turned" sTd)
  (c6 : MthAt K C "turn" "Tableau.turn" sTn)
  (c7 : MthAt K C "met" "Tableau.met" sMe)
  (c8 : MthAt K C "borne" "Tableau.borne" sBo) :
  ∃ fd : FuncData, (∀ (s : Shared) (v : Value), BindsTo s fd ⟨[v], []⟩ [("_law_script", v)]) ∧ ∀ base : Heap, K.In base → base.Ns mainGlobals mg → base.NoSeer → (∀ q ∈ tbs, PySem.W.CodeHd base q.1 q.2) → BmIn mg base → FnOk l.prog w K mg base CX0 7 fa fd ["_law_script"] (ZX K 35 47) := by
 replace z1 := z1.get X G
 replace z2 := z2.get X G
 replace z3 := z3.get X G
 replace z4 := z4.get X G
 replace z5 := z5.get X G
 replace z6 := z6.get X G
 replace z7 := z7.get X G
 replace z8 := z8.get X G
 replace z9 := z9.get X G
 replace z10 := z10.get X G
 replace z11 := z11.get X G
 replace z12 := z12.get X G
 replace z13 := z13.get X G
 replace z14 := z14.get X G
 replace z15 := z15.get X G
 replace z16 := z16.get X G
 replace z17 := z17.get X G
 replace z18 := z18.get X G
 replace z19 := z19.get X G
 replace z20 := z20.get X G
 replace g1 := g1.get X G
 have R : TC K C := ⟨D.c, cf1, cf2, cf3, cf4, cf5, cf6⟩
 have B : Bl mg := ⟨z1, z2, z3, z4, z5, z6, z7, z8, z9, z10, z11, z12, z13, z14, z15, z16, z17, z18, z19, z20⟩
 refine a14.lawT X G hfa (fun _ _ _ _ _ _ _ _ => .of_eq rfl) fun base _ _ hN hTb hBm {f fd} F => ?_
 have hs : ∀ {x st k ps sp}, FnAt K x st → (∀ (kV doc pm : Value) (an : Option Addr) (cdv ct : Value) (us : List Value), us.length = ps.length → bindArgs (PySem.W.fnOf x x (zJ st) (zj st) (zc st) .none kV doc pm an cdv ct) ⟨us, []⟩ = pure (ps.zip us)) → (∀ {f fd}, Fun K x x st f fd → FnOk l.prog w K mg base CX0 k f fd ps sp) → Has l.prog w K mg base k x ps sp := fun a b c => a.has X G b c
 have H1 := hs a1 (fun _ _ _ _ _ _ us hl => match us, hl with | [_], _ => rfl) (ok_Cd B )
 have H2 := hs a2 (fun _ _ _ _ _ _ us hl => match us, hl with | [_, _], _ => rfl) (ok_feed z1 )
 have H3 := hs a3 (fun _ _ _ _ _ _ us hl => match us, hl with | [_, _], _ => rfl) (ok_draw )
 have H4 := hs a4 (fun _ _ _ _ _ _ us hl => match us, hl with | [_, _], _ => rfl) (ok_Ro B H3 )
 have H5 := hs a5 (fun _ _ _ _ _ _ us hl => match us, hl with | [_, _], _ => rfl) (ok_Dt B )
 have H6 := hs a6 (fun _ _ _ _ _ _ us hl => match us, hl with | [_], _ => rfl) (ok_Wl B )
 have H7 := hs a7 (fun _ _ _ _ _ _ us hl => match us, hl with | [_, _, _], _ => rfl) (ok_Rd B H3 H4 H5 )
 have H8 := hs a8 (fun _ _ _ _ _ _ us hl => match us, hl with | [_, _, _], _ => rfl) (ok_No B H3 H4 )
 have H9 := hs a9 (fun _ _ _ _ _ _ us hl => match us, hl with | [_, _, _], _ => rfl) (ok_Pb B H3 H4 H7 H8 )
 have H10 := hs a10 (fun _ _ _ _ _ _ us hl => match us, hl with | [_, _, _], _ => rfl) (ok_In B H6 H5 )
 have H11 := hs a11 (fun _ _ _ _ _ _ us hl => match us, hl with | [_, _, _], _ => rfl) (ok_Iw B H6 )
 have HK := c0.make (P := l.prog) (w := w) (base := base) D X G cna (fun _ _ _ _ _ _ us hl => match us, hl with | [_, _, _], _ => rfl) (ok_Ti R B )
 have HM1 := c1.has (P := l.prog) (w := w) (mg := mg) (base := base) D (fun _ _ _ _ _ _ us hl => match us, hl with | [_, _], _ => rfl) (ok_Lo R )
 have HM2 := c2.has (P := l.prog) (w := w) (mg := mg) (base := base) D (fun _ _ _ _ _ _ us hl => match us, hl with | [_, _], _ => rfl) (ok_So R )
 have HM3 := c3.has (P := l.prog) (w := w) (mg := mg) (base := base) D (fun _ _ _ _ _ _ us hl => match us, hl with | [_], _ => rfl) (ok_Lr R B (hTb (37, 35) (by simp)) hBm g1 HM1 )
 have HM4 := c4.has (P := l.prog) (w := w) (mg := mg) (base := base) D (fun _ _ _ _ _ _ us hl => match us, hl with | [_, _], _ => rfl) (ok_Cf R B (hTb (49, 47) (by simp)) hBm g1 HM2 )
 have HM5 := c5.has (P := l.prog) (w := w) (mg := mg) (base := base) D (fun _ _ _ _ _ _ us hl => match us, hl with | [_, _, _, _, _], _ => rfl) (ok_Td R B )
 have HM6 := c6.has (P := l.prog) (w := w) (mg := mg) (base := base) D (fun _ _ _ _ _ _ us hl => match us, hl with | [_, _, _], _ => rfl) (ok_Tn R B HM5 )
 have HM7 := c7.has (P := l.prog) (w := w) (mg := mg) (base := base) D (fun _ _ _ _ _ _ us hl => match us, hl with | [_], _ => rfl) (ok_Me R B H1 )
 have HM8 := c8.has (P := l.prog) (w := w) (mg := mg) (base := base) D (fun _ _ _ _ _ _ us hl => match us, hl with | [_, _], _ => rfl) (ok_Bo R B H1 )
 have H12 := hs a12 (fun _ _ _ _ _ _ us hl => match us, hl with | [_, _], _ => rfl) (ok_Wg (by decide) B HK HM3 HM4 HM6 HM7 HM8 )
 have H13 := hs a13 (fun _ _ _ _ _ _ us hl => match us, hl with | [_, _], _ => rfl) (ok_Ki B H12 H10 H11 )
 exact ok_Lw B H2 H3 H9 H13  F
theorem walk {l : PySem.W.OpenLaw} {q : Program} {loose : List Str} {XP : (Str → Option Value) → Heap → Prop} {YP : World → Heap → Prop} {d : DefRec} {K : Params → W.Frag} (hi : PyProof.Rows.importsNone q = true) (hn : l.most = some 63) (hdf : d.params.defaults = [])
  (hY : ∀ (w : World) (h : Heap), YP w h → (K w.params).In h) (hYT : ∀ (w : World) (h : Heap), YP w h → PySem.W.TabsAt tbs h) (hKT : ∀ P, PySem.W.noTabs (K P) = true)
  (F : ∀ (w : World) (mg : Str → Option Value) (fa : Addr) (h : Heap), (K w.params).In h → h.Ns mainGlobals mg → mg d.name = some (.ref fa) →
   ∃ fd : FuncData, (∀ (s : Shared) (u : Value), BindsTo s fd ⟨[u], []⟩ [("_law_script", u)]) ∧ ∀ base : Heap, (K w.params).In base → base.Ns mainGlobals mg → base.NoSeer → (∀ q ∈ tbs, PySem.W.CodeHd base q.1 q.2) → BmIn mg base → FnOk l.prog w (K w.params) mg base CX0 7 fa fd ["_law_script"] (ZX (K w.params) 35 47)) :
  PySem.W.WalkO q loose XP YP l.row.toRowW d [] (fun f vs => PySem.call f vs) :=
 L2.walk_ofT (n := 63) (k := 7) (x := "_law_script") (CX := fun _ => CX0) (sp := fun w => ZX (K w.params) 35 47) (tabs := tbs) hn (by decide) hdf ⟨rfl, by decide, by decide, rfl⟩ hi hY hYT hKT F (fun _ H a ns hl hO hT hS => ⟨a, ns, rfl, hS, hl, ⟨TabAt.nil (hT (37, 35) (by simp)), TabAt.nil (hT (49, 47) (by simp))⟩, fun _ => rfl⟩) fun _ _ _ _ _ z => z
theorem noT : ∀ P, PySem.W.noTabs (KK P) = true := fun _ => by kernel_rfl
theorem tabT {P : Params} {h : Heap} (x : (KT P).In h) : PySem.W.TabsAt tbs h := fun q hq => by
 simp only [tbs, List.mem_cons, List.not_mem_nil, or_false] at hq
 rcases hq with rfl | rfl
 ·exact ⟨Xy (o := cO "low_row" 222 "Tableau.low_row" 223 224 23 1 3 (.ref 34) (.ref 35) .none .none (.ref 36) 225 226) x (by kernel_rfl) rfl rfl rfl rfl rfl rfl rfl rfl (by decide), x _ _ (by kernel_rfl)⟩
 ·exact ⟨Xy (o := cO "column_for" 236 "Tableau.column_for" 237 238 32 2 3 (.ref 46) (.ref 47) .none .none (.ref 48) 239 240) x (by kernel_rfl) rfl rfl rfl rfl rfl rfl rfl rfl (by decide), x _ _ (by kernel_rfl)⟩
end K11
open PySem PySem.W PyProof.Rows
set_option maxRecDepth 100000 in
set_option maxHeartbeats 0 in
theorem PySem.Challenge.cw_dropsums_k11_problems_weighed_holds : PySem.Challenge.rw_dropsums_k11_problems_weighed.Holds := by
 w_on
 refine PySem.W.holds_law K11.said0 fun said => ?_
 refine PySem.W.holds_open (q := K11.VW) (loose := []) (Xt := fun s => PySem.W.xlAt K11.VW [] s && PySem.W.recOk (PySem.W.RowW.records K11.RR.toRowW) s) (XP := PySem.W.XL K11.VW []) (Yf := PySem.W.Hook.obs (PySem.W.kHook K11.KT K11.KA K11.ke)) (Ya := PySem.W.Hook.val (PySem.W.kHook K11.KT K11.KA K11.ke)) (YP := PySem.W.Hook.says (PySem.W.kHook K11.KT K11.KA K11.ke)) (N := 1940) K11.left0 (PySem.W.Hook.of _) (PySem.W.Hook.keeps _) (fun s e => PySem.W.xl_of s (Bool.and_eq_true_iff.mp e).1) PySem.W.XL.keeps (by rfl) (by rfl) (by rfl) (fun s e => PySem.W.recFacts_of (Bool.and_eq_true_iff.mp e).2) (by rfl) said (by decide +kernel) ⟨rfl, rfl, rfl, rfl, rfl, by decide +kernel⟩ ?hw ?hc
 case hw => w_witness2
 refine K11.walk (l := PySem.Challenge.rw_dropsums_k11_problems_weighed) (K := K11.KK) (by rfl) rfl rfl (fun w h Y => L2.in_app (PySem.W.kIn_of Y)) (fun w h Y => K11.tabT (PySem.W.kIn_of Y)) K11.noT ?F
 case F =>
  k_fill
  intro w mg fa h KX G hmg
  refine' K11.all_mk KX G hmg ?a1 ?a2 ?a3 ?a4 ?a5 ?a6 ?a7 ?a8 ?a9 ?a10 ?a11 ?a12 ?a13 ?a14 ?z1 ?z2 ?z3 ?z4 ?z5 ?z6 ?z7 ?z8 ?z9 ?z10 ?z11 ?z12 ?z13 ?z14 ?z15 ?z16 ?z17 ?z18 ?z19 ?z20 ?g1 ?cna ?D ?cf1 ?cf2 ?cf3 ?cf4 ?cf5 ?cf6 ?c0 ?c1 ?c2 ?c3 ?c4 ?c5 ?c6 ?c7 ?c8
  all_goals first | exact L2.fnAt (by k_is) (by k_is) (by k_is) (by k_is) | exact L2.noIn (by k_is) | exact L2.intIn (by k_is) | exact L2.clsIn (by k_is) (by k_is) (by k_is) (by k_is) (by k_is) (by k_is) | exact L2.noAttr (by k_is) | exact L2.mthAt (by k_is) (by k_is) (by k_is) (by k_is) (by k_is) | exact L2.mthC (by k_is) (by k_is) (by k_is) (by k_is) (by k_is) | k_is | skip
