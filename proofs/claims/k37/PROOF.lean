import PyProof.Rows.All
import KE.KIntText
import KE.KSortAsk
import KE.IntBitsLaws
import KE.KIsAll
import PySem.Challenge.RW_dropsums_k37_papers_written_and_read
theorem sz1 : 1 ≤ PySem.sizeLine := by decide
theorem sz2 : 2 ≤ PySem.sizeLine := by decide
theorem sz3 : 3 ≤ PySem.sizeLine := by decide
theorem sz4 : 4 ≤ PySem.sizeLine := by decide
theorem sz5 : 5 ≤ PySem.sizeLine := by decide
theorem sz6 : 6 ≤ PySem.sizeLine := by decide
-- CHANGE: your row's module here, as the last of these rows
set_option Elab.async false
set_option linter.all false
set_option maxRecDepth 100000
set_option maxHeartbeats 4000000
theorem sz0 : 0 ≤ PySem.sizeLine := by decide
theorem sz7 : 7 ≤ PySem.sizeLine := by decide
namespace L2
open PySem PySem.Spec PyProof.Rows
abbrev Key := Sum Int Str
def v9 : Key → Value → Bool
 | .inl k, v => Value.isInt k v
 | .inr x, v => Value.isStrOf x v
def keyH (w : World) : Key → Int
 | .inl k => hashInt k
 | .inr x => hashStr w x
theorem zY : ∀ {k : Key} {v : Value}, v9 k v = true → (∃ i t, k = Sum.inl i ∧ v = Value.int i t) ∨ (∃ x t, k = Sum.inr x ∧ v = Value.str x t)
 | .inl i, v, h => by
  obtain ⟨t, e⟩ := Value.isInt_shape (k := i) (v := v) h
  exact .inl ⟨i, t, rfl, e⟩
 | .inr x, v, h => by
  obtain ⟨t, e⟩ := Value.isStrOf_shape (x := x) (v := v) h
  exact .inr ⟨x, t, rfl, e⟩
theorem keyIs_int (i : Int) (t : Tok) : v9 (.inl i) (.int i t) = true := by simp [v9, Value.isInt]
theorem keyIs_str (x : Str) (t : Tok) : v9 (.inr x) (.str x t) = true := by simp [v9, Value.isStrOf]
theorem key_ll (a b : Int) : decide ((Sum.inl a : Key) = Sum.inl b) = (a == b) := by
 by_cases e : a = b
 ·subst e; simp
 ·have h : ¬ (Sum.inl a : Key) = Sum.inl b := fun q => e (Sum.inl.inj q)
  rw [decide_eq_false h]
  exact (beq_eq_false_iff_ne.mpr e).symm
theorem key_rr (a b : Str) : decide ((Sum.inr a : Key) = Sum.inr b) = decide (a = b) := by
 by_cases e : a = b
 ·subst e; simp
 ·have h : ¬ (Sum.inr a : Key) = Sum.inr b := fun q => e (Sum.inr.inj q)
  rw [decide_eq_false h, decide_eq_false e]
theorem key_lr (a : Int) (b : Str) : decide ((Sum.inl a : Key) = Sum.inr b) = false := decide_eq_false (fun q => nomatch q)
theorem key_rl (a : Str) (b : Int) : decide ((Sum.inr a : Key) = Sum.inl b) = false := decide_eq_false (fun q => nomatch q)
def yj (prog : Program) (w : World) : PySem.KeyKind prog w Key where
 is := v9
 hash := keyH w
 inj := fun v a b ha hb => by
  rcases zY ha with ⟨i, t, rfl, rfl⟩ | ⟨x, t, rfl, rfl⟩
  ·rcases zY hb with ⟨j, u, rfl, e⟩ | ⟨y, u, rfl, e⟩
   ·injection e with e1 _; rw [e1]
   ·exact nomatch e
  ·rcases zY hb with ⟨j, u, rfl, e⟩ | ⟨y, u, rfl, e⟩
   ·exact nomatch e
   ·injection e with e1 _; rw [e1]
 byValue := fun k v h => by
  rcases zY h with ⟨i, t, rfl, rfl⟩ | ⟨x, t, rfl, rfl⟩ <;> rfl
 pyHash := fun hv h => by
  rcases zY hv with ⟨i, t, rfl, rfl⟩ | ⟨x, t, rfl, rfl⟩
  ·exact wpAny_pyHash_int h
  ·exact wpAny_pyHash_str h
 eqBool := fun hu hv h => by
  rcases zY hu with ⟨i, t, rfl, rfl⟩ | ⟨x, t, rfl, rfl⟩
  ·rcases zY hv with ⟨j, u, rfl, rfl⟩ | ⟨y, u, rfl, rfl⟩
   ·rw [key_ll] at h; exact wpAny_eqBool_int h
   ·rw [key_lr] at h; exact SeqAt.EqAt.int_str i t y u _ _ _ _ h
  ·rcases zY hv with ⟨j, u, rfl, rfl⟩ | ⟨y, u, rfl, rfl⟩
   ·rw [key_rl] at h; exact SeqAt.EqAt.str_int x t j u _ _ _ _ h
   ·rw [key_rr] at h; exact wpAny_eqBool_str h
 «strs» := fun k x t v h => by
  rcases zY h with ⟨i, u, rfl, e⟩ | ⟨y, u, rfl, e⟩
  ·exact nomatch e
  ·injection e with e1 _
   subst e1
   cases v <;> rfl
theorem mixKind_int (prog : Program) (w : World) (i : Int) (t : Tok) : (yj prog w).is (.inl i) (.int i t) = true := keyIs_int i t
theorem mixKind_str (prog : Program) (w : World) (x : Str) (t : Tok) : (yj prog w).is (.inr x) (.str x t) = true := keyIs_str x t
inductive V where
 | non | bl (b : Bool) | int (i : Int) | str (x : Str) | byt (b : Array UInt8) | flt (b : UInt64) | ref (a : Addr) | ty (n : String)
 deriving DecidableEq
def RelV : V → Value → Prop
 | .non, u => u = Value.none
 | .bl b, u => u = Value.bool b
 | .int i, u => ∃ t, u = Value.int i t
 | .str x, u => ∃ t, u = Value.str x t
 | .byt b, u => ∃ t, u = Value.bytes b t
 | .flt b, u => ∃ t, u = Value.float b t
 | .ref a, u => u = Value.ref a
 | .ty n, u => u = Value.type n
abbrev Vals : List V → List Value → Prop := Paired RelV
theorem Vals.length {xs : List V} {us : List Value} (r : Vals xs us) : xs.length = us.length := Paired.length r
theorem Vals.get : ∀ {xs : List V} {us : List Value} {i : Nat} {x : V}, Vals xs us → xs[i]? = some x → ∃ u, us[i]? = some u ∧ RelV x u
 | _, _, _, _, .nil, e => by simp at e
 | _, _, 0, _, .cons r _, e => by simp at e; subst e; exact ⟨_, rfl, r⟩
 | _, _, i + 1, x, .cons _ t, e => by
  obtain ⟨u, h1, h2⟩ := Vals.get (i := i) (x := x) t (by simpa using e)
  exact ⟨u, by simpa using h1, h2⟩
theorem Vals.set {x : V} {u : Value} (r : RelV x u) : ∀ {xs : List V} {us : List Value} (i : Nat), Vals xs us → Vals (xs.set i x) (us.set i u)
 | _, _, _, .nil => .nil
 | _, _, 0, .cons _ t => .cons r t
 | _, _, i + 1, .cons q t => .cons q (Vals.set r i t)
theorem Vals.append : ∀ {xs ys : List V} {us ws : List Value}, Vals xs us → Vals ys ws → Vals (xs ++ ys) (us ++ ws)
 | _, _, _, _, .nil, s => s
 | _, _, _, _, .cons r t, s => .cons r (Vals.append t s)
theorem Vals.take : ∀ {xs : List V} {us : List Value} (n : Nat), Vals xs us → Vals (xs.take n) (us.take n)
 | _, _, 0, _ => .nil
 | _, _, _ + 1, .nil => .nil
 | _, _, n + 1, .cons r t => .cons r (Vals.take n t)
theorem Vals.drop : ∀ {xs : List V} {us : List Value} (n : Nat), Vals xs us → Vals (xs.drop n) (us.drop n)
 | _, _, 0, r => r
 | _, _, _ + 1, .nil => .nil
 | _, _, n + 1, .cons _ t => Vals.drop n t
def RelO : Option V → Option Value → Prop
 | some v, some u => RelV v u
 | none, none => True
 | _, _ => False
def KV {κ : Type} : List (κ × V) → List (κ × Value) → Prop := Paired fun (p : κ × V) (q : κ × Value) => p.1 = q.1 ∧ RelV p.2 q.2
def kV : Key → V
 | .inl i => .int i
 | .inr x => .str x
inductive HO where
 | lst (xs : List V)
 | tup (xs : List V)
 | dK (kvs : List (Key × V)) | dT (kvs : List (List Key × V))
 | set (S : Int → Bool) (n : Nat)
 | ins (C dx : Addr) (fs : List (Str × V))
 | own (x : Addr)
 | xd (fs : List (Str × V))
 | met (f x : Addr)
 | rng (lo hi : Int)
 | frz (o : Obj) (u : HO)
 | tbl (ps : Array Value)
 | ext (φ : Heap → Prop)
abbrev Hp := Addr → Option HO
def upd (H : Hp) (a : Addr) (o : HO) : Hp := fun b => if b = a then some o else H b
theorem ze {H : Hp} {a : Addr} {o : HO} : upd H a o a = some o := by unfold upd; rw [if_pos rfl]
theorem zi {H : Hp} {a b : Addr} {o : HO} (h : b ≠ a) : upd H a o b = H b := by unfold upd; rw [if_neg h]
theorem xA {H : Hp} {a : Addr} {o u : HO} : upd (upd H a o) a u = upd H a u := by
 funext b; unfold upd; split <;> rfl
theorem xI {H : Hp} {a b : Addr} {o u : HO} (h : H a = some o) (h' : H b = some u) (d : o ≠ u) : a ≠ b := by
 intro e; subst e; rw [h] at h'; exact d (Option.some.inj h')
theorem zh {H : Hp} {a b : Addr} {o : HO} (h : H a = some o) (h' : H b = none) : a ≠ b := by
 intro e; subst e; rw [h] at h'; cases h'
section
variable (P : Program) (w : World)
def ObjOk (H : Hp) (h : Heap) (a : Addr) : HO → Prop
 | .lst xs => xs.length ≤ sizeLine ∧ ∃ (its : List Value) (n : Nat), Vals xs its ∧ h.get? a = some { cls := .type "list", data := .seq its.toArray n }
 | .tup xs => xs.length ≤ sizeLine ∧ ∃ its : List Value, Vals xs its ∧ IsTup h a its.toArray
 | .dK kvs => kvs.length ≤ sizeLine ∧ (a == sysModules) = false ∧ ∃ vs, KV kvs vs ∧ h.DictOf (yj P w) a vs
 | .dT kvs => kvs.length ≤ sizeLine ∧ (a == sysModules) = false ∧ ∃ xs : List (List Key × Addr × Value),
   Paired (fun (p : List Key × V) (q : List Key × Addr × Value) => p.1 = q.1 ∧ H q.2.1 = some (.tup (p.1.map kV)) ∧ RelV p.2 q.2.2) kvs xs ∧
   ∃ o es ep, h.get? a = some o ∧ o.ExactDict ∧ o.data = .dict es ep ∧ es.toList = xs.map (entryOfKey (tupleKind (yj P w))) ∧ (xs.map (·.1)).Nodup
 | .set S n => h.SetOf (intKind P w) a S n
 | .ins C dx fs => H dx = some (.own a) ∧ fs.length ≤ 1000 ∧ dx ≠ a ∧ h.get? a = some (PySem.W.instObj C dx) ∧
   ∃ mA, h.Ns1 dx mA ∧ (∀ f, RelO (fs.lookup f) (mA f)) ∧ PySem.Within mA (fs.map (·.1))
 | .own _ => ∃ o, h.get? a = some o
 | .xd fs => ∃ mA, h.Ns1 a mA ∧ ∀ f, RelO (fs.lookup f) (mA f)
 | .rng lo hi => ∃ t u v, h.get? a = some { cls := .type "range", data := .fields #[.int lo t, .int hi u, .int 1 v] }
 | .frz o u => h.get? a = some o ∧ ObjOk H h a u
 | .tbl ps => h.get? a = some { cls := .none, data := .fields ps }
 | .met f x => h.get? a = some (PySem.W.methodObj (.ref f) (.ref x))
 | .ext φ => φ h ∧ (∃ o, h.get? a = some o) ∧ ∀ h1 h2 : Heap, φ h1 → (∀ o, h1.get? a = some o → h2.get? a = some o) → φ h2
def HOk (H : Hp) (h : Heap) : Prop := ∀ a o, H a = some o → ObjOk P w H h a o
end
section
variable {P : Program} {w : World} {H H' : Hp} {h h' : Heap} {a : Addr} {o : HO}
theorem ObjOk.lt (x : ObjOk P w H h a o) : a < h.objs.size := by
 cases o with
 | lst xs => obtain ⟨_, _, _, _, e⟩ := x; exact Heap.lt_size e
 | tup xs => obtain ⟨_, _, _, p⟩ := x; exact p.lt
 | dK kvs => obtain ⟨_, _, _, _, o, _, _, e, _⟩ := x; exact Heap.lt_size e
 | dT kvs => obtain ⟨_, _, _, _, o, _, _, e, _⟩ := x; exact Heap.lt_size e
 | set S n => obtain ⟨o, _, _, _, e, _⟩ := x; exact Heap.lt_size e
 | ins C dx fs => obtain ⟨_, _, _, e, _⟩ := x; exact Heap.lt_size e
 | own y => obtain ⟨_, e⟩ := x; exact Heap.lt_size e
 | xd fs => obtain ⟨_, ⟨_, _, _, e, _⟩, _⟩ := x; exact Heap.lt_size e
 | rng lo hi => obtain ⟨_, _, _, e⟩ := x; exact Heap.lt_size e
 | frz ob u => obtain ⟨e, _⟩ := x; exact Heap.lt_size e
 | tbl ps => exact Heap.lt_size (show h.get? a = some _ from x)
 | met f y => exact Heap.lt_size (show h.get? a = some _ from x)
 | ext φ => obtain ⟨_, ⟨_, e⟩, _⟩ := x; exact Heap.lt_size e
theorem Paired.mapP {α β : Type} {F G : α → β → Prop} : ∀ {l₁ : List α} {l₂ : List β}, Paired F l₁ l₂ → (∀ a b, F a b → G a b) → Paired G l₁ l₂
 | _, _, .nil, _ => .nil
 | _, _, .cons r t, f => .cons (f _ _ r) (Paired.mapP t f)
theorem ObjOk.stay (x : ObjOk P w H h a o) (k : ∀ b u, (b = a ∨ H b = some (.own a)) → h.get? b = some u → h'.get? b = some u)
  (ho : ∀ b, H b = some (.own a) → H' b = some (.own a)) (ht : ∀ b xs, H b = some (.tup xs) → H' b = some (.tup xs)) : ObjOk P w H' h' a o := by
 induction o with
 | lst xs => obtain ⟨z, its, n, r, e⟩ := x; exact ⟨z, its, n, r, k _ _ (.inl rfl) e⟩
 | tup xs => obtain ⟨z, its, r, ob, e, c⟩ := x; exact ⟨z, its, r, ob, k _ _ (.inl rfl) e, c⟩
 | dK kvs => obtain ⟨z, y, vs, r, ob, es, ep, e, c⟩ := x; exact ⟨z, y, vs, r, ob, es, ep, k _ _ (.inl rfl) e, c⟩
 | dT kvs =>
  obtain ⟨z, y, xs, r, ob, es, ep, e, c⟩ := x
  exact ⟨z, y, xs, Paired.mapP r fun p q z => ⟨z.1, ht _ _ z.2.1, z.2.2⟩, ob, es, ep, k _ _ (.inl rfl) e, c⟩
 | set S n => obtain ⟨ob, es, ep, t, e, c⟩ := x; exact ⟨ob, es, ep, t, k _ _ (.inl rfl) e, c⟩
 | ins C dx fs =>
  obtain ⟨d, z, ne, e, mA, ⟨od, es, ep, e2, c⟩, r⟩ := x
  exact ⟨ho _ d, z, ne, k _ _ (.inl rfl) e, mA, ⟨od, es, ep, k _ _ (.inr d) e2, c⟩, r⟩
 | own y => obtain ⟨ob, e⟩ := x; exact ⟨ob, k _ _ (.inl rfl) e⟩
 | xd fs => obtain ⟨mA, ⟨od, es, ep, e, c⟩, r⟩ := x; exact ⟨mA, ⟨od, es, ep, k _ _ (.inl rfl) e, c⟩, r⟩
 | rng lo hi => obtain ⟨t, u, v, e⟩ := x; exact ⟨t, u, v, k _ _ (.inl rfl) e⟩
 | frz ob u ih => obtain ⟨e, q⟩ := x; exact ⟨k _ _ (.inl rfl) e, ih q⟩
 | tbl ps =>
  have e : h.get? a = some { cls := .none, data := .fields ps } := x
  show h'.get? a = some { cls := .none, data := .fields ps }
  exact k a _ (.inl rfl) e
 | met f y =>
  have e : h.get? a = some (PySem.W.methodObj (.ref f) (.ref y)) := x
  show h'.get? a = some (PySem.W.methodObj (.ref f) (.ref y))
  exact k a _ (.inl rfl) e
 | ext φ => obtain ⟨p, ⟨o, e⟩, st⟩ := x; exact ⟨st _ _ p fun o q => k _ _ (.inl rfl) q, ⟨o, k _ _ (.inl rfl) e⟩, st⟩
theorem HOk.lt (x : HOk P w H h) (e : H a = some o) : a < h.objs.size := (x a o e).lt
theorem HOk.fresh (x : HOk P w H h) (e : h.objs.size ≤ a) : H a = none := by
 cases q : H a with
 | none => rfl
 | some u => exact absurd (Nat.lt_of_lt_of_le (x.lt q) e) (Nat.lt_irrefl _)
theorem HOk.kept (x : HOk P w H h) (k : ∀ b u, h.get? b = some u → h'.get? b = some u) : HOk P w H h' := fun a o e =>
 (x a o e).stay (fun b u _ q => k b u q) (fun _ q => q) fun _ _ q => q
theorem HOk.laid (x : HOk P w H h) (k : ∀ b u, h.get? b = some u → h'.get? b = some u) (hp : h.objs.size ≤ a) (new : ObjOk P w (upd H a o) h' a o) : HOk P w (upd H a o) h' := fun b u e => by
 have hn := x.fresh hp
 by_cases hb : b = a
 ·subst hb; rw [ze] at e; cases e; exact new
 ·rw [zi hb] at e
  exact (x b u e).stay (fun c v _ q => k c v q) (fun c q => by rw [zi (zh q hn)]; exact q) fun c xs q => by rw [zi (zh q hn)]; exact q
end
def Rd (H : Hp) (a : Addr) (u : HO) : Prop := H a = some u ∨ ∃ o, H a = some (.frz o u)
theorem Rd.ok {P : Program} {w : World} {H : Hp} {h : Heap} {a : Addr} {u : HO} (r : Rd H a u) (x : HOk P w H h) : ObjOk P w H h a u := by
 rcases r with r | ⟨o, r⟩
 ·exact x a u r
 ·obtain ⟨_, q⟩ := x a _ r
  exact q
def Mut : Option HO → Prop
 | some (.lst _) => True
 | some (.dK _) => True
 | some (.dT _) => True
 | some (.set _ _) => True
 | some (.ins _ _ _) => True
 | some (.ext _) => True
 | _ => False
section
variable {P : Program} {w : World} {H : Hp} {h h' : Heap} {x e : Addr} {o' : HO}
theorem HOk.write (ok : HOk P w H h) (mu : Mut (H x)) (he : e = x ∨ H e = some (.own x)) (k : ∀ b u, b ≠ e → h.get? b = some u → h'.get? b = some u) (heo : ∃ u, h'.get? e = some u)
  (new : ObjOk P w (upd H x o') h' x o') : HOk P w (upd H x o') h' := fun b u q => by
 have nown : ∀ c y, H c = some (.own y) → c ≠ x := fun c y r z => by subst z; rw [r] at mu; exact mu
 have ntup : ∀ c xs, H c = some (.tup xs) → c ≠ x := fun c xs r z => by subst z; rw [r] at mu; exact mu
 by_cases hb : b = x
 ·subst hb; rw [ze] at q; cases q; exact new
 ·rw [zi hb] at q
  by_cases hbe : b = e
  ·have q' : H b = some (.own x) := by
    rcases he with z | z
    ·exact absurd (hbe.trans z) hb
    ·rw [hbe]; exact z
   rw [q] at q'; cases q'
   obtain ⟨v, hv⟩ := heo
   exact ⟨v, by rw [hbe]; exact hv⟩
  ·refine (ok b u q).stay (fun c v hc r => k c v ?_ r) (fun c r => by rw [zi (nown c b r)]; exact r) fun c xs r => by rw [zi (ntup c xs r)]; exact r
   rcases hc with rfl | hc
   ·exact hbe
   ·rintro rfl
    rcases he with z | z
    ·exact nown c b hc z
    ·rw [hc] at z; cases z; exact hb rfl
end
structure Un (fs ex : List Addr) (H H' : Hp) (h h' : Heap) : Prop where
 keep : ∀ b o, h.get? b = some o → H b = none → b ∉ fs → b ∉ ex → h'.get? b = some o
 slot : ∀ b o, h.get? b = some o → H b = none → b ∈ fs → b ∉ ex → ∃ sl, h'.get? b = some { o with slots := sl }
 free : ∀ b o, h.get? b = some o → H b = none → b ∉ ex → H' b = none
 there : ∀ b o, h.get? b = some o → b ∉ ex → ∃ o', h'.get? b = some o'
 tups : ∀ b xs, H b = some (.tup xs) → H' b = some (.tup xs)
 frzs : ∀ b o u, H b = some (.frz o u) → H' b = some (.frz o u)
 tbls : ∀ b ps, H b = some (.tbl ps) → ∃ more, H' b = some (.tbl (ps ++ more))
section
variable {fs fs' ex ex' : List Addr} {H H1 H2 : Hp} {h h1 h2 h' : Heap} {a x e : Addr} {o : HO}
theorem Un.any (u : Un fs ex H H1 h h1) {b : Addr} {ob : Obj} (q : h.get? b = some ob) (n : H b = none) (hx : b ∉ ex) : ∃ sl, h1.get? b = some { ob with slots := sl } := by
 by_cases hb : b ∈ fs
 ·exact u.slot b ob q n hb hx
 ·exact ⟨ob.slots, u.keep b ob q n hb hx⟩
theorem Un.kept (k : ∀ b u, h.get? b = some u → h'.get? b = some u) : Un fs ex H H h h' :=
 ⟨fun b ob q _ _ _ => k b ob q, fun b ob q _ _ _ => ⟨ob.slots, k b ob q⟩, fun _ _ _ n _ => n, fun b ob q _ => ⟨ob, k b ob q⟩, fun _ _ q => q, fun _ _ _ q => q, fun _ ps q => ⟨#[], by rw [q]; simp⟩⟩
theorem Un.refl : Un fs ex H H h h := Un.kept fun _ _ q => q
theorem Un.laid (k : ∀ b u, h.get? b = some u → h'.get? b = some u) (hp : h.objs.size ≤ a) (hn : H a = none) : Un fs ex H (upd H a o) h h' where
 keep := fun b u q _ _ _ => k b u q
 slot := fun b u q _ _ _ => ⟨u.slots, k b u q⟩
 free := fun b u q n _ => by rw [zi (Nat.ne_of_lt (Nat.lt_of_lt_of_le (Heap.lt_size q) hp))]; exact n
 there := fun b u q _ => ⟨u, k b u q⟩
 tups := fun b xs q => by rw [zi (zh q hn)]; exact q
 frzs := fun b u xs q => by rw [zi (zh q hn)]; exact q
 tbls := fun b ps q => ⟨#[], by rw [zi (zh q hn), q]; simp⟩
theorem Un.write (mu : Mut (H x)) (he : e = x ∨ H e = some (.own x)) (k : ∀ b u, b ≠ e → h.get? b = some u → h'.get? b = some u) (heo : ∃ u, h'.get? e = some u) : Un fs ex H (upd H x o) h h' := by
 have hx : ∀ b, H b = none → b ≠ x := fun b n z => by subst z; rw [n] at mu; exact mu
 have hb : ∀ b, H b = none → b ≠ e := fun b n z => by
  subst z
  rcases he with r | r
  ·exact hx b n r
  ·rw [n] at r; cases r
 have hm : ∀ b u, H b = some u → ¬ Mut (some u) → b ≠ x := fun b u q nm z => by subst z; rw [q] at mu; exact nm mu
 refine ⟨fun b u q n _ _ => k b u (hb b n) q, fun b u q n _ _ => ⟨u.slots, k b u (hb b n) q⟩, fun b u q n _ => by rw [zi (hx b n)]; exact n, fun b u q _ => ?_,
  fun b xs q => by rw [zi (hm b _ q fun z => z)]; exact q, fun b u xs q => by rw [zi (hm b _ q fun z => z)]; exact q, fun b ps q => ⟨#[], by rw [zi (hm b _ q fun z => z), q]; simp⟩⟩
 by_cases hbe : b = e
 ·subst hbe; exact heo
 ·exact ⟨u, k b u hbe q⟩
end
def trk (h : Heap) (H : Hp) : List Addr := (List.range h.objs.size).filter fun a => (H a).isSome
def hidT (h : Heap) (H : Hp) : Heap := PySem.W.hideAll h (trk h H)
theorem hidT_size (h : Heap) (H : Hp) : (hidT h H).objs.size = h.objs.size := PySem.W.hideAll_size _ _
theorem hidT_get {h : Heap} {H : Hp} {b : Addr} {o : Obj} (e : h.get? b = some o) (n : H b = none) : (hidT h H).get? b = some o :=
 PySem.W.hideAll_get _ e fun hm => by
  have q : (H b).isSome = true := (List.mem_filter.mp hm).2
  rw [n] at q; simp at q
theorem of_hidT {h : Heap} {H : Hp} {b : Addr} {o : Obj} (e : (hidT h H).get? b = some o) : h.get? b = some o ∧ H b = none := by
 have e' : h.get? b = some o := PySem.W.of_hideAll (trk h H) e
 refine ⟨e', ?_⟩
 cases q : H b with
 | none => rfl
 | some x =>
  have hm : b ∈ trk h H := List.mem_filter.mpr ⟨List.mem_range.mpr (Heap.lt_size e'), by simp [q]⟩
  have z : (hidT h H).get? b = none := PySem.W.hideAll_none (trk h H) hm
  rw [z] at e; cases e
def allNews (g h : Heap) (L : Addr) : List (Addr × Obj) := (List.range h.objs.size).filterMap fun a => if a = L ∨ (g.get? a).isSome = true then none else (h.get? a).map fun o => (a, o)
def rest (g h : Heap) (L d : Addr) : List (Addr × Obj) := (allNews g h L).filter fun p => decide (p.1 ≠ d)
structure Mod (K : W.Frag) (mg : Str → Option Value) (base : Heap) : Prop where
 kin : K.In base
 glob : base.Ns mainGlobals mg
 blt : ∃ mb, base.Ns builtinsNs mb ∧ ∀ x : Str, x ≠ "__name__" → mb x = bootBuiltins x
 nolimit : base.NoLimit
structure Cx where
 prog : Program
 w : World
 K : W.Frag
 mg : Str → Option Value
 base : Heap
 A : Around
 N : List Str
 s₀ : Shared
 H₀ : Hp
 env : Env
 outer : List Env
 stack : List Env
 ex : List Addr
 fn : Str → Bool
 calm : Bool
 pn : List (Addr × Obj)
 xe : Value → Shared → Prop
def frs (l : List Env) : List Addr := l.filterMap (·.frame)
abbrev Cx.fs (X : Cx) : List Addr := frs X.outer
def Vis (sc : Scope) (x : Str) : Prop := sc.names.lookup x = some .local ∨ sc.names.lookup x = some .cell ∨ sc.names.lookup x = some .free
def Loc (sc : Scope) (x : Str) : Prop := sc.names.lookup x = some .local ∨ sc.names.lookup x = some .cell
def Look (env : Env) (h : Heap) (m : Str → Option Value) (x : Str) (u : Value) : Prop :=
 (env.kindOf x = some .local ∧ m x = some u) ∨ ((env.kindOf x = some .cell ∨ env.kindOf x = some .free) ∧ ∃ c, env.cells.lookup x = some c ∧ h.IsCell c (some u))
structure Cx.Ok (X : Cx) : Prop where
 mod : Mod X.K X.mg X.base
 kind : X.env.scope.kind = .function
 glob : X.env.globals = mainGlobals
 blt : X.env.builtins = builtinsNs
 above : X.s₀.heap.objs.size ≤ X.env.locals
 inj : ∀ x y c, X.env.cells.lookup x = some c → X.env.cells.lookup y = some c → x = y
 has : ∀ x, (X.env.kindOf x = some .cell ∨ X.env.kindOf x = some .free) → ∃ c, X.env.cells.lookup x = some c
 cab : ∀ x c, X.fn x = true → X.env.cells.lookup x = some c → X.s₀.heap.objs.size ≤ c
 hd : X.calm = true → X.A.handled = none
 frames : X.A.frames = some X.stack
 stk : X.stack = X.outer ∨ (X.stack = X.env :: X.outer ∧ X.env.frame = some X.env.locals)
 exf : ∀ b ∈ X.ex, b ≠ X.env.locals ∧ ∀ x c, X.env.cells.lookup x = some c → c ≠ b
 bs : ∀ b o, X.base.get? b = some o → X.s₀.heap.get? b = some o ∧ X.H₀ b = none
 bsz : X.base.objs.size ≤ X.s₀.heap.objs.size
 noex : ∀ b o, X.base.get? b = some o → b ∉ X.ex
 exfs : ∀ b ∈ X.ex, b ∉ X.fs
 funs : X.s₀.heap.FunFrames X.base X.outer
 frf : ∀ b ∈ X.fs, X.H₀ b = none
structure Inv (X : Cx) (pins : List (Addr × Obj)) (σ : List (Option V)) (H : Hp) (s : Shared) : Prop where
 ok : X.Ok
 os : s.os = X.s₀.os
 bare : AllBare s.gens
 base : Un X.fs X.ex X.H₀ H X.s₀.heap s.heap
 loc : ∃ m, s.heap.Ns X.env.locals m ∧ ∀ (i : Nat) (x : Str) (v : V), X.N[i]? = some x → σ[i]? = some (some v) → Vis X.env.scope x → ∃ u, RelV v u ∧ Look X.env s.heap m x u
 cell : ∀ x c, X.env.cells.lookup x = some c → ∃ v, s.heap.IsCell c v
 free : H X.env.locals = none
 freeC : ∀ x c, X.env.cells.lookup x = some c → H c = none
 pin : ∀ p ∈ X.pn ++ pins, s.heap.get? p.1 = some p.2 ∧ H p.1 = none ∧ p.1 ≠ X.env.locals ∧ p.1 ∉ X.fs ∧ ∀ v, p.2.data ≠ .cell v
 hok : HOk X.prog X.w H s.heap
 len : σ.length = X.N.length
section
variable {X : Cx} {pins : List (Addr × Obj)} {σ : List (Option V)} {H H' : Hp} {s : Shared} {h' : Heap}
theorem Cx.Ok.nofr (ok : X.Ok) {b : Addr} {o : Obj} (e : X.base.get? b = some o) : b ∉ X.fs := fun hb => by
 have := (ok.funs.mem hb).1
 rw [e] at this; cases this
theorem Inv.bs (I : Inv X pins σ H s) : ∀ b o, X.base.get? b = some o → s.heap.get? b = some o ∧ H b = none := fun b o e =>
 ⟨I.base.keep b o (I.ok.bs b o e).1 (I.ok.bs b o e).2 (I.ok.nofr e) (I.ok.noex b o e), I.base.free b o (I.ok.bs b o e).1 (I.ok.bs b o e).2 (I.ok.noex b o e)⟩
theorem Inv.bk (I : Inv X pins σ H s) : ∀ b o, X.base.get? b = some o → s.heap.get? b = some o := fun b o e => (I.bs b o e).1
theorem Inv.mod (I : Inv X pins σ H s) : Mod X.K X.mg X.base := I.ok.mod
theorem Inv.kIn (I : Inv X pins σ H s) : X.K.In s.heap := I.ok.mod.kin.keeps I.bk
theorem Inv.lt (I : Inv X pins σ H s) : X.env.locals < s.heap.objs.size := let ⟨_, hn, _⟩ := I.loc; hn.lt
theorem Inv.sz (I : Inv X pins σ H s) : X.s₀.heap.objs.size ≤ s.heap.objs.size := Nat.le_trans I.ok.above (Nat.le_of_lt I.lt)
theorem Inv.nofs (I : Inv X pins σ H s) {a : Addr} (h : s.heap.objs.size ≤ a) : a ∉ X.fs := fun hb => by
 obtain ⟨_, o, ho, _⟩ := I.ok.funs.mem hb
 exact absurd (Nat.lt_of_lt_of_le (Heap.lt_size ho) (Nat.le_trans I.sz h)) (Nat.lt_irrefl _)
theorem Inv.cne (I : Inv X pins σ H s) : ∀ x c, X.env.cells.lookup x = some c → c ≠ X.env.locals := fun x c e z => by
 obtain ⟨v, o, ho, hd⟩ := I.cell x c e
 obtain ⟨m, ⟨o', es, ep, ho', hd', _⟩, _⟩ := I.loc
 rw [z, ho'] at ho; cases ho; rw [hd'] at hd; cases hd
theorem Inv.funs (I : Inv X pins σ H s) : s.heap.FunFrames X.base X.outer := by
 have all : ∀ (l : List Env), (∀ b ∈ frs l, b ∈ X.fs) → X.s₀.heap.FunFrames X.base l → s.heap.FunFrames X.base l := by
  intro l
  induction l with
  | nil => intro _ _; trivial
  | cons env r ih =>
   intro hs hl
   obtain ⟨hk, ⟨L, o, hf, hn, ho, hd⟩, hr⟩ := hl
   have hL : L ∈ X.fs := hs L (by unfold frs; rw [List.filterMap_cons, hf]; exact List.mem_cons_self)
   obtain ⟨sl, e⟩ := I.base.slot L o ho (I.ok.frf L hL) hL fun z => I.ok.exfs L z hL
   exact ⟨hk, ⟨L, _, hf, hn, e, hd⟩, ih (fun b hb => hs b (by unfold frs; rw [List.filterMap_cons, hf]; exact List.mem_cons_of_mem _ hb)) hr⟩
 exact all X.outer (fun _ hb => hb) I.ok.funs
theorem Inv.stack (I : Inv X pins σ H s) : s.heap.FunFrames X.base X.stack := by
 rcases I.ok.stk with e | ⟨e, hf⟩
 ·rw [e]; exact I.funs
 ·rw [e]
  obtain ⟨m, hn, _⟩ := I.loc
  refine .cons (by rw [I.ok.kind]; decide) hf hn ?_ I.funs
  exact Heap.get?_none_of_le (Nat.le_trans I.ok.bsz I.ok.above)
theorem Inv.stkSub (I : Inv X pins σ H s) : ∀ b ∈ frs X.stack, b ∈ X.env.locals :: X.fs := fun b hb => by
 rcases I.ok.stk with e | ⟨e, hf⟩
 ·rw [e] at hb; exact List.mem_cons_of_mem _ hb
 ·rw [e] at hb
  unfold frs at hb
  rw [List.filterMap_cons, hf] at hb
  exact hb
theorem Inv.stkFree (I : Inv X pins σ H s) : ∀ b ∈ frs X.stack, H b = none := fun b hb => by
 rcases List.mem_cons.mp (I.stkSub b hb) with e | hb
 ·rw [e]; exact I.free
 ·obtain ⟨_, o, ho, _⟩ := I.ok.funs.mem hb
  exact I.base.free b o ho (I.ok.frf b hb) fun z => I.ok.exfs b z hb
theorem Inv.step {g' : Array GenState} {t' : Nat} {d' : Drawn} {ch : List Addr} (I : Inv X pins σ H s)
  (hch : ∀ b ∈ ch, (b ∈ X.ex ∨ X.s₀.heap.objs.size ≤ b) ∧ b ≠ X.env.locals ∧ (∀ x c, X.env.cells.lookup x = some c → c ≠ b) ∧ ∀ p ∈ X.pn ++ pins, p.1 ≠ b)
  (keep : ∀ b o, b ≠ X.env.locals → b ∉ X.fs → b ∉ ch → s.heap.get? b = some o → H b = none → h'.get? b = some o)
  (slot : ∀ b o, b ≠ X.env.locals → b ∈ X.fs → b ∉ ch → s.heap.get? b = some o → H b = none → ∃ sl, h'.get? b = some { o with slots := sl }) (free : ∀ b o, b ∉ ch → s.heap.get? b = some o → H b = none → H' b = none)
  (there : ∀ b o, b ∉ ch → s.heap.get? b = some o → ∃ o', h'.get? b = some o')
  (tups : ∀ b xs, H b = some (.tup xs) → H' b = some (.tup xs)) (frzs : ∀ b o u, H b = some (.frz o u) → H' b = some (.frz o u)) (tbls : ∀ b ps, H b = some (.tbl ps) → ∃ more, H' b = some (.tbl (ps ++ more)))
  (ns : ∀ m, s.heap.Ns X.env.locals m → h'.Ns X.env.locals m) (hok : HOk X.prog X.w H' h') (hg : AllBare g') :
  Inv X pins σ H' { s with heap := h', gens := g', drawn := d', toks := t' } := by
 have neL : ∀ b o, X.s₀.heap.get? b = some o → b ≠ X.env.locals := fun b o e => Nat.ne_of_lt (Nat.lt_of_lt_of_le (Heap.lt_size e) I.ok.above)
 have neC : ∀ b o, X.s₀.heap.get? b = some o → b ∉ X.ex → b ∉ ch := fun b o e hx hb => by
  rcases (hch b hb).1 with z | z
  ·exact hx z
  ·exact absurd (Nat.lt_of_lt_of_le (Heap.lt_size e) z) (Nat.lt_irrefl _)
 have cellK : ∀ x c, X.env.cells.lookup x = some c → ∀ v, s.heap.IsCell c v → h'.IsCell c v := fun x c e v ⟨o, ho, hd⟩ => by
  have nch : c ∉ ch := fun z => (hch c z).2.2.1 x c e rfl
  by_cases hc : c ∈ X.fs
  ·obtain ⟨sl, q⟩ := slot c o (I.cne x c e) hc nch ho (I.freeC x c e)
   exact ⟨_, q, hd⟩
  ·exact ⟨o, keep c o (I.cne x c e) hc nch ho (I.freeC x c e), hd⟩
 refine ⟨I.ok, I.os, hg, ⟨fun b o e n hb hx => ?_, fun b o e n hb hx => ?_, fun b o e n hx => ?_, fun b o e hx => ?_, fun b xs e => tups b xs (I.base.tups b xs e), fun b o xs e => frzs b o xs (I.base.frzs b o xs e), fun b ps e => ?_⟩, ?_, fun x c e => ?_, ?_, fun x c e => ?_, fun p hp => ?_, hok, I.len⟩
 ·exact keep b o (neL b o e) hb (neC b o e hx) (I.base.keep b o e n hb hx) (I.base.free b o e n hx)
 ·obtain ⟨sl, e1⟩ := I.base.slot b o e n hb hx
  obtain ⟨sl', e2⟩ := slot b _ (neL b o e) hb (neC b o e hx) e1 (I.base.free b o e n hx)
  exact ⟨sl', e2⟩
 ·obtain ⟨o', e1⟩ := I.base.there b o e hx
  exact free b o' (neC b o e hx) e1 (I.base.free b o e n hx)
 ·obtain ⟨o', e1⟩ := I.base.there b o e hx
  exact there b o' (neC b o e hx) e1
 ·obtain ⟨m1, e1⟩ := I.base.tbls b ps e
  obtain ⟨m2, e2⟩ := tbls b _ e1
  exact ⟨m1 ++ m2, by rw [e2, Array.append_assoc]⟩
 ·obtain ⟨m, hn, hl⟩ := I.loc
  refine ⟨m, ns m hn, fun i x v e1 e2 e3 => ?_⟩
  obtain ⟨u, r, l⟩ := hl i x v e1 e2 e3
  refine ⟨u, r, ?_⟩
  rcases l with l | ⟨k, c, e, z⟩
  ·exact .inl l
  ·exact .inr ⟨k, c, e, cellK x c e _ z⟩
 ·obtain ⟨v, z⟩ := I.cell x c e
  exact ⟨v, cellK x c e v z⟩
 ·obtain ⟨m, ⟨o, _, _, ho, _⟩, _⟩ := I.loc
  exact free _ o (fun z => (hch _ z).2.1 rfl) ho I.free
 ·obtain ⟨v, o, ho, hd⟩ := I.cell x c e
  exact free c o (fun z => (hch c z).2.2.1 x c e rfl) ho (I.freeC x c e)
 ·obtain ⟨e, n, ne, nf, d⟩ := I.pin p hp
  have nch : p.1 ∉ ch := fun z => (hch p.1 z).2.2.2 p hp rfl
  exact ⟨keep p.1 p.2 ne nf nch e n, free p.1 p.2 nch e n, ne, nf, d⟩
theorem Inv.un {t' : Nat} (I : Inv X pins σ H s) (u : Un X.fs [] H H' s.heap h') (hok : HOk X.prog X.w H' h') : Inv X pins σ H' { s with heap := h', toks := t' } := by
 obtain ⟨m, ⟨o, es, ep, ho, r⟩, _⟩ := id I.loc
 obtain ⟨sl, hL⟩ := u.any ho I.free (by simp)
 exact I.step (g' := s.gens) (d' := s.drawn) (ch := []) (fun _ z => nomatch z) (fun b o _ hb _ e n => u.keep b o e n hb (by simp)) (fun b o _ hb _ e n => u.slot b o e n hb (by simp)) (fun b o _ e n => u.free b o e n (by simp)) (fun b o _ e => u.there b o e (by simp)) u.tups u.frzs u.tbls (fun m' hm => by
  obtain ⟨o', es', ep', ho', r'⟩ := hm
  rw [ho] at ho'; cases ho'
  exact ⟨_, es', ep', hL, r'⟩) hok I.bare
theorem Inv.call {g' : Array GenState} {t' : Nat} {d' : Drawn} {ch : List Addr} (I : Inv X pins σ H s) (u : Un (frs X.stack) ch H H' s.heap h') (hok : HOk X.prog X.w H' h') (hg : AllBare g')
  (hch : ∀ b ∈ ch, (b ∈ X.ex ∨ X.s₀.heap.objs.size ≤ b) ∧ b ≠ X.env.locals ∧ (∀ x c, X.env.cells.lookup x = some c → c ≠ b) ∧ ∀ p ∈ X.pn ++ pins, p.1 ≠ b) :
  Inv X pins σ H' { s with heap := h', gens := g', drawn := d', toks := t' } := by
 obtain ⟨m, ⟨o, es, ep, ho, r⟩, _⟩ := id I.loc
 obtain ⟨sl, hL⟩ := u.any ho I.free fun z => (hch _ z).2.1 rfl
 exact I.step (ch := ch) hch (fun b o hL hb hc e n => u.keep b o e n (fun z => (List.mem_cons.mp (I.stkSub b z)).elim hL hb) hc) (fun b o _ _ hc e n => u.any e n hc) (fun b o hc e n => u.free b o e n hc) (fun b o hc e => u.there b o e hc) u.tups u.frzs u.tbls (fun m' hm => by
  obtain ⟨o', es', ep', ho', r'⟩ := hm
  rw [ho] at ho'; cases ho'
  exact ⟨_, es', ep', hL, r'⟩) hok hg
theorem Inv.turned {t' : Nat} {it : Addr} (I : Inv X pins σ H s) (k : ∀ b o, b ≠ it → s.heap.get? b = some o → h'.get? b = some o) (hn : H it = none) (hL : it ≠ X.env.locals)
  (h1 : it ∈ X.ex ∨ X.s₀.heap.objs.size ≤ it) (h2 : ∀ x c, X.env.cells.lookup x = some c → c ≠ it) (h3 : ∀ p ∈ X.pn ++ pins, p.1 ≠ it) : Inv X pins σ H { s with heap := h', toks := t' } := by
 have nit : ∀ b u, H b = some u → b ≠ it := fun b u e z => by rw [z, hn] at e; cases e
 refine I.step (g' := s.gens) (d' := s.drawn) (ch := [it]) (fun b hb => ?_) (fun b o _ _ hc e _ => k b o (fun z => hc (by simp [z])) e) (fun b o _ _ hc e _ => ⟨o.slots, k b o (fun z => hc (by simp [z])) e⟩) (fun _ _ _ _ n => n)
  (fun b o hc e => ⟨o, k b o (fun z => hc (by simp [z])) e⟩) (fun _ _ e => e) (fun _ _ _ e => e) (fun b ps e => ⟨#[], by rw [e]; simp⟩) (fun m hm => ?_) (fun b u e => ?_) I.bare
 ·have e : b = it := by simpa using hb
  subst e
  exact ⟨h1, hL, h2, h3⟩
 ·obtain ⟨o, es, ep, ho, r⟩ := hm
  exact ⟨o, es, ep, k _ o (Ne.symm hL) ho, r⟩
 ·refine (I.hok b u e).stay (fun c v hc q => k c v ?_ q) (fun _ q => q) fun _ _ q => q
  rcases hc with z | z
  ·rw [z]; exact nit b u e
  ·exact nit c _ z
theorem Inv.tok (I : Inv X pins σ H s) (t : Nat) : Inv X pins σ H { s with toks := t } := I.un (h' := s.heap) (t' := t) Un.refl I.hok
theorem Inv.kept {t' : Nat} (I : Inv X pins σ H s) (k : ∀ b u, s.heap.get? b = some u → h'.get? b = some u) : Inv X pins σ H { s with heap := h', toks := t' } := I.un (Un.kept k) (I.hok.kept k)
theorem Inv.laid {a : Addr} {o : HO} {t' : Nat} (I : Inv X pins σ H s) (k : ∀ b u, s.heap.get? b = some u → h'.get? b = some u) (hp : s.heap.objs.size ≤ a) (new : ObjOk X.prog X.w (upd H a o) h' a o) :
  Inv X pins σ (upd H a o) { s with heap := h', toks := t' } := I.un (Un.laid k hp (I.hok.fresh hp)) (I.hok.laid k hp new)
theorem Inv.write {x e : Addr} {o : HO} {t' : Nat} (I : Inv X pins σ H s) (mu : Mut (H x)) (he : e = x ∨ H e = some (.own x)) (k : ∀ b u, b ≠ e → s.heap.get? b = some u → h'.get? b = some u) (heo : ∃ u, h'.get? e = some u)
  (new : ObjOk X.prog X.w (upd H x o) h' x o) : Inv X pins σ (upd H x o) { s with heap := h', toks := t' } := I.un (Un.write mu he k heo) (I.hok.write mu he k heo new)
theorem Inv.pins_of {pins' : List (Addr × Obj)} (I : Inv X pins σ H s) (h : ∀ p ∈ pins', s.heap.get? p.1 = some p.2 ∧ H p.1 = none ∧ p.1 ≠ X.env.locals ∧ p.1 ∉ X.fs ∧ ∀ v, p.2.data ≠ .cell v) : Inv X pins' σ H s :=
 ⟨I.ok, I.os, I.bare, I.base, I.loc, I.cell, I.free, I.freeC, fun p hp => (List.mem_append.mp hp).elim (fun z => I.pin p (List.mem_append_left _ z)) (h p), I.hok, I.len⟩
theorem ZU {N : List Str} (hN : N.Nodup) {i j : Nat} {x : Str} (a : N[i]? = some x) (b : N[j]? = some x) : i = j := by
 obtain ⟨h1, e1⟩ := List.getElem?_eq_some_iff.mp a
 obtain ⟨h2, e2⟩ := List.getElem?_eq_some_iff.mp b
 exact (List.getElem_inj hN).mp (e1.trans e2.symm)
theorem vR {M : Model} {A : Around} {E : Value → Shared → Prop} {i : Nat} {x : Str} {v : V} {u : Value} {Q : Unit → Shared → Prop} (I : Inv X pins σ H s) (hN : X.N.Nodup) (hi : X.N[i]? = some x) (hx : Loc X.env.scope x) (r : RelV v u)
  (h : ∀ s', Inv X pins (σ.set i (some v)) H s' → (∃ a, Heap.SameBut a s.heap s'.heap ∧ (a = X.env.locals ∨ X.env.cells.lookup x = some a)) → Q () s') (hf : X.fn x = true ∨ X.env.scope.names.lookup x = some .local := by first | exact .inl rfl | exact .inr rfl | assumption) : wpAny M A (storeName X.env x u) Q E s := by
 obtain ⟨m, hn, hl⟩ := id I.loc
 have hcls : (X.env.scope.kind == .class || (X.env.scope.kind == .module && X.env.locals != X.env.globals)) = false := by rw [I.ok.kind]; rfl
 have hiσ : i < σ.length := by rw [I.len]; exact (List.getElem?_eq_some_iff.mp hi).1
 have cne := I.cne
 have tracked : ∀ {a : Addr} {h' : Heap}, (∃ o, s.heap.get? a = some o ∧ H a = none) → Heap.SameBut a s.heap h' → HOk X.prog X.w H h' := fun {a h'} ha hs b ob e => by
  obtain ⟨_, _, hfree⟩ := ha
  refine (I.hok b ob e).stay (fun c w' hc q => (hs.2 c ?_).trans q) (fun _ q => q) fun _ _ q => q
  rintro rfl
  rcases hc with rfl | hc
  ·rw [hfree] at e; cases e
  ·rw [hfree] at hc; cases hc
 rcases hx with hk | hk
 ·refine wpAny_storeName_local hk hn (fun h' hn' hs => ?_) hcls
  obtain ⟨oL, _, _, hoL, _⟩ := id hn
  refine h _ ⟨I.ok, I.os, I.bare, ⟨fun b o e n hb hx => ?_, fun b o e n hb hx => ?_, I.base.free, fun b o e hx => ?_, I.base.tups, I.base.frzs, I.base.tbls⟩, ⟨_, hn', fun j y v' e1 e2 e3 => ?_⟩, fun y c e => ?_, I.free, I.freeC, fun p hp => ?_, tracked ⟨oL, hoL, I.free⟩ hs, by simpa using I.len⟩ ⟨_, hs, .inl rfl⟩
  ·exact (hs.2 b (Nat.ne_of_lt (Nat.lt_of_lt_of_le (Heap.lt_size e) I.ok.above))).trans (I.base.keep b o e n hb hx)
  ·obtain ⟨sl, e1⟩ := I.base.slot b o e n hb hx
   exact ⟨sl, (hs.2 b (Nat.ne_of_lt (Nat.lt_of_lt_of_le (Heap.lt_size e) I.ok.above))).trans e1⟩
  ·obtain ⟨o', e1⟩ := I.base.there b o e hx
   exact ⟨o', (hs.2 b (Nat.ne_of_lt (Nat.lt_of_lt_of_le (Heap.lt_size e) I.ok.above))).trans e1⟩
  ·by_cases hj : j = i
   ·subst hj
    rw [hi] at e1; cases e1
    rw [List.getElem?_set_self hiσ] at e2
    cases e2
    exact ⟨u, r, .inl ⟨hk, by simp⟩⟩
   ·rw [List.getElem?_set_ne (Ne.symm hj)] at e2
    obtain ⟨u', r', q⟩ := hl j y v' e1 e2 e3
    refine ⟨u', r', ?_⟩
    rcases q with ⟨k, e⟩ | ⟨k, c, e, z⟩
    ·refine .inl ⟨k, ?_⟩
     have : y ≠ x := fun e => hj (ZU hN e1 (e ▸ hi))
     simp [this, e]
    ·exact .inr ⟨k, c, e, z.sameBut hs (cne y c e)⟩
  ·obtain ⟨w', z⟩ := I.cell y c e
   exact ⟨w', z.sameBut hs (cne y c e)⟩
  ·obtain ⟨e, n, ne, nf, d⟩ := I.pin p hp
   exact ⟨(hs.2 p.1 ne).trans e, n, ne, nf, d⟩
 ·have hfn : X.fn x = true := by
   rcases hf with z | z
   ·exact z
   ·rw [z] at hk; cases hk
  obtain ⟨c, hc⟩ := I.ok.has x (.inl hk)
  obtain ⟨w', z⟩ := I.cell x c hc
  refine wpAny_storeName_cell I.ok.kind hk hc z (fun h' hc' hs => ?_)
  obtain ⟨oc, hoc, hocd⟩ := id z
  refine h { s with heap := h' } ⟨I.ok, I.os, I.bare, ⟨fun b o e n hb hx => ?_, fun b o e n hb hx => ?_, I.base.free, fun b o e hx => ?_, I.base.tups, I.base.frzs, I.base.tbls⟩, ⟨m, hn.sameBut hs (Ne.symm (cne x c hc)), fun j y v' e1 e2 e3 => ?_⟩, fun y c' e => ?_, I.free, I.freeC, fun p hp => ?_, tracked ⟨oc, hoc, I.freeC x c hc⟩ hs, by simpa using I.len⟩ ⟨c, hs, .inr hc⟩
  ·exact (hs.2 b (Nat.ne_of_lt (Nat.lt_of_lt_of_le (Heap.lt_size e) (I.ok.cab x c hfn hc)))).trans (I.base.keep b o e n hb hx)
  ·obtain ⟨sl, e1⟩ := I.base.slot b o e n hb hx
   exact ⟨sl, (hs.2 b (Nat.ne_of_lt (Nat.lt_of_lt_of_le (Heap.lt_size e) (I.ok.cab x c hfn hc)))).trans e1⟩
  ·obtain ⟨o', e1⟩ := I.base.there b o e hx
   exact ⟨o', (hs.2 b (Nat.ne_of_lt (Nat.lt_of_lt_of_le (Heap.lt_size e) (I.ok.cab x c hfn hc)))).trans e1⟩
  ·by_cases hj : j = i
   ·subst hj
    rw [hi] at e1; cases e1
    rw [List.getElem?_set_self hiσ] at e2
    cases e2
    exact ⟨u, r, .inr ⟨.inl hk, c, hc, hc'⟩⟩
   ·rw [List.getElem?_set_ne (Ne.symm hj)] at e2
    obtain ⟨u', r', q⟩ := hl j y v' e1 e2 e3
    refine ⟨u', r', ?_⟩
    rcases q with q | ⟨k, c', e, z'⟩
    ·exact .inl q
    ·refine .inr ⟨k, c', e, z'.sameBut hs ?_⟩
     rintro rfl
     exact hj (ZU hN e1 (I.ok.inj _ _ _ e hc ▸ hi))
  ·by_cases hcc : c' = c
   ·subst hcc; exact ⟨_, hc'⟩
   ·obtain ⟨w2, z2⟩ := I.cell y c' e
    exact ⟨w2, z2.sameBut hs hcc⟩
  ·obtain ⟨e, n, ne, nf, d⟩ := I.pin p hp
   refine ⟨(hs.2 p.1 ?_).trans e, n, ne, nf, d⟩
   intro q
   rw [q, hoc] at e
   have q' : oc = p.2 := Option.some.inj e
   exact d w' (by rw [← q']; exact hocd)
theorem ZQ {M : Model} {A : Around} {E : Value → Shared → Prop} {i : Nat} {x : Str} {v : V} {u : Value} {Q : Unit → Shared → Prop} (I : Inv X pins σ H s) (hN : X.N.Nodup) (hi : X.N[i]? = some x) (hx : Loc X.env.scope x) (r : RelV v u)
  (h : ∀ s', Inv X pins (σ.set i (some v)) H s' → Q () s') (hf : X.fn x = true ∨ X.env.scope.names.lookup x = some .local := by first | exact .inl rfl | exact .inr rfl | assumption) : wpAny M A (storeName X.env x u) Q E s :=
 vR I hN hi hx r (fun s' I' _ => h s' I') hf
theorem Inv.call' {s' : Shared} {ch : List Addr} (I : Inv X pins σ H s) (ho : s'.os = s.os) (u : Un (frs X.stack) ch H H' s.heap s'.heap) (hok : HOk X.prog X.w H' s'.heap) (hg : AllBare s'.gens)
  (hch : ∀ b ∈ ch, (b ∈ X.ex ∨ X.s₀.heap.objs.size ≤ b) ∧ b ≠ X.env.locals ∧ (∀ x c, X.env.cells.lookup x = some c → c ≠ b) ∧ ∀ p ∈ X.pn ++ pins, p.1 ≠ b) : Inv X pins σ H' s' := by
 obtain ⟨h', g', d', t', o'⟩ := s'
 have e : o' = s.os := ho
 subst e
 exact I.call (g' := g') (t' := t') (d' := d') u hok hg hch
end
abbrev XK := Value → Option Addr → Hp → Prop
abbrev St := List (Option V)
abbrev VK := V → Hp → Prop
abbrev TE := St → Hp → VK → Prop
abbrev TT := St → Hp → (Bool → Hp → Prop) → Prop
abbrev TA := St → Hp → (List V → Hp → Prop) → Prop
structure Ends where
 nx : St → Hp → Prop
 rt : VK
 bk : St → Hp → Prop := fun _ _ => False
 ct : St → Hp → Prop := fun _ _ => False
abbrev TS := Ends → St → Hp → Prop
def EP (X : Cx) (pins : List (Addr × Obj)) (σ : St) (Q : VK) (u : Value) (s' : Shared) : Prop := ∃ v H', Inv X pins σ H' s' ∧ RelV v u ∧ Q v H'
def TP (X : Cx) (pins : List (Addr × Obj)) (σ : St) (Q : Bool → Hp → Prop) (b : Bool) (s' : Shared) : Prop := ∃ H', Inv X pins σ H' s' ∧ Q b H'
def AP (X : Cx) (pins : List (Addr × Obj)) (σ : St) (Q : List V → Hp → Prop) (us : List Value) (s' : Shared) : Prop := ∃ vs H', Inv X pins σ H' s' ∧ Vals vs us ∧ Q vs H'
def SP (X : Cx) (pins : List (Addr × Obj)) (D : Ends) (f : Flow) (s' : Shared) : Prop :=
 match f with
 | .next => ∃ σ' H', Inv X pins σ' H' s' ∧ D.nx σ' H'
 | .brk => ∃ σ' H', Inv X pins σ' H' s' ∧ D.bk σ' H'
 | .cont => ∃ σ' H', Inv X pins σ' H' s' ∧ D.ct σ' H'
 | .ret u => ∃ v σ' H', Inv X pins σ' H' s' ∧ RelV v u ∧ D.rt v H'
def PE (X : Cx) (e : Expr) (t : TE) : Prop :=
 ∀ (pins : List (Addr × Obj)) (s : Shared) (σ : St) (H : Hp) (Q : VK), Inv X pins σ H s → t σ H Q → wpAny (model X.prog X.w) X.A (eval e X.env) (EP X pins σ Q) X.xe s
def PT (X : Cx) (e : Expr) (t : TT) : Prop :=
 ∀ (pins : List (Addr × Obj)) (s : Shared) (σ : St) (H : Hp) (Q : Bool → Hp → Prop), Inv X pins σ H s → t σ H Q → wpAny (model X.prog X.w) X.A (isTrue e X.env (eval e X.env)) (TP X pins σ Q) X.xe s
def PW (X : Cx) (e : Expr) (t : TT) : Prop :=
 ∀ (whole : Sem Value) (pins : List (Addr × Obj)) (s : Shared) (σ : St) (H : Hp) (Q : Bool → Hp → Prop), Inv X pins σ H s → t σ H Q → wpAny (model X.prog X.w) X.A (isTrue e X.env whole) (TP X pins σ Q) X.xe s
theorem PW.pt {X : Cx} {e : Expr} {t : TT} (h : PW X e t) : PT X e t := h _
def PA (X : Cx) (es : List Expr) (t : TA) : Prop :=
 ∀ (pos : Pos) (pins : List (Addr × Obj)) (s : Shared) (σ : St) (H : Hp) (Q : List V → Hp → Prop), Inv X pins σ H s → t σ H Q → wpAny (model X.prog X.w) X.A (spliced (backTo pos (starEach es X.env))) (AP X pins σ Q) X.xe s
def PS (X : Cx) (st : Stmt) (t : TS) : Prop :=
 ∀ (pins : List (Addr × Obj)) (s : Shared) (σ : St) (H : Hp) (D : Ends), Inv X pins σ H s → t D σ H → wpAny (model X.prog X.w) X.A (exec st X.env) (SP X pins D) X.xe s
def PSs (X : Cx) (st : List Stmt) (t : TS) : Prop :=
 ∀ (pins : List (Addr × Obj)) (s : Shared) (σ : St) (H : Hp) (D : Ends), Inv X pins σ H s → t D σ H → wpAny (model X.prog X.w) X.A (execs st X.env) (SP X pins D) X.xe s
theorem thn {α : Type} {t : Sem α} {Q Q' : α → Shared → Prop} {M : Model} {A : Around} {E : Value → Shared → Prop} {s : Shared} (h : wpAny M A t Q E s) (hQ : ∀ a s, Q a s → Q' a s) : wpAny M A t Q' E s := wpAny_mono h hQ fun _ _ x => x
section
variable {X : Cx}
def tVar (i : Nat) : TE := fun σ H Q => ∃ v, σ[i]? = some (some v) ∧ Q v H
def tC (v : V) : TE := fun _ H Q => Q v H
theorem XM {i : Nat} {x : Str} {pos : Pos} (hN : X.N[i]? = some x) (hv : Vis X.env.scope x) (hd : (x == ("__debug__" : Str)) = false := by decide) (hcd : (x == ("__classdict__" : Str)) = false := by decide) : PE X (.Name x pos) (tVar i) := by
 intro pins s σ H Q I h
 obtain ⟨v, e, h⟩ := h
 obtain ⟨m, hn, hl⟩ := I.loc
 obtain ⟨u, r, l⟩ := hl i x v hN e hv
 have fin : EP X pins σ Q u s := ⟨v, H, I, r, h⟩
 rcases l with ⟨hk, hm⟩ | ⟨hk, c, hc, hcell⟩
 ·exact wpAny_Name (wpAny_loadName_local I.ok.kind hk hn hm fin) hd
 ·rcases hk with hk | hk
  ·exact wpAny_Name (wpAny_loadName_cell I.ok.kind hk hc hcell fin) hd
  ·exact wpAny_Name (wpAny_loadName_free I.ok.kind hk hc hcell fin hcd) hd
theorem zd {i j pos} : PE X (.Constant (.int i) j pos) (tC (.int i)) := fun _ _ _ H _ I h => wpAny_Constant_int ⟨.int i, H, I.tok _, ⟨_, rfl⟩, h⟩
theorem vw {b j pos} : PE X (.Constant (.bool b) j pos) (tC (.bl b)) := fun _ _ _ H _ I h => Constant_bool ⟨.bl b, H, I, rfl, h⟩
theorem zp {x j pos} : PE X (.Constant (.str x) j pos) (tC (.str x)) := fun _ _ _ H _ I h => Calls.Constant_str ⟨.str x, H, I.tok _, ⟨_, rfl⟩, h⟩
def Gl (X : Cx) (x : Str) : Prop := X.env.kindOf x = some .globalImplicit
theorem ZD {E : Value → Shared → Prop} {pins : List (Addr × Obj)} {s : Shared} {σ : St} {H : Hp} {x : Str} {u : Value} {pos : Pos} {Q : Value → Shared → Prop} (I : Inv X pins σ H s) (hg : Gl X x) (hm : X.mg x = some u) (h : Q u s)
  (hd : (x == ("__debug__" : Str)) = false := by decide) : wpAny (model X.prog X.w) X.A (eval (.Name x pos) X.env) Q E s :=
 Calls.Name_function_global I.ok.kind hg (Calls.loadGlobal_global (by rw [I.ok.glob]; exact I.mod.glob.keeps I.bk) hm h) hd
theorem xn {E : Value → Shared → Prop} {pins : List (Addr × Obj)} {s : Shared} {σ : St} {H : Hp} {x : Str} {u : Value} {pos : Pos} {Q : Value → Shared → Prop} (I : Inv X pins σ H s) (hg : Gl X x) (hm : X.mg x = none) (hv : bootBuiltins x = some u) (h : Q u s)
  (hn : x ≠ "__name__" := by decide) (hd : (x == ("__debug__" : Str)) = false := by decide) : wpAny (model X.prog X.w) X.A (eval (.Name x pos) X.env) Q E s := by
 obtain ⟨mb, h1, h2⟩ := I.mod.blt
 exact Calls.Name_function_global I.ok.kind hg (Calls.loadGlobal_builtin (by rw [I.ok.glob]; exact I.mod.glob.keeps I.bk) hm (by rw [I.ok.blt]; exact h1.keeps I.bk) ((h2 x hn).trans hv) h) hd
theorem YO {x : Str} {v : V} {u : Value} {pos : Pos} (hg : Gl X x) (hm : X.mg x = some u) (r : RelV v u) (hd : (x == ("__debug__" : Str)) = false := by decide) : PE X (.Name x pos) (tC v) :=
 fun _ _ _ H _ I h => ZD I hg hm ⟨v, H, I, r, h⟩ hd
theorem xC {x : Str} {v : V} {u : Value} {pos : Pos} (hg : Gl X x) (hm : X.mg x = none) (hv : bootBuiltins x = some u) (r : RelV v u) (hn : x ≠ "__name__" := by decide) (hd : (x == ("__debug__" : Str)) = false := by decide) : PE X (.Name x pos) (tC v) :=
 fun _ _ _ H _ I h => xn I hg hm hv ⟨v, H, I, r, h⟩ hn hd
variable {a b : Expr} {ta tb : TE} {pos : Pos}
def tB (t : TE) : TT := fun σ H Q => t σ H fun x H1 => ∃ c, x = .bl c ∧ Q c H1
theorem yr {e : Expr} {t : TE} (h : PE X e t) (he : ∀ whole, isTrue e X.env whole = (do let v ← whole; standAt e.pos; holding [v] (truthy v)) := by intro _; rfl) : PT X e (tB t) := by
 intro pins s σ H Q I hw
 refine isTrue_plain (thn (h pins s σ H _ I hw) fun v s1 ⟨x, H1, I1, r1, q1⟩ => ?_) (he _)
 obtain ⟨d, rfl, q⟩ := q1
 cases r1
 exact wpAny_truthy_bool ⟨H1, I1, q⟩
variable {tA tB' : TT} {rest : List Expr}
def tAnd (t u : TT) : TT := fun σ H Q => t σ H fun c H1 => if c = true then u σ H1 Q else Q false H1
def tOr (t u : TT) : TT := fun σ H Q => t σ H fun c H1 => if c = true then Q true H1 else u σ H1 Q
def tNot (t : TT) : TT := fun σ H Q => t σ H fun c H1 => Q (!c) H1
theorem pw_and1 (ha : PT X a tA) : PW X (.BoolOp .And [a] pos) tA := by
 intro wh pins s σ H Q I h
 refine isTrue_and (thn (ha pins s σ H Q I h) fun c s1 e => ?_)
 cases c with
 | true => exact isTrue_and_nil e
 | false => exact e
theorem yB (ha : PT X a tA) : PW X (.BoolOp .Or [a] pos) tA := by
 intro wh pins s σ H Q I h
 refine isTrue_or (thn (ha pins s σ H Q I h) fun c s1 e => ?_)
 cases c with
 | false => exact isTrue_or_nil e
 | true => exact e
theorem pw_and (ha : PT X a tA) (hb : PW X (.BoolOp .And (b :: rest) pos) tB') : PW X (.BoolOp .And (a :: b :: rest) pos) (tAnd tA tB') := by
 intro wh pins s σ H Q I h
 refine isTrue_and (thn (ha pins s σ H _ I h) fun c s1 ⟨H1, I1, q1⟩ => ?_)
 cases c with
 | true => exact hb wh pins s1 σ H1 Q I1 q1
 | false => exact ⟨H1, I1, q1⟩
theorem yQ (ha : PT X a tA) (hb : PW X (.BoolOp .Or (b :: rest) pos) tB') : PW X (.BoolOp .Or (a :: b :: rest) pos) (tOr tA tB') := by
 intro wh pins s σ H Q I h
 refine isTrue_or (thn (ha pins s σ H _ I h) fun c s1 ⟨H1, I1, q1⟩ => ?_)
 cases c with
 | true => exact ⟨H1, I1, q1⟩
 | false => exact hb wh pins s1 σ H1 Q I1 q1
theorem yN (ha : PT X a tA) : PT X (.UnaryOp .Not a pos) (tNot tA) := by
 intro pins s σ H Q I h
 exact isTrue_not (ha pins s σ H (fun c H1 => Q (!c) H1) I h)
def Wz (ta tb : TE) : TE := fun σ H Q => ta σ H fun x H1 => ∃ c, x = .bl c ∧ if c = true then tb σ H1 Q else Q (.bl false) H1
def tOrV (ta tb : TE) : TE := fun σ H Q => ta σ H fun x H1 => ∃ c, x = .bl c ∧ if c = true then Q (.bl true) H1 else tb σ H1 Q
def Wu (ta : TE) : TE := fun σ H Q => ta σ H fun x H1 => ∃ c, x = .bl c ∧ Q (.bl (!c)) H1
theorem wv {op} {t : TE} (h : PE X a t) : PE X (.BoolOp op [a] pos) t := fun pins s σ H Q I hw => BoolOp_one (h pins s σ H Q I hw)
theorem x6 (ha : PE X a ta) (hb : PE X (.BoolOp .And (b :: rest) pos) tb) : PE X (.BoolOp .And (a :: b :: rest) pos) (Wz ta tb) := by
 intro pins s σ H Q I h
 refine BoolOp_and (thn (ha pins s σ H _ I h) fun v s1 ⟨x, H1, I1, r1, q1⟩ => ?_)
 obtain ⟨c, rfl, q1⟩ := q1
 cases r1
 refine wpAny_truthy_bool ?_
 cases c with
 | true => exact hb pins s1 σ H1 Q I1 q1
 | false => exact ⟨.bl false, H1, I1, rfl, q1⟩
theorem pe_or (ha : PE X a ta) (hb : PE X (.BoolOp .Or (b :: rest) pos) tb) : PE X (.BoolOp .Or (a :: b :: rest) pos) (tOrV ta tb) := by
 intro pins s σ H Q I h
 refine BoolOp_or (thn (ha pins s σ H _ I h) fun v s1 ⟨x, H1, I1, r1, q1⟩ => ?_)
 obtain ⟨c, rfl, q1⟩ := q1
 cases r1
 refine wpAny_truthy_bool ?_
 cases c with
 | false => exact hb pins s1 σ H1 Q I1 q1
 | true => exact ⟨.bl true, H1, I1, rfl, q1⟩
theorem pe_not (ha : PE X a ta) : PE X (.UnaryOp .Not a pos) (Wu ta) := by
 intro pins s σ H Q I h
 refine UnaryOp_ (thn (ha pins s σ H _ I h) fun v s1 ⟨x, H1, I1, r1, q1⟩ => ?_)
 obtain ⟨c, rfl, q1⟩ := q1
 cases r1
 exact not_of (wpAny_truthy_bool ⟨.bl (!c), H1, I1, rfl, q1⟩)
def tIf (t : TT) (ta tb : TE) : TE := fun σ H Q => t σ H fun c H1 => if c = true then ta σ H1 Q else tb σ H1 Q
theorem ZS {c : Expr} (hc : PT X c tA) (ha : PE X a ta) (hb : PE X b tb) : PE X (.IfExp c a b pos) (tIf tA ta tb) := by
 intro pins s σ H Q I h
 refine wpAny_IfExp (thn (hc pins s σ H _ I h) fun d s1 ⟨H1, I1, q1⟩ => ?_)
 cases d with
 | true => exact ha pins s1 σ H1 Q I1 q1
 | false => exact hb pins s1 σ H1 Q I1 q1
end
def SqL (K : W.Frag) (H : Hp) (a : Addr) (xs : List V) : Prop :=
 Rd H a (.lst xs) ∨
  ∃ (o : Obj) (its : Array Value) (n : Nat), K.lookup a = some o ∧ o.cls = .type "list" ∧ o.dict = none ∧ o.data = .seq its n ∧ its.size ≤ sizeLine ∧ Vals xs its.toList
def SqT (K : W.Frag) (H : Hp) (a : Addr) (xs : List V) : Prop :=
 Rd H a (.tup xs) ∨
  ∃ (o : Obj) (its : Array Value) (n : Nat), K.lookup a = some o ∧ o.cls = .type "tuple" ∧ o.data = .seq its n ∧ its.size ≤ sizeLine ∧ Vals xs its.toList
def absV : Value → Option V
 | .none => some .non
 | .bool b => some (.bl b)
 | .int i _ => some (.int i)
 | .str x _ => some (.str x)
 | .bytes b _ => some (.byt b)
 | .float b _ => some (.flt b)
 | .ref a => some (.ref a)
 | .type n => some (.ty n)
 | _ => none
theorem RelV.abs {x : V} {u : Value} (r : RelV x u) : absV u = some x := by
 cases x with
 | non => cases r; rfl
 | bl _ => cases r; rfl
 | int _ => obtain ⟨t, rfl⟩ := r; rfl
 | str _ => obtain ⟨t, rfl⟩ := r; rfl
 | byt _ => obtain ⟨t, rfl⟩ := r; rfl
 | flt _ => obtain ⟨t, rfl⟩ := r; rfl
 | ref _ => cases r; rfl
 | ty _ => cases r; rfl
theorem RelV.inj {x y : V} {u : Value} (r : RelV x u) (q : RelV y u) : x = y := Option.some.inj (r.abs.symm.trans q.abs)
theorem Vals.inj : ∀ {xs ys : List V} {us : List Value}, Vals xs us → Vals ys us → xs = ys
 | _, _, _, .nil, .nil => rfl
 | _, _, _, .cons r t, .cons r' t' => by rw [r.inj r', Vals.inj t t']
section
variable {X : Cx} {pins : List (Addr × Obj)} {σ : St} {H : Hp} {s : Shared} {a : Addr} {xs ys : List V}
theorem SqL.of {K : W.Frag} (h : H a = some (.lst xs)) : SqL K H a xs := .inl (.inl h)
theorem SqT.of {K : W.Frag} (h : H a = some (.tup xs)) : SqT K H a xs := .inl (.inl h)
theorem Inv.list (I : Inv X pins σ H s) (h : SqL X.K H a xs) : ∃ its : List Value, Vals xs its ∧ PlainL s.heap a its.toArray ∧ xs.length ≤ sizeLine := by
 rcases h with h | ⟨o, its, n, hk, hc, hd, hs, hz, r⟩
 ·obtain ⟨z, its, n, r, e⟩ := h.ok I.hok
  exact ⟨its, r, ⟨_, n, e, rfl, rfl, rfl⟩, z⟩
 ·refine ⟨its.toList, r, ⟨o, n, I.kIn a o hk, hc, hd, by simpa using hs⟩, ?_⟩
  have e := r.length
  simp only [Array.length_toList] at e
  omega
theorem Inv.tuple (I : Inv X pins σ H s) (h : SqT X.K H a xs) : ∃ its : List Value, Vals xs its ∧ IsTup s.heap a its.toArray ∧ xs.length ≤ sizeLine := by
 rcases h with h | ⟨o, its, n, hk, hc, hs, hz, r⟩
 ·obtain ⟨z, its, r, p⟩ := h.ok I.hok
  exact ⟨its, r, p, z⟩
 ·refine ⟨its.toList, r, ⟨o, I.kIn a o hk, hc, n, by simpa using hs⟩, ?_⟩
  have e := r.length
  simp only [Array.length_toList] at e
  omega
theorem Inv.list_inj (I : Inv X pins σ H s) (h : SqL X.K H a xs) (h' : SqL X.K H a ys) : xs = ys := by
 obtain ⟨its, r, ⟨o, n, e, _, _, d⟩, _⟩ := I.list h
 obtain ⟨its', r', ⟨o', n', e', _, _, d'⟩, _⟩ := I.list h'
 rw [e] at e'; cases e'
 rw [d] at d'
 injection d' with d1 _
 have : its = its' := by simpa using congrArg Array.toList d1
 subst this
 exact r.inj r'
theorem Inv.tuple_inj (I : Inv X pins σ H s) (h : SqT X.K H a xs) (h' : SqT X.K H a ys) : xs = ys := by
 obtain ⟨its, r, ⟨o, e, _, n, d⟩, _⟩ := I.tuple h
 obtain ⟨its', r', ⟨o', e', _, n', d'⟩, _⟩ := I.tuple h'
 rw [e] at e'; cases e'
 rw [d] at d'
 injection d' with d1 _
 have : its = its' := by simpa using congrArg Array.toList d1
 subst this
 exact r.inj r'
end
abbrev Cx.wish (X : Cx) (E : Value → Shared → Prop) : Cx := { X with xe := E }
abbrev Cx.nox (X : Cx) : Cx := X.wish fun _ _ => False
theorem Cx.Ok.wish {X : Cx} (ok : X.Ok) (E : Value → Shared → Prop) : (X.wish E).Ok :=
 ⟨ok.mod, ok.kind, ok.glob, ok.blt, ok.above, ok.inj, ok.has, ok.cab, ok.hd, ok.frames, ok.stk, ok.exf, ok.bs, ok.bsz, ok.noex, ok.exfs, ok.funs, ok.frf⟩
theorem Cx.Ok.unwish {X : Cx} {E : Value → Shared → Prop} (ok : (X.wish E).Ok) : X.Ok :=
 ⟨ok.mod, ok.kind, ok.glob, ok.blt, ok.above, ok.inj, ok.has, ok.cab, ok.hd, ok.frames, ok.stk, ok.exf, ok.bs, ok.bsz, ok.noex, ok.exfs, ok.funs, ok.frf⟩
section
variable {X : Cx} {pins : List (Addr × Obj)} {σ : St} {H : Hp} {s : Shared} {E : Value → Shared → Prop}
theorem Inv.wish (I : Inv X pins σ H s) (E : Value → Shared → Prop) : Inv (X.wish E) pins σ H s := ⟨I.ok.wish E, I.os, I.bare, I.base, I.loc, I.cell, I.free, I.freeC, I.pin, I.hok, I.len⟩
theorem Inv.unwish (I : Inv (X.wish E) pins σ H s) : Inv X pins σ H s := ⟨I.ok.unwish, I.os, I.bare, I.base, I.loc, I.cell, I.free, I.freeC, I.pin, I.hok, I.len⟩
theorem SP.unwish {D : Ends} {f : Flow} {s' : Shared} (h : SP (X.wish E) pins D f s') : SP X pins D f s' := by
 cases f with
 | next => obtain ⟨σ', H', I, q⟩ := h; exact ⟨σ', H', I.unwish, q⟩
 | brk => obtain ⟨σ', H', I, q⟩ := h; exact ⟨σ', H', I.unwish, q⟩
 | cont => obtain ⟨σ', H', I, q⟩ := h; exact ⟨σ', H', I.unwish, q⟩
 | ret u => obtain ⟨v, σ', H', I, r, q⟩ := h; exact ⟨v, σ', H', I.unwish, r, q⟩
theorem PSs.nox {st : List Stmt} {t : TS} (h : PSs X.nox st t) : PSs X st t := fun pins s σ H D I hw =>
 wpAny_mono (h pins s σ H D (I.wish _) hw) (fun _ _ q => q.unwish) fun _ _ z => False.elim z
end
section
variable {X : Cx} {st : Stmt} {rest : List Stmt} {t u : TS} {e : Expr} {te : TE} {pos : Pos}
def Wv : TS := fun D σ H => D.nx σ H
def tSeq (t u : TS) : TS := fun D σ H => t { D with nx := u D } σ H
theorem zw : PSs X [] Wv := fun _ _ σ H _ I h => wpAny_execs_nil ⟨σ, H, I, h⟩
theorem zf (h1 : PS X st t) (h2 : PSs X rest u) : PSs X (st :: rest) (tSeq t u) := by
 intro pins s σ H D I h
 refine wpAny_execs_cons (thn (h1 pins s σ H { D with nx := u D } I h) fun f s1 q => ?_)
 cases f with
 | next =>
  obtain ⟨σ', H', I', q⟩ := q
  exact h2 pins s1 σ' H' D I' q
 | ret v => exact q
 | brk => exact q
 | cont => exact q
theorem zg (h1 : PS X st t) : PSs X [st] t := by
 intro pins s σ H D I h
 refine wpAny_execs_cons (thn (h1 pins s σ H D I h) fun f s1 q => ?_)
 cases f with
 | next => exact wpAny_execs_nil q
 | ret v => exact q
 | brk => exact q
 | cont => exact q
def tBreak : TS := fun D σ H => D.bk σ H
theorem ps_break : PS X (.Break pos) tBreak := fun _ _ σ H _ I h => wpAny_Break ⟨σ, H, I, h⟩
theorem Inv.quiet {pins : List (Addr × Obj)} {σ : St} {H : Hp} {s : Shared} (I : Inv X pins σ H s) : interactive X.env = false := by simp [interactive, I.ok.kind]
def Ww (te : TE) : TS := fun D σ H => te σ H fun _ H1 => D.nx σ H1
theorem yE (he : PE X e te) (hs : swapsWith e none pos.line X.env = pure false := by rfl) : PS X (.Expr e pos) (Ww te) := by
 intro pins s σ H D I h
 exact wpAny_Expr_any (thn (he pins s σ H _ I h) fun v s1 ⟨x, H1, I1, r1, q1⟩ => ⟨σ, H1, I1, q1⟩) I.quiet hs
def tRet (te : TE) : TS := fun D σ H => te σ H D.rt
theorem zl (he : PE X e te) : PS X (.Return (some e) pos) (tRet te) := by
 intro pins s σ H D I h
 exact wpAny_Return_some (thn (he pins s σ H _ I h) fun v s1 ⟨x, H1, I1, r1, q1⟩ => ⟨x, σ, H1, I1, r1, q1⟩)
def tIfS (c : TT) (t u : TS) : TS := fun D σ H => c σ H fun b H1 => if b = true then t D σ H1 else u D σ H1
theorem zC {c : Expr} {a b : List Stmt} {tc : TT} (hc : PT X c tc) (ha : PSs X a t) (hb : PSs X b u) : PS X (.If c a b pos) (tIfS tc t u) := by
 intro pins s σ H D I h
 refine wpAny_If (thn (hc pins s σ H _ I h) fun d s1 ⟨H1, I1, q1⟩ => ?_)
 cases d with
 | true => exact ha pins s1 σ H1 D I1 q1
 | false => exact hb pins s1 σ H1 D I1 q1
def Xk : TS := fun _ _ _ => False
theorem ps_never : PS X st Xk := fun _ _ _ _ _ _ h => h.elim
theorem zZ {sts : List Stmt} : PSs X sts Xk := fun _ _ _ _ _ _ h => h.elim
end
abbrev TG := V → St → Hp → (St → Hp → Prop) → Prop
abbrev TGs := List V → St → Hp → (St → Hp → Prop) → Prop
def PG (X : Cx) (target : Expr) (t : TG) : Prop :=
 ∀ (pins : List (Addr × Obj)) (s : Shared) (σ : St) (H : Hp) (v : V) (u : Value) (Q : St → Hp → Prop), Inv X pins σ H s → RelV v u → t v σ H Q →
  wpAny (model X.prog X.w) X.A (assign target X.env u) (fun _ s' => ∃ σ' H', Inv X pins σ' H' s' ∧ Q σ' H') X.xe s
def PGs (X : Cx) (ts : List Expr) (t : TGs) : Prop :=
 ∀ (pins : List (Addr × Obj)) (s : Shared) (σ : St) (H : Hp) (vs : List V) (us : List Value) (Q : St → Hp → Prop), Inv X pins σ H s → Vals vs us → t vs σ H Q →
  wpAny (model X.prog X.w) X.A (assignInOrder ((assignEach ts X.env).map (·.2)) us) (fun _ s' => ∃ σ' H', Inv X pins σ' H' s' ∧ Q σ' H') X.xe s
abbrev TSet := V → V → V → Hp → (Hp → Prop) → Prop
def PSet (X : Cx) (t : TSet) : Prop :=
 ∀ (pins : List (Addr × Obj)) (s : Shared) (σ : St) (H : Hp) (o i v : V) (ov iv u : Value) (Q : Hp → Prop), Inv X pins σ H s → RelV o ov → RelV i iv → RelV v u → t o i v H Q →
  wpAny (model X.prog X.w) X.A (setItem ov iv u) (fun _ s' => ∃ H', Inv X pins σ H' s' ∧ Q H') X.xe s
section
variable {X : Cx} {pos : Pos}
def zU (i : Nat) : TG := fun v σ H Q => Q (σ.set i (some v)) H
theorem YN {i : Nat} {x : Str} (hN : X.N.Nodup) (hi : X.N[i]? = some x) (hx : Loc X.env.scope x) (hf : X.fn x = true ∨ X.env.scope.names.lookup x = some .local := by first | exact .inl rfl | exact .inr rfl | assumption) : PG X (.Name x pos) (zU i) := by
 intro pins s σ H v u Q I r h
 exact wpAny_assign_Name (ZQ I hN hi hx r (fun s' I' => ⟨_, H, I', h⟩) hf)
def gNil : TGs := fun vs σ H Q => vs = [] ∧ Q σ H
def yP (t : TG) (u : TGs) : TGs := fun vs σ H Q => ∃ v r, vs = v :: r ∧ t v σ H fun σ' H' => u r σ' H' Q
theorem yF : PGs X [] gNil := by
 intro pins s σ H vs us Q I r h
 obtain ⟨e, h⟩ := h
 subst e
 cases r
 exact assignInOrder_nil ⟨σ, H, I, h⟩
theorem zN {e : Expr} {es : List Expr} {t : TG} {u : TGs} (h1 : PG X e t) (h2 : PGs X es u)
  (hs : (assignEach (e :: es) X.env).map (·.2) = assign e X.env :: (assignEach es X.env).map (·.2) := by rfl) : PGs X (e :: es) (yP t u) := by
 intro pins s σ H vs us Q I r h
 obtain ⟨v, vr, e1, h⟩ := h
 subst e1
 cases r with
 | cons r rr =>
  rw [hs]
  refine assignInOrder_cons (thn (h1 pins s σ H _ _ _ I r h) fun _ s1 ⟨σ1, H1, I1, q1⟩ => ?_)
  exact h2 pins s1 σ1 H1 _ _ Q I1 rr q1
def gTup (K : W.Frag) (n : Nat) (t : TGs) : TG := fun v σ H Q => ∃ a xs, v = .ref a ∧ SqT K H a xs ∧ xs.length = n ∧ t xs σ H Q
theorem XJ {es : List Expr} {k : Nat} {t : TGs} {n : Nat} (hc : X.calm = true) (h : PGs X es t)
  (hn : (assignEach es X.env).length = n := by rfl) (hst : (assignEach es X.env).findIdx? (·.1) = none := by rfl) : PG X (.Tuple es k pos) (gTup X.K n t) := by
 intro pins s σ H v u Q I r hw
 obtain ⟨a, xs, e1, hq, hl, hw⟩ := hw
 subst e1
 cases r
 obtain ⟨its, rv, ht, hz⟩ := I.tuple hq
 refine assign_Tuple_tuple (I.ok.hd hc) ht (by simp [hn, ← hl, rv.length]) hst fun h' hx => ?_
 have I1 : Inv X pins σ H { s with heap := h' } := I.kept (t' := s.toks) fun b o e => hx b o (Nat.ne_of_lt (Heap.lt_size e)) e
 exact h pins _ σ H xs _ Q I1 (by simpa using rv) hw
def gSub (to ti : TE) (t : TSet) : TG := fun v σ H Q => to σ H fun o H1 => ti σ H1 fun i H2 => t o i v H2 fun H3 => Q σ H3
theorem wu {o i : Expr} {to ti : TE} {t : TSet} (ho : PE X o to) (hi : PE X i ti) (hs : PSet X t)
  (ha : ∀ v, assign (.Subscript o i pos) X.env v = (do
   let ov ← holding [v] (eval o X.env)
   let iv ← holding [v, ov] (eval i X.env)
   standAt pos
   holding [v, ov, iv] (setItem ov iv v)
   release [v, ov, iv] []) := by intro _; rfl) : PG X (.Subscript o i pos) (gSub to ti t) := by
 intro pins s σ H v u Q I r h
 rw [ha]
 refine wpAny_bind (wpAny_holding (thn (ho pins s σ H _ I h) fun ov s1 ⟨x, H1, I1, r1, q1⟩ => ?_))
 refine wpAny_bind (wpAny_holding (thn (hi pins s1 σ H1 _ I1 q1) fun iv s2 ⟨y, H2, I2, r2, q2⟩ => ?_))
 refine wpAny_bind (wpAny_standAt (wpAny_bind (wpAny_holding (thn (hs pins s2 σ H2 x y v ov iv u _ I2 r1 r2 r q2) fun _ s3 ⟨H3, I3, q3⟩ => ?_))))
 exact wpAny_release ⟨σ, H3, I3, q3⟩
def tAsg (te : TE) (g : TG) : TS := fun D σ H => te σ H fun x H1 => g x σ H1 D.nx
theorem wt {tg e : Expr} {te : TE} {g : TG} (he : PE X e te) (hg : PG X tg g) (hs : swapsWithSole [tg] e pos.line X.env = pure false := by rfl) (hw : swappedStores [tg] e X.env = pure none := by rfl)
  (h1 : (assignEach [tg] X.env).map (·.2) = [assign tg X.env] := by rfl) : PS X (.Assign [tg] e pos) (tAsg te g) := by
 intro pins s σ H D I h
 refine wpAny_Assign_stores (thn (he pins s σ H _ I h) fun v s1 ⟨x, H1, I1, r1, q1⟩ => ?_) hs hw
 rw [h1]
 exact thn (hg pins s1 σ H1 x v _ I1 r1 q1) fun _ s2 q => q
theorem ps_set {i : Nat} {x : Str} {e : Expr} {te : TE} {pos' : Pos} (hN : X.N.Nodup) (hi : X.N[i]? = some x) (hx : Loc X.env.scope x) (he : PE X e te) (hs : swapsWith e (some (.Name x pos')) pos.line X.env = pure false := by rfl) (hf : X.fn x = true ∨ X.env.scope.names.lookup x = some .local := by first | exact .inl rfl | exact .inr rfl | assumption) :
  PS X (.Assign [.Name x pos'] e pos) (tAsg te (zU i)) := by
 intro pins s σ H D I h
 refine wpAny_Assign_Name (thn (he pins s σ H _ I h) fun v s1 ⟨y, H1, I1, r1, q1⟩ => ?_) hs
 exact ZQ I1 hN hi hx r1 (fun s2 I2 => ⟨_, H1, I2, q1⟩) hf
def Xj (c : TT) (tb : TS) : TS := fun D σ H => ∃ W : Nat → St → Hp → Prop, (∃ m, W m σ H) ∧ ∀ m σ H, W m σ H →
 c σ H fun b H1 => if b = true then ∃ N : St → Hp → Prop, (∀ σ' H', N σ' H' → ∃ m', m' < m ∧ W m' σ' H') ∧ tb { D with nx := N, ct := N, bk := D.nx } σ H1 else D.nx σ H1
theorem ps_while {c : Expr} {body : List Stmt} {tc : TT} {tb : TS} (hp : PassesOwn (model X.prog X.w) X.A X.env X.xe) (hc : PT X c tc) (hb : PSs X body tb) : PS X (.While c body [] pos) (Xj tc tb) := by
 intro pins s σ H D I h
 obtain ⟨W, ⟨m0, w0⟩, turn⟩ := h
 refine wpAny_While (codeAny_whileLoop (fun n s' => ∃ σ' H', Inv X pins σ' H' s' ∧ W n σ' H') ?_ m0 ⟨σ, H, I, w0⟩)
 rintro n s1 ⟨σ1, H1, I1, w1⟩
 refine wpAny_passesOwn hp (thn (hc pins s1 σ1 H1 _ I1 (turn n σ1 H1 w1)) fun b s2 ⟨H2, I2, q2⟩ => ?_)
 cases b with
 | true =>
  obtain ⟨N, hN, q2⟩ := q2
  rw [if_pos rfl]
  refine wpAny_passesOwn hp (thn (hb pins s2 σ1 H2 _ I2 q2) fun f s3 q3 => ?_)
  cases f with
  | next =>
   obtain ⟨σ3, H3, I3, n3⟩ := q3
   obtain ⟨m', hm, w3⟩ := hN σ3 H3 n3
   exact ⟨m', hm, σ3, H3, I3, w3⟩
  | cont =>
   obtain ⟨σ3, H3, I3, n3⟩ := q3
   obtain ⟨m', hm, w3⟩ := hN σ3 H3 n3
   exact ⟨m', hm, σ3, H3, I3, w3⟩
  | brk => exact q3
  | ret v => exact q3
 | false =>
  rw [if_neg Bool.false_ne_true]
  exact wpAny_execs_nil ⟨σ1, H2, I2, q2⟩
end
structure It where
 go : Nat → Hp → Prop
 yld : Nat → Hp → V → Hp → Prop
 stop : Nat → Hp → Prop
def FpOk (X : Cx) (pins : List (Addr × Obj)) (H : Hp) (b : Addr) : Prop :=
 H b = none ∧ b ≠ X.env.locals ∧ b ∉ X.fs ∧ (b ∈ X.ex ∨ X.s₀.heap.objs.size ≤ b) ∧ (∀ x c, X.env.cells.lookup x = some c → c ≠ b) ∧ ∀ p ∈ X.pn ++ pins, p.1 ≠ b
theorem Inv.fpOk {X : Cx} {pins : List (Addr × Obj)} {σ : St} {H H' : Hp} {s : Shared} {b : Addr} (I : Inv X pins σ H s) (hb : s.heap.objs.size ≤ b) (hn : H' b = none) : FpOk X pins H' b := by
 refine ⟨hn, Nat.ne_of_gt (Nat.lt_of_lt_of_le I.lt hb), I.nofs hb, .inr (Nat.le_trans I.sz hb), fun x c e z => ?_, fun p hp z => ?_⟩
 ·obtain ⟨v, q⟩ := I.cell x c e
  exact absurd (Nat.lt_of_lt_of_le q.lt (by rw [z]; exact hb)) (Nat.lt_irrefl _)
 ·exact absurd (Nat.lt_of_lt_of_le (Heap.lt_size (I.pin p hp).1) (by rw [z]; exact hb)) (Nat.lt_irrefl _)
structure Turn (P : Program) (w : World) (K : W.Frag) (tg : Expr) (J : It) (fp : List Addr) (it : Addr) (tn : Nat → Heap → Prop) : Prop where
 mem : it ∈ fp
 obj : ∀ i h, tn i h → ∀ b ∈ fp, ∃ o, h.get? b = some o ∧ ∀ v, o.data ≠ .cell v
 keep : ∀ i h h', tn i h → (∀ b ∈ fp, ∀ o, h.get? b = some o → h'.get? b = some o) → tn i h'
 item : ∀ (X : Cx), X.prog = P → X.w = w → X.K = K → X.calm = true → ∀ (i : Nat) (pins : List (Addr × Obj)) (s : Shared) (σ : St) (H : Hp) (E : Value → Shared → Prop), Inv X pins σ H s → (∀ b ∈ fp, FpOk X pins H b) → tn i s.heap → J.go i H →
  wpAny (model P w) X.A (pyNext (.ref it)) (fun r s1 => ∃ u, r = some u ∧
   wpAny (model P w) X.A (letOwnedTupleGo tg (.ref it) u) (fun _ s2 => ∃ x H', Inv X pins σ H' s2 ∧ RelV x u ∧ J.yld i H x H' ∧ tn (i + 1) s2.heap ∧ ∀ b ∈ fp, H' b = none) E s1) E s
 done : ∀ (X : Cx), X.prog = P → X.w = w → X.K = K → X.calm = true → ∀ (i : Nat) (pins : List (Addr × Obj)) (s : Shared) (σ : St) (H : Hp) (E : Value → Shared → Prop), Inv X pins σ H s → (∀ b ∈ fp, FpOk X pins H b) → tn i s.heap → J.stop i H →
  wpAny (model P w) X.A (pyNext (.ref it)) (fun r s1 => r = none ∧ Inv X pins σ H s1) E s
 self : ∀ (A : Around) (i : Nat) (s : Shared) (Q : Value → Shared → Prop) (E : Value → Shared → Prop), tn i s.heap → Q (.ref it) s → wpAny (model P w) A (pyIter (.ref it)) Q E s
abbrev TI := St → Hp → (It → Hp → Prop) → Prop
def PIE (X : Cx) (pins : List (Addr × Obj)) (σ : St) (tg : Expr) (R : It → Hp → Prop) (itv : Value) (s2 : Shared) : Prop :=
 ∃ (it : Addr) (fp : List Addr) (tn : Nat → Heap → Prop) (J : It) (H' : Hp), itv = .ref it ∧ Inv X pins σ H' s2 ∧ Turn X.prog X.w X.K tg J fp it tn ∧ tn 0 s2.heap ∧ (∀ b ∈ fp, FpOk X pins H' b) ∧ R J H'
def PI (X : Cx) (tg iter : Expr) (wi : TI) : Prop :=
 ∀ (pins : List (Addr × Obj)) (s : Shared) (σ : St) (H : Hp) (R : It → Hp → Prop), Inv X pins σ H s → wi σ H R →
  wpAny (model X.prog X.w) X.A (eval iter X.env) (fun v s1 => wpAny (model X.prog X.w) X.A (pyIter v) (PIE X pins σ tg R) X.xe s1) X.xe s
theorem Zb {M : Model} {A : Around} {E : Value → Shared → Prop} {s : Shared} {tg : Expr} {it : Addr} {u : Value} {o : Obj} {n : String} {vs : Array Value} {Q : Unit → Shared → Prop} (ho : s.heap.get? it = some o) (hc : o.cls = .type n) (hd : o.data = .fields vs)
    (hn : ["enumerate", "zip", "dict_itemiterator", "dict_reverseitemiterator", "odict_iterator", "itertools.zip_longest", "itertools.pairwise"].contains n = false) (hQ : Q () s) : wpAny M A (letOwnedTupleGo tg (.ref it) u) Q E s := by
  unfold letOwnedTupleGo
  cases tg <;> first
    | exact wpAny_pure hQ
    | (cases u <;> first
        | exact wpAny_pure hQ
        | (refine wpAny_bind (wpAny_load ho ?_)
           rw [hc, hd]
           show wpAny M A (if (["enumerate", "zip", "dict_itemiterator", "dict_reverseitemiterator", "odict_iterator", "itertools.zip_longest", "itertools.pairwise"].contains n && vs[0]? == some (rawInt _)) = true then _ else _) Q E s
           rw [if_neg (by intro h; rw [hn, Bool.false_and] at h; cases h)]
           exact wpAny_pure hQ))
def Itl (K : W.Frag) (a : Addr) : It :=
 ⟨fun i H => ∃ xs x, SqL K H a xs ∧ xs[i]? = some x, fun i H x H' => H' = H ∧ ∀ xs, SqL K H a xs → xs[i]? = some x, fun i H => ∃ xs, SqL K H a xs ∧ xs.length ≤ i⟩
def Itt (K : W.Frag) (a : Addr) : It :=
 ⟨fun i H => ∃ xs x, SqT K H a xs ∧ xs[i]? = some x, fun i H x H' => H' = H ∧ ∀ xs, SqT K H a xs → xs[i]? = some x, fun i H => ∃ xs, SqT K H a xs ∧ xs.length ≤ i⟩
def Itr (lo : Int) (n : Nat) : It := ⟨fun i _ => i < n, fun i H x H' => H' = H ∧ x = .int (lo + i), fun i _ => n ≤ i⟩
theorem turn_list {P : Program} {w : World} {K : W.Frag} {tg : Expr} (a it : Addr) : Turn P w K tg (Itl K a) [it] it (fun i h => h.IsListIter it a i) where
 mem := by simp
 obj := fun i h st b hb => by
  have e : b = it := by simpa using hb
  subst e
  obtain ⟨o, e, c, d⟩ := st
  exact ⟨o, e, fun v z => by rw [d] at z; cases z⟩
 keep := fun i h h' st k => st.at fun o e => k it (by simp) o e
 item := by
  intro X hP hw hK hc i pins s σ H E I hf st hg
  subst hP hw hK
  obtain ⟨xs, x, hq, hx⟩ := hg
  obtain ⟨its, rv, p, hz⟩ := I.list hq
  obtain ⟨u, hu, ru⟩ := rv.get hx
  obtain ⟨f0, f1, f2, f3, f4, f5⟩ := hf it (by simp)
  refine wpAny_pyNext_list_item st p.isList (x := u) (by simpa using hu) fun h' st' sb => ?_
  have I1 : Inv X pins σ H { s with heap := h' } := I.turned (t' := s.toks) (fun b o hb e => (sb.2 b hb).trans e) f0 f1 f3 f4 f5
  obtain ⟨o, e, c, d⟩ := id st'
  exact ⟨u, rfl, Zb (s := { s with heap := h' }) e c d (by decide) ⟨x, H, I1, ru, ⟨rfl, fun ys hy => by rw [I.list_inj hy hq]; exact hx⟩, st', fun b hb => (hf b hb).1⟩⟩
 done := by
  intro X hP hw hK hc i pins s σ H E I hf st hg
  subst hP hw hK
  obtain ⟨xs, hq, hx⟩ := hg
  obtain ⟨its, rv, p, hz⟩ := I.list hq
  obtain ⟨f0, f1, f2, f3, f4, f5⟩ := hf it (by simp)
  have hl := rv.length
  exact wpAny_pyNext_list_end (I.ok.hd hc) st p.isList (by simp; omega) fun h' eb => ⟨rfl, I.turned (t' := s.toks) (fun b o hb e => eb b o hb e) f0 f1 f3 f4 f5⟩
 self := fun _ _ _ _ _ st h => wpAny_pyIter_listiter st h
theorem turn_tuple {P : Program} {w : World} {K : W.Frag} {tg : Expr} (a it : Addr) : Turn P w K tg (Itt K a) [it] it (fun i h => h.IsTupleIter it a i) where
 mem := by simp
 obj := fun i h st b hb => by
  have e : b = it := by simpa using hb
  subst e
  obtain ⟨o, e, c, d⟩ := st
  exact ⟨o, e, fun v z => by rw [d] at z; cases z⟩
 keep := fun i h h' st k => st.at fun o e => k it (by simp) o e
 item := by
  intro X hP hw hK hc i pins s σ H E I hf st hg
  subst hP hw hK
  obtain ⟨xs, x, hq, hx⟩ := hg
  obtain ⟨its, rv, p, hz⟩ := I.tuple hq
  obtain ⟨u, hu, ru⟩ := rv.get hx
  obtain ⟨f0, f1, f2, f3, f4, f5⟩ := hf it (by simp)
  refine wpAny_pyNext_tuple_item st (show s.heap.IsTuple a its.toArray from p) (x := u) (by simpa using hu) fun h' st' sb => ?_
  have I1 : Inv X pins σ H { s with heap := h' } := I.turned (t' := s.toks) (fun b o hb e => (sb.2 b hb).trans e) f0 f1 f3 f4 f5
  obtain ⟨o, e, c, d⟩ := id st'
  exact ⟨u, rfl, Zb (s := { s with heap := h' }) e c d (by decide) ⟨x, H, I1, ru, ⟨rfl, fun ys hy => by rw [I.tuple_inj hy hq]; exact hx⟩, st', fun b hb => (hf b hb).1⟩⟩
 done := by
  intro X hP hw hK hc i pins s σ H E I hf st hg
  subst hP hw hK
  obtain ⟨xs, hq, hx⟩ := hg
  obtain ⟨its, rv, p, hz⟩ := I.tuple hq
  obtain ⟨f0, f1, f2, f3, f4, f5⟩ := hf it (by simp)
  have hl := rv.length
  exact wpAny_pyNext_tuple_end (I.ok.hd hc) st (show s.heap.IsTuple a its.toArray from p) (by simp; omega) fun h' eb => ⟨rfl, I.turned (t' := s.toks) (fun b o hb e => eb b o hb e) f0 f1 f3 f4 f5⟩
 self := fun _ _ _ _ _ st h => wpAny_pyIter_tupleiter st h
theorem turn_range {P : Program} {w : World} {K : W.Frag} {tg : Expr} (it : Addr) (lo : Int) (n : Nat) : Turn P w K tg (Itr lo n) [it] it (fun i h => IsRangeIter h it (lo + (i : Nat) * 1) ((n : Int) - (i : Nat)) 1) where
 mem := by simp
 obj := fun i h st b hb => by
  have e : b = it := by simpa using hb
  subst e
  exact ⟨_, st, fun v z => by
   have z' : Data.fields _ = Data.cell v := z
   cases z'⟩
 keep := fun i h h' st k => k it (by simp) _ st
 item := by
  intro X hP hw hK hc i pins s σ H E I hf st hg
  subst hP hw hK
  obtain ⟨f0, f1, f2, f3, f4, f5⟩ := hf it (by simp)
  have W := Walks.range (prog := X.prog) (w := X.w) (I.ok.hd hc) it lo 1 n
  refine W.item i s _ _ hg st fun v h' tk hv st' kk => ?_
  obtain ⟨t, rfl⟩ := hv
  have I1 : Inv X pins σ H { s with heap := h', toks := tk } := I.turned (fun b o hb e => kk b o (by simpa using hb) e) f0 f1 f3 f4 f5
  refine ⟨_, rfl, Zb (s := { s with heap := h', toks := tk }) (n := "range_iterator") st' rfl rfl (by decide) ⟨.int (lo + i), H, I1, ⟨t, ?_⟩, ⟨rfl, rfl⟩, st', fun b hb => (hf b hb).1⟩⟩
  rw [Int.mul_one]
 done := by
  intro X hP hw hK hc i pins s σ H E I hf st hg
  subst hP hw hK
  obtain ⟨f0, f1, f2, f3, f4, f5⟩ := hf it (by simp)
  exact wpAny_pyNext_range_end (I.ok.hd hc) st (by have : n ≤ i := hg; omega) fun h' eb => ⟨rfl, I.turned (t' := s.toks) (fun b o hb e => eb b o hb e) f0 f1 f3 f4 f5⟩
 self := fun _ _ _ _ _ st h => wpAny_pyIter_rangeiter st h
section
variable {X : Cx} {tg : Expr}
def Va (K : W.Frag) (tl : TE) : TI := fun σ H R => tl σ H fun x H1 => ∃ a, x = .ref a ∧ (∃ xs, SqL K H1 a xs) ∧ R (Itl K a) H1
def iTup (K : W.Frag) (tl : TE) : TI := fun σ H R => tl σ H fun x H1 => ∃ a, x = .ref a ∧ (∃ xs, SqT K H1 a xs) ∧ R (Itt K a) H1
theorem xi {l : Expr} {tl : TE} (hl : PE X l tl) : PI X tg l (Va X.K tl) := by
 intro pins s σ H R I h
 refine thn (hl pins s σ H _ I h) fun v s1 ⟨x, H1, I1, r1, q1⟩ => ?_
 obtain ⟨a, e, ⟨xs, hq⟩, q⟩ := q1
 subst e
 cases r1
 obtain ⟨its, rv, p, hz⟩ := I1.list hq
 refine wpAny_pyIter_list p.isList ?_
 refine ⟨s1.heap.objs.size, [s1.heap.objs.size], _, _, H1, rfl, I1.kept (t' := s1.toks) fun b o e => Heap.get?_push_of_some _ e, turn_list a _, ⟨_, Heap.get?_push_size _ rfl, rfl, rfl⟩, fun b hb => ?_, q⟩
 have e : b = s1.heap.objs.size := by simpa using hb
 subst e
 exact I1.fpOk (Nat.le_refl _) (I1.hok.fresh (Nat.le_refl _))
theorem yd {l : Expr} {tl : TE} (hl : PE X l tl) : PI X tg l (iTup X.K tl) := by
 intro pins s σ H R I h
 refine thn (hl pins s σ H _ I h) fun v s1 ⟨x, H1, I1, r1, q1⟩ => ?_
 obtain ⟨a, e, ⟨xs, hq⟩, q⟩ := q1
 subst e
 cases r1
 obtain ⟨its, rv, p, hz⟩ := I1.tuple hq
 refine wpAny_pyIter_tuple (show s1.heap.IsTuple a its.toArray from p) ?_
 refine ⟨s1.heap.objs.size, [s1.heap.objs.size], _, _, H1, rfl, I1.kept (t' := s1.toks) fun b o e => Heap.get?_push_of_some _ e, turn_tuple a _, ⟨_, Heap.get?_push_size _ rfl, rfl, rfl⟩, fun b hb => ?_, q⟩
 have e : b = s1.heap.objs.size := by simpa using hb
 subst e
 exact I1.fpOk (Nat.le_refl _) (I1.hok.fresh (Nat.le_refl _))
theorem range_it {pins : List (Addr × Obj)} {σ : St} {H : Hp} {s : Shared} {R : It → Hp → Prop} {E : Value → Shared → Prop} {lo hi : Int} {t u v : Tok} {tk : Nat} (I : Inv X pins σ H s) (h1 : -(2 ^ 62) ≤ lo) (h2 : lo < 2 ^ 62) (h3 : -(2 ^ 62) ≤ hi) (h4 : hi < 2 ^ 62)
  (q : R (Itr lo (hi - lo).toNat) H) : wpAny (model X.prog X.w) X.A (pyIter (.ref s.heap.objs.size)) (PIE X pins σ tg R) E { s with heap := s.heap.push { cls := .type "range", data := .fields #[.int lo t, .int hi u, .int 1 v] }, toks := tk } := by
 refine wpAny_pyIter_range (IsRange.new ..) (small_one h1 h2 h3 h4) ?_
 have I1 : Inv X pins σ H { s with heap := s.heap.push { cls := .type "range", data := .fields #[.int lo t, .int hi u, .int 1 v] }, toks := tk } := I.kept fun b o e => Heap.get?_push_of_some _ e
 refine ⟨(s.heap.push { cls := .type "range", data := .fields #[.int lo t, .int hi u, .int 1 v] }).objs.size, [(s.heap.push { cls := .type "range", data := .fields #[.int lo t, .int hi u, .int 1 v] }).objs.size], _, _, H, rfl,
  I1.kept (t' := tk) fun b o e => Heap.get?_push_of_some _ e, turn_range _ lo (hi - lo).toNat, ?_, fun b hb => ?_, q⟩
 ·have e1 : lo + ((0 : Nat) : Int) * 1 = lo := by simp
  have e2 : (((hi - lo).toNat : Nat) : Int) - ((0 : Nat) : Int) = Builtin.Range.rangeSize lo hi 1 := by rw [rangeSize_one]; split <;> omega
  show IsRangeIter _ _ (lo + ((0 : Nat) : Int) * 1) ((((hi - lo).toNat : Nat) : Int) - ((0 : Nat) : Int)) 1
  rw [e1, e2]
  exact Heap.get?_push_size _ rfl
 ·have e : b = (s.heap.push { cls := .type "range", data := .fields #[.int lo t, .int hi u, .int 1 v] }).objs.size := by simpa using hb
  subst e
  exact I1.fpOk (Nat.le_refl _) (I1.hok.fresh (Nat.le_refl _))
def Y0 (ta : TA) : TI := fun σ H R => ta σ H fun vs H1 => ∃ j : Int, vs = [.int j] ∧ -(2 ^ 62) ≤ j ∧ j < 2 ^ 62 ∧ R (Itr 0 j.toNat) H1
theorem pi_range1 {a : Expr} {ta : TA} {p pos : Pos} (hg : Gl X "range") (hm : X.mg "range" = none) (ha : PA X [a] ta) (hs : starEach [a] X.env = [(false, eval a X.env)] := by rfl) : PI X tg (.Call (.Name "range" p) [a] [] pos) (Y0 ta) := by
 intro pins s σ H R I h
 refine Call_ (xn I hg hm boot_range (PyProof.Rows.callWith_type1 (thn (ha pos pins s σ H _ I h) fun us s1 ⟨vs, H1, I1, r1, q1⟩ => ?_) hs rfl))
 obtain ⟨j, e, q1, q2, q⟩ := q1
 subst e
 cases r1 with
 | cons r rr =>
  cases rr
  obtain ⟨t, rfl⟩ := r
  exact call_range_1 (range_it I1 (by omega) (by omega) q1 q2 (by simpa using q))
def tFor (wi : TI) (g : TG) (tb : TS) : TS := fun D σ H => wi σ H fun J H1 => ∃ W : Nat → Nat → St → Hp → Prop, (∃ m, W 0 m σ H1) ∧ ∀ i m σ H, W i m σ H →
 (J.stop i H ∧ D.nx σ H) ∨ (J.go i H ∧ ∃ N : St → Hp → Prop, (∀ σ' H', N σ' H' → ∃ m', m' < m ∧ W (i + 1) m' σ' H') ∧ ∀ x H', J.yld i H x H' → g x σ H' fun σ2 H2 => tb { D with nx := N, ct := N, bk := D.nx } σ2 H2)
def vv (fp : List Addr) (h : Heap) : List (Addr × Obj) := fp.filterMap fun b => (h.get? b).map fun o => (b, o)
theorem xm {fp : List Addr} {h : Heap} {b : Addr} {o : Obj} (hb : b ∈ fp) (e : h.get? b = some o) : (b, o) ∈ vv fp h := List.mem_filterMap.mpr ⟨b, hb, by rw [e]; rfl⟩
theorem of_pinsAt {fp : List Addr} {h : Heap} {p : Addr × Obj} (hp : p ∈ vv fp h) : p.1 ∈ fp ∧ h.get? p.1 = some p.2 := by
 obtain ⟨b, hb, e⟩ := List.mem_filterMap.mp hp
 cases q : h.get? b with
 | none => rw [q] at e; cases e
 | some o =>
  rw [q] at e
  have e' : (b, o) = p := Option.some.inj e
  subst e'
  exact ⟨hb, q⟩
theorem Inv.pinned {pins : List (Addr × Obj)} {σ : St} {H : Hp} {s : Shared} {fp : List Addr} (I : Inv X pins σ H s) (hf : ∀ b ∈ fp, FpOk X pins H b) (ho : ∀ b ∈ fp, ∃ o, s.heap.get? b = some o ∧ ∀ v, o.data ≠ .cell v) : Inv X (pins ++ vv fp s.heap) σ H s :=
 I.pins_of fun p hp => (List.mem_append.mp hp).elim (fun z => I.pin p (List.mem_append_right _ z)) fun z => by
  obtain ⟨hb, e⟩ := of_pinsAt z
  obtain ⟨f0, f1, f2, _⟩ := hf p.1 hb
  obtain ⟨o, e', d⟩ := ho p.1 hb
  rw [e] at e'; cases e'
  exact ⟨e, f0, f1, f2, d⟩
theorem Inv.unpinned {pins pl : List (Addr × Obj)} {σ : St} {H : Hp} {s : Shared} (I : Inv X (pins ++ pl) σ H s) : Inv X pins σ H s := I.pins_of fun p hp => I.pin p (List.mem_append_right _ (List.mem_append_left _ hp))
theorem yt {iter : Expr} {body : List Stmt} {wi : TI} {g : TG} {tb : TS} {pos : Pos} (hp : PassesOwn (model X.prog X.w) X.A X.env X.xe) (hc : X.calm = true) (hi : PI X tg iter wi) (hg : PG X tg g) (hb : PSs X body tb)
  (hs : ∀ x, foldedSetIterable iter X.env x = pure x := by intro _; rfl) : PS X (.For tg iter body [] pos) (tFor wi g tb) := by
 intro pins s σ H D I h
 refine wpAny_For (thn (hi pins s σ H _ I h) fun v s1 h1 => thn h1 fun itv s2 h2 => ?_) hs
 obtain ⟨it, fp, tn, J, H2, e, I2, T, st2, f2, W, ⟨m0, w0⟩, turn⟩ := h2
 subst e
 -- what stays true of the iterator's objects through the loop
 have stat : ∀ {H' : Hp}, (∀ b ∈ fp, H' b = none) → ∀ b ∈ fp, FpOk X pins H' b := fun hn b hb => ⟨hn b hb, (f2 b hb).2⟩
 refine codeAny_forLoop_any (fun n s' => ∃ i σ' H', Inv X pins σ' H' s' ∧ tn i s'.heap ∧ (∀ b ∈ fp, H' b = none) ∧ W i n σ' H') ?_ m0 ⟨0, σ, H2, I2, st2, fun b hb => (f2 b hb).1, w0⟩
 rintro n s3 ⟨i, σ3, H3, I3, st3, fr3, w3⟩
 rcases turn i n σ3 H3 w3 with ⟨stop, qn⟩ | ⟨go, N, hN, step⟩
 ·refine wpAny_passesOwn hp (thn (T.done X rfl rfl rfl hc i pins s3 σ3 H3 X.xe I3 (stat fr3) st3 stop) fun r s4 ⟨hr, I4⟩ => ?_)
  subst hr
  exact wpAny_execs_nil ⟨σ3, H3, I4, qn⟩
 ·refine wpAny_passesOwn hp (thn (T.item X rfl rfl rfl hc i pins s3 σ3 H3 X.xe I3 (stat fr3) st3 go) fun r s4 ⟨u, hr, h4⟩ => ?_)
  subst hr
  refine wpAny_passesOwn hp (thn h4 fun _ s5 ⟨x, H5, I5, r5, y5, st5, fr5⟩ => ?_)
  have I5' := I5.pinned (stat fr5) (T.obj _ _ st5)
  refine wpAny_passesOwn hp (thn (hg _ s5 σ3 H5 x u _ I5' r5 (step x H5 y5)) fun _ s6 ⟨σ6, H6, I6, q6⟩ => ?_)
  refine wpAny_passesOwn hp (thn (hb _ s6 σ6 H6 _ I6 q6) fun f s7 q7 => ?_)
  have again : ∀ {σ7 : St} {H7 : Hp}, Inv X (pins ++ vv fp s5.heap) σ7 H7 s7 → N σ7 H7 → ∃ m, m < n ∧ ∃ i σ' H', Inv X pins σ' H' s7 ∧ tn i s7.heap ∧ (∀ b ∈ fp, H' b = none) ∧ W i m σ' H' := fun {σ7 H7} I7 n7 => by
   obtain ⟨m', hm, w7⟩ := hN σ7 H7 n7
   refine ⟨m', hm, i + 1, σ7, H7, I7.unpinned, T.keep _ _ _ st5 fun b hb o e => (I7.pin (b, o) (List.mem_append_right _ (List.mem_append_right _ (xm hb e)))).1, fun b hb => ?_, w7⟩
   obtain ⟨o, e, d⟩ := T.obj _ _ st5 b hb
   exact (I7.pin (b, o) (List.mem_append_right _ (List.mem_append_right _ (xm hb e)))).2.1
  cases f with
  | next => obtain ⟨σ7, H7, I7, n7⟩ := q7; exact again I7 n7
  | cont => obtain ⟨σ7, H7, I7, n7⟩ := q7; exact again I7 n7
  | brk => obtain ⟨σ7, H7, I7, q7⟩ := q7; exact ⟨σ7, H7, I7.unpinned, q7⟩
  | ret v => obtain ⟨x7, σ7, H7, I7, r7, q7⟩ := q7; exact ⟨x7, σ7, H7, I7.unpinned, r7, q7⟩
end
theorem wY {K : W.Frag} {a : Addr} {xs : List V} {g : TG} {tb : TS} {D : Ends} {σ : St} {H : Hp} (Pv : Nat → St → Hp → Prop) (h0 : Pv 0 σ H) (hl : ∀ i σ H, i ≤ xs.length → Pv i σ H → SqT K H a xs)
  (hs : ∀ i x σ H, xs[i]? = some x → Pv i σ H → g x σ H fun σ2 H2 => tb { D with nx := Pv (i + 1), ct := Pv (i + 1), bk := D.nx } σ2 H2) (hd : ∀ σ H, Pv xs.length σ H → D.nx σ H) :
  ∃ W : Nat → Nat → St → Hp → Prop, (∃ m, W 0 m σ H) ∧ ∀ i m σ H, W i m σ H →
   ((Itt K a).stop i H ∧ D.nx σ H) ∨ ((Itt K a).go i H ∧ ∃ N : St → Hp → Prop, (∀ σ' H', N σ' H' → ∃ m', m' < m ∧ W (i + 1) m' σ' H') ∧ ∀ x H', (Itt K a).yld i H x H' → g x σ H' fun σ2 H2 => tb { D with nx := N, ct := N, bk := D.nx } σ2 H2) := by
 refine ⟨fun i m σ H => m = xs.length - i ∧ i ≤ xs.length ∧ Pv i σ H, ⟨xs.length, by simp, Nat.zero_le _, h0⟩, ?_⟩
 rintro i m σ H ⟨rfl, hi, p⟩
 have q := hl i σ H hi p
 by_cases hlt : i < xs.length
 ·refine .inr ⟨⟨xs, xs[i], q, by simp [hlt]⟩, Pv (i + 1), fun σ' H' p' => ⟨xs.length - (i + 1), by omega, rfl, hlt, p'⟩, fun x H' y => ?_⟩
  obtain ⟨e, y⟩ := y
  subst e
  exact hs i x σ _ (y xs q) p
 ·have e : i = xs.length := by omega
  subst e
  exact .inl ⟨⟨xs, q, Nat.le_refl _⟩, hd σ H p⟩
theorem yu {lo : Int} {n : Nat} {g : TG} {tb : TS} {D : Ends} {σ : St} {H : Hp} (Pv : Nat → St → Hp → Prop) (h0 : Pv 0 σ H)
  (hs : ∀ i σ H, i < n → Pv i σ H → g (.int (lo + i)) σ H fun σ2 H2 => tb { D with nx := Pv (i + 1), ct := Pv (i + 1), bk := D.nx } σ2 H2) (hd : ∀ σ H, Pv n σ H → D.nx σ H) :
  ∃ W : Nat → Nat → St → Hp → Prop, (∃ m, W 0 m σ H) ∧ ∀ i m σ H, W i m σ H →
   ((Itr lo n).stop i H ∧ D.nx σ H) ∨ ((Itr lo n).go i H ∧ ∃ N : St → Hp → Prop, (∀ σ' H', N σ' H' → ∃ m', m' < m ∧ W (i + 1) m' σ' H') ∧ ∀ x H', (Itr lo n).yld i H x H' → g x σ H' fun σ2 H2 => tb { D with nx := N, ct := N, bk := D.nx } σ2 H2) := by
 refine ⟨fun i m σ H => m = n - i ∧ i ≤ n ∧ Pv i σ H, ⟨n, by simp, Nat.zero_le _, h0⟩, ?_⟩
 rintro i m σ H ⟨rfl, hi, p⟩
 by_cases hlt : i < n
 ·refine .inr ⟨hlt, Pv (i + 1), fun σ' H' p' => ⟨n - (i + 1), by omega, rfl, hlt, p'⟩, fun x H' y => ?_⟩
  obtain ⟨e, y⟩ := y
  subst e y
  exact hs i σ _ hlt p
 ·have e : i = n := by omega
  subst e
  exact .inl ⟨Nat.le_refl _, hd σ H p⟩
abbrev R2 := V → V → Hp → VK → Prop
def OpR (X : Cx) (f : Value → Value → Sem Value) (r : R2) : Prop :=
 ∀ (pins : List (Addr × Obj)) (s : Shared) (σ : St) (H : Hp) (x y : V) (v u : Value) (Q : VK), Inv X pins σ H s → RelV x v → RelV y u → r x y H Q →
  wpAny (model X.prog X.w) X.A (f v u) (EP X pins σ Q) X.xe s
def UnR (X : Cx) (f : Value → Sem Value) (r : V → Hp → VK → Prop) : Prop :=
 ∀ (pins : List (Addr × Obj)) (s : Shared) (σ : St) (H : Hp) (x : V) (v : Value) (Q : VK), Inv X pins σ H s → RelV x v → r x H Q →
  wpAny (model X.prog X.w) X.A (f v) (EP X pins σ Q) X.xe s
def yq (X : Cx) (f : Value) (r : List V → Hp → VK → Prop) : Prop :=
 ∀ (pins : List (Addr × Obj)) (s : Shared) (σ : St) (H : Hp) (xs : List V) (us : List Value) (Q : VK), Inv X pins σ H s → Vals xs us → r xs H Q →
  wpAny (model X.prog X.w) X.A (call f us) (EP X pins σ Q) X.xe s
def tOp (r : R2) (ta tb : TE) : TE := fun σ H Q => ta σ H fun x H1 => tb σ H1 fun y H2 => r x y H2 Q
def tUn (r : V → Hp → VK → Prop) (ta : TE) : TE := fun σ H Q => ta σ H fun x H1 => r x H1 Q
def rI (C : Int → Int → Prop) (g : Int → Int → V) : R2 := fun x y H Q => ∃ i j, x = .int i ∧ y = .int j ∧ C i j ∧ Q (g i j) H
def rI0 (g : Int → Int → V) : R2 := fun x y H Q => ∃ i j, x = .int i ∧ y = .int j ∧ Q (g i j) H
def rU (g : Int → V) : V → Hp → VK → Prop := fun x H Q => ∃ i, x = .int i ∧ Q (g i) H
section
variable {X : Cx} {a b c : Expr} {ta tb tc : TE} {pos : Pos}
theorem binT (ha : PE X a ta) (hb : PE X b tb) {pins : List (Addr × Obj)} {s : Shared} {σ : St} {H : Hp} {R : V → V → Hp → Prop} (I : Inv X pins σ H s)
  (h : ta σ H fun x H1 => tb σ H1 fun y H2 => R x y H2) {Q : Value → Shared → Prop} {f : Value → Value → Sem Value}
  (hf : ∀ v u s2 x y H2, Inv X pins σ H2 s2 → RelV x v → RelV y u → R x y H2 → wpAny (model X.prog X.w) X.A (f v u) Q X.xe s2) :
  wpAny (model X.prog X.w) X.A (eval a X.env) (fun v s₁ => wpAny (model X.prog X.w) X.A (eval b X.env) (fun u s₂ => wpAny (model X.prog X.w) X.A (f v u) Q X.xe s₂) X.xe s₁) X.xe s := by
 refine thn (ha pins s σ H _ I h) fun v s1 ⟨x, H1, I1, r1, q1⟩ => ?_
 refine thn (hb pins s1 σ H1 _ I1 q1) fun u s2 ⟨y, H2, I2, r2, q2⟩ => ?_
 exact hf v u s2 x y H2 I2 r1 r2 q2
theorem zo {op : Operator} {r : R2} (ho : OpR X (binaryOp op) r) (ha : PE X a ta) (hb : PE X b tb) : PE X (.BinOp a op b pos) (tOp r ta tb) := by
 intro pins s σ H Q I h
 exact wpAny_BinOp (binT ha hb I h fun v u s2 x y H2 I2 rx ry q => ho pins s2 σ H2 x y v u Q I2 rx ry q)
theorem wN {op : UnaryOp} {r : V → Hp → VK → Prop} (ho : UnR X (unaryOp op) r) (ha : PE X a ta) : PE X (.UnaryOp op a pos) (tUn r ta) := by
 intro pins s σ H Q I h
 exact UnaryOp_ (thn (ha pins s σ H _ I h) fun v s1 ⟨x, H1, I1, r1, q1⟩ => ho pins s1 σ H1 x v Q I1 r1 q1)
theorem opI {f : Value → Value → Sem Value} {C : Int → Int → Prop} {g : Int → Int → Int}
  (rule : ∀ (i j : Int) (t u : Tok) (s : Shared) (Q : Value → Shared → Prop) (E : Value → Shared → Prop), C i j → Q (.int (g i j) s.toks) { s with toks := s.toks + 1 } → wpAny (model X.prog X.w) X.A (f (.int i t) (.int j u)) Q E s) :
  OpR X f (rI C fun i j => .int (g i j)) := by
 intro pins s σ H x y v u Q I rx ry h
 obtain ⟨i, j, rfl, rfl, hc, q⟩ := h
 obtain ⟨t, rfl⟩ := rx
 obtain ⟨t', rfl⟩ := ry
 exact rule i j t t' s _ _ hc ⟨.int (g i j), H, I.tok _, ⟨_, rfl⟩, q⟩
theorem opI0 {f : Value → Value → Sem Value} {g : Int → Int → Int}
  (rule : ∀ (i j : Int) (t u : Tok) (s : Shared) (Q : Value → Shared → Prop) (E : Value → Shared → Prop), Q (.int (g i j) s.toks) { s with toks := s.toks + 1 } → wpAny (model X.prog X.w) X.A (f (.int i t) (.int j u)) Q E s) :
  OpR X f (rI0 fun i j => .int (g i j)) := by
 intro pins s σ H x y v u Q I rx ry h
 obtain ⟨i, j, rfl, rfl, q⟩ := h
 obtain ⟨t, rfl⟩ := rx
 obtain ⟨t', rfl⟩ := ry
 exact rule i j t t' s _ _ ⟨.int (g i j), H, I.tok _, ⟨_, rfl⟩, q⟩
theorem opB0 {f : Value → Value → Sem Value} {g : Int → Int → Bool}
  (rule : ∀ (i j : Int) (t u : Tok) (s : Shared) (Q : Value → Shared → Prop) (E : Value → Shared → Prop), Q (.bool (g i j)) s → wpAny (model X.prog X.w) X.A (f (.int i t) (.int j u)) Q E s) :
  OpR X f (rI0 fun i j => .bl (g i j)) := by
 intro pins s σ H x y v u Q I rx ry h
 obtain ⟨i, j, rfl, rfl, q⟩ := h
 obtain ⟨t, rfl⟩ := rx
 obtain ⟨t', rfl⟩ := ry
 exact rule i j t t' s _ _ ⟨.bl (g i j), H, I, rfl, q⟩
def CDiv (i j : Int) : Prop := 0 < j ∧ j < 1073741824
def CPow (i j : Int) : Prop := 0 ≤ j ∧ j ≤ 1000000 ∧ i.natAbs < 2 ^ 64
def CMul (i j : Int) : Prop := (-(2 ^ 64) < i ∧ i < 2 ^ 64) ∨ (-(2 ^ 64) < j ∧ j < 2 ^ 64)
theorem CMul.ok {i j : Int} (h : CMul i j) : IntMulOk i j := by
 rcases h with ⟨h1, h2⟩ | ⟨h1, h2⟩
 ·exact .of_left (intBits_le_64 h1 h2)
 ·exact .of_right (intBits_le_64 h1 h2)
theorem zR : OpR X (binaryOp .Add) (rI0 fun i j => .int (i + j)) := opI0 fun _ _ _ _ _ _ _ q => add_int q
theorem ww : OpR X (binaryOp .Sub) (rI0 fun i j => .int (i - j)) := opI0 fun _ _ _ _ _ _ _ q => sub_int q
theorem x8 : OpR X (binaryOp .Mult) (rI CMul fun i j => .int (i * j)) := opI fun _ _ _ _ _ _ _ hc q => mul_int q hc.ok
theorem op_fdiv : OpR X (binaryOp .FloorDiv) (rI CDiv fun i j => .int (i / j)) := opI fun i j _ _ _ _ _ hc q => by
 have h1 : (0 : Int) < j := hc.1
 have h2 : j < 1073741824 := hc.2
 exact floordiv_int (by omega) (by rw [Int.fdiv_eq_ediv_of_nonneg i (by omega)]; exact q) (.inl (PyProof.noPylong_small (by omega)))
theorem yO : OpR X (binaryOp .Mod) (rI (fun _ j => 0 < j) fun i j => .int (i % j)) := opI fun i j _ _ _ _ _ hc q => by
 have h1 : (0 : Int) < j := hc
 exact mod_int' (by omega) (by rw [Int.fmod_eq_emod_of_nonneg i (by omega)]; exact q)
theorem wx : OpR X (binaryOp .Pow) (rI CPow fun i j => .int (i ^ j.toNat)) := opI fun _ _ _ _ _ _ _ hc q => pow_int_small hc.1 hc.2.1 hc.2.2 q
theorem unI {f : Value → Sem Value} {g : Int → Int}
  (rule : ∀ (i : Int) (t : Tok) (s : Shared) (Q : Value → Shared → Prop) (E : Value → Shared → Prop), Q (.int (g i) s.toks) { s with toks := s.toks + 1 } → wpAny (model X.prog X.w) X.A (f (.int i t)) Q E s) :
  UnR X f (rU fun i => .int (g i)) := by
 intro pins s σ H x v Q I rx h
 obtain ⟨i, rfl, q⟩ := h
 obtain ⟨t, rfl⟩ := rx
 exact rule i t s _ _ ⟨.int (g i), H, I.tok _, ⟨_, rfl⟩, q⟩
theorem xu : UnR X (unaryOp .USub) (rU fun i => .int (-i)) := unI fun _ _ _ _ _ q => neg_int q
def scal : V → V → Bool
 | .non, .non => true | .non, .int _ => true | .int _, .non => true | .non, .bl _ => true | .bl _, .non => true | .non, .str _ => true | .str _, .non => true
 | .int _, .int _ => true | .bl _, .bl _ => true | .str _, .str _ => true | .byt _, .byt _ => true
 | .int _, .str _ => true | .str _, .int _ => true | .bl _, .str _ => true | .str _, .bl _ => true
 | _, _ => false
def rEq : R2 := fun x y H Q => scal x y = true ∧ Q (.bl (decide (x = y))) H
def rNe : R2 := fun x y H Q => scal x y = true ∧ Q (.bl (!decide (x = y))) H
theorem Y6 {i j : Int} : decide (V.int i = V.int j) = (i == j) := by
 rw [Bool.eq_iff_iff]
 simp
theorem Wh {i j : Bool} : decide (V.bl i = V.bl j) = (i == j) := by
 rw [Bool.eq_iff_iff]
 simp
theorem Y5 {i j : Str} : decide (V.str i = V.str j) = (i == j) := by
 rw [Bool.eq_iff_iff]
 simp
theorem Y7 {i j : Array UInt8} : decide (V.byt i = V.byt j) = (i.toList == j.toList) := by
 rw [Bool.eq_iff_iff]
 cases i
 cases j
 simp
theorem zJ {pins : List (Addr × Obj)} {σ : St} {H : Hp} {s : Shared} {Q : VK} {k k' : Bool} (I : Inv X pins σ H s) (q : Q (.bl k) H) (e : k = k') : EP X pins σ Q (.bool k') s := by
 subst e
 exact ⟨.bl k, H, I, rfl, q⟩
theorem zV : OpR X (compareOp .Eq) rEq := by
 intro pins s σ H x y v u Q I rx ry h
 obtain ⟨hs, q⟩ := h
 cases x with
 | non =>
  cases rx
  cases y with
  | non => cases ry; exact PySem.EqNone.eq_none_none (zJ I q (by simp))
  | bl j => cases ry; exact PySem.EqNone.eq_none_bool (zJ I q (by simp))
  | int j => obtain ⟨t', rfl⟩ := ry; exact PySem.EqNone.eq_none_int (zJ I q (by simp))
  | str j => obtain ⟨t', rfl⟩ := ry; exact PySem.EqNone.eq_none_str (zJ I q (by simp))
  | _ => exact absurd (show false = true from hs) Bool.false_ne_true
 | bl i =>
  cases rx
  cases y with
  | non => cases ry; exact PySem.EqNone.eq_bool_none (zJ I q (by simp))
  | bl j => cases ry; exact eq_bool (zJ I q Wh)
  | str j => obtain ⟨t', rfl⟩ := ry; exact PySem.EqMixed.eq_bool_str (zJ I q (by simp))
  | _ => exact absurd (show false = true from hs) Bool.false_ne_true
 | int i =>
  obtain ⟨t, rfl⟩ := rx
  cases y with
  | non => cases ry; exact PySem.EqNone.eq_int_none (zJ I q (by simp))
  | int j => obtain ⟨t', rfl⟩ := ry; exact eq_int (zJ I q Y6)
  | str j => obtain ⟨t', rfl⟩ := ry; exact PySem.EqMixed.eq_int_str (zJ I q (by simp))
  | _ => exact absurd (show false = true from hs) Bool.false_ne_true
 | str i =>
  obtain ⟨t, rfl⟩ := rx
  cases y with
  | non => cases ry; exact PySem.EqNone.eq_str_none (zJ I q (by simp))
  | bl j => cases ry; exact PySem.EqMixed.eq_str_bool (zJ I q (by simp))
  | int j => obtain ⟨t', rfl⟩ := ry; exact PySem.EqMixed.eq_str_int (zJ I q (by simp))
  | str j => obtain ⟨t', rfl⟩ := ry; exact eq_str (zJ I q Y5)
  | _ => exact absurd (show false = true from hs) Bool.false_ne_true
 | byt i =>
  obtain ⟨t, rfl⟩ := rx
  cases y with
  | byt j => obtain ⟨t', rfl⟩ := ry; exact PySem.W.eq_bytes (zJ I q Y7)
  | _ => exact absurd (show false = true from hs) Bool.false_ne_true
 | _ => cases y <;> exact absurd (show false = true from hs) Bool.false_ne_true
theorem xq : OpR X (compareOp .NotEq) rNe := by
 intro pins s σ H x y v u Q I rx ry h
 obtain ⟨hs, q⟩ := h
 cases x with
 | non =>
  cases rx
  cases y with
  | non => cases ry; exact PySem.EqNone.ne_none_none (zJ I q (by simp))
  | bl j => cases ry; exact PySem.EqNone.ne_none_bool (zJ I q (by simp))
  | int j => obtain ⟨t', rfl⟩ := ry; exact PySem.EqNone.ne_none_int (zJ I q (by simp))
  | str j => obtain ⟨t', rfl⟩ := ry; exact PySem.EqNone.ne_none_str (zJ I q (by simp))
  | _ => exact absurd (show false = true from hs) Bool.false_ne_true
 | bl i =>
  cases rx
  cases y with
  | non => cases ry; exact PySem.EqNone.ne_bool_none (zJ I q (by simp))
  | bl j => cases ry; exact ne_bool (zJ I q (congrArg not Wh))
  | str j => obtain ⟨t', rfl⟩ := ry; exact PySem.EqMixed.ne_bool_str (zJ I q (by simp))
  | _ => exact absurd (show false = true from hs) Bool.false_ne_true
 | int i =>
  obtain ⟨t, rfl⟩ := rx
  cases y with
  | non => cases ry; exact PySem.EqNone.ne_int_none (zJ I q (by simp))
  | int j => obtain ⟨t', rfl⟩ := ry; exact ne_int (zJ I q (congrArg not Y6))
  | str j => obtain ⟨t', rfl⟩ := ry; exact PySem.EqMixed.ne_int_str (zJ I q (by simp))
  | _ => exact absurd (show false = true from hs) Bool.false_ne_true
 | str i =>
  obtain ⟨t, rfl⟩ := rx
  cases y with
  | non => cases ry; exact PySem.EqNone.ne_str_none (zJ I q (by simp))
  | bl j => cases ry; exact PySem.EqMixed.ne_str_bool (zJ I q (by simp))
  | int j => obtain ⟨t', rfl⟩ := ry; exact PySem.EqMixed.ne_str_int (zJ I q (by simp))
  | str j => obtain ⟨t', rfl⟩ := ry; exact ne_str (zJ I q (congrArg not Y5))
  | _ => exact absurd (show false = true from hs) Bool.false_ne_true
 | byt i =>
  obtain ⟨t, rfl⟩ := rx
  cases y with
  | byt j => obtain ⟨t', rfl⟩ := ry; exact PySem.W.ne_bytes (zJ I q (congrArg not Y7))
  | _ => exact absurd (show false = true from hs) Bool.false_ne_true
 | _ => cases y <;> exact absurd (show false = true from hs) Bool.false_ne_true
theorem YU : OpR X (compareOp .Lt) (rI0 fun i j => .bl (decide (i < j))) := opB0 fun _ _ _ _ _ _ _ q => lt_int q
theorem WX : OpR X (compareOp .LtE) (rI0 fun i j => .bl (decide (i ≤ j))) := opB0 fun _ _ _ _ _ _ _ q => le_int q
theorem vW : OpR X (compareOp .Gt) (rI0 fun i j => .bl (decide (j < i))) := opB0 fun _ _ _ _ _ _ _ q => gt_int q
theorem vX : OpR X (compareOp .GtE) (rI0 fun i j => .bl (decide (j ≤ i))) := opB0 fun _ _ _ _ _ _ _ q => ge_int q
theorem op_in_str : OpR X (compareOp .In) (fun x y H Q => ∃ i j, x = .str i ∧ y = .str j ∧ Q (.bl (!(Builtin.Str.occurrences j i 0 j.length 1).isEmpty)) H) := by
 intro pins s σ H x y v u Q I rx ry h
 obtain ⟨i, j, rfl, rfl, q⟩ := h
 obtain ⟨t, rfl⟩ := rx
 obtain ⟨t', rfl⟩ := ry
 exact in_str (zJ I q rfl)
theorem zt (b : Expr) {op : CmpOp} (h : op ≠ .In := by decide) (h2 : op ≠ .NotIn := by decide) : behindInMarks op b = false := by
 have e1 : (op == CmpOp.In) = false := by cases op <;> first | rfl | exact absurd rfl h
 have e2 : (op == CmpOp.NotIn) = false := by cases op <;> first | rfl | exact absurd rfl h2
 cases b <;> simp [behindInMarks, e1, e2]
theorem yT {op : CmpOp} {r : R2} (ho : OpR X (compareOp op) r) (ha : PE X a ta) (hb : PE X b tb) (hm : behindInMarks op b = false) : PE X (.Compare a [op] [b] pos) (tOp r ta tb) := by
 intro pins s σ H Q I h
 exact wpAny_Compare1 (binT ha hb I h fun v u s2 x y H2 I2 rx ry q => ho pins s2 σ H2 x y v u Q I2 rx ry q) hm
def Wr (t : TE) : TT := fun σ H Q => t σ H fun x H' => ∃ k, x = .bl k ∧ Q k H'
theorem zq {op : CmpOp} {r : R2} (ho : OpR X (compareOp op) r) (ha : PE X a ta) (hb : PE X b tb) (hm : behindInMarks op b = false) : PT X (.Compare a [op] [b] pos) (Wr (tOp r ta tb)) := by
 intro pins s σ H Q I h
 refine wpAny_isTrue_Compare1 (thn (ha pins s σ H _ I h) fun v s1 ⟨x, H1, I1, r1, q1⟩ => thn (hb pins s1 σ H1 _ I1 q1) fun u s2 ⟨y, H2, I2, r2, q2⟩ =>
  thn (ho pins s2 σ H2 x y v u _ I2 r1 r2 q2) fun c s3 ⟨z, H3, I3, r3, k, e, q3⟩ => ?_) hm
 subst e
 cases r3
 exact wpAny_truthy_bool ⟨H3, I3, q3⟩
def Xn (r r' : R2) (ta tb tc : TE) : TE := fun σ H Q => ta σ H fun x H1 => tb σ H1 fun y H2 => r x y H2 fun z H3 => ∃ k, z = .bl k ∧
 (if k = true then tc σ H3 fun w' H4 => r' y w' H4 Q else Q (.bl false) H3)
theorem pe_chain {op op' : CmpOp} {r r' : R2} (ho : OpR X (compareOp op) r) (ho' : OpR X (compareOp op') r') (ha : PE X a ta) (hb : PE X b tb) (hc : PE X c tc)
  (hm : lastMarks [op, op'] [b, c] = false := by with_unfolding_all rfl) : PE X (.Compare a [op, op'] [b, c] pos) (Xn r r' ta tb tc) := by
 intro pins s σ H Q I h
 refine Compare_chain (thn (ha pins s σ H _ I h) fun v s1 ⟨x, H1, I1, r1, q1⟩ => chain_link (thn (hb pins s1 σ H1 _ I1 q1) fun u s2 ⟨y, H2, I2, r2, q2⟩ =>
  thn (ho pins s2 σ H2 x y v u _ I2 r1 r2 q2) fun d s3 ⟨z, H3, I3, r3, k, e, q3⟩ => ?_)) hm
 subst e
 cases r3
 refine wpAny_truthy_bool ?_
 cases k with
 | false => exact ite_ff ⟨.bl false, H3, I3, rfl, q3⟩
 | true => exact ite_tt (chain_last (thn (hc pins s3 σ H3 _ I3 q3) fun w' s4 ⟨z', H4, I4, r4, q4⟩ => ho' pins s4 σ H4 y z' u w' Q I4 r2 r4 q4))
theorem wB : (sizeLine : Nat) < 2 ^ 63 := by rw [sizeLine_eq]; decide
theorem zI : OpR X (binaryOp .Add) (fun x y H Q => ∃ i j, x = .str i ∧ y = .str j ∧ i.length + j.length ≤ sizeLine ∧ Q (.str (i ++ j)) H) := by
 intro pins s σ H x y v u Q I rx ry h
 obtain ⟨i, j, rfl, rfl, hz, q⟩ := h
 obtain ⟨t, rfl⟩ := rx
 obtain ⟨t', rfl⟩ := ry
 exact add_str (fun t' tk => ⟨.str (i ++ j), H, I.tok _, ⟨_, rfl⟩, q⟩) hz
theorem ZL {x : V} {us : List Value} (r : Vals [x] us) : ∃ u, us = [u] ∧ RelV x u := by
 cases r with
 | cons r1 r2 => cases r2; exact ⟨_, rfl, r1⟩
theorem vals2 {x y : V} {us : List Value} (r : Vals [x, y] us) : ∃ u w', us = [u, w'] ∧ RelV x u ∧ RelV y w' := by
 cases r with
 | cons r1 r2 =>
  cases r2 with
  | cons r3 r4 => cases r4; exact ⟨_, _, rfl, r1, r3⟩
theorem call_min2 (hc : X.calm = true) : yq X (.builtin "min") (fun xs H Q => ∃ i j, xs = [.int i, .int j] ∧ Q (.int (if j < i then j else i)) H) := by
 intro pins s σ H xs us Q I r h
 obtain ⟨i, j, rfl, q⟩ := h
 obtain ⟨u, w', rfl, ⟨t, rfl⟩, ⟨t', rfl⟩⟩ := vals2 r
 refine min_two_ints (I.ok.hd hc) fun h' tk k => ⟨_, H, I.kept k, ?_, q⟩
 by_cases hj : j < i
 ·rw [if_pos hj, if_pos hj]; exact ⟨_, rfl⟩
 ·rw [if_neg hj, if_neg hj]; exact ⟨_, rfl⟩
end
structure ObjM (h : Heap) (x dx C : Addr) (mA : Str → Option Value) : Prop where
 obj : h.get? x = some (PySem.W.instObj C dx)
 ns : h.Ns1 dx mA
 ne : dx ≠ x
theorem lookIn_ns {h : Heap} {dx : Addr} {mA : Str → Option Value} (n : h.Ns1 dx mA) : ∃ od, h.get? dx = some od ∧ ∀ name, PySem.W.lookIn name od = some (mA name) := by
 obtain ⟨o, es, ep, ho, hd, hk, _, hm⟩ := n
 refine ⟨o, ho, fun name => ?_⟩
 have e := hm name
 unfold nsFind findBy at e
 rw [← Array.find?_toList] at e
 unfold PySem.W.lookIn
 rw [hd]
 dsimp only
 split
 ·rename_i y q
  rw [q] at e
  exact congrArg some e
 ·rename_i q
  rw [q] at e
  have a : es.toList.any (·.refKey) = false := by
   rw [List.any_eq_false]
   intro y hy
   obtain ⟨z, t, hkey⟩ := hk y (Array.mem_toList_iff.mp hy)
   simp [DictEntry.refKey, hkey]
  have a' : ¬ es.toList.any (·.refKey) = true := by rw [a]; exact Bool.false_ne_true
  rw [if_neg a']
  exact congrArg some e
theorem ObjM.look {h : Heap} {x dx C : Addr} {mA : Str → Option Value} (I : ObjM h x dx C mA) : ∃ od, PySem.W.InstAt h x (PySem.W.instObj C dx) C (some od) ∧ ∀ name, PySem.W.lookIn name od = some (mA name) :=
 let ⟨od, ho, hl⟩ := lookIn_ns I.ns
 ⟨od, ⟨I.obj, rfl, rfl, ho⟩, hl⟩
section
variable {prog : Program} {w : World} {A : Around} {E : Value → Shared → Prop} {s : Shared} {K : W.Frag} {x dx C f : Addr} {mA : Str → Option Value} {name : Str} {v : Value}
theorem get_map {expr : Bool} {Q : Value → Shared → Prop} (X : K.In s.heap) (I : ObjM s.heap x dx C mA) (hg : PySem.W.plainGet K C name = true) (hh : PySem.W.hasDictIn K C = true)
  (ha : PySem.W.findIn K (.ref C) name = some none) (hv : mA name = some v) (hv' : PySem.W.handedIn v = true) (h : Q v { s with toks := s.toks + 1 }) :
  wpAny (model prog w) A (getAttr (.ref x) name expr) Q E s := by
 obtain ⟨od, J, hl⟩ := I.look
 exact PySem.W.get_value X J (PySem.W.plainGet_of hg).1 (PySem.W.findObj_own hh ha rfl (by rw [hl, hv])) hv' h
theorem get_meth {pl : Sem Bool} {Q : Value × List Value → Shared → Prop} (X : K.In s.heap) (I : ObjM s.heap x dx C mA) (hg : PySem.W.plainGet K C name = true)
  (hf : PySem.W.findIn K (.ref C) name = some (some (.ref f))) (ht : PySem.W.isFn K (.ref f) = true) (hv : mA name = none) (h : Q (.ref f, [.ref x]) s) :
  wpAny (model prog w) A (getMethod (.ref x) name pl) Q E s := by
 obtain ⟨od, J, hl⟩ := I.look
 exact PySem.W.method_fn X J (PySem.W.plainGet_of hg).1 (PySem.W.plainGet_of hg).2 hf (beq_iff_eq.mp ht) (by show (PySem.W.lookIn name od).map (·.isSome) = some false; rw [hl, hv]; rfl) h
theorem set_map {ns : List Str} {Q : Unit → Shared → Prop} (X : K.In s.heap) (I : ObjM s.heap x dx C mA)
  (hs : PySem.W.findIn K (.ref C) "__setattr__" = some (some (.builtin "object.__setattr__"))) (hp : PySem.W.plainOver K C = true) (ht : PySem.W.takerIn K C name = some none) (hh : PySem.W.hasDictIn K C = true)
  (hw : PySem.Within mA ns) (hsz : ns.length ≤ sizeLine)
  (h : ∀ h', ObjM h' x dx C (fun y => if y = name then some v else mA y) → Heap.SameBut dx s.heap h' → Q () { s with heap := h', toks := s.toks + 2 }) :
  wpAny (model prog w) A (setAttr (.ref x) name v) Q E s := by
 obtain ⟨od, J, hl⟩ := I.look
 refine PySem.W.set_plain X J hs (PySem.W.osa_open (s := { s with toks := s.toks + 1 }) (r := none) X J hp ht fun b => ?_)
 obtain ⟨cd, hc, hd'⟩ := PySem.W.any_some hh
 have hx : s.heap.get? x = some ⟨.ref C, some dx, .plain, #[]⟩ := I.obj
 refine wpAny_bind (wpAny_pure (wpAny_bind (wpAny_bind (wpAny_loadPart hx (wpAny_bind (PySem.W.Looks.here (s := { s with toks := s.toks + 1 }) (PySem.W.looks_clsIn X hc) ?_))))))
 rw [hd']
 refine wpAny_pure (a := some dx) (wpAny_bind (wpAny_pure (wpAny_bind ?_)))
 refine wpAny_nsSet1 (s := { s with toks := s.toks + 1 }) I.ns fun h' hn2 hs2 => ?_
 obtain ⟨oD, esD, epD, hoD, hdD, hcD⟩ := hn2.count (PySem.Within.cons name v hw)
 refine wpAny_bind (wpAny_lookBehind hoD (by rw [hdD]; exact pastItsLine_dict (Nat.le_trans hcD (by rw [List.length_cons]; omega))) ?_)
 exact wpAny_pure (h _ ⟨(hs2.2 _ (Ne.symm I.ne)).trans I.obj, hn2, I.ne⟩ hs2)
theorem make_map {R : Result → Shared → Prop} {vs : List Value} {kw : List (Str × Value)} (X : K.In s.heap) (hm : PySem.W.makesIn K C = true)
  (hi : PySem.W.findIn K (.ref C) "__init__" = some (some (.ref f))) (hf : PySem.W.typeIn K (.ref f) = some (.type "function"))
  (h : codeAny (model prog w) (A.under (.builtin "type.__call__" ⟨.ref C :: vs, kw⟩)) (.call (.ref f) ⟨.ref (s.heap.objs.size + 1) :: vs, kw⟩) (PySem.W.InitBack (s.heap.objs.size + 1) R)
   { s with heap := (s.heap.push PySem.W.emptyDict).push (PySem.W.instObj C s.heap.objs.size) }) :
  codeAny (model prog w) A (.call (.ref C) ⟨vs, kw⟩) R s := by
 obtain ⟨hh, g, d, t, os⟩ := s
 exact PySem.W.make_core (PySem.W.makes_of X hm) (PySem.W.looks_findIn X hi) (fun self => PySem.W.bind_fn X self hf) (.inl rfl) h
end
def putF (f : Str) (v : V) : List (Str × V) → List (Str × V)
 | [] => [(f, v)]
 | (g, x) :: r => if g = f then (g, v) :: r else (g, x) :: putF f v r
theorem wQ (f g : Str) (v : V) : ∀ fs : List (Str × V), (putF f v fs).lookup g = if g = f then some v else fs.lookup g
 | [] => by
  show List.lookup g [(f, v)] = _
  by_cases h : g = f
  ·have hb : (g == f) = true := beq_iff_eq.mpr h
   simp only [List.lookup, hb, if_pos h]
  ·have hb : (g == f) = false := beq_eq_false_iff_ne.mpr h
   simp only [List.lookup, hb, if_neg h]
 | (k, x) :: r => by
  have ih := wQ f g v r
  rw [show putF f v ((k, x) :: r) = (if k = f then (k, v) :: r else (k, x) :: putF f v r) from rfl]
  by_cases hk : k = f
  ·rw [if_pos hk]
   by_cases h : g = k
   ·have hb : (g == k) = true := beq_iff_eq.mpr h
    simp only [List.lookup, hb, if_pos (h.trans hk)]
   ·have hb : (g == k) = false := beq_eq_false_iff_ne.mpr h
    simp only [List.lookup, hb, if_neg (fun e : g = f => h (e.trans hk.symm))]
  ·rw [if_neg hk]
   by_cases h : g = k
   ·have hb : (g == k) = true := beq_iff_eq.mpr h
    simp only [List.lookup, hb, if_neg (fun e : g = f => hk (h.symm.trans e))]
   ·have hb : (g == k) = false := beq_eq_false_iff_ne.mpr h
    simp only [List.lookup, hb]
    exact ih
theorem wC (f : Str) (v : V) : ∀ fs : List (Str × V), f ∈ (putF f v fs).map (·.1) ∧ ∀ g, g ∈ fs.map (·.1) → g ∈ (putF f v fs).map (·.1)
 | [] => ⟨by simp [putF], fun g h => by simp at h⟩
 | (k, x) :: r => by
  obtain ⟨i1, i2⟩ := wC f v r
  rw [show putF f v ((k, x) :: r) = (if k = f then (k, v) :: r else (k, x) :: putF f v r) from rfl]
  by_cases hk : k = f
  ·rw [if_pos hk]
   subst hk
   exact ⟨by simp, fun g h => by simpa using h⟩
  ·rw [if_neg hk]
   refine ⟨?_, fun g h => ?_⟩
   ·rw [List.map_cons]
    exact List.mem_cons_of_mem _ i1
   ·rw [List.map_cons] at h ⊢
    rcases List.mem_cons.mp h with e | e
    ·exact List.mem_cons.mpr (.inl e)
    ·exact List.mem_cons_of_mem _ (i2 g e)
theorem wR (f : Str) (v : V) : ∀ fs : List (Str × V), (putF f v fs).length ≤ fs.length + 1
 | [] => by simp [putF]
 | (k, x) :: r => by
  have ih := wR f v r
  rw [show putF f v ((k, x) :: r) = (if k = f then (k, v) :: r else (k, x) :: putF f v r) from rfl]
  by_cases hk : k = f
  ·rw [if_pos hk, List.length_cons, List.length_cons]; omega
  ·rw [if_neg hk, List.length_cons, List.length_cons]; omega
theorem RelO.some_of {v : V} {o : Option Value} (r : RelO (some v) o) : ∃ u, o = some u ∧ RelV v u := by
 cases o with
 | none => exact (show False from r).elim
 | some u => exact ⟨u, rfl, r⟩
theorem RelO.none_of {o : Option Value} (r : RelO none o) : o = none := by
 cases o with
 | none => rfl
 | some u => exact (show False from r).elim
theorem handed_of {v : V} {u : Value} (r : RelV v u) : PySem.W.handedIn u = true := by
 cases v with
 | non => cases (show u = Value.none from r); rfl
 | bl b => cases (show u = Value.bool b from r); rfl
 | int i => obtain ⟨t, e⟩ := (show ∃ t, u = Value.int i t from r); cases e; rfl
 | str x => obtain ⟨t, e⟩ := (show ∃ t, u = Value.str x t from r); cases e; rfl
 | byt b => obtain ⟨t, e⟩ := (show ∃ t, u = Value.bytes b t from r); cases e; rfl
 | flt b => obtain ⟨t, e⟩ := (show ∃ t, u = Value.float b t from r); cases e; rfl
 | ref a => cases (show u = Value.ref a from r); rfl
 | ty n => cases (show u = Value.type n from r); rfl
section
variable {P : Program} {w : World} {H H' : Hp} {h h' : Heap} {a C dx : Addr} {fs fs' : List (Str × V)}
theorem wX (hok : HOk P w H h) (e : H a = some (.ins C dx fs)) : ∃ mA, ObjM h a dx C mA ∧ (∀ f, RelO (fs.lookup f) (mA f)) ∧ PySem.Within mA (fs.map (·.1)) ∧ fs.length ≤ 1000 ∧ H dx = some (.own a) := by
 obtain ⟨d, z, ne, ob, mA, n, r, q⟩ := (show ObjOk P w H h a (.ins C dx fs) from hok a _ e)
 exact ⟨mA, ⟨ob, n, ne⟩, r, q, z, d⟩
end
structure Cls (K : W.Frag) (C : Addr) : Prop where
 pg : PySem.W.plainGet K C Str.empty = true
 hd : PySem.W.hasDictIn K C = true
 po : PySem.W.plainOver K C = true
 sa : PySem.W.findIn K (.ref C) "__setattr__" = some (some (.builtin "object.__setattr__"))
theorem Cls.get {K : W.Frag} {C : Addr} (c : Cls K C) (f : Str) : PySem.W.plainGet K C f = true := c.pg
def NoAttr (K : W.Frag) (C : Addr) (f : Str) : Prop := PySem.W.findIn K (.ref C) f = some none
theorem NoAttr.taker {K : W.Frag} {C : Addr} {f : Str} (n : NoAttr K C f) : PySem.W.takerIn K C f = some none := by
 unfold PySem.W.takerIn
 rw [show PySem.W.findIn K (.ref C) f = some none from n]
 rfl
structure Con (K : W.Frag) (C : Addr) (f : Str) (v : V) (u : Value) : Prop where
 at_ : PySem.W.findIn K (.ref C) f = some (some u)
 rel : RelV v u
 get : PySem.W.specialIn K u "__get__" = some none
 cp : PySem.W.copiedNames.contains f = false
structure Meth (K : W.Frag) (C : Addr) (m : Str) (f : Addr) : Prop where
 at_ : PySem.W.findIn K (.ref C) m = some (some (.ref f))
 fn : PySem.W.isFn K (.ref f) = true
 kp : PySem.W.keepIn K (.ref f) = true
section
variable {X : Cx} {pins : List (Addr × Obj)} {σ : St} {H : Hp} {s : Shared} {a C dx : Addr} {fs : List (Str × V)} {f : Str} {v : V} {A : Around} {E : Value → Shared → Prop}
theorem vG {b : Bool} {Q : Value → Shared → Prop} (I : Inv X pins σ H s) (e : H a = some (.ins C dx fs)) (c : Cls X.K C) (n : NoAttr X.K C f) (l : fs.lookup f = some v)
  (h : ∀ u s', Inv X pins σ H s' → RelV v u → Q u s') : wpAny (model X.prog X.w) A (getAttr (.ref a) f b) Q E s := by
 obtain ⟨mA, O, r, _, _, _⟩ := wX I.hok e
 obtain ⟨u, hu, ru⟩ := RelO.some_of (v := v) (o := mA f) (by rw [← l]; exact r f)
 exact get_map I.kIn O (c.get f) c.hd n hu (handed_of ru) (h u _ (I.tok _) ru)
theorem getmeth_ok {m : Str} {g : Addr} {pl : Sem Bool} {Q : Value × List Value → Shared → Prop} (I : Inv X pins σ H s) (e : H a = some (.ins C dx fs)) (c : Cls X.K C) (k : Meth X.K C m g) (l : fs.lookup m = none)
  (h : Q (.ref g, [.ref a]) s) : wpAny (model X.prog X.w) A (getMethod (.ref a) m pl) Q E s := by
 obtain ⟨mA, O, r, _, _, _⟩ := wX I.hok e
 have hn : mA m = none := RelO.none_of (by rw [← l]; exact r m)
 exact get_meth I.kIn O (c.get m) k.at_ k.fn hn h
theorem vo {y : V} {u : Value} {Q : Unit → Shared → Prop} (I : Inv X pins σ H s) (e : H a = some (.ins C dx fs)) (c : Cls X.K C) (n : NoAttr X.K C f) (hl : fs.length < 1000) (ry : RelV y u)
  (h : ∀ s', Inv X pins σ (upd H a (.ins C dx (putF f y fs))) s' → Q () s') : wpAny (model X.prog X.w) A (setAttr (.ref a) f u) Q E s := by
 obtain ⟨mA, O, r, wi, _, ho⟩ := wX I.hok e
 have hz : (fs.map (·.1)).length ≤ sizeLine := by rw [List.length_map, sizeLine_eq]; omega
 refine set_map I.kIn O c.sa c.po n.taker c.hd wi hz fun h' O' sb => h _ ?_
 have hd : ∃ o, h'.get? dx = some o := let ⟨o, _, _, e', _⟩ := O'.ns; ⟨o, e'⟩
 refine I.write (x := a) (e := dx) (by rw [e]; exact True.intro) (.inr ho) (fun b q hb z => (sb.2 b hb).trans z) hd ?_
 refine ⟨by rw [zi O.ne]; exact ho, ?_, O.ne, O'.obj, _, O'.ns, fun g => ?_, fun g hg => ?_⟩
 ·have := wR f y fs; omega
 ·show RelO ((putF f y fs).lookup g) (if g = f then some u else mA g)
  rw [wQ]
  by_cases q : g = f
  ·rw [if_pos q, if_pos q]; exact ry
  ·rw [if_neg q, if_neg q]; exact r g
 ·by_cases q : g = f
  ·rw [q]; exact (wC f y fs).1
  ·refine (wC f y fs).2 g (wi g fun z => hg ?_)
   show (if g = f then some u else mA g) = none
   rw [if_neg q]; exact z
theorem Inv.made (I : Inv X pins σ H s) : Inv X pins σ (upd (upd H s.heap.objs.size (.own (s.heap.objs.size + 1))) (s.heap.objs.size + 1) (.ins C s.heap.objs.size []))
  { s with heap := (s.heap.push PySem.W.emptyDict).push (PySem.W.instObj C s.heap.objs.size) } := by
 have e1 : (s.heap.push PySem.W.emptyDict).get? s.heap.objs.size = some PySem.W.emptyDict := Heap.get?_push_size s.heap rfl
 have e2 : ((s.heap.push PySem.W.emptyDict).push (PySem.W.instObj C s.heap.objs.size)).get? (s.heap.objs.size + 1) = some (PySem.W.instObj C s.heap.objs.size) := by
  have := Heap.get?_push_size (s.heap.push PySem.W.emptyDict) (o := PySem.W.instObj C s.heap.objs.size) rfl
  rwa [Heap.size_push] at this
 have e3 : (s.heap.push PySem.W.emptyDict).Ns s.heap.objs.size (fun _ => none) := ⟨PySem.W.emptyDict, #[], _, e1, rfl, (fun e he => absurd he (by simp)), fun _ => rfl⟩
 have I1 := I.laid (a := s.heap.objs.size) (o := .own (s.heap.objs.size + 1)) (h' := s.heap.push PySem.W.emptyDict) (t' := s.toks) (fun b u q => Heap.get?_push_of_some _ q) (Nat.le_refl _) ⟨_, e1⟩
 refine I1.laid (a := s.heap.objs.size + 1) (o := .ins C s.heap.objs.size []) (t' := s.toks) (fun b u q => Heap.get?_push_of_some _ q) (Nat.le_of_eq (Heap.size_push _ _)) ?_
 have ne : s.heap.objs.size ≠ s.heap.objs.size + 1 := Nat.ne_of_lt (Nat.lt_succ_self _)
 refine ⟨by rw [zi ne, ze], Nat.zero_le _, ne, e2, fun _ => none, (Heap.Ns1.of_empty e3).at fun o q => Heap.get?_push_of_some _ q, fun _ => True.intro, fun y hy => absurd rfl hy⟩
theorem attr_of {prog : Program} {w : World} {env : Env} {e : Expr} {f : Str} {pos : Pos} {s : Shared} {Q : Value → Shared → Prop} (hb : attributeBase e f env (eval e env) = eval e env)
  (h : wpAny (model prog w) A (eval e env) (fun o s₁ => wpAny (model prog w) A (getAttr o f true) Q E s₁) E s) : wpAny (model prog w) A (eval (.Attribute e f pos) env) Q E s :=
 Attribute_any_ h (by rw [arm_eval_Attribute, hb])
end
def tFld (K : W.Frag) (ta : TE) (f : Str) : TE := fun σ H Q => ta σ H fun x H1 => ∃ a C dx fs v, x = .ref a ∧ H1 a = some (.ins C dx fs) ∧ Cls K C ∧ NoAttr K C f ∧ fs.lookup f = some v ∧ Q v H1
def sFld (K : W.Frag) (ta tv : TE) (f : Str) : TS := fun D σ H => tv σ H fun y H1 => ta σ H1 fun x H2 => ∃ a C dx fs, x = .ref a ∧ H2 a = some (.ins C dx fs) ∧ Cls K C ∧ NoAttr K C f ∧ fs.length < 1000 ∧
 D.nx σ (upd H2 a (.ins C dx (putF f y fs)))
def InOp (X : Cx) (op : Operator) (rd : V → V → Hp → VK → Prop) : Prop :=
 ∀ (pins : List (Addr × Obj)) (s : Shared) (σ : St) (H : Hp) (x y : V) (u v : Value) (Q : VK), Inv X pins σ H s → RelV x u → RelV y v → rd x y H Q → wpAny (model X.prog X.w) X.A (inplaceOp op u v) (EP X pins σ Q) X.xe s
def YJ (K : W.Frag) (ta tv : TE) (rd : V → V → Hp → VK → Prop) (f : Str) : TS := fun D σ H => ta σ H fun x H1 => ∃ a C dx fs v, x = .ref a ∧ H1 a = some (.ins C dx fs) ∧ Cls K C ∧ NoAttr K C f ∧ fs.lookup f = some v ∧
 tv σ H1 fun y H2 => rd v y H2 fun z H3 => ∃ dx' fs', H3 a = some (.ins C dx' fs') ∧ fs'.length < 1000 ∧ D.nx σ (upd H3 a (.ins C dx' (putF f z fs')))
section
variable {X : Cx} {o e value : Expr} {f : Str} {pos pos' tpos : Pos} {ta tv : TE}
theorem xw (he : PE X e ta) (hb : attributeBase e f X.env (eval e X.env) = eval e X.env) : PE X (.Attribute e f pos) (tFld X.K ta f) := by
 intro pins s σ H Q I h
 refine attr_of hb (thn (he pins s σ H _ I h) fun u s1 ⟨x, H1, I1, rx, a, C, dx, fs, v, ex, ea, c, n, l, q⟩ => ?_)
 subst ex
 obtain rfl : u = Value.ref a := rx
 exact vG I1 ea c n l fun u' s2 I2 ru => ⟨v, H1, I2, ru, q⟩
theorem vt (ha : PE X o ta) (hv : PE X value tv) (hs : swapsWith value (some (.Attribute o f pos')) pos.line X.env = pure false) : PS X (.Assign [.Attribute o f pos'] value pos) (sFld X.K ta tv f) := by
 intro pins s σ H D I h
 refine plainObj_wpAny_Assign_Attribute (thn (hv pins s σ H _ I h) fun u s1 ⟨y, H1, I1, ry, q⟩ => thn (ha pins s1 σ H1 _ I1 q) fun ov s2 ⟨x, H2, I2, rx, a, C, dx, fs, ex, ea, c, n, l, q2⟩ => ?_) hs
 subst ex
 obtain rfl : ov = Value.ref a := rx
 exact vo I2 ea c n l ry fun s3 I3 => ⟨σ, _, I3, q2⟩
theorem vV {op : Operator} {rd : V → V → Hp → VK → Prop} (ha : PE X o ta) (hv : PE X value tv) (hop : InOp X op rd) : PS X (.AugAssign (.Attribute o f tpos) op value pos) (YJ X.K ta tv rd f) := by
 intro pins s σ H D I h
 refine wpAny_AugAssign_AttributeAny (thn (ha pins s σ H _ I h) fun ov s1 ⟨x, H1, I1, rx, a, C, dx, fs, v, ex, ea, c, n, l, q⟩ => ?_)
 subst ex
 obtain rfl : ov = Value.ref a := rx
 refine vG I1 ea c n l fun u s2 I2 ru => thn (hv pins s2 σ H1 _ I2 q) fun w3 s3 ⟨y, H2, I3, ry, q3⟩ => thn (hop pins s3 σ H2 v y u w3 _ I3 ru ry q3) fun w4 s4 ⟨z, H3, I4, rz, dx', fs', ea', l', q4⟩ => ?_
 exact vo I4 ea' c n l' rz fun s5 I5 => ⟨σ, _, I5, q4⟩
def rAdd : V → V → Hp → VK → Prop := fun x y H Q => ∃ i j, x = .int i ∧ y = .int j ∧ Q (.int (i + j)) H
theorem Wa : InOp X .Add rAdd := by
 rintro pins s σ H x y u v Q I rx ry ⟨i, j, rfl, rfl, q⟩
 obtain ⟨t, rfl⟩ := (show ∃ t, u = Value.int i t from rx)
 obtain ⟨t', rfl⟩ := (show ∃ t', v = Value.int j t' from ry)
 exact PyProof.Rows.iadd_int ⟨.int (i + j), H, I.tok _, ⟨_, rfl⟩, q⟩
end
section
variable {X : Cx} {pins : List (Addr × Obj)} {σ : St} {H : Hp} {s : Shared} {A : Around} {E : Value → Shared → Prop} {Q : Value → Shared → Prop} {c : Value} {b : Bool}
inductive TyOf (K : W.Frag) (H : Hp) : V → Value → Prop where
 | non : TyOf K H .non (.type "NoneType")
 | bl (x : Bool) : TyOf K H (.bl x) (.type "bool")
 | int (i : Int) : TyOf K H (.int i) (.type "int")
 | str (x : Str) : TyOf K H (.str x) (.type "str")
 | flt (x : UInt64) : TyOf K H (.flt x) (.type "float")
 | lst {a : Addr} {xs : List V} (e : H a = some (.lst xs)) : TyOf K H (.ref a) (.type "list")
 | frz {a : Addr} {o : Obj} {xs : List V} (e : H a = some (.frz o (.lst xs))) : TyOf K H (.ref a) (.type "list")
 | tup {a : Addr} {xs : List V} (e : H a = some (.tup xs)) : TyOf K H (.ref a) (.type "tuple")
 | dK {a : Addr} {kvs : List (Key × V)} (e : H a = some (.dK kvs)) : TyOf K H (.ref a) (.type "dict")
 | dT {a : Addr} {kvs : List (List Key × V)} (e : H a = some (.dT kvs)) : TyOf K H (.ref a) (.type "dict")
 | ins {a C dx : Addr} {fs : List (Str × V)} (e : H a = some (.ins C dx fs)) (cl : Cls K C) (ha : PySem.W.findIn K (.ref C) "__class__" = some (some (.builtin "object.__class__")))
   (hn : PySem.W.specialIn K (.builtin "object.__class__") "__get__" = some (some (.builtin "getset_descriptor.__get__"))) (htk : PySem.W.takesIn K (.builtin "object.__class__") = some true)
   (hm : PySem.W.mroIn K C (.type "object") = some true) : TyOf K H (.ref a) (.ref C)
theorem isinst_ok {x : V} {u t : Value} (I : Inv X pins σ H s) (rx : RelV x u) (ty : TyOf X.K H x t) (e : PySem.W.kitOne X.K t c = some b) (h : ∀ tk, Q (.bool b) { s with toks := tk }) :
  wpAny (model X.prog X.w) A (call (.builtin "isinstance") [u, c]) Q E s := by
 cases ty with
 | non => cases (show u = Value.none from rx); exact PySem.W.kia_one PySem.W.kitx_none I.kIn True.intro e (fun z => nomatch z) h
 | bl y => cases (show u = Value.bool y from rx); exact PySem.W.kia_one PySem.W.kitx_bool I.kIn True.intro e (fun z => nomatch z) h
 | int i => obtain ⟨t, q⟩ := (show ∃ t, u = Value.int i t from rx); cases q; exact PySem.W.kia_one PySem.W.kitx_int I.kIn True.intro e (fun z => nomatch z) h
 | str y => obtain ⟨t, q⟩ := (show ∃ t, u = Value.str y t from rx); cases q; exact PySem.W.kia_one PySem.W.kitx_str I.kIn True.intro e (fun z => nomatch z) h
 | flt y => obtain ⟨t, q⟩ := (show ∃ t, u = Value.float y t from rx); cases q; exact PySem.W.kia_one PySem.W.kitx_float I.kIn True.intro e (fun z => nomatch z) h
 | @lst a xs ea =>
  cases (show u = Value.ref a from rx)
  obtain ⟨_, _, n, _, h1⟩ := (show ObjOk X.prog X.w H s.heap a (.lst xs) from I.hok a _ ea)
  exact PySem.W.kia_one PySem.W.kitx_list I.kIn ⟨_, h1, rfl⟩ e (fun z => nomatch z) h
 | @frz a ob xs ea =>
  cases (show u = Value.ref a from rx)
  obtain ⟨_, _, _, n, _, h1⟩ := (show ObjOk X.prog X.w H s.heap a (.frz ob (.lst xs)) from I.hok a _ ea)
  exact PySem.W.kia_one PySem.W.kitx_list I.kIn ⟨_, h1, rfl⟩ e (fun z => nomatch z) h
 | @tup a xs ea =>
  cases (show u = Value.ref a from rx)
  obtain ⟨_, _, _, p⟩ := (show ObjOk X.prog X.w H s.heap a (.tup xs) from I.hok a _ ea)
  obtain ⟨o, h1, h2, _⟩ := p
  exact PySem.W.kia_one PySem.W.kitx_tuple I.kIn ⟨o, h1, h2⟩ e (fun z => nomatch z) h
 | @dK a kvs ea =>
  cases (show u = Value.ref a from rx)
  obtain ⟨_, _, vs, _, p⟩ := (show ObjOk X.prog X.w H s.heap a (.dK kvs) from I.hok a _ ea)
  obtain ⟨o, es, ep, h1, h2, _⟩ := p
  exact PySem.W.kia_one PySem.W.kitx_dict I.kIn ⟨o, h1, h2.1⟩ e (fun z => nomatch z) h
 | @dT a kvs ea =>
  cases (show u = Value.ref a from rx)
  obtain ⟨_, _, xs, _, o, es, ep, h1, h2, _⟩ := (show ObjOk X.prog X.w H s.heap a (.dT kvs) from I.hok a _ ea)
  exact PySem.W.kia_one PySem.W.kitx_dict I.kIn ⟨o, h1, h2.1⟩ e (fun z => nomatch z) h
 | @ins a C dx fs ea cl ha hn htk hm =>
  cases (show u = Value.ref a from rx)
  obtain ⟨mA, O, _⟩ := wX I.hok ea
  obtain ⟨od, J, _⟩ := O.look
  exact PySem.W.kia_one (PySem.W.kitx_own (cl.get _) cl.hd ha hn htk hm) I.kIn J e (fun z => nomatch z) h
end
structure Room (k : Nat) (A : Around) : Prop where
 hd : A.handled = none
 dp : A.depth + 3 * k + 5 < recursionLimit
 un : A.units + 16 * k + 200 < cLine
 gd : A.guards = some []
theorem Room.mono {j k : Nat} {A : Around} (r : Room k A) (h : j ≤ k) : Room j A := ⟨r.hd, by have := r.dp; omega, by have := r.un; omega, r.gd⟩
theorem Room.deeper {k : Nat} {A : Around} (r : Room (k + 1) A) (env : Env) : Room k (A.deeper env) :=
 ⟨r.hd, by have := r.dp; show A.depth + 1 + 3 * k + 5 < _; omega, by have := r.un; show A.units + 3 + 16 * k + 200 < _; omega, r.gd⟩
theorem make_depth {A : Around} {C : Addr} {us : List Value} {kw : List (Str × Value)} : (A.under (.builtin "type.__call__" ⟨.ref C :: us, kw⟩)).depth = A.depth + 1 := by
 first | rfl | simp [Around.under, Code.weight, Code.isCreation, Code.isGuard, Code.isCaller, Code.frames, Code.isFrame, guardIds]
theorem make_units {A : Around} {C : Addr} {us : List Value} {kw : List (Str × Value)} : (A.under (.builtin "type.__call__" ⟨.ref C :: us, kw⟩)).units = A.units + 1 := by
 first | rfl | simp [Around.under, Code.cUnits, Code.frames, Code.isFrame]
theorem Room.make {k : Nat} {A : Around} (r : Room (k + 1) A) (C : Addr) (us : List Value) (kw : List (Str × Value)) : Room k (A.under (.builtin "type.__call__" ⟨.ref C :: us, kw⟩)) :=
 ⟨r.hd, by have := r.dp; rw [make_depth]; omega, by have := r.un; rw [make_units]; omega, by first | exact r.gd | simpa [Around.under, Code.isGuard, Code.isFrame, guardIds] using r.gd⟩
theorem Room.depth {k : Nat} {A : Around} (r : Room k A) : A.depth < recursionLimit := by have := r.dp; omega
theorem Room.units {k : Nat} {A : Around} (r : Room k A) : A.units + 64 < cLine := by have := r.un; omega
def tNil : TA := fun _ H Q => Q [] H
def vQ (ta : TE) (tr : TA) : TA := fun σ H Q => ta σ H fun x H1 => tr σ H1 fun xs H2 => Q (x :: xs) H2
section
variable {X : Cx} {e : Expr} {es : List Expr} {te : TE} {t : TA} {pos : Pos}
theorem xx : PA X [] tNil := fun _ _ _ _ H Q I h => Calls.spliced_nil ⟨[], H, I, .nil, h⟩
theorem YT (ha : PE X e te) (hr : PA X es t) (hs : starEach (e :: es) X.env = (false, eval e X.env) :: starEach es X.env := by rfl) : PA X (e :: es) (vQ te t) := by
 intro pos pins s σ H Q I h
 rw [hs]
 show wpAny _ _ (spliced ((false, eval e X.env) :: backTo pos (starEach es X.env))) _ _ s
 refine Calls.spliced_cons (thn (ha pins s σ H _ I h) fun u s1 ⟨x, H1, I1, r1, q1⟩ => ?_)
 exact thn (hr pos pins s1 σ H1 _ I1 q1) fun us s2 ⟨xs, H2, I2, r2, q2⟩ => ⟨x :: xs, H2, I2, .cons r1 r2, q2⟩
def tTup (t : TA) : TE := fun σ H Q => t σ H fun xs H1 => xs.length ≤ sizeLine ∧ ∀ p, H1 p = none → Q (.ref p) (upd H1 p (.tup xs))
def tLst (t : TA) : TE := fun σ H Q => t σ H fun xs H1 => xs.length ≤ sizeLine ∧ ∀ p, H1 p = none → Q (.ref p) (upd H1 p (.lst xs))
theorem zy {x1} (h : PA X es t) : PE X (.Tuple es x1 pos) (tTup t) := by
 intro pins s σ H Q I hq
 refine wpAny_Tuple_spliced (thn (h pos pins s σ H _ I hq) fun us s1 ⟨xs, H1, I1, r, z, q⟩ => ⟨by rw [← r.length]; exact z, ?_⟩)
 have hf : H1 s1.heap.objs.size = none := I1.hok.fresh (Nat.le_refl _)
 refine ⟨.ref s1.heap.objs.size, upd H1 s1.heap.objs.size (.tup xs), I1.laid (t' := s1.toks) (fun b u e => Heap.get?_push_of_some _ e) (Nat.le_refl _) ?_, rfl, q _ hf⟩
 exact ⟨z, us, r, ⟨_, Heap.get?_push_size _ rfl, rfl, _, rfl⟩⟩
theorem zE (h : PA X es t) : PE X (.List es pos) (tLst t) := by
 intro pins s σ H Q I hq
 refine wpAny_List_spliced (thn (h pos pins s σ H _ I hq) fun us s1 ⟨xs, H1, I1, r, z, q⟩ => ⟨by rw [← r.length]; exact z, ?_⟩)
 have hf : H1 s1.heap.objs.size = none := I1.hok.fresh (Nat.le_refl _)
 refine ⟨.ref s1.heap.objs.size, upd H1 s1.heap.objs.size (.lst xs), I1.laid (t' := s1.toks) (fun b u e => Heap.get?_push_of_some _ e) (Nat.le_refl _) ?_, rfl, q _ hf⟩
 exact ⟨z, us, 0, r, Heap.get?_push_size _ rfl⟩
end
abbrev Sp := List V → Hp → VK → XK → Prop
abbrev CXT := List Env → Hp → Shared → XK → Value → Shared → Prop
structure Env0 (P : Program) (w : World) (K : W.Frag) (mg : Str → Option Value) (base : Heap) (A : Around) (outer : List Env) (s : Shared) (H : Hp) : Prop where
 frames : A.frames = some outer
 mod : Mod K mg base
 bs : ∀ b o, base.get? b = some o → s.heap.get? b = some o ∧ H b = none
 bsz : base.objs.size ≤ s.heap.objs.size
 funs : s.heap.FunFrames base outer
 frf : ∀ b ∈ frs outer, H b = none
 hok : HOk P w H s.heap
 bare : AllBare s.gens
def CE (outer : List Env) (P : Program) (w : World) (H : Hp) (s : Shared) (Q : VK) (u : Value) (s' : Shared) : Prop :=
 ∃ v H', s'.os = s.os ∧ AllBare s'.gens ∧ Un (frs outer) [] H H' s.heap s'.heap ∧ HOk P w H' s'.heap ∧ RelV v u ∧ Q v H'
def CR (CX : CXT) (outer : List Env) (P : Program) (w : World) (H : Hp) (s : Shared) (Q : VK) (E : XK) (r : Result) (s' : Shared) : Prop :=
 match r with
 | .ok (.ret u) => CE outer P w H s Q u s'
 | .ok _ => False
 | .error e => CX outer H s E e s'
structure FnOk (P : Program) (w : World) (K : W.Frag) (mg : Str → Option Value) (base : Heap) (CX : CXT) (k : Nat) (f : Addr) (fd : FuncData) (ps : List Str) (sp : Sp) : Prop where
 len : ∀ vs H Q E, sp vs H Q E → vs.length = ps.length
 run : ∀ (A : Around) (outer : List Env) (s : Shared) (H : Hp) (args : Args) (us : List Value) (vs : List V) (Q : VK) (E : XK), Room k A → Env0 P w K mg base A outer s H → BindsTo s fd args (ps.zip us) → Vals vs us → sp vs H Q E →
  codeAny (model P w) A (.call (.ref f) args) (CR CX outer P w H s Q E) s
theorem FnOk.mono {P : Program} {w : World} {K : W.Frag} {mg : Str → Option Value} {base : Heap} {CX : CXT} {j k : Nat} {f : Addr} {fd : FuncData} {ps : List Str} {sp : Sp} (F : FnOk P w K mg base CX j f fd ps sp) (h : j ≤ k) :
  FnOk P w K mg base CX k f fd ps sp := ⟨F.len, fun A outer s H args us vs Q E hr => F.run A outer s H args us vs Q E (hr.mono h)⟩
theorem Env0.make {P : Program} {w : World} {K : W.Frag} {mg : Str → Option Value} {base : Heap} {A : Around} {outer : List Env} {s : Shared} {H : Hp} (e : Env0 P w K mg base A outer s H) (C : Addr) (us : List Value) (kw : List (Str × Value)) :
  Env0 P w K mg base (A.under (.builtin "type.__call__" ⟨.ref C :: us, kw⟩)) outer s H := ⟨by first | exact e.frames | (simpa [Around.under, Code.envs, Code.isFrame, pushEnvs] using e.frames), e.mod, e.bs, e.bsz, e.funs, e.frf, e.hok, e.bare⟩
section
variable {X : Cx} {pins : List (Addr × Obj)} {σ : St} {H : Hp} {s s' : Shared}
theorem Inv.env0 (I : Inv X pins σ H s) : Env0 X.prog X.w X.K X.mg X.base X.A X.stack s H :=
 ⟨I.ok.frames, I.ok.mod, I.bs, Nat.le_trans I.ok.bsz I.sz, I.stack, I.stkFree, I.hok, I.bare⟩
theorem Inv.after {Q : VK} {u : Value} (I : Inv X pins σ H s) (h : CE X.stack X.prog X.w H s Q u s') : EP X pins σ Q u s' := by
 obtain ⟨v, H', os, bare, un, hok, r, q⟩ := h
 obtain ⟨hh, g, d, t, os'⟩ := s'
 obtain rfl : os' = s.os := os
 exact ⟨v, H', I.call (h' := hh) (g' := g) (d' := d) (t' := t) (ch := []) un hok bare (fun b z => absurd z (by simp)), r, q⟩
end
def Yt (sp : Sp) (dvs : List V) (E : XK) (t : TA) : TE := fun σ H Q => t σ H fun vs H1 => sp (vs ++ dvs) H1 Q E
def Xl (C : Addr) (m : Str) (sp : Sp) (dvs : List V) (E : XK) (ta : TE) (t : TA) : TE := fun σ H Q => ta σ H fun x H1 => ∃ a dx fs, x = .ref a ∧ H1 a = some (.ins C dx fs) ∧ fs.lookup m = none ∧
 t σ H1 fun vs H2 => sp (x :: (vs ++ dvs)) H2 Q E
def Xm (C : Addr) (sp : Sp) (dvs : List V) (E : XK) (t : TA) : TE := fun σ H Q => t σ H fun vs H1 => ∀ x dx, H1 x = none → H1 dx = none → dx ≠ x →
 sp (.ref x :: (vs ++ dvs)) (upd (upd H1 dx (.own x)) x (.ins C dx [])) (fun v H2 => v = .non ∧ Q (.ref x) H2) E
def Binds (K : W.Frag) (fd : FuncData) (ps : List Str) (ds : List Value) : Prop :=
 ∀ (s : Shared) (us : List Value), K.In s.heap → (us ++ ds).length = ps.length → BindsTo s fd ⟨us, []⟩ (ps.zip (us ++ ds))
theorem Binds.all {K : W.Frag} {fd : FuncData} {ps : List Str} (h : ∀ us : List Value, us.length = ps.length → bindArgs fd ⟨us, []⟩ = pure (ps.zip us)) : Binds K fd ps [] := fun s us _ hl => by
 rw [List.append_nil] at hl ⊢
 exact .of_eq (h us hl)
def wG (CX : CXT) (X : Cx) (E : XK) : Prop := ∀ (pins : List (Addr × Obj)) (σ : St) (H : Hp) (s : Shared) (e : Value) (s' : Shared), Inv X pins σ H s → CX X.stack H s E e s' → X.xe e s'
section
variable {X : Cx} {CX : CXT} {k : Nat} {f C : Addr} {fd : FuncData} {ps : List Str} {sp : Sp} {dvs : List V} {ds : List Value} {E : XK} {x m : Str} {p pos apos : Pos} {e o : Expr} {es : List Expr} {ta : TE} {t : TA}
theorem XD {pins : List (Addr × Obj)} {σ : St} {H : Hp} {s : Shared} {Q : VK} {us : List Value} {vs : List V} (F : FnOk X.prog X.w X.K X.mg X.base CX k f fd ps sp) (hr : Room k X.A) (hb : Binds X.K fd ps ds) (hd : Vals dvs ds) (hx : wG CX X E)
  (I : Inv X pins σ H s) (r : Vals vs us) (h : sp (vs ++ dvs) H Q E) : wpAny (model X.prog X.w) X.A (call (.ref f) us) (EP X pins σ Q) X.xe s := by
 have r2 : Vals (vs ++ dvs) (us ++ ds) := r.append hd
 have hl : (us ++ ds).length = ps.length := by rw [← r2.length]; exact F.len _ _ _ _ h
 refine wpAny_call (codeAny_mono (F.run X.A X.stack s H ⟨us, []⟩ (us ++ ds) (vs ++ dvs) Q E hr I.env0 (hb s us I.kIn hl) r2 h) fun r s' hq => ?_)
 cases r with
 | error e => exact hx pins σ H s e s' I hq
 | ok fl =>
  cases fl with
  | ret u => exact I.after hq
  | next => exact False.elim hq
  | brk => exact False.elim hq
  | cont => exact False.elim hq
theorem pe_call (F : FnOk X.prog X.w X.K X.mg X.base CX k f fd ps sp) (hr : Room k X.A) (hg : Gl X x) (hm : X.mg x = some (.ref f)) (hk : PySem.W.keepIn X.K (.ref f) = true) (hb : Binds X.K fd ps ds) (hd : Vals dvs ds) (hx : wG CX X E)
  (ha : PA X (e :: es) t) (hdb : (x == ("__debug__" : Str)) = false := by decide) (he : starEach (e :: es) X.env = (false, eval e X.env) :: starEach es X.env := by rfl) (hpl : (backTo pos (starEach es X.env)).any (·.1) = false := by rfl) :
  PE X (.Call (.Name x p) (e :: es) [] pos) (Yt sp dvs E t) := by
 intro pins s σ H Q I h
 refine wpAny_Call_Name_kw (ZD I hg hm ?_ hdb)
 refine PySem.W.callWith_K (h₀ := X.base) I.ok.mod.kin hk (thn (ha pos pins s σ H _ I h) fun us s1 ⟨vs, H1, I1, r, q⟩ => ⟨I1.kIn, ?_⟩) he hpl
 exact XD F hr hb hd hx I1 r q
theorem pe_meth {pl : Sem Bool} (he : PE X o ta) (c : Cls X.K C) (hm : Meth X.K C m f) (F : FnOk X.prog X.w X.K X.mg X.base CX k f fd ps sp) (hr : Room k X.A) (hb : Binds X.K fd ps ds) (hd : Vals dvs ds) (hx : wG CX X E) (ha : PA X (e :: es) t)
  (hst : starEach (e :: es) X.env = (false, eval e X.env) :: starEach es X.env := by rfl) (hpl : (backTo pos (starEach es X.env)).any (·.1) = false := by rfl)
  (ht : eval (.Call (.Attribute o m apos) (e :: es) [] pos) X.env = (do
   let ov ← eval o X.env
   standAt apos.atName
   let (f, first) ← holding [ov] (getMethod ov m pl)
   callWith pos f first (backTo pos (starEach (e :: es) X.env)) (backToKw pos (keywordEach [] X.env))) := by rfl) :
  PE X (.Call (.Attribute o m apos) (e :: es) [] pos) (Xl C m sp dvs E ta t) := by
 intro pins s σ H Q I h
 refine PySem.W.methodCall_KW (pl := pl) (thn (he pins s σ H _ I h) fun u s1 ⟨x, H1, I1, rx, a, dx, fs, ex, ea, l, q⟩ => ?_) ht
 subst ex
 obtain rfl : u = Value.ref a := rx
 refine getmeth_ok I1 ea c hm l ?_
 refine PySem.W.callWith_K (first := [.ref a]) (h₀ := X.base) I.ok.mod.kin hm.kp (thn (ha pos pins s1 σ H1 _ I1 q) fun us s2 ⟨vs, H2, I2, r, q2⟩ => ⟨I2.kIn, ?_⟩) hst hpl
 exact XD (us := .ref a :: us) (vs := .ref a :: vs) F hr hb hd hx I2 (.cons rfl r) q2
structure Mk (K : W.Frag) (C f : Addr) : Prop where
 makes : PySem.W.makesIn K C = true
 init : PySem.W.findIn K (.ref C) "__init__" = some (some (.ref f))
 fn : PySem.W.isFn K (.ref f) = true
 kp : PySem.W.keepIn K (.ref C) = true
theorem run_make {pins : List (Addr × Obj)} {σ : St} {H : Hp} {s : Shared} {Q : VK} {us : List Value} {vs : List V} (M : Mk X.K C f) (F : FnOk X.prog X.w X.K X.mg X.base CX k f fd ps sp) (hr : Room (k + 1) X.A) (hb : Binds X.K fd ps ds) (hd : Vals dvs ds)
  (hx : wG CX X E) (I : Inv X pins σ H s) (r : Vals vs us)
  (h : ∀ x dx, H x = none → H dx = none → dx ≠ x → sp (.ref x :: (vs ++ dvs)) (upd (upd H dx (.own x)) x (.ins C dx [])) (fun v H2 => v = .non ∧ Q (.ref x) H2) E) :
  wpAny (model X.prog X.w) X.A (call (.ref C) us) (EP X pins σ Q) X.xe s := by
 have hq := h (s.heap.objs.size + 1) s.heap.objs.size (I.hok.fresh (Nat.le_succ _)) (I.hok.fresh (Nat.le_refl _)) (Nat.ne_of_lt (Nat.lt_succ_self _))
 have I2 := Inv.made (C := C) I
 have r2 : Vals (V.ref (s.heap.objs.size + 1) :: (vs ++ dvs)) (Value.ref (s.heap.objs.size + 1) :: (us ++ ds)) := .cons rfl (r.append hd)
 have hl : (Value.ref (s.heap.objs.size + 1) :: us ++ ds).length = ps.length := by
  have e := r2.length
  rw [F.len _ _ _ _ hq] at e
  exact e.symm
 refine wpAny_call (make_map (f := f) I.kIn M.makes M.init (beq_iff_eq.mp M.fn) (codeAny_mono (F.run _ X.stack _ _ ⟨Value.ref (s.heap.objs.size + 1) :: us, []⟩ (Value.ref (s.heap.objs.size + 1) :: (us ++ ds)) _ _ E (hr.make C us [])
  (I2.env0.make C us []) (hb _ (Value.ref (s.heap.objs.size + 1) :: us) I2.kIn hl) r2 hq) fun r s' hq' => ?_))
 cases r with
 | error e => exact hx pins σ _ _ e s' I2 hq'
 | ok fl =>
  cases fl with
  | ret u =>
   obtain ⟨v, H', I3, rv, ev, q3⟩ := I2.after hq'
   subst ev
   exact ⟨rv, ⟨V.ref (s.heap.objs.size + 1), H', I3, rfl, q3⟩⟩
  | next => exact False.elim hq'
  | brk => exact False.elim hq'
  | cont => exact False.elim hq'
theorem pe_make (M : Mk X.K C f) (F : FnOk X.prog X.w X.K X.mg X.base CX k f fd ps sp) (hr : Room (k + 1) X.A) (hg : Gl X x) (hm : X.mg x = some (.ref C)) (hb : Binds X.K fd ps ds) (hd : Vals dvs ds) (hx : wG CX X E)
  (ha : PA X (e :: es) t) (hdb : (x == ("__debug__" : Str)) = false := by decide) (he : starEach (e :: es) X.env = (false, eval e X.env) :: starEach es X.env := by rfl) (hpl : (backTo pos (starEach es X.env)).any (·.1) = false := by rfl) :
  PE X (.Call (.Name x p) (e :: es) [] pos) (Xm C sp dvs E t) := by
 intro pins s σ H Q I h
 refine wpAny_Call_Name_kw (ZD I hg hm ?_ hdb)
 refine PySem.W.callWith_K (h₀ := X.base) I.ok.mod.kin M.kp (thn (ha pos pins s σ H _ I h) fun us s1 ⟨vs, H1, I1, r, q⟩ => ⟨I1.kIn, ?_⟩) he hpl
 exact run_make M F hr hb hd hx I1 r q
end
section
variable {X : Cx} {CX : CXT} {k : Nat} {f C : Addr} {fd : FuncData} {ps ks : List Str} {sp : Sp} {E : XK} {x m : Str} {p pos apos kpos : Pos} {e o : Expr} {es : List Expr} {kws : List Keyword} {te ta : TE} {t tk : TA} {nm : Option Str}
structure KBinds (K : W.Frag) (fd : FuncData) (ps ks : List Str) (g : List Value → List Value → List Value) (gV : List V → List V → List V) : Prop where
 to : ∀ (s : Shared) (us ws : List Value), K.In s.heap → (g us ws).length = ps.length → BindsTo s fd ⟨us, ks.zip ws⟩ (ps.zip (g us ws))
 rel : ∀ {vs : List V} {us : List Value} {zs : List V} {ws : List Value}, Vals vs us → Vals zs ws → Vals (gV vs zs) (g us ws)
variable {g : List Value → List Value → List Value} {gV : List V → List V → List V}
end
structure FnScope (N P : List Str) (sc : Scope) : Prop where
 kind : sc.kind = .function
 co : sc.isCoroutine = false
 gen : sc.isGenerator = false
 nd : N.Nodup
 pre : N.take P.length = P
 par : ∀ x ∈ P, sc.names.lookup x = some .local ∨ sc.names.lookup x = some .cell
 nofree : ∀ y ∈ sc.names, y.2 ≠ .free
theorem Zg {kindOf : Str → Option NameKind} {x : Str} : ∀ {binds : List (Str × Value)} {m : Str → Option Value}, (∀ v, (x, v) ∉ binds) → bindL kindOf binds m x = m x
 | [], _, _ => rfl
 | (n, v) :: r, m, h => by
  unfold bindL
  rw [Zg fun w hw => h w (List.mem_cons_of_mem _ hw)]
  split
  ·have : x ≠ n := by rintro rfl; exact h v List.mem_cons_self
   simp [this]
  ·rfl
theorem Zi {kindOf : Str → Option NameKind} {x : Str} : ∀ {binds : List (Str × Value)} {m : Str → Option Value}, (∀ v, (x, v) ∉ binds) → bindC kindOf binds m x = m x
 | [], _, _ => rfl
 | (n, v) :: r, m, h => by
  unfold bindC
  rw [Zi fun w hw => h w (List.mem_cons_of_mem _ hw)]
  split
  ·rfl
  ·have : x ≠ n := by rintro rfl; exact h v List.mem_cons_self
   simp [this]
theorem Zh {kindOf : Str → Option NameKind} {x : Str} {v : Value} : ∀ {P : List Str} {vs : List Value} {i : Nat} {m : Str → Option Value}, P.Nodup → P[i]? = some x → vs[i]? = some v → kindOf x = some .local →
  bindL kindOf (P.zip vs) m x = some v
 | [], _, _, _, _, h, _, _ => by simp at h
 | _ :: _, [], _, _, _, _, h, _ => by simp at h
 | p :: P, w :: vs, 0, m, nd, h1, h2, hk => by
  simp at h1 h2; subst h1; subst h2
  show bindL kindOf ((p, w) :: P.zip vs) m p = _
  unfold bindL
  rw [Zg fun v hv => (List.nodup_cons.mp nd).1 (List.of_mem_zip hv).1, if_pos hk]
  simp
 | p :: P, w :: vs, i + 1, m, nd, h1, h2, hk => by
  show bindL kindOf ((p, w) :: P.zip vs) m x = _
  unfold bindL
  exact Zh (i := i) (List.nodup_cons.mp nd).2 (by simpa using h1) (by simpa using h2) hk
theorem Zj {kindOf : Str → Option NameKind} {x : Str} {v : Value} : ∀ {P : List Str} {vs : List Value} {i : Nat} {m : Str → Option Value}, P.Nodup → P[i]? = some x → vs[i]? = some v → kindOf x ≠ some .local →
  bindC kindOf (P.zip vs) m x = some v
 | [], _, _, _, _, h, _, _ => by simp at h
 | _ :: _, [], _, _, _, _, h, _ => by simp at h
 | p :: P, w :: vs, 0, m, nd, h1, h2, hk => by
  simp at h1 h2; subst h1; subst h2
  show bindC kindOf ((p, w) :: P.zip vs) m p = _
  unfold bindC
  rw [Zi fun v hv => (List.nodup_cons.mp nd).1 (List.of_mem_zip hv).1, if_neg hk]
  simp
 | p :: P, w :: vs, i + 1, m, nd, h1, h2, hk => by
  show bindC kindOf ((p, w) :: P.zip vs) m x = _
  unfold bindC
  exact Zj (i := i) (List.nodup_cons.mp nd).2 (by simpa using h1) (by simpa using h2) hk
def start (N : List Str) (vs : List V) : St := vs.map some ++ List.replicate (N.length - vs.length) none
def cxOf (CX : CXT) (P : Program) (w : World) (K : W.Frag) (mg : Str → Option Value) (base : Heap) (N : List Str) (qual : Str) (scope : Scope) (f : Addr) (cd : Value) (A : Around) (outer : List Env) (s : Shared) (H : Hp) (E : XK) : Cx where
 prog := P
 w := w
 K := K
 mg := mg
 base := base
 A := A.deeper (envOfC qual scope s.heap.objs.size f cd)
 N := N
 s₀ := s
 H₀ := H
 env := envOfC qual scope s.heap.objs.size f cd
 outer := outer
 stack := envOfC qual scope s.heap.objs.size f cd :: outer
 ex := []
 calm := true
 fn := fun _ => true
 pn := []
 xe := fun e s' => wpAny (model P w) (A.deeper (envOfC qual scope s.heap.objs.size f cd)) (leaving (envOfC qual scope s.heap.objs.size f cd) e) (fun _ s'' => CX outer H s E e s'') (fun e' s'' => CX outer H s E e' s'') s'
theorem Z0 {sc : Scope} {n : Nat} {x : Str} (h : sc.names.lookup x = some .cell) : ∃ c, (cellsFrom n sc.names []).lookup x = some c := by
 have q := PySem.W.cellsFrom_some sc.names n [] (.inl h)
 exact Option.isSome_iff_exists.mp q
theorem inv_start {CX : CXT} {P : Program} {w : World} {K : W.Frag} {mg : Str → Option Value} {base : Heap} {N ps : List Str} {qual : Str} {scope : Scope} {f : Addr} {cd : Value} {A : Around} {outer : List Env} {s s1 : Shared} {H : Hp} {E : XK} {us : List Value} {vs : List V}
  (S : FnScope N ps scope) (hd : A.handled = none) (e0 : Env0 P w K mg base A outer s H) (hl : vs.length = ps.length) (r : Vals vs us)
  (x : InCallC s s.heap.objs.size (bindL (envOfC qual scope s.heap.objs.size f cd).kindOf (ps.zip us) fun _ => none) (cellsFrom (s.heap.objs.size + 1) scope.names []) (bindC (envOfC qual scope s.heap.objs.size f cd).kindOf (ps.zip us) fun _ => none) s1) :
  Inv (cxOf CX P w K mg base N qual scope f cd A outer s H E) [] (start N vs) H s1 := by
 have hpl : ps.length ≤ N.length := by have := congrArg List.length S.pre; rw [List.length_take] at this; omega
 obtain ⟨h1, tk, rfl, hk⟩ := x.done
 have noA : ∀ b : Addr, b ∉ (cxOf CX P w K mg base N qual scope f cd A outer s H E).ex := fun b z => absurd (show b ∈ ([] : List Addr) from z) (by simp)
 refine ⟨⟨e0.mod, S.kind, rfl, rfl, Nat.le_refl _, fun y z c h1 h2 => ?_, fun y hy => ?_, fun y c _ h => ?_, fun _ => hd, Around.frames_deeper e0.frames, .inr ⟨rfl, rfl⟩, fun b z => absurd z (noA b), e0.bs, e0.bsz, fun b _ _ => noA b, fun b z => absurd z (noA b), e0.funs, e0.frf⟩,
  rfl, e0.bare, Un.kept hk, ⟨_, x.toInCall.ns, fun i y v h1 h2 h3 => ?_⟩, fun y c h => ⟨_, x.cell y c h⟩, e0.hok.fresh (Nat.le_refl _), fun y c h => ?_, fun p hp => absurd (show p ∈ ([] : List (Addr × Obj)) from hp) (by simp), e0.hok.kept hk, ?_⟩
 ·exact name_of_addr x.apart (PySem.mem_of_lookup h1) (PySem.mem_of_lookup h2)
 ·have hy : scope.names.lookup y = some .cell ∨ scope.names.lookup y = some .free := hy
  rcases hy with hy | hy
  ·exact Z0 hy
  ·exact absurd rfl (S.nofree _ (PySem.mem_of_lookup hy))
 ·exact Nat.le_of_lt (x.above y c (PySem.mem_of_lookup h))
 ·have hi : i < vs.length := by
   unfold start at h2
   by_cases hi : i < vs.length
   ·exact hi
   ·rw [List.getElem?_append_right (by simpa using hi)] at h2
    rw [List.getElem?_replicate] at h2
    split at h2 <;> cases h2
  have ha : vs[i]? = some v := by
   unfold start at h2
   rw [List.getElem?_append_left (by simpa using hi), List.getElem?_map] at h2
   cases e : vs[i]? with
   | none => rw [e] at h2; cases h2
   | some a => rw [e] at h2; cases h2; rfl
  obtain ⟨u, hu, rv⟩ := r.get ha
  have hp : ps[i]? = some y := by
   rw [← S.pre, List.getElem?_take_of_lt (by omega)]; exact h1
  have ndP : ps.Nodup := by rw [← S.pre]; exact S.nd.sublist (List.take_sublist _ _)
  refine ⟨u, rv, ?_⟩
  rcases S.par y (List.mem_of_getElem? hp) with k | k
  ·exact .inl ⟨k, Zh ndP hp hu k⟩
  ·obtain ⟨c, e⟩ := Z0 (n := s.heap.objs.size + 1) k
   refine .inr ⟨.inl k, c, e, ?_⟩
   have q := x.cell y c e
   rw [Zj ndP hp hu (by show scope.names.lookup y ≠ _; rw [k]; decide)] at q
   exact q
 ·exact e0.hok.fresh (Nat.le_of_lt (x.above y c (PySem.mem_of_lookup h)))
 ·unfold start
  show _ = N.length
  rw [List.length_append, List.length_map, List.length_replicate]
  omega
theorem fn_of {CX : CXT} {P : Program} {w : World} {K : W.Frag} {mg : Str → Option Value} {base : Heap} {k : Nat} {f : Addr} {name qual : Str} {params : Arguments} {body : List Stmt} {scope : Scope} {dV kV doc pm cdv ct oc : Value} {an od : Option Addr}
  {osl : Array (Option Value)} {N ps : List Str} {sp : Sp} (lk : K.lookup f = some ⟨oc, od, .func (PySem.W.fnOf name qual params body scope dV kV doc pm an cdv ct), osl⟩) (hcd : PySem.W.codeIn K cdv qual = true) (S : FnScope N ps scope)
  (len : ∀ vs H Q E, sp vs H Q E → vs.length = ps.length)
  (hbody : ∀ (A : Around) (outer : List Env) (s : Shared) (H : Hp) (vs : List V) (Q : VK) (E : XK), Room k (A.deeper (envOfC qual scope s.heap.objs.size f cdv)) → sp vs H Q E →
   ∃ t, PSs (cxOf CX P w K mg base N qual scope f cdv A outer s H E) body t ∧ t { nx := fun _ H' => Q .non H', rt := Q } (start N vs) H) :
  FnOk P w K mg base CX (k + 1) f (PySem.W.fnOf name qual params body scope dV kV doc pm an cdv ct) ps sp := by
 refine ⟨len, fun A outer s H args us vs Q E hr e0 hb r hsp => ?_⟩
 have hl := len _ _ _ _ hsp
 have KX : K.In s.heap := e0.mod.kin.keeps fun b o e => (e0.bs b o e).1
 have lim : s.heap.NoLimit := e0.mod.nolimit.keeps fun b o e => (e0.bs b o e).1
 have hkind : ∀ y ∈ ps.zip us, scope.names.lookup y.1 = some .local ∨ (scope.names.lookup y.1 = some .cell ∧ ((cellsFrom (s.heap.objs.size + 1) scope.names []).lookup y.1).isSome = true) := fun ⟨n, v⟩ hy => by
  rcases S.par n (List.of_mem_zip hy).1 with q | q
  ·exact .inl q
  ·exact .inr ⟨q, PySem.W.cellsFrom_some _ _ _ (.inl q)⟩
 refine codeAny_call_function hr.depth (KX _ _ lk) rfl S.co S.gen rfl (PySem.W.codeRec_of KX hcd) (hb _ _ _ _ ?_)
 refine wpAny_newFunctionEnv_cells S.kind hkind fun env he s1 x => ?_
 subst he
 refine ⟨lim.keeps x.toInCall.keep, codeAny_func ?_⟩
 obtain ⟨t, ht, hq⟩ := hbody A outer s H vs Q E (hr.deeper _) hsp
 have I : Inv (cxOf CX P w K mg base N qual scope f cdv A outer s H E) [] (start N vs) H s1 := inv_start S hr.hd e0 hl r x
 refine wpAny_mono (ht [] s1 (start N vs) H _ I hq) (fun fl s' hs => ?_) fun e s' hs => hs
 have fin : ∀ {σ' : St} {H' : Hp} {v : V} {u : Value}, Inv (cxOf CX P w K mg base N qual scope f cdv A outer s H E) [] σ' H' s' → RelV v u → Q v H' → CE outer P w H s Q u s' :=
  fun {σ' H' v u} J rv q => ⟨v, H', J.os, J.bare, J.base, J.hok, rv, q⟩
 cases fl with
 | ret u =>
  obtain ⟨v, σ', H', J, rv, q⟩ := hs
  exact fin J rv q
 | next =>
  obtain ⟨σ', H', J, q⟩ := hs
  exact fin (v := V.non) (u := Value.none) J rfl q
 | brk =>
  obtain ⟨_, _, _, q⟩ := hs
  exact False.elim q
 | cont =>
  obtain ⟨_, _, _, q⟩ := hs
  exact False.elim q
section
variable {X : Cx} {x : Str} {p pos : Pos} {e : Expr} {es : List Expr} {t : TA} {id T : String} {r : List V → Hp → VK → Prop}
def tCB (r : List V → Hp → VK → Prop) (t : TA) : TE := fun σ H Q => t σ H fun vs H1 => r vs H1 Q
theorem pe_callB (hc : yq X (.builtin id) r) (hg : Gl X x) (hm : X.mg x = none) (hv : bootBuiltins x = some (.builtin id)) (ha : PA X (e :: es) t) (hn : x ≠ "__name__" := by decide) (hdb : (x == ("__debug__" : Str)) = false := by decide)
  (he : starEach (e :: es) X.env = (false, eval e X.env) :: starEach es X.env := by rfl) (hpl : (backTo pos (starEach es X.env)).any (·.1) = false := by rfl) : PE X (.Call (.Name x p) (e :: es) [] pos) (tCB r t) := by
 intro pins s σ H Q I h
 refine wpAny_Call_Name_kw (xn I hg hm hv ?_ hn hdb)
 exact PyProof.Rows.callWith_builtin1 (thn (ha pos pins s σ H _ I h) fun us s1 ⟨vs, H1, I1, r1, q1⟩ => hc pins s1 σ H1 vs us Q I1 r1 q1) he hpl
theorem pe_callTy (hc : yq X (.type T) r) (hg : Gl X x) (hm : X.mg x = none) (hv : bootBuiltins x = some (.type T)) (ha : PA X (e :: es) t) (hn : x ≠ "__name__" := by decide) (hdb : (x == ("__debug__" : Str)) = false := by decide)
  (he : starEach (e :: es) X.env = (false, eval e X.env) :: starEach es X.env := by rfl) (hpl : (backTo pos (starEach es X.env)).any (·.1) = false := by rfl) : PE X (.Call (.Name x p) (e :: es) [] pos) (tCB r t) := by
 intro pins s σ H Q I h
 refine wpAny_Call_Name_kw (xn I hg hm hv ?_ hn hdb)
 exact PyProof.Rows.callWith_type1 (thn (ha pos pins s σ H _ I h) fun us s1 ⟨vs, H1, I1, r1, q1⟩ => hc pins s1 σ H1 vs us Q I1 r1 q1) he hpl
end
end L2
namespace HT
open PySem PyProof.Rows
section
open PySem.SeqAt
open PySem.AutoSeq1 (wpAny_loadPart')
open PySem.MeetsSeq PySem.MeetsSeq2 PySem.MeetsSeq3
end
section
variable {prog : Program} {w : World} {A : Around} {E : Value → Shared → Prop} {s : Shared}
theorem cat_tup {t b : Addr} {vs ws : List Value} {Q : Value → Shared → Prop} (ht : IsTup s.heap t vs.toArray) (hb : IsTup s.heap b ws.toArray) (hv : vs ≠ [])
  (h1 : ws = [] → Q (.ref t) s) (h2 : ws ≠ [] → Q (.ref s.heap.objs.size) { s with heap := s.heap.push { cls := .type "tuple", data := .seq (vs ++ ws).toArray } })
  (hsz : vs.length + ws.length ≤ sizeLine) : wpAny (model prog w) A (binaryOp .Add (.ref t) (.ref b)) Q E s := by
 obtain ⟨⟨cls, dd, data, sl⟩, ho, hc, n, hd⟩ := id ht
 obtain ⟨⟨cls2, dd2, data2, sl2⟩, ho2, hc2, n2, hd2⟩ := id hb
 simp only at hc hd hc2 hd2
 subst hc hd hc2 hd2
 have e : vs.toArray ++ ws.toArray = (vs ++ ws).toArray := by simp
 by_cases hw : ws = []
 ·exact concat_meets ⟨_, ho, rfl⟩ ⟨_, ho2, rfl⟩ noFill_tuple_add seq_tuple_add PySem.F.slot_tuple_add PySem.F.entry_tuple_add (PySem.F.args_tuple_add_2 _ _)
   (tuple_addW1 t b vs.toArray ws.toArray n n2 dd dd2 sl sl2 (by simpa using hv) (by simp [hw])) ⟨ho, ho2, h1 hw⟩
 ·refine concat_meets ⟨_, ho, rfl⟩ ⟨_, ho2, rfl⟩ noFill_tuple_add seq_tuple_add PySem.F.slot_tuple_add PySem.F.entry_tuple_add (PySem.F.args_tuple_add_2 _ _)
   (tuple_addW2 t b vs.toArray ws.toArray n n2 dd dd2 sl sl2 (by simpa using hv) (by simpa using hw) (by rw [List.size_toArray, List.size_toArray]; exact hsz)) ⟨ho, ho2, ?_⟩
  rw [e]
  exact h2 hw
def sIx (n d : Nat) : Option Int → Nat
 | none => d
 | some v => if v < 0 then (v + (n : Int)).toNat else min v.toNat n
theorem sIx_none (n d : Nat) : sIx n d none = d := rfl
theorem sIx_nat (n d k : Nat) : sIx n d (some (k : Int)) = min k n := by
 show (if (k : Int) < 0 then ((k : Int) + (n : Int)).toNat else min (k : Int).toNat n) = min k n
 rw [if_neg (by omega), Int.toNat_natCast]
theorem sIx_le (n d : Nat) (hd : d ≤ n) (o : Option Int) : sIx n d o ≤ n := by
 cases o with
 | none => exact hd
 | some v =>
  show (if v < 0 then (v + (n : Int)).toNat else min v.toNat n) ≤ n
  by_cases hv : v < 0
  ·rw [if_pos hv]; omega
  ·rw [if_neg hv]; exact Nat.min_le_right _ _
theorem Xa (v : Int) (n d : Nat) : (if v < 0 then max (v + (n : Int)) 0 else min v (n : Int)) = ((sIx n d (some v) : Nat) : Int) := by
 show (if v < 0 then max (v + (n : Int)) 0 else min v (n : Int)) = (((if v < 0 then (v + (n : Int)).toNat else min v.toNat n) : Nat) : Int)
 by_cases hv : v < 0
 ·simp only [if_pos hv]; omega
 ·simp only [if_neg hv]; omega
theorem adjust_gen (lo hi : Option Int) (n : Nat) : Builtin.Slice.sliceAdjust lo hi 1 (n : Int) = (((sIx n 0 lo : Nat) : Int), ((sIx n n hi : Nat) : Int)) := by
 have h1 : ¬ ((1 : Int) < 0) := by omega
 unfold Builtin.Slice.sliceAdjust
 simp only [h1, if_false]
 refine Prod.ext ?_ ?_
 ·cases lo with
  | none => rfl
  | some v => exact Xa v n 0
 ·cases hi with
  | none => rfl
  | some v => exact Xa v n n
theorem places_gen (i j : Nat) : Builtin.Slice.slicePlaces (i : Int) (j : Int) 1 = j - i := by
 unfold Builtin.Slice.slicePlaces
 have h1 : (1 : Int) > 0 := by omega
 simp only [h1, if_true, Int.ediv_one]
 split <;> omega
theorem vm {v : Value} {o : Option Int} {Q : Option Int → Shared → Prop} (p : IsPart v o) (h : Q o s) : wpAny (model prog w) A (Builtin.Slice.slicePartIndex v) Q E s := by
 cases p with
 | none => exact slicePart_none h
 | int i t => exact slicePart_int h
theorem yZ {sl : Addr} {vl vu : Value} {lo hi : Option Int} {n : Nat} {Q : Int × Int × Nat → Shared → Prop} (hs : s.heap.IsSliceOf sl vl vu .none) (pl : IsPart vl lo) (pu : IsPart vu hi)
  (h : Q (((sIx n 0 lo : Nat) : Int), 1, sIx n n hi - sIx n 0 lo) s) : wpAny (model prog w) A (Builtin.Slice.sliceApplied (.ref sl) (pure (n : Int))) Q E s := by
 obtain ⟨os, hos, hcs, hds⟩ := id hs
 unfold Builtin.Slice.sliceApplied Builtin.Slice.sliceFields
 refine wpAny_bind (wpAny_bind (wpAny_field hos hds (x := vl) rfl (wpAny_bind (wpAny_field hos hds (x := vu) rfl (wpAny_bind (wpAny_field hos hds (x := .none) rfl (wpAny_pure ?_)))))))
 refine wpAny_bind (slicePart_none ?_)
 show wpAny _ _ (if ((1 : Int) == 0) = true then _ else _) _ _ s
 rw [if_neg (by decide)]
 refine wpAny_bind (vm pl (wpAny_bind (vm pu (wpAny_bind (wpAny_pure ?_)))))
 show wpAny _ _ (match Builtin.Slice.sliceAdjust lo hi 1 (n : Int) with | (lo, hi) => pure (lo, (1 : Int), Builtin.Slice.slicePlaces lo hi 1)) _ _ s
 rw [adjust_gen lo hi n]
 show wpAny _ _ (pure (((sIx n 0 lo : Nat) : Int), (1 : Int), Builtin.Slice.slicePlaces ((sIx n 0 lo : Nat) : Int) ((sIx n n hi : Nat) : Int) 1)) _ _ s
 rw [places_gen]
 exact wpAny_pure h
theorem pick_gen (xs : Array Value) (i k : Nat) : ((List.range k).filterMap fun (m : Nat) => xs[((i : Int) + (m : Int) * 1).toNat]?).toArray = ((xs.toList.drop i).take k).toArray := by
 have e : (fun (m : Nat) => xs[((i : Int) + (m : Int) * 1).toNat]?) = fun m => xs[i + m]? := by
  funext m
  have : ((i : Int) + (m : Int) * 1).toNat = i + m := by omega
  rw [this]
 rw [e]
 have := pick_run xs i k
 rw [List.filterMap_map] at this
 have e2 : ((fun x => xs[x]?) ∘ fun x => i + x) = fun m => xs[i + m]? := rfl
 rw [e2] at this
 rw [this]
theorem getItem_tuple_cut {t sl : Addr} {items : Array Value} {vl vu : Value} {lo hi : Option Int} {Q : Value → Shared → Prop} (ht : IsTup s.heap t items) (hs : s.heap.IsSliceOf sl vl vu .none) (pl : IsPart vl lo) (pu : IsPart vu hi)
  (hw : ¬ (sIx items.size 0 lo = 0 ∧ sIx items.size items.size hi = items.size))
  (h : Q (.ref s.heap.objs.size) { s with heap := s.heap.push { cls := .type "tuple", data := .seq ((items.toList.drop (sIx items.size 0 lo)).take (sIx items.size items.size hi - sIx items.size 0 lo)).toArray } })
  (hsz : items.size ≤ sizeLine) : wpAny (model prog w) A (getItem (.ref t) (.ref sl)) Q E s := by
 have htake : sizeOk (.seq ((items.toList.drop (sIx items.size 0 lo)).take (sIx items.size items.size hi - sIx items.size 0 lo)).toArray) := by
  show ((items.toList.drop (sIx items.size 0 lo)).take (sIx items.size items.size hi - sIx items.size 0 lo)).toArray.size ≤ sizeLine
  rw [List.size_toArray, List.length_take, List.length_drop, Array.length_toList]
  omega
 have hj : sIx items.size items.size hi ≤ items.size := sIx_le _ _ (Nat.le_refl _) hi
 obtain ⟨os, hos, hcs, hds⟩ := id hs
 have hTs : s.TypeIs (.ref sl) "slice" := ⟨os, hos, hcs⟩
 unfold getItem
 try with_reducible refine wpAny_holding ?_
 first | refine wpAny_bind (wpAny_pure ?_) | skip
 refine wpAny_bind (wpAny_sequenceKey ht.typeIs (by decide) ?_)
 refine wpAny_bind (wpAny_callSpecial?_slot (name := Str.ofString "__getitem__") ht.typeIs PyProof.Rows.slot_tuple_getitem
  (wpAny_call_entry PyProof.Rows.slot_tuple_getitem ht.typeIs entry_tuple_getitem ?_ (args_tuple_getitem _ _)))
 show wpAny _ _ (Builtin.Tuple.tupleItemsOf (.ref t) >>= _) _ _ s
 refine wpAny_bind (tupleItemsOf_ ht ?_)
 refine wpAny_bind (wpAny_typeOf hTs ?_)
 rw [if_pos (by decide)]
 refine wpAny_bind (yZ hs pl pu ?_)
 have hno : ¬ ((((sIx items.size 0 lo : Nat) : Int) == 0 && (1 : Int) == 1 && (sIx items.size items.size hi - sIx items.size 0 lo) == items.size) = true) := by
  intro q
  rw [Bool.and_eq_true, Bool.and_eq_true] at q
  have q1 : ((sIx items.size 0 lo : Nat) : Int) = 0 := eq_of_beq q.1.1
  have q2 : sIx items.size items.size hi - sIx items.size 0 lo = items.size := eq_of_beq q.2
  exact hw ⟨by omega, by omega⟩
 show wpAny _ _ (if (((sIx items.size 0 lo : Nat) : Int) == 0 && (1 : Int) == 1 && (sIx items.size items.size hi - sIx items.size 0 lo) == items.size) = true then _ else _) _ _ s
 rw [if_neg hno, pick_gen]
 first
  | exact wpAny_bind (m := Builtin.Tuple.tupleExact _) (wpAny_newObj_type (wpAny_pure ⟨_, rfl, wpAny_pure h⟩) htake)
  | exact wpAny_bind (m := Builtin.Tuple.tupleExact _) (wpAny_newObj_type (wpAny_bind (wpAny_pure (wpAny_pure ⟨_, rfl, wpAny_pure h⟩))) htake)
  | exact wpAny_bind (wpAny_bind (m := Builtin.Tuple.tupleExact _) (wpAny_newObj_type (wpAny_pure (wpAny_pure ⟨_, rfl, wpAny_pure h⟩)) htake))
  | exact wpAny_bind (wpAny_bind (m := Builtin.Tuple.tupleExact _) (wpAny_newObj_type (wpAny_pure ⟨_, rfl, wpAny_pure h⟩) htake))
end
end HT
namespace L2
open PySem PySem.Spec PyProof.Rows
abbrev TO := St → Hp → (Option Int → Hp → Prop) → Prop
def PO (X : Cx) (e : Option Expr) (t : TO) : Prop :=
 ∀ (pins : List (Addr × Obj)) (s : Shared) (σ : St) (H : Hp) (Q : Option Int → Hp → Prop), Inv X pins σ H s → t σ H Q →
  wpAny (model X.prog X.w) X.A (evalPart e X.env) (fun u s' => ∃ o H', Inv X pins σ H' s' ∧ IsPart u o ∧ Q o H') X.xe s
def Ys : TO := fun _ H Q => Q none H
def Ws (t : TE) : TO := fun σ H Q => t σ H fun x H1 => ∃ i, x = .int i ∧ Q (some i) H1
section
variable {X : Cx} {e : Expr} {te : TE} {lo hi : Option Expr} {tl th : TO} {pos p2 : Pos}
theorem yh : PO X none Ys := by
 intro pins s σ H Q I h
 rw [evalPart_none]
 exact wpAny_pure ⟨none, H, I, .none, h⟩
theorem zM (h : PE X e te) : PO X (some e) (Ws te) := by
 intro pins s σ H Q I hw
 rw [evalPart_some]
 refine thn (h pins s σ H _ I hw) fun u s1 ⟨x, H1, I1, r1, q1⟩ => ?_
 obtain ⟨i, rfl, q⟩ := q1
 obtain ⟨t, rfl⟩ := r1
 exact ⟨some i, H1, I1, .int i t, q⟩
def SlR (X : Cx) (r : V → Option Int → Option Int → Hp → VK → Prop) : Prop :=
 ∀ (pins : List (Addr × Obj)) (s : Shared) (σ : St) (H : Hp) (x : V) (v vl vu : Value) (lo hi : Option Int) (sl : Addr) (Q : VK), Inv X pins σ H s → RelV x v → s.heap.IsSliceOf sl vl vu .none → IsPart vl lo → IsPart vu hi → r x lo hi H Q →
  ∃ T id, typeLookup (.type T) "__getitem__" = pure (some (.builtin id)) ∧ s.TypeIs v T ∧ wpAny (model X.prog X.w) X.A (getItem v (.ref sl)) (EP X pins σ Q) X.xe s
def tSl (r : V → Option Int → Option Int → Hp → VK → Prop) (te : TE) (tl th : TO) : TE := fun σ H Q => te σ H fun x H1 => tl σ H1 fun l H2 => th σ H2 fun u H3 => r x l u H3 Q
theorem zO {r : V → Option Int → Option Int → Hp → VK → Prop} (hr : SlR X r) (he : PE X e te) (hl : PO X lo tl) (hu : PO X hi th) : PE X (.Subscript e (.Slice lo hi none p2) pos) (tSl r te tl th) := by
 intro pins s σ H Q I h
 refine Subscript_ (thn (he pins s σ H _ I h) fun v s1 ⟨x, H1, I1, r1, q1⟩ => ?_)
 refine wpAny_Slice (thn (hl pins s1 σ H1 _ I1 q1) fun vl s2 ⟨l, H2, I2, pl, q2⟩ => thn (hu pins s2 σ H2 _ I2 q2) fun vu s3 ⟨u, H3, I3, pu, q3⟩ => ?_)
 rw [evalPart_none]
 refine wpAny_pure ?_
 have I4 : Inv X pins σ H3 { s3 with heap := s3.heap.push { cls := .type "slice", data := .fields #[vl, vu, .none] } } := I3.kept (t' := s3.toks) fun b ob q => Heap.get?_push_of_some _ q
 obtain ⟨T, id, hT, ht, hg⟩ := hr pins { s3 with heap := s3.heap.push { cls := .type "slice", data := .fields #[vl, vu, .none] } } σ H3 x v vl vu l u s3.heap.objs.size Q I4 r1 (Heap.IsSliceOf.new ..) pl pu q3
 show wpAny (model X.prog X.w) X.A (subscriptTail e (.Slice lo hi none p2) v (.ref s3.heap.objs.size)) (EP X pins σ Q) X.xe { s3 with heap := s3.heap.push { cls := .type "slice", data := .fields #[vl, vu, .none] } }
 exact tail_any (ops := [.ref s3.heap.objs.size, v]) ht hT hg (by with_unfolding_all rfl)
def cutV (xs : List V) (lo hi : Option Int) : List V := (xs.drop (HT.sIx xs.length 0 lo)).take (HT.sIx xs.length xs.length hi - HT.sIx xs.length 0 lo)
theorem wS (xs : List V) (lo hi : Option Int) : (cutV xs lo hi).length ≤ xs.length := by
 unfold cutV
 rw [List.length_take, List.length_drop]
 omega
def rSlT (K : W.Frag) : V → Option Int → Option Int → Hp → VK → Prop := fun x lo hi H Q => ∃ a xs, x = .ref a ∧ SqT K H a xs ∧
 ¬ (HT.sIx xs.length 0 lo = 0 ∧ HT.sIx xs.length xs.length hi = xs.length) ∧ ∀ p, H p = none → Q (.ref p) (upd H p (.tup (cutV xs lo hi)))
theorem sl_tup : SlR X (rSlT X.K) := by
 intro pins s σ H x v vl vu lo hi sl Q I rx hs pl pu h
 obtain ⟨a, xs, rfl, hx, hw, q⟩ := h
 cases rx
 obtain ⟨its, r, ht, hz⟩ := I.tuple hx
 have hlen : its.toArray.size = xs.length := by rw [List.size_toArray]; exact r.length.symm
 refine ⟨"tuple", _, PyProof.Rows.slot_tuple_getitem.lookup, ht.typeIs, ?_⟩
 refine HT.getItem_tuple_cut ht hs pl pu (by rw [hlen]; exact hw) ?_ (by rw [hlen]; exact hz)
 rw [hlen]
 refine ⟨.ref s.heap.objs.size, _, I.laid (t' := s.toks) (o := .tup (cutV xs lo hi)) (fun b ob q => Heap.get?_push_of_some _ q) (Nat.le_refl _) ?_, rfl, q _ (I.hok.fresh (Nat.le_refl _))⟩
 exact ⟨Nat.le_trans (wS xs lo hi) hz, _, (r.drop (HT.sIx xs.length 0 lo)).take (HT.sIx xs.length xs.length hi - HT.sIx xs.length 0 lo), IsTup.new _ _⟩
def rCatT (K : W.Frag) : R2 := fun x y H Q => ∃ a b xs ys, x = .ref a ∧ y = .ref b ∧ SqT K H a xs ∧ SqT K H b ys ∧ xs ≠ [] ∧ xs.length + ys.length ≤ sizeLine ∧
 (ys = [] → Q (.ref a) H) ∧ (ys ≠ [] → ∀ p, H p = none → Q (.ref p) (upd H p (.tup (xs ++ ys))))
theorem Vals.nil_iff {xs : List V} {us : List Value} (r : Vals xs us) : us = [] ↔ xs = [] := by
 cases r with
 | nil => simp
 | cons _ _ => simp
theorem op_catT : OpR X (binaryOp .Add) (rCatT X.K) := by
 intro pins s σ H x y v u Q I rx ry h
 obtain ⟨a, b, xs, ys, rfl, rfl, ha, hb, hx, hz, q1, q2⟩ := h
 cases rx
 cases ry
 obtain ⟨its, r1, p1, _⟩ := I.tuple ha
 obtain ⟨its2, r2, p2, _⟩ := I.tuple hb
 refine HT.cat_tup p1 p2 (fun z => hx (r1.nil_iff.mp z)) (fun z => ⟨.ref a, H, I, rfl, q1 (r2.nil_iff.mp z)⟩) (fun z => ?_) (by rw [← r1.length, ← r2.length]; exact hz)
 refine ⟨.ref s.heap.objs.size, _, I.laid (t' := s.toks) (o := .tup (xs ++ ys)) (fun b ob q => Heap.get?_push_of_some _ q) (Nat.le_refl _) ?_, rfl, q2 (fun w => z (r2.nil_iff.mpr w)) _ (I.hok.fresh (Nat.le_refl _))⟩
 exact ⟨by rw [List.length_append]; exact hz, _, r1.append r2, IsTup.new _ _⟩
end
def ixN (n : Nat) (i : Int) : Option Nat := if 0 ≤ i then (if i < n then some i.toNat else none) else if -(n : Int) ≤ i then some (i + n).toNat else none
def atI {α : Type} (xs : List α) (i : Int) : Option α := (ixN xs.length i).bind fun j => xs[j]?
theorem ZE {n : Nat} {i : Int} {j : Nat} (h : ixN n i = some j) : seqIndex? i n = some j ∧ j < n ∧ -(n : Int) ≤ i ∧ i < n := by
 unfold ixN at h
 by_cases h0 : 0 ≤ i
 ·rw [if_pos h0] at h
  by_cases h1 : i < n
  ·rw [if_pos h1] at h
   have e : i.toNat = j := Option.some.inj h
   exact ⟨by rw [seqIndex_of h0 h1, e], by omega, by omega, h1⟩
  ·rw [if_neg h1] at h; cases h
 ·rw [if_neg h0] at h
  by_cases h1 : -(n : Int) ≤ i
  ·rw [if_pos h1] at h
   have e : (i + n).toNat = j := Option.some.inj h
   exact ⟨by rw [seqIndex_neg (by omega) h1, e], by omega, h1, by omega⟩
  ·rw [if_neg h1] at h; cases h
theorem ZI {α : Type} {xs : List α} {i : Int} {v : α} (h : atI xs i = some v) : ∃ j, seqIndex? i xs.length = some j ∧ xs[j]? = some v ∧ j < xs.length ∧ -(xs.length : Int) ≤ i ∧ i < xs.length := by
 unfold atI at h
 cases e : ixN xs.length i with
 | none => rw [e] at h; cases h
 | some j =>
  rw [e] at h
  obtain ⟨h1, h2, h3, h4⟩ := ZE e
  exact ⟨j, h1, h, h2, h3, h4⟩
theorem zx {α : Type} {xs : List α} {j : Nat} {v : α} (h : xs[j]? = some v) : atI xs (j : Int) = some v := by
 have hj : j < xs.length := (List.getElem?_eq_some_iff.mp h).1
 have e : ixN xs.length (j : Int) = some j := by
  unfold ixN
  rw [if_pos (by omega), if_pos (by omega)]; simp
 unfold atI; rw [e]; exact h
def PlainIx (b : Expr) : Prop := ∀ o i, subscripted b false o i = operate [o, i] (getItem o i)
def IxR (X : Cx) (r : R2) : Prop :=
 ∀ (value slice : Expr) (pins : List (Addr × Obj)) (s : Shared) (σ : St) (H : Hp) (x y : V) (v u : Value) (Q : VK), Inv X pins σ H s → RelV x v → RelV y u → r x y H Q →
  subscripted slice false v u = operate [v, u] (getItem v u) → wpAny (model X.prog X.w) X.A (subscriptTail value slice v u) (EP X pins σ Q) X.xe s
def MtR (X : Cx) (id : String) (r : V → List V → Hp → VK → Prop) : Prop :=
 ∀ (pins : List (Addr × Obj)) (s : Shared) (σ : St) (H : Hp) (x : V) (xs : List V) (v : Value) (us : List Value) (Q : VK), Inv X pins σ H s → RelV x v → Vals xs us → r x xs H Q →
  wpAny (model X.prog X.w) X.A (call (.builtin id) (v :: us)) (EP X pins σ Q) X.xe s
section
variable {X : Cx} {a b : Expr} {ta tb : TE} {pos : Pos}
theorem IxR.or {r r' : R2} (h : IxR X r) (h' : IxR X r') : IxR X (fun x y H Q => r x y H Q ∨ r' x y H Q) := by
 intro value slice pins s σ H x y v u Q I rx ry q hs
 rcases q with q | q
 ·exact h value slice pins s σ H x y v u Q I rx ry q hs
 ·exact h' value slice pins s σ H x y v u Q I rx ry q hs
theorem zk {r : R2} (hr : IxR X r) (ha : PE X a ta) (hb : PE X b tb) (hs : PlainIx b) : PE X (.Subscript a b pos) (tOp r ta tb) := by
 intro pins s σ H Q I h
 exact Subscript_ (binT ha hb I h fun v u s2 x y H2 I2 rx ry q => hr a b pins s2 σ H2 x y v u Q I2 rx ry q (hs _ _))
def rIxL (K : W.Frag) : R2 := fun x y H Q => ∃ p xs i v, x = .ref p ∧ y = .int i ∧ SqL K H p xs ∧ atI xs i = some v ∧ Q v H
def rIxT (K : W.Frag) : R2 := fun x y H Q => ∃ p xs i v, x = .ref p ∧ y = .int i ∧ SqT K H p xs ∧ atI xs i = some v ∧ Q v H
def rIxS : R2 := fun x y H Q => ∃ z i c, x = .str z ∧ y = .int i ∧ z.length ≤ sizeLine ∧ atI z.cps.toList i = some c ∧ Q (.str ⟨#[c]⟩) H
theorem ix_list : IxR X (rIxL X.K) := by
 intro value slice pins s σ H x y v u Q I rx ry h hs
 obtain ⟨p, xs, i, z, rfl, rfl, hq, he, q⟩ := h
 cases rx
 obtain ⟨t, rfl⟩ := ry
 obtain ⟨its, r, pl, hz⟩ := I.list hq
 obtain ⟨j, h1, h2, h3, h4, h5⟩ := ZI he
 obtain ⟨w, ew, rw'⟩ := r.get h2
 have hl := r.length
 have hn := wB
 have fin : EP X pins σ Q w s := ⟨z, H, I, rw', q⟩
 by_cases h0 : 0 ≤ i
 ·have hj : i.toNat = j := by
   rw [seqIndex_of h0 h5] at h1
   exact Option.some.inj h1
  exact item_listR pl.isList h0 (by omega) (by rw [hj]; simpa using ew) fin hs
 ·have hj : (i + (its.toArray.size : Int)).toNat = j := by
   rw [seqIndex_neg (by omega) h4] at h1
   rw [List.size_toArray, ← hl]
   exact Option.some.inj h1
  exact subscriptTail_builtinR (x := w) pl.isList.typeIs slot_list_getitem.lookup
   (wpAny_getItem_list_neg (Q := fun r s' => r = w ∧ EP X pins σ Q r s') pl.isList (by omega) (by rw [List.size_toArray] <;> omega) (by omega) (by rw [hj]; simpa using ew) ⟨rfl, fin⟩) hs
theorem ix_tup : IxR X (rIxT X.K) := by
 intro value slice pins s σ H x y v u Q I rx ry h hs
 obtain ⟨p, xs, i, z, rfl, rfl, hq, he, q⟩ := h
 cases rx
 obtain ⟨t, rfl⟩ := ry
 obtain ⟨its, r, pl, hz⟩ := I.tuple hq
 obtain ⟨j, h1, h2, h3, h4, h5⟩ := ZI he
 obtain ⟨w, ew, rw'⟩ := r.get h2
 have hl := r.length
 have hn := wB
 have fin : EP X pins σ Q w s := ⟨z, H, I, rw', q⟩
 exact subscriptTail_builtinR (x := w) pl.typeIs slot_tuple_getitem.lookup
  (getItem_tuple (j := j) (Q := fun r s' => r = w ∧ EP X pins σ Q r s') pl (by omega) (by omega) (by rw [List.size_toArray, ← hl]; exact h1) (by simpa using ew) ⟨rfl, fin⟩) hs
theorem X6 : IxR X rIxS := by
 intro value slice pins s σ H x y v u Q I rx ry h hs
 obtain ⟨z, i, c, rfl, rfl, hz, he, q⟩ := h
 obtain ⟨t, rfl⟩ := rx
 obtain ⟨t', rfl⟩ := ry
 obtain ⟨j, h1, h2, h3, h4, h5⟩ := ZI he
 have hl : z.cps.toList.length = z.length := by simp [Str.length]
 rw [hl] at h1 h4 h5
 have hn := wB
 exact tail_any (typeIs_str s z t) slot_str_getitem.lookup (getItem_str (c := c) (by
  have e1 : decide (i < -(2 ^ 63 : Int)) = false := decide_eq_false (by omega)
  have e2 : decide (i ≥ 2 ^ 63) = false := decide_eq_false (by omega)
  rw [e1, e2, Bool.or_false]) (by rw [h1]; simpa using h2) ⟨.str ⟨#[c]⟩, H, I.tok _, ⟨_, rfl⟩, q⟩) hs
def rIx (K : W.Frag) : R2 := fun x y H Q => rIxL K x y H Q ∨ rIxT K x y H Q ∨ rIxS x y H Q
theorem ix_seq : IxR X (rIx X.K) := ix_list.or (ix_tup.or X6)
theorem mapSeq_set (its : List Value) (n j : Nat) (u : Value) : Obj.mapSeq (·.setIfInBounds j u) { cls := .type "list", data := .seq its.toArray n } = { cls := .type "list", data := .seq (its.set j u).toArray n } := by
 simp [Obj.mapSeq]
theorem Inv.lst {pins : List (Addr × Obj)} {σ : St} {H : Hp} {s : Shared} {p : Addr} {xs : List V} (I : Inv X pins σ H s) (h : H p = some (.lst xs)) :
  ∃ (its : List Value) (n : Nat), Vals xs its ∧ s.heap.get? p = some { cls := .type "list", data := .seq its.toArray n } ∧ xs.length ≤ sizeLine := by
 obtain ⟨z, its, n, r, e⟩ := I.hok p _ h
 exact ⟨its, n, r, e, z⟩
theorem Inv.lstUpd {pins : List (Addr × Obj)} {σ : St} {H : Hp} {s : Shared} {p : Addr} {xs ys : List V} {its its' : List Value} {n n' : Nat} {f : Obj → Obj} (I : Inv X pins σ H s) (h : H p = some (.lst xs))
  (ho : s.heap.get? p = some { cls := .type "list", data := .seq its.toArray n }) (hf : f { cls := .type "list", data := .seq its.toArray n } = { cls := .type "list", data := .seq its'.toArray n' }) (r : Vals ys its') (hz : ys.length ≤ sizeLine) (t : Nat) :
  Inv X pins σ (upd H p (.lst ys)) { s with heap := s.heap.update p f, toks := t } := by
 have e : (s.heap.update p f).get? p = some { cls := .type "list", data := .seq its'.toArray n' } := by
  rw [Heap.get?_update_self f ho (by rw [hf] <;> rfl), hf]
 refine I.write (x := p) (e := p) (by rw [h]; trivial) (.inl rfl) (fun b u hb q => (Heap.get?_update_other _ _ (Ne.symm hb)).trans q) ⟨_, e⟩ ?_
 exact ⟨hz, its', n', r, e⟩
def rSetL : V → V → V → Hp → (Hp → Prop) → Prop := fun o i v H Q => ∃ p xs k j, o = .ref p ∧ i = .int k ∧ H p = some (.lst xs) ∧ ixN xs.length k = some j ∧ Q (upd H p (.lst (xs.set j v)))
theorem set_list : PSet X rSetL := by
 intro pins s σ H o i v ov iv u Q I ro ri rv h
 obtain ⟨p, xs, k, j, rfl, rfl, hp, hj, q⟩ := h
 cases ro
 obtain ⟨t, rfl⟩ := ri
 obtain ⟨its, n, r, ho, hz⟩ := I.lst hp
 obtain ⟨h1, h2, h3, h4⟩ := ZE hj
 have hl := r.length
 have hn := wB
 have I' : Inv X pins σ (upd H p (.lst (xs.set j v))) { s with heap := s.heap.update p (Obj.mapSeq (·.setIfInBounds j u)) } :=
  I.lstUpd hp ho (mapSeq_set its n j u) (r.set rv j) (by rw [List.length_set]; exact hz) s.toks
 by_cases h0 : 0 ≤ k
 ·have hk : k.toNat = j := by
   rw [seqIndex_of h0 h4] at h1
   exact Option.some.inj h1
  exact PySem.W.ki_setAt ho h0 (by omega) (by rw [List.size_toArray, ← hl]; exact h4) (by rw [hk]; exact ⟨_, I', q⟩)
 ·have hk : (k + (its.toArray.size : Int)).toNat = j := by
   rw [seqIndex_neg (by omega) h3] at h1
   rw [List.size_toArray, ← hl]
   exact Option.some.inj h1
  exact PySem.W.ki_setBack ho (by omega) (by rw [List.size_toArray, ← hl]; exact h3) (by omega) (by rw [hk]; exact ⟨_, I', q⟩)
theorem slice_bounds (lo hi : Option Int) (n : Nat) : (sliceBounds lo hi none n).1 = ((HT.sIx n 0 lo : Nat) : Int) ∧ (sliceBounds lo hi none n).2.1 = ((HT.sIx n n hi : Nat) : Int) ∧ (sliceBounds lo hi none n).2.2 = 1 := by
 refine ⟨?_, ?_, rfl⟩
 ·cases lo with
  | none => simp [sliceBounds, HT.sIx]
  | some i =>
   simp only [sliceBounds, HT.sIx, Option.getD_none, show (1 : Int) > 0 by decide, if_true]
   by_cases h : i < 0
   ·simp only [h, if_true] <;> omega
   ·simp only [h, if_false] <;> omega
 ·cases hi with
  | none => simp [sliceBounds, HT.sIx]
  | some i =>
   simp only [sliceBounds, HT.sIx, Option.getD_none, show (1 : Int) > 0 by decide, if_true]
   by_cases h : i < 0
   ·simp only [h, if_true] <;> omega
   ·simp only [h, if_false] <;> omega
theorem slicePick_cut (its : List Value) (lo hi : Option Int) : slicePick its.toArray lo hi none = ((its.drop (HT.sIx its.length 0 lo)).take (HT.sIx its.length its.length hi - HT.sIx its.length 0 lo)).toArray := by
 obtain ⟨h1, h2, h3⟩ := slice_bounds lo hi its.toArray.size
 unfold slicePick
 rw [h1, h2, h3]
 simp only [sliceRange_one, pick_run, List.size_toArray] <;> rfl
def rSlL (K : W.Frag) : V → Option Int → Option Int → Hp → VK → Prop := fun x lo hi H Q => ∃ a xs, x = .ref a ∧ SqL K H a xs ∧ ∀ p, H p = none → Q (.ref p) (upd H p (.lst (cutV xs lo hi)))
theorem ym : SlR X (rSlL X.K) := by
 intro pins s σ H x v vl vu lo hi sl Q I rx hs pl pu h
 obtain ⟨a, xs, rfl, hx, q⟩ := h
 cases rx
 obtain ⟨its, r, ht, hz⟩ := I.list hx
 have hlen := r.length
 refine ⟨"list", _, slot_list_getitem.lookup, ht.isList.typeIs, ?_⟩
 refine wpAny_getItem_list_slice ht.isList hs pl pu .none (by simp) ?_ (by rw [List.size_toArray] <;> omega)
 rw [slicePick_cut, ← hlen]
 refine ⟨.ref s.heap.objs.size, _, I.laid (t' := s.toks) (o := .lst (cutV xs lo hi)) (fun b ob q => Heap.get?_push_of_some _ q) (Nat.le_refl _) ?_, rfl, q _ (I.hok.fresh (Nat.le_refl _))⟩
 exact ⟨Nat.le_trans (wS xs lo hi) hz, _, 0, (r.drop (HT.sIx xs.length 0 lo)).take (HT.sIx xs.length xs.length hi - HT.sIx xs.length 0 lo), Heap.get?_push_size _ rfl⟩
def Vb : V → Bool
 | .non => true
 | .bl _ => true
 | .int _ => true
 | .str _ => true
 | _ => false
def eqV : V → V → Bool
 | .non, .non => true
 | .bl a, .bl b => a == b
 | .bl a, .int b => (if a then 1 else 0) == b
 | .int a, .bl b => a == (if b then 1 else 0)
 | .int a, .int b => a == b
 | .str a, .str b => a == b
 | _, _ => false
def inV (x : V) (xs : List V) : Bool := xs.any fun y => eqV y x
def rIn (K : W.Frag) (neg : Bool) : R2 := fun x y H Q => ∃ p xs, y = .ref p ∧ (SqL K H p xs ∨ SqT K H p xs) ∧ Vb x = true ∧ xs.all Vb = true ∧ Q (.bl (if neg then !inV x xs else inV x xs)) H
theorem zr : yq X (.builtin "len") (fun xs H Q => ∃ p ys, xs = [.ref p] ∧ (SqL X.K H p ys ∨ SqT X.K H p ys) ∧ Q (.int ys.length) H) := by
 intro pins s σ H xs us Q I r h
 obtain ⟨p, ys, rfl, hq, q⟩ := h
 obtain ⟨u, rfl, rx⟩ := ZL r
 cases rx
 have hn := wB
 rcases hq with hq | hq
 ·obtain ⟨its, r', pl, hz⟩ := I.list hq
  have hlen := r'.length
  exact Calls.call_len_list pl.isList (by simp only [List.size_toArray] <;> omega) ⟨.int ys.length, H, I.tok _, ⟨s.toks + 1, by rw [List.size_toArray, hlen]⟩, q⟩
 ·obtain ⟨its, r', pl, hz⟩ := I.tuple hq
  have hlen := r'.length
  exact len_tuple pl (by simp only [List.size_toArray] <;> omega) ⟨.int ys.length, H, I.tok _, ⟨s.toks + 1, by rw [List.size_toArray, hlen]⟩, q⟩
theorem wk : yq X (.builtin "len") (fun xs H Q => ∃ z, xs = [.str z] ∧ z.length ≤ sizeLine ∧ Q (.int z.length) H) := by
 intro pins s σ H xs us Q I r h
 obtain ⟨z, rfl, hz, q⟩ := h
 obtain ⟨u, rfl, t, rfl⟩ := ZL r
 have hn := wB
 exact len_str (by omega) ⟨.int z.length, H, I.tok _, ⟨_, rfl⟩, q⟩
theorem zA : yq X (.type "tuple") (fun xs H Q => ∃ p ys, xs = [.ref p] ∧ ((SqL X.K H p ys ∧ ∀ l, H l = none → Q (.ref l) (upd H l (.tup ys))) ∨ (SqT X.K H p ys ∧ Q (.ref p) H))) := by
 intro pins s σ H xs us Q I r h
 obtain ⟨p, ys, rfl, h⟩ := h
 obtain ⟨u, rfl, rx⟩ := ZL r
 cases rx
 rcases h with ⟨hq, q⟩ | ⟨hq, q⟩
 ·obtain ⟨its, r', pl, hz⟩ := I.list hq
  have hlen := r'.length
  refine call_tuple_list pl.isList (fun h' kp => ?_) (by simp only [List.size_toArray] <;> omega)
  have I1 : Inv X pins σ H { s with heap := h' } := I.kept (t' := s.toks) kp
  have I2 : Inv X pins σ (upd H h'.objs.size (.tup ys)) { s with heap := h'.push { cls := .type "tuple", data := .seq its.toArray } } :=
   I1.laid (t' := s.toks) (fun b o e => Heap.get?_push_of_some _ e) (Nat.le_refl _) (show ObjOk X.prog X.w _ _ _ (.tup ys) from ⟨hz, its, r', IsTup.new _ _⟩)
  exact ⟨.ref h'.objs.size, _, I2, rfl, q _ (I1.hok.fresh (Nat.le_refl _))⟩
 ·obtain ⟨its, r', pl, hz⟩ := I.tuple hq
  exact call_tuple_same pl ⟨.ref p, H, I, rfl, q⟩
def tyV (K : W.Frag) (T : String) (x : V) (H : Hp) : Prop := match x with
 | .str _ => T = "str"
 | .int _ => T = "int"
 | .ref p => (T = "list" ∧ ∃ xs, SqL K H p xs) ∨ (T = "tuple" ∧ ∃ o, K.lookup p = some o ∧ o.cls = .type "tuple" ∧ o.dict = none) ∨
   (T = "dict" ∧ ((∃ kvs, H p = some (.dK kvs)) ∨ ∃ kvs, H p = some (.dT kvs))) ∨ (T = "set" ∧ ∃ S n, H p = some (.set S n))
 | _ => False
theorem Z6 {pins : List (Addr × Obj)} {σ : St} {H : Hp} {s : Shared} {T : String} {x : V} {v : Value} (I : Inv X pins σ H s) (r : RelV x v) (ty : tyV X.K T x H) :
  s.TypeIs v T ∧ ∀ a, v = .ref a → ∃ ob, s.heap.get? a = some ob ∧ ob.dict = none := by
 cases x with
 | str z =>
  obtain ⟨t, rfl⟩ := r
  cases (show T = "str" from ty)
  exact ⟨typeIs_str s z t, fun _ e => nomatch e⟩
 | int i =>
  obtain ⟨t, rfl⟩ := r
  cases (show T = "int" from ty)
  exact ⟨typeIs_int s i t, fun _ e => nomatch e⟩
 | ref p =>
  cases r
  rcases ty with ⟨rfl, xs, hq⟩ | ⟨rfl, o, hk, hc, hd⟩ | ⟨rfl, hk⟩ | ⟨rfl, S, n, hk⟩
  ·obtain ⟨its, _, pl, _⟩ := I.list hq
   refine ⟨pl.isList.typeIs, fun a e => ?_⟩
   cases e
   obtain ⟨o, n, e, c, hd, _⟩ := pl
   exact ⟨o, e, hd⟩
  ·refine ⟨⟨o, I.kIn p o hk, hc⟩, fun a e => ?_⟩
   cases e
   exact ⟨o, I.kIn _ o hk, hd⟩
  ·have z : ∃ o, s.heap.get? p = some o ∧ o.ExactDict := by
    rcases hk with ⟨kvs, hk⟩ | ⟨kvs, hk⟩
    ·obtain ⟨_, _, _, _, o, _, _, e, ex, _⟩ := I.hok p _ hk
     exact ⟨o, e, ex⟩
    ·obtain ⟨_, _, _, _, o, _, _, e, ex, _⟩ := I.hok p _ hk
     exact ⟨o, e, ex⟩
   obtain ⟨o, e, ex⟩ := z
   refine ⟨⟨o, e, ex.1⟩, fun a e2 => ?_⟩
   cases e2
   exact ⟨o, e, ex.2.1⟩
  ·obtain ⟨o, _, _, _, e, ex, _⟩ := I.hok p _ hk
   refine ⟨⟨o, e, ex.1⟩, fun a e2 => ?_⟩
   cases e2
   exact ⟨o, e, ex.2.1⟩
 | _ => exact False.elim ty
def tBM0 (K : W.Frag) (T : String) (r : V → List V → Hp → VK → Prop) (to : TE) : TE := fun σ H Q => to σ H fun x H1 => tyV K T x H1 ∧ r x [] H1 Q
def tBM (K : W.Frag) (T : String) (r : V → List V → Hp → VK → Prop) (to : TE) (t : TA) : TE := fun σ H Q => to σ H fun x H1 => tyV K T x H1 ∧ t σ H1 fun xs H2 => r x xs H2 Q
variable {o e : Expr} {es : List Expr} {to : TE} {t : TA} {name : Str} {apos cpos : Pos} {T id : String} {r : V → List V → Hp → VK → Prop}
theorem pe_bm0 (pa : PlainAttrs T) (slot : Slot T name id) (hty : typeOf (.builtin id) = pure (.type "method_descriptor")) (hm : MtR X id r) (ho : PE X o to)
  (hbase : attributeBase o name X.env (eval o X.env) = eval o X.env := by rfl) (hline : (apos.endLine == cpos.line) = true := by rfl) : PE X (.Call (.Attribute o name apos) [] [] cpos) (tBM0 X.K T r to) := by
 intro pins s σ H Q I h
 refine wpAny_Call_method0_late hbase hline (thn (ho pins s σ H _ I h) fun v s1 ⟨x, H1, I1, r1, ty, q1⟩ => ?_)
 obtain ⟨h1, h2⟩ := Z6 I1 r1 ty
 exact ⟨T, id, pa, slot, hty, h1, h2, Calls.callWith_builtin rfl (PySem.evalArgs_none (hm pins s1 σ H1 x [] v [] Q I1 r1 .nil q1))⟩
theorem yn (pa : PlainAttrs T) (slot : Slot T name id) (hty : typeOf (.builtin id) = pure (.type "method_descriptor")) (hm : MtR X id r) (ho : PE X o to) (ha : PA X (e :: es) t)
  (hbase : attributeBase o name X.env (eval o X.env) = eval o X.env := by rfl)
  (hfew : ((backTo cpos (starEach (e :: es) X.env)).all (fun x => !x.1) && (backToKw cpos (keywordEach [] X.env)).all (fun x => x.1.isSome)
   && decide ((e :: es).length + ([] : List Keyword).length + (if ([] : List Keyword).isEmpty then 0 else 1) < 30)) = true := by rfl)
  (hline : (apos.endLine == cpos.line) = true := by rfl) (hs : starEach (e :: es) X.env = (false, eval e X.env) :: starEach es X.env := by rfl) (hplain : (backTo cpos (starEach es X.env)).any (·.1) = false := by rfl) :
  PE X (.Call (.Attribute o name apos) (e :: es) [] cpos) (tBM X.K T r to t) := by
 intro pins s σ H Q I h
 refine wpAny_Call_method_late hbase hfew hline rfl (thn (ho pins s σ H _ I h) fun v s1 ⟨x, H1, I1, r1, ty, q1⟩ => ?_)
 obtain ⟨h1, h2⟩ := Z6 I1 r1 ty
 refine ⟨T, id, pa, slot, hty, h1, h2, ?_⟩
 have hA := ha cpos pins s1 σ H1 _ I1 q1
 rw [hs] at hA ⊢
 refine Calls.callWith_builtin (by show (false || (backTo cpos (starEach es X.env)).any (·.1)) = false; rw [hplain] <;> rfl) (Calls.evalArgs_plain ?_)
 exact thn hA fun us s2 ⟨vs, H2, I2, r2, q2⟩ => hm pins s2 σ H2 x vs v us Q I2 r1 r2 q2
/- xs.append(e), list.index on a module's tuple .. are MtR facts of 06m -/
end
def MtM (X : Cx) (id : String) (r : V → List V → Hp → VK → Prop) : Prop :=
 ∀ (pins : List (Addr × Obj)) (s : Shared) (σ : St) (H : Hp) (x : V) (xs : List V) (v : Value) (us : List Value) (Q : VK), Inv X pins σ H s → RelV x v → Vals xs us → r x xs H Q →
  wpAny (model X.prog X.w) X.A (call (.builtin id) (v :: us)) (EP X pins σ Q) X.xe s
theorem Vals.one : ∀ {x : V} {us : List Value}, Vals [x] us → ∃ u, us = [u] ∧ RelV x u
 | _, _, .cons r .nil => ⟨_, rfl, r⟩
theorem Vals.zero : ∀ {us : List Value}, Vals [] us → us = []
 | _, .nil => rfl
theorem Vals.eraseIdx : ∀ {xs : List V} {us : List Value} (i : Nat), Vals xs us → Vals (xs.eraseIdx i) (us.eraseIdx i)
 | _, _, _, .nil => .nil
 | _, _, 0, .cons _ t => t
 | _, _, i + 1, .cons r t => .cons r (Vals.eraseIdx i t)
theorem Vals.reverse {xs : List V} {us : List Value} (h : Vals xs us) : Vals xs.reverse us.reverse := by
 induction h with
 | nil => exact .nil
 | cons r t ih => rw [List.reverse_cons, List.reverse_cons]; exact Vals.append ih (.cons r .nil)
theorem Vals.rep {xs : List V} {us : List Value} (h : Vals xs us) : ∀ k : Nat, Vals (List.replicate k xs).flatten (List.replicate k us).flatten
 | 0 => .nil
 | k + 1 => by
  rw [List.replicate_succ, List.replicate_succ, List.flatten_cons, List.flatten_cons]
  exact Vals.append h (Vals.rep h k)
theorem v8 {α : Type} : ∀ (l : List α) (i : Nat), (l.eraseIdx i).length ≤ l.length
 | [], _ => Nat.le_refl _
 | _ :: _, 0 => Nat.le_succ _
 | _ :: r, i + 1 => Nat.succ_le_succ (v8 r i)
theorem Zc (its : List Value) : ∀ (k : Nat) (acc : List Value),
  List.foldl (fun x1 x2 => x1 ++ x2) acc.toArray (List.replicate k its.toArray) = (acc ++ (List.replicate k its).flatten).toArray
 | 0, acc => by simp
 | k + 1, acc => by
  have e : acc.toArray ++ its.toArray = (acc ++ its).toArray := by simp
  have e2 : (acc ++ its) ++ (List.replicate k its).flatten = acc ++ (List.replicate (k + 1) its).flatten := by
   rw [List.replicate_succ, List.flatten_cons, List.append_assoc]
  rw [← e2, ← Zc its k (acc ++ its), ← e, List.replicate_succ, List.foldl_cons]
section
variable {X : Cx} {pins : List (Addr × Obj)} {σ : St} {H : Hp} {s : Shared} {l b : Addr} {xs ys zs : List V}
theorem Inv.lset {its its' : List Value} {n : Nat} {f : Array Value → Array Value} {t' : Nat} (I : Inv X pins σ H s) (hH : H l = some (.lst xs))
  (e : s.heap.get? l = some { cls := .type "list", data := .seq its.toArray n }) (hf : f its.toArray = its'.toArray) (hv : Vals ys its') (hz : ys.length ≤ sizeLine) :
  Inv X pins σ (upd H l (.lst ys)) { s with heap := s.heap.update l (Obj.mapSeq f), toks := t' } := by
 have q := PySem.IsL.update e f
 rw [hf] at q
 refine I.write (x := l) (e := l) (by rw [hH]; exact trivial) (.inl rfl) (fun b' u hb hu => (Heap.get?_update_other s.heap (Obj.mapSeq f) (Ne.symm hb)).trans hu) ⟨_, q⟩ ?_
 exact ⟨hz, its', _, hv, q⟩
theorem Inv.lnew {its : List Value} {t' : Nat} (I : Inv X pins σ H s) (hv : Vals ys its) (hz : ys.length ≤ sizeLine) :
  Inv X pins σ (upd H s.heap.objs.size (.lst ys)) { s with heap := s.heap.push { cls := .type "list", data := .seq its.toArray }, toks := t' } :=
 I.laid (fun _ _ q => Heap.get?_push_of_some _ q) (Nat.le_refl _) ⟨hz, its, 0, hv, Heap.get?_push_size _ rfl⟩
theorem Inv.fresh (I : Inv X pins σ H s) : H s.heap.objs.size = none := I.hok.fresh (Nat.le_refl _)
theorem Inv.lstM (I : Inv X pins σ H s) (hH : H l = some (.lst xs)) : xs.length ≤ sizeLine ∧ ∃ (its : List Value) (n : Nat), Vals xs its ∧ xs.length = its.length ∧ s.heap.get? l = some { cls := .type "list", data := .seq its.toArray n } := by
 obtain ⟨z, its, n, r, e⟩ := I.hok l _ hH
 exact ⟨z, its, n, r, r.length, e⟩
theorem ZT {n : Nat} (h : n ≤ sizeLine) : Builtin.List.listTooLong n = false := by
 unfold Builtin.List.listTooLong
 exact decide_eq_false (by omega)
end
section
variable {X : Cx}
def rAppend : V → List V → Hp → VK → Prop := fun x vs H Q => ∃ l xs y, x = .ref l ∧ vs = [y] ∧ H l = some (.lst xs) ∧ xs.length < sizeLine ∧ Q .non (upd H l (.lst (xs ++ [y])))
theorem yI : MtM X "list.append" rAppend := by
 intro pins s σ H x vs v us Q I rx rv h
 obtain ⟨l, xs, y, rfl, rfl, hH, hz, q⟩ := h
 cases rx
 obtain ⟨u, rfl, ru⟩ := rv.one
 obtain ⟨z, its, n, r, hl, e⟩ := I.lstM hH
 refine call_meets F.slot_list_append ⟨_, e, rfl⟩ F.entry_list_append (F.args_list_append_2 _ _) (PySem.list_append l its.toArray n u (by rw [List.size_toArray]; omega)) ⟨e, ?_⟩
 refine ⟨.non, _, I.lset (its' := its ++ [u]) hH e (by simp) (r.append (.cons ru .nil)) ?_, rfl, q⟩
 rw [List.length_append, List.length_singleton]
 omega
def rExtend : V → List V → Hp → VK → Prop := fun x vs H Q => ∃ l b xs zs, x = .ref l ∧ vs = [.ref b] ∧ H l = some (.lst xs) ∧ H b = some (.lst zs) ∧ xs.length + zs.length ≤ sizeLine ∧ Q .non (upd H l (.lst (xs ++ zs)))
theorem v7 : MtM X "list.extend" rExtend := by
 intro pins s σ H x vs v us Q I rx rv h
 obtain ⟨l, b, xs, zs, rfl, rfl, hH, hB, hz, q⟩ := h
 cases rx
 obtain ⟨u, rfl, ru⟩ := rv.one
 cases ru
 obtain ⟨z, its, n, r, hl, e⟩ := I.lstM hH
 obtain ⟨z2, its2, n2, r2, hl2, e2⟩ := I.lstM hB
 have hsz : its.toArray.size + its2.toArray.size ≤ sizeLine := by rw [List.size_toArray, List.size_toArray]; omega
 have hlong : ¬ (!its.toArray.isEmpty && Builtin.List.listTooLong (its.toArray.size + its2.toArray.size)) = true := by
  rw [ZT hsz, Bool.and_false]
  exact Bool.false_ne_true
 refine call_meets F.slot_list_extend ⟨_, e, rfl⟩ F.entry_list_extend (F.args_list_extend_2 _ _)
  (AutoSeq1.list_extend_list_list_0 l its.toArray n b its2.toArray n2 hlong (by rw [List.size_toArray]; omega) (by omega)) ⟨e, e2, ?_⟩
 refine ⟨.non, _, I.lset (its' := its ++ its2) hH e (by simp) (r.append r2) ?_, rfl, q⟩
 rw [List.length_append]
 omega
def rPopAt : V → List V → Hp → VK → Prop := fun x vs H Q => ∃ l xs i k y, x = .ref l ∧ vs = [.int i] ∧ H l = some (.lst xs) ∧ -(2 ^ 63) ≤ i ∧ i < 2 ^ 63 ∧ seqIndex? i xs.length = some k ∧ xs[k]? = some y ∧ Q y (upd H l (.lst (xs.eraseIdx k)))
theorem mt_popAt : MtM X "list.pop" rPopAt := by
 intro pins s σ H x vs v us Q I rx rv h
 obtain ⟨l, xs, i, k, y, rfl, rfl, hH, h1, h2, hk, hy, q⟩ := h
 cases rx
 obtain ⟨u, rfl, ru⟩ := rv.one
 obtain ⟨t, rfl⟩ := ru
 obtain ⟨z, its, n, r, hl, e⟩ := I.lstM hH
 obtain ⟨w, hw, rw'⟩ := r.get hy
 refine call_meets F.slot_list_pop ⟨_, e, rfl⟩ F.entry_list_pop (F.args_list_pop_2 _ _)
  (MeetsSeq.list_pop_at l its.toArray n i t k w (fitsIndex_both h1 h2) (by rw [List.size_toArray, ← hl]; exact hk) (by rw [← Array.getElem?_toList]; exact hw) (by rw [List.size_toArray]; omega)) ⟨e, ?_⟩
 refine ⟨y, _, I.lset (its' := its.eraseIdx k) hH e ?_ (r.eraseIdx k) ?_, rw', q⟩
 ·show its.toArray.eraseIdxIfInBounds k = (its.eraseIdx k).toArray
  rw [List.eraseIdxIfInBounds_toArray]
 ·have := v8 xs k
  omega
def rReverse : V → List V → Hp → VK → Prop := fun x vs H Q => ∃ l xs, x = .ref l ∧ vs = [] ∧ H l = some (.lst xs) ∧ Q .non (upd H l (.lst xs.reverse))
theorem mt_reverse : MtM X "list.reverse" rReverse := by
 intro pins s σ H x vs v us Q I rx rv h
 obtain ⟨l, xs, rfl, rfl, hH, q⟩ := h
 cases rx
 have hus := rv.zero
 subst hus
 obtain ⟨z, its, n, r, hl, e⟩ := I.lstM hH
 refine call_meets F.slot_list_reverse ⟨_, e, rfl⟩ F.entry_list_reverse (F.args_list_reverse_1 _) (AutoSeq1.list_reverse_list_0 l its.toArray n (by rw [List.size_toArray]; omega)) ⟨e, ?_⟩
 refine ⟨.non, _, I.lset (its' := its.reverse) hH e (by simp) r.reverse ?_, rfl, q⟩
 rw [List.length_reverse]
 omega
def rCat : R2 := fun x y H Q => ∃ l b xs zs, x = .ref l ∧ y = .ref b ∧ H l = some (.lst xs) ∧ H b = some (.lst zs) ∧ xs.length + zs.length ≤ sizeLine ∧ ∀ p, H p = none → Q (.ref p) (upd H p (.lst (xs ++ zs)))
theorem yp : OpR X (binaryOp .Add) rCat := by
 intro pins s σ H x y v u Q I rx ry h
 obtain ⟨l, b, xs, zs, rfl, rfl, hH, hB, hz, q⟩ := h
 cases rx
 cases ry
 obtain ⟨z, its, n, r, hl, e⟩ := I.lstM hH
 obtain ⟨z2, its2, n2, r2, hl2, e2⟩ := I.lstM hB
 refine PySem.P.add_list e e2 ?_ (by rw [List.size_toArray, List.size_toArray]; omega)
 have ea : its.toArray ++ its2.toArray = (its ++ its2).toArray := by simp
 rw [ea]
 exact ⟨.ref _, _, I.lnew (t' := s.toks) (r.append r2) (by rw [List.length_append]; omega), rfl, q _ I.fresh⟩
def rRep : R2 := fun x y H Q => ∃ l k xs, x = .ref l ∧ y = .int k ∧ H l = some (.lst xs) ∧ -(2 ^ 63) ≤ k ∧ k < 2 ^ 63 ∧ xs.length * k.toNat ≤ sizeLine ∧
 ∀ p, H p = none → Q (.ref p) (upd H p (.lst (List.replicate k.toNat xs).flatten))
theorem len_rep {α : Type} (xs : List α) (k : Nat) : (List.replicate k xs).flatten.length = k * xs.length := by
 induction k with
 | zero => simp
 | succ k ih => rw [List.replicate_succ, List.flatten_cons, List.length_append, ih, Nat.succ_mul, Nat.add_comm]
theorem XQ : OpR X (binaryOp .Mult) rRep := by
 intro pins s σ H x y v u Q I rx ry h
 obtain ⟨l, k, xs, rfl, rfl, hH, h1, h2, hz, q⟩ := h
 cases rx
 obtain ⟨t, rfl⟩ := ry
 obtain ⟨z, its, n, r, hl, e⟩ := I.lstM hH
 have hlen : its.toArray.size * k.toNat ≤ sizeLine := by rw [List.size_toArray, ← hl]; exact hz
 have hcap : ¬ its.toArray.size * k.toNat > (2 ^ 63 - 1) / 8 := by
  have : (sizeLine : Nat) ≤ (2 ^ 63 - 1) / 8 := by decide
  omega
 have hfit : ¬ (!Builtin.List.listFitsIndex k) = true := by
  rw [fitsIndex_both h1 h2]
  exact Bool.false_ne_true
 have hlong : ¬ Builtin.List.listTooLong (its.toArray.size * k.toNat) = true := by
  rw [ZT hlen]
  exact Bool.false_ne_true
 have hnew : List.foldl (fun x1 x2 => x1 ++ x2) #[] (List.replicate (if its.toArray.isEmpty = true then 0 else k.toNat) its.toArray) = (List.replicate k.toNat its).flatten.toArray := by
  have f0 : ∀ m : Nat, List.foldl (fun x1 x2 => x1 ++ x2) #[] (List.replicate m its.toArray) = (List.replicate m its).flatten.toArray := fun m => by
   have := Zc its m []
   rw [List.nil_append] at this
   exact this
  rw [f0]
  cases its with
  | nil => simp
  | cons a r' => rw [if_neg (by simp)]
 refine wpAny_binaryOp_repeat_ref (T := "list") (U := "int") (by decide) ⟨_, e, rfl⟩ (fun s' => typeIs_int s' k t) noFill_list_mul F.fills_int_mul F.slot_int_rmul repeat_list F.slot_int_index.lookup
  (call_meets F.slot_int_rmul (typeIs_int s k t) F.entry_int_rmul (F.args_int_rmul_2 _ _) (int___rmul___int_list k t l its.toArray n)
   ⟨e, rfl, ⟨_, e, rfl⟩, call_meets F.slot_list_mul ⟨_, e, rfl⟩ F.entry_list_mul (F.args_list_mul_2 _ _) (AutoListH.list___mul___list_int_3 l its.toArray n k t hfit hcap hlong) ⟨e, ?_⟩⟩)
 rw [hnew]
 exact ⟨.ref _, _, I.lnew (t' := s.toks) (r.rep k.toNat) (by rw [len_rep, Nat.mul_comm]; exact hz), rfl, q _ I.fresh⟩
end
end L2
namespace Att
open PySem PySem.W PySem.Calls PyProof.Rows
theorem ints_of_wellAll {P : Params} {h : Heap} : ∀ (ns : List Int) (vs : List Value), WellAll P h vs (ns.map WData.int) → IntsAre vs ns := by
 intro ns
 induction ns with
 | nil =>
  intro vs w
  rw [List.map_nil] at w
  cases w
  exact .nil
 | cons n ns ih =>
  intro vs w
  rw [List.map_cons] at w
  cases w with
  | cons a b =>
   cases a
   exact .cons _ _ (ih _ b)
theorem script_of {l : OpenLaw} {n : Nat} (hn : l.most = some n) {P : Params} {h : Heap} {args : List WData} {vals : List Value}
  (hpre : l.row.toRowW.claim.pre args = true) (hwl : WellAll P h vals args) :
  ∃ a vs ns, vals = [Value.ref a] ∧ args = [WData.list (ns.map WData.int)] ∧ h.get? a = some { cls := .type "list", data := .seq vs.toArray } ∧ IntsAre vs ns ∧ ns.length ≤ n := by
 have hsh : WShape.hasAll [] args [.list .int] = true := (pre_splitW hpre).1
 have hc : l.pre.holds [] { args := args } = true := (pre_splitW hpre).2
 obtain ⟨d, r, rfl, h1, h2⟩ := hasAllW_cons hsh
 obtain rfl := hasAllW_nil h2
 obtain ⟨xs, rfl, h3⟩ := hasW_list h1
 obtain ⟨ns, rfl⟩ := items_int h3
 have hlen : ns.length ≤ n := by
  unfold OpenLaw.pre at hc
  have h4 : (WTm.not (.lt (.lit (.int (n : Int))) (.len (.arg 0)))).holds [] { args := [.list (ns.map .int)] } = true := by
   have h4 := (holds_andW hc).1
   rw [hn] at h4
   exact h4
  have h5 := condW_of h4 (w_not (w_lt w_lit (w_len_list (w_arg rfl))))
  rw [List.length_map] at h5
  refine Nat.le_of_not_lt fun q => ?_
  have q' : (n : Int) < ((ns.length : Nat) : Int) := by omega
  first
   | (rw [decide_eq_true q'] at h5; exact absurd h5 (by decide))
   | (simp at h5; omega)
 cases hwl with
 | cons w1 w2 =>
  cases w2
  cases w1 with
  | list ho hall => exact ⟨_, _, ns, rfl, rfl, ho, ints_of_wellAll ns _ hall, hlen⟩
theorem post_true (l : OpenLaw) (args : List WData) : l.row.toRowW.claim.post args (.bool true) args = true :=
 postW_of (r := l.row.toRowW) (X := (true == true))
  (show WShape.has [] (.bool true) .bool = true by first | rfl | decide | simp [WShape.has, WShape.arms, WShape.armsAll])
  (show (WTm.eq .res (.lit (.bool true))).value [] { args := args, res := some (.bool true), after := args } = some (.bool (true == true)) from w_eq_bool (w_res rfl) w_lit) rfl
theorem attach_call {l : OpenLaw} {n : Nat} {q : Program} {loose : List Str} {XP : (Str → Option Value) → Heap → Prop} {YP : World → Heap → Prop} {d : DefRec}
  (hn : l.most = some n) (hdf : d.params.defaults = [])
  (call : ∀ (w : World) (s₀ s₁ : Shared) (mg mb : Str → Option Value) (fa : Addr) (o : Obj) (pm cd doc : Value) (a : Addr) (vs : List Value) (ns : List Int),
   Ground q loose [] XP w s₀ mg mb s₁.heap → YP w s₁.heap →
   s₁.heap.get? fa = some o → o.data = .func (docDef d.name d.params d.body d.scope pm cd doc) → s₁.heap.CodeRec cd d.name → mg d.name = some (.ref fa) →
   s₁.heap.get? a = some { cls := .type "list", data := .seq vs.toArray } → IntsAre vs ns → ns.length ≤ n → s₁.gens = #[] →
   codeAny (model l.prog w) callerA (.call (.ref fa) ⟨[.ref a], []⟩) (fun r s' => r = .ok (.ret (.bool true)) ∧ OldK s₁.heap s'.heap ∧ s'.os = s₁.os ∧ AllBare s'.gens) s₁) :
  WalkO q loose XP YP l.row.toRowW d [] (fun f vs => PySem.call f vs) := by
 intro w s₀ s₁ mg mb G Y fa o pm cd doc dV kV ho hd hcd hD hmg hg args vals as hpre hlay hrd hwl hlo
 obtain rfl : dV = .none := Dflts.none hD hdf
 obtain rfl : kV = .none := Dflts.noKw hD
 obtain ⟨a, vs, ns, rfl, rfl, hobj, hints, hlen⟩ := script_of hn hpre hwl
 refine enter_call (codeAny_mono (call w s₀ s₁ mg mb fa o pm cd doc a vs ns G Y ho (fd_plain hd) hcd hmg hobj hints hlen hg) fun r s' hq => ?_)
 obtain ⟨rfl, h2, h3, h4⟩ := hq
 exact ⟨.inl ⟨.bool true, .bool true, [], rfl, fun _ => rfl, .bool true, post_true l _, fun _ => ⟨List.Pairwise.nil, fun _ hm => (nomatch hm)⟩⟩, h2, h3, h4⟩
end Att
namespace L2
open PySem PySem.Spec PyProof.Rows
theorem vP : ∀ {vs : List Value} {ns : List Int}, IntsAre vs ns → Vals (ns.map V.int) vs
 | _, _, .nil => .nil
 | _, _, .cons n t h => .cons ⟨t, rfl⟩ (vP h)
def Only (H : Hp) : Prop := ∀ b, H b = none ∨ ∃ o xs, H b = some (.frz o (.lst xs))
theorem law_call {P : Program} {w : World} {K : W.Frag} {mg mb : Str → Option Value} {CX : CXT} {k : Nat} {fa a : Addr} {fd : FuncData} {x : Str} {sp : Sp} {s₁ : Shared} {vs : List Value} {ns : List Int}
  (KX : K.In s₁.heap) (hns : s₁.heap.Ns mainGlobals mg) (hb : s₁.heap.Ns builtinsNs mb) (hbb : ∀ x : Str, x ≠ "__name__" → mb x = bootBuiltins x) (hlim : s₁.heap.NoLimit) (hg : s₁.gens = #[])
  (ha : s₁.heap.get? a = some { cls := .type "list", data := .seq vs.toArray }) (hi : IntsAre vs ns) (hl : ns.length ≤ sizeLine) (hr : Room k callerA)
  (F : ∀ base : Heap, K.In base → base.Ns mainGlobals mg → FnOk P w K mg base CX k fa fd [x] sp) (hbind : ∀ (s : Shared) (u : Value), BindsTo s fd ⟨[u], []⟩ [(x, u)])
  (hsp : ∀ H : Hp, Only H → SqL K H a (ns.map V.int) → sp [.ref a] H (fun v _ => v = .bl true) fun _ _ _ => False)
  (hCX : ∀ H e s', CX [] H s₁ (fun _ _ _ => False) e s' → False) :
  codeAny (model P w) callerA (.call (.ref fa) ⟨[.ref a], []⟩) (fun r s' => r = .ok (.ret (.bool true)) ∧ OldK s₁.heap s'.heap ∧ s'.os = s₁.os ∧ AllBare s'.gens) s₁ := by
 have rv := vP hi
 have lenV := hi.length
 -- from an abstract heap in which nothing but the script may be tracked
 have core : ∀ H : Hp, Only H → SqL K H a (ns.map V.int) → HOk P w H s₁.heap → (∀ b, H b ≠ none → b = a) → (H a ≠ none → K.lookup a = none) →
   codeAny (model P w) callerA (.call (.ref fa) ⟨[.ref a], []⟩) (fun r s' => r = .ok (.ret (.bool true)) ∧ OldK s₁.heap s'.heap ∧ s'.os = s₁.os ∧ AllBare s'.gens) s₁ := by
  intro H hO hS hok hA hK
  have base_of : ∀ {b : Addr} {o : Obj}, s₁.heap.get? b = some o → H b = none → (hidT s₁.heap H).get? b = some o := fun e n => hidT_get e n
  have noA : ∀ {b : Addr} {o : Obj} {es : Array DictEntry} {ep : Nat}, s₁.heap.get? b = some o → o.data = .dict es ep → H b = none := fun {b o es ep} e d => by
   cases q : H b with
   | none => rfl
   | some u =>
    have e' : b = a := hA b (by rw [q]; simp)
    subst e'
    rw [ha] at e; cases e
    have d' : Data.seq vs.toArray _ = Data.dict es ep := d
    cases d'
  have nsK : ∀ {b : Addr} {m : Str → Option Value}, s₁.heap.Ns b m → (hidT s₁.heap H).Ns b m := fun {b m} ⟨o, es, ep, e, d, r⟩ => ⟨o, es, ep, base_of e (noA e d), d, r⟩
  have hKb : K.In (hidT s₁.heap H) := fun b o e => base_of (KX b o e) (by
   cases q : H b with
   | none => rfl
   | some u =>
    have e' : b = a := hA b (by rw [q]; simp)
    subst e'
    rw [hK (by rw [q]; simp)] at e; cases e)
  have hM : Mod K mg (hidT s₁.heap H) := ⟨hKb, nsK hns, ⟨mb, nsK hb, hbb⟩, let ⟨mc, h1, h2⟩ := hlim; ⟨mc, nsK h1, h2⟩⟩
  have e0 : Env0 P w K mg (hidT s₁.heap H) callerA [] s₁ H := ⟨rfl, hM, fun b o e => of_hidT e, Nat.le_of_eq (hidT_size _ _), trivial, fun b hb => absurd (show b ∈ ([] : List Addr) from hb) (by simp), hok, .of_eq hg⟩
  refine codeAny_mono ((F _ hKb (nsK hns)).run callerA [] s₁ H ⟨[.ref a], []⟩ [.ref a] [.ref a] _ _ hr e0 (hbind s₁ (.ref a)) (.cons rfl .nil) (hsp H hO hS)) fun r s' h => ?_
  cases r with
  | error e => exact (hCX H e s' h).elim
  | ok fl =>
   cases fl with
   | next => exact False.elim h
   | brk => exact False.elim h
   | cont => exact False.elim h
   | ret u =>
    obtain ⟨v, H', os, bare, un, hok', r', q⟩ := h
    have q' : v = .bl true := q
    subst q'
    obtain rfl : u = Value.bool true := r'
    refine ⟨rfl, OldK.of_keep fun b o e => ?_, os, bare⟩
    cases q : H b with
    | none => exact un.keep b o e q (by intro z; exact absurd (show b ∈ ([] : List Addr) from z) (by simp)) (by simp)
    | some u =>
     rcases hO b with z | ⟨ob, xs, z⟩
     ·rw [q] at z; cases z
     ·have z2 := un.frzs b ob _ z
      obtain ⟨e1, _⟩ := hok b _ z
      obtain ⟨e2, _⟩ := hok' b _ z2
      rw [e] at e1; cases e1
      exact e2
 cases hk : K.lookup a with
 | some o =>
  -- the script is one of the module's own objects
  have e := KX a o hk
  rw [ha] at e
  cases e
  refine core (fun _ => none) (fun _ => .inl rfl) (.inr ⟨_, vs.toArray, _, hk, rfl, rfl, rfl, by rw [List.size_toArray, lenV]; exact hl, by simpa using rv⟩) (fun b u z => by have z' : (none : Option HO) = some u := z; cases z') (fun b z => absurd rfl z) fun z => absurd rfl z
 | none =>
  refine core (fun b => if b = a then some (.frz { cls := .type "list", data := .seq vs.toArray } (.lst (ns.map V.int))) else none) (fun b => ?_) (.inl (.inr ⟨{ cls := .type "list", data := .seq vs.toArray }, if_pos rfl⟩)) (fun b u z => ?_) (fun b z => ?_) fun _ => hk
  ·by_cases hb : b = a
   ·exact .inr ⟨_, _, if_pos hb⟩
   ·exact .inl (if_neg hb)
  ·by_cases hb : b = a
   ·have z' := (if_pos hb).symm.trans z
    cases z'
    subst hb
    exact ⟨ha, by rw [List.length_map]; exact hl, vs, _, rv, ha⟩
   ·have z' := (if_neg hb).symm.trans z
    cases z'
  ·by_cases hb : b = a
   ·exact hb
   ·exact absurd (if_neg hb) z
abbrev KOf {K : W.Frag} {h : Heap} (_ : K.In h) : W.Frag := K
theorem walk_of {l : PySem.W.OpenLaw} {n k : Nat} {q : Program} {loose : List Str} {XP : (Str → Option Value) → Heap → Prop} {YP : World → Heap → Prop} {d : DefRec} {K : Params → W.Frag} {CX : World → CXT} {sp : World → Sp} {x : Str}
  (hn : l.most = some n) (hn2 : n ≤ sizeLine) (hdf : d.params.defaults = []) (hr : Room k callerA)
  (hY : ∀ (w : World) (h : Heap), YP w h → (K w.params).In h)
  (F : ∀ (w : World) (mg : Str → Option Value) (fa : Addr) (h : Heap), (K w.params).In h → h.Ns mainGlobals mg → mg d.name = some (.ref fa) →
   ∃ fd : FuncData, (∀ (s : Shared) (u : Value), BindsTo s fd ⟨[u], []⟩ [(x, u)]) ∧
    ∀ base : Heap, (K w.params).In base → base.Ns mainGlobals mg → FnOk l.prog w (K w.params) mg base (CX w) k fa fd [x] (sp w))
  (hsp : ∀ (w : World) (H : Hp) (a : Addr) (ns : List Int), ns.length ≤ n → Only H → SqL (K w.params) H a (ns.map V.int) → sp w [.ref a] H (fun v _ => v = .bl true) fun _ _ _ => False)
  (hCX : ∀ (w : World) (H : Hp) (s : Shared) (e : Value) (s' : Shared), CX w [] H s (fun _ _ _ => False) e s' → False) :
  PySem.W.WalkO q loose XP YP l.row.toRowW d [] (fun f vs => PySem.call f vs) := by
 refine Att.attach_call hn hdf fun w s₀ s₁ mg mb fa o pm cd doc a vs ns G Y ho hd hcd hmg hobj hints hlen hg => ?_
 have KX := hY w _ Y
 obtain ⟨fd, hb, hF⟩ := F w mg fa _ KX G.T.g hmg
 exact law_call KX G.T.g G.T.b G.T.builtins G.T.nolimit hg hobj hints (Nat.le_trans hlen hn2) hr hF hb (fun H hO hS => hsp w H a ns hlen hO hS) fun H e s' => hCX w H s₁ e s'
end L2
/- THE LAST THEOREM (shape; LID, My.* are yours):
   My.Adr: a structure of the addresses that your layer names (classes, functions); My.Txt K t: a structure (Prop) of the equations over K;
   My.txt_mk : {K} {implicit addresses ..} (e1 : nsIn K mainGlobals "law" = some (some (.ref f))) (e2 : K.lookup f = some ⟨oc, od, .func (fnOf "law" "law" params body scope dV kV doc pm an cdv ct), sl⟩) (e3 : codeIn K cdv "law" = true) .. : ∃ t, My.Txt K t
set_option maxRecDepth 100000 in
set_option maxHeartbeats 0 in
theorem PySem.Challenge.cw_LID_holds : PySem.Challenge.rw_LID.Holds := by
 w_on; o_law; k_head; (case hw => w_witness2)
 k_fill
 refine L2.walk_of (l := PySem.Challenge.rw_LID) (n := 63) (k := 40) (x := "script") (CX := fun w => ..) (sp := fun _ => My.sp_law) rfl (by decide) rfl ⟨rfl, by decide, by decide⟩ (fun w h Y => PySem.W.kIn_of Y) ?F ?S ?C
 case F =>
  intro w mg fa h KX G hmg
  have T : ∃ t, My.Txt (L2.KOf KX) t := by
   dsimp only [L2.KOf]                          -- K must stand as «<heap const> w.params» for k_is
   refine' My.txt_mk ?e1 ?e2 ?e3 ..
   (case e1 => PySem.W.k_is)                    -- in the order: a name -> its address -> its object -> its parts
   (case e2 => PySem.W.k_is)
   ..
  obtain ⟨t, T⟩ := T
  have e0 := hmg.symm.trans (PySem.W.mg_of KX G T.law)
  cases e0                                       -- fa is the law's own address
  exact ⟨_, fun s u => .of_eq rfl, fun base kb nb => My.law_fn T kb nb⟩     -- if «.of_eq rfl» comes too early: refine' ⟨_, ?b, fun base kb nb => My.law_fn T kb nb⟩; exact fun s u => .of_eq rfl
 case S => exact fun w H a ns hl hO hS => ..
 case C => exact ..
(the tactic k_is has no namespace: write k_is) -/
namespace L2
open PySem PySem.Spec PyProof.Rows
def yf (s : Stmt) : Arguments := match s with
 | .FunctionDef _ a _ _ _ _ _ _ _ _ => a
 | _ => { posonlyargs := [], args := [], vararg := none, kwonlyargs := [], kw_defaults := [], kwarg := none, defaults := [] }
def zu (s : Stmt) : List Stmt := match s with
 | .FunctionDef _ _ b _ _ _ _ _ _ _ => b
 | _ => []
def nsc : PySem.Scope := { kind := .function, names := [], isGenerator := false, isCoroutine := false }
def zc (s : Stmt) : Scope := match s with
 | .FunctionDef _ _ _ _ _ _ sc _ _ _ => sc
 | _ => nsc
abbrev CX0 : CXT := fun _ _ _ _ _ _ => False
abbrev E0 : XK := fun _ _ _ => False
theorem XN {X : Cx} : wG CX0 X E0 := fun _ _ _ _ _ _ _ h => h.elim
structure Fun (K : W.Frag) (x qual : Str) (st : Stmt) (f : Addr) (fd : FuncData) : Prop where
 ex : ∃ (oc : Value) (od : Option Addr) (kV doc pm : Value) (an : Option Addr) (cdv ct : Value) (osl : Array (Option Value)),
  fd = PySem.W.fnOf x qual (yf st) (zu st) (zc st) .none kV doc pm an cdv ct ∧ K.lookup f = some ⟨oc, od, .func fd, osl⟩ ∧ PySem.W.codeIn K cdv qual = true
 kp : PySem.W.keepIn K (.ref f) = true
section
variable {P : Program} {w : World} {K : W.Frag} {mg : Str → Option Value} {base : Heap}
theorem Fun.ok {x qual : Str} {st : Stmt} {f : Addr} {fd : FuncData} {N ps : List Str} {k : Nat} {sp : Sp} (F : Fun K x qual st f fd) (S : FnScope N ps (zc st)) (len : ∀ vs H Q E, sp vs H Q E → vs.length = ps.length)
  (hbody : ∀ (cdv : Value) (A : Around) (outer : List Env) (s : Shared) (H : Hp) (vs : List V) (Q : VK) (E : XK), Room k (A.deeper (envOfC qual (zc st) s.heap.objs.size f cdv)) → sp vs H Q E →
   ∃ t, PSs (cxOf CX0 P w K mg base N qual (zc st) f cdv A outer s H E).nox (zu st) t ∧ t { nx := fun _ H' => Q .non H', rt := Q } (start N vs) H) : FnOk P w K mg base CX0 (k + 1) f fd ps sp := by
 obtain ⟨oc, od, kV, doc, pm, an, cdv, ct, osl, rfl, lk, hcd⟩ := F.ex
 refine fn_of lk hcd S len fun A outer s H vs Q E hr hsp => ?_
 obtain ⟨t, h, q⟩ := hbody cdv A outer s H vs Q E hr hsp
 exact ⟨t, h.nox, q⟩
theorem Fun.binds {x qual : Str} {st : Stmt} {f : Addr} {fd : FuncData} {ps : List Str} (F : Fun K x qual st f fd)
  (h : ∀ (kV doc pm : Value) (an : Option Addr) (cdv ct : Value) (us : List Value), us.length = ps.length → bindArgs (PySem.W.fnOf x qual (yf st) (zu st) (zc st) .none kV doc pm an cdv ct) ⟨us, []⟩ = pure (ps.zip us)) : Binds K fd ps [] := by
 obtain ⟨oc, od, kV, doc, pm, an, cdv, ct, osl, rfl, lk, hcd⟩ := F.ex
 exact .all (h kV doc pm an cdv ct)
theorem ZF {x qual : Str} {st : Stmt} {f : Addr} {oc : Value} {od an : Option Addr} {osl : Array (Option Value)} {kV doc pm cdv ct : Value} (l : K.lookup f = some ⟨oc, od, .func (PySem.W.fnOf x qual (yf st) (zu st) (zc st) .none kV doc pm an cdv ct), osl⟩)
  (c : PySem.W.codeIn K cdv qual = true) (k : PySem.W.keepIn K (.ref f) = true) : Fun K x qual st f (PySem.W.fnOf x qual (yf st) (zu st) (zc st) .none kV doc pm an cdv ct) := ⟨⟨oc, od, kV, doc, pm, an, cdv, ct, osl, rfl, l, c⟩, k⟩
end
theorem hu_of {A : Around} {k : Nat} (hr : Room k A) : A.units + 1 < cLine := Nat.lt_of_le_of_lt (Nat.add_le_add_left (by decide : 1 ≤ 64) _) hr.units
theorem zn {n : Nat} (h : n ≤ 1000) : n < sizeLine := Nat.lt_of_le_of_lt h (by decide)
theorem iteF {A B : Prop} (h : B) : if false = true then A else B := by
 rw [if_neg Bool.false_ne_true]
 exact h
theorem iteT {A B : Prop} (h : A) : if true = true then A else B := by
 rw [if_pos rfl]
 exact h
theorem xK {c A B : Prop} [Decidable c] (hc : c) (h : B) : if (!decide c) = true then A else B := by
 rw [decide_eq_true hc]
 exact iteF h
def Same (H H' : Hp) : Prop := ∀ b o, H b = some o → H' b = some o
theorem Same.refl (H : Hp) : Same H H := fun _ _ h => h
theorem Same.trans {H H1 H2 : Hp} (a : Same H H1) (b : Same H1 H2) : Same H H2 := fun c o h => b c o (a c o h)
theorem Same.free {H H' : Hp} (e : Same H H') {l : Addr} (h : H' l = Option.none) : H l = Option.none := by
 cases q : H l with
 | none => rfl
 | some o =>
  rw [e l o q] at h
  cases h
end L2
namespace L2
open PySem
def wz (s : Stmt) (i : Nat) : Stmt := match s with
 | .ClassDef _ _ _ body _ _ _ _ _ _ _ => body.getD i (.Pass ⟨0, 0, 0, 0⟩)
 | _ => .Pass ⟨0, 0, 0, 0⟩
end L2
namespace K37
open PySem L2
def top (i : Nat) : Stmt := PySem.Challenge.pw_dropsums_k37_papers_written_and_read.main.body.getD i (.Pass ⟨0, 0, 0, 0⟩)
def dEo (P : Params) (x : Str) (t : Nat) (v : Value) : DictEntry := ⟨PyData.keyHash P x, .str x t, v⟩
def cO (n : Str) (t : Nat) (q : Str) (t1 t2 : Nat) (l a f : Int) (r s x y z : Value) (k : Int) (t3 : Nat) : Obj :=
 ⟨.type "code", none, .fields #[.str n t, .str q t1, .str "/claim/cut.py" t2, .int l 0, .int a 0, .int 0 0, .int 0 0, .int f 0, r, .bool true, .int 181 0, s, .none, x, y, z, .int k 0, .int l 0, .str "/claim/cut.py" t3], #[]⟩
def fO (n q : Str) (s : Stmt) (m : Str) (t c : Nat) : Obj := ⟨.type "function", none, .func (PySem.W.fnOf n q (yf s) (zu s) (zc s) .none .none .none (.str m t) none (.ref c) .none), #[]⟩
def KK : Params → W.Frag := fun P =>
 (nat_lit 3, ⟨(.type "dict"), none, (.dict #[dEo P "__name__" 165 (.str "law_dropsums_k37_papers_written_and_read" 630), dEo P "__doc__" 166 .none, dEo P "__package__" 167 .none, dEo P "__loader__" 168 (.builtin "__main__.__loader__#opaque"), dEo P "__spec__" 169 .none, dEo P "__annotations__" 170 (.ref 6), dEo P "__builtins__" 171 (.ref 4), dEo P "__file__" 173 (.str "/claim/cut.py" 172), dEo P "__cached__" 174 .none, dEo P "DropError" 206 (.ref 24), dEo P "NoLines" 231 (.ref 44), dEo P "FIGURES" 235 (.str "0123456789" 234), dEo P "PART" 237 (.int 18 236), dEo P "PART_SIZE" 239 (.int 1000000000000000000 238), dEo P "is_figures" 245 (.ref 51), dEo P "is_signed_figures" 252 (.ref 58), dEo P "whole_of" 262 (.ref 65), dEo P "shown_whole" 271 (.ref 72), dEo P "shown_wholes" 277 (.ref 77), dEo P "is_whole" 286 (.ref 84), dEo P "is_whole_within" 295 (.ref 91), dEo P "SORTS" 297 (.int 0 296), dEo P "RULES" 299 (.int 1 298), dEo P "INPUTS" 301 (.int 2 300), dEo P "ANSWER" 303 (.int 4 302), dEo P "TAKES" 305 (.int 0 304), dEo P "BY_INPUTS" 309 (.int 0 308), dEo P "BY_SORTS" 311 (.int 1 310), dEo P "PLUS" 313 (.int 2 312), dEo P "form_of_number" 321 (.ref 98), dEo P "form_of_drops" 329 (.ref 105), dEo P "noughts" 335 (.ref 110), dEo P "one_at" 341 (.ref 115), dEo P "added" 347 (.ref 120), dEo P "so_often" 353 (.ref 125), dEo P "less" 361 (.ref 132), dEo P "and_more" 369 (.ref 139), dEo P "BY" 373 (.int 0 372), dEo P "LINE_PLUS" 375 (.int 1 374), dEo P "pieces_of" 386 (.ref 146), dEo P "pieces_of_two" 401 (.ref 153), dEo P "both_ways" 409 (.ref 160), dEo P "form_of_line" 417 (.ref 167), dEo P "is_weights" 425 (.ref 172), dEo P "is_weight" 432 (.ref 179), dEo P "KEPTS" 436 (.int 0 435), dEo P "HEIGHTS" 438 (.int 1 437), dEo P "TREE" 440 (.int 2 439), dEo P "MOST_KEPTS" 442 (.int 8 441), dEo P "MOST_TREES" 444 (.int 1000 443), dEo P "MOST_WITHIN" 446 (.int 40 445), dEo P "is_right" 452 (.ref 184), dEo P "trees_within" 459 (.ref 191), dEo P "sorts_taken" 465 (.ref 196), dEo P "shown_paper" 473 (.ref 201), dEo P "shown_tree" 482 (.ref 208), dEo P "shown_head" 491 (.ref 215), dEo P "shown_weights" 497 (.ref 220), dEo P "read_paper" 511 (.ref 227), dEo P "read_kepts" 517 (.ref 232), dEo P "read_heights" 527 (.ref 239), dEo P "words_at" 535 (.ref 246), dEo P "read_counts" 541 (.ref 251), dEo P "read_weights" 547 (.ref 256), dEo P "read_grounds" 553 (.ref 261), dEo P "TreeReader" 629 (.ref 304), dEo P "_law_tape" 638 (.ref 315), dEo P "_law_draw" 649 (.ref 322), dEo P "_law_line" 655 (.ref 327), dEo P "_law_ask" 665 (.ref 334), dEo P "_law_names" 671 (.ref 339), dEo P "_law_rule" 682 (.ref 346), dEo P "_law_pot" 688 (.ref 351), dEo P "_law_weights" 697 (.ref 358), dEo P "_law_taken" 703 (.ref 363), dEo P "_law_tree" 709 (.ref 368), dEo P "_law_sizes" 716 (.ref 375), dEo P "_law_any_paper" 722 (.ref 380), dEo P "_law_weight_words" 728 (.ref 385), dEo P "_law_tree_lines" 740 (.ref 392), dEo P "_law_paper_lines" 746 (.ref 397), dEo P "law" 762 (.ref 404)] 82), #[]⟩) ::
 (nat_lit 23, ⟨(.type "dict"), none, (.dict #[dEo P "__module__" 196 (.str "dropsums.errors" 187), dEo P "__firstlineno__" 200 (.int 2 199), dEo P "__static_attributes__" 201 (.ref 22), dEo P "__weakref__" 203 (.ref 25), dEo P "__doc__" 204 .none] 3), #[]⟩) ::
 (nat_lit 24, ⟨(.type "type"), none, (.cls ⟨"DropError", [(.type "ValueError")], [(.ref 24), (.type "ValueError"), (.type "Exception"), (.type "BaseException"), (.type "object")], 23, "DropError", true, [], [(.ref 44)], false, none, false⟩), #[(some (.ref 15)), none, (some (.str "DropError" 189)), (some (.str "DropError" 197)), (some (.builtin "ValueError.__new__")), (some (.bool true))]⟩) ::
 (nat_lit 40, cO "__init__" 219 "NoLines.__init__" 220 221 6 2 3 (.ref 35) (.ref 36) (.ref 37) (.ref 38) (.ref 39) 224 225) ::
 (nat_lit 41, fO "__init__" "NoLines.__init__" (wz (top 2) 0) "dropsums.errors" 187 40) ::
 (nat_lit 43, ⟨(.type "dict"), none, (.dict #[dEo P "__module__" 214 (.str "dropsums.errors" 187), dEo P "__firstlineno__" 218 (.int 4 217), dEo P "__init__" 226 (.ref 41), dEo P "__static_attributes__" 228 (.ref 42), dEo P "__doc__" 229 .none] 2), #[]⟩) ::
 (nat_lit 44, ⟨(.type "type"), none, (.cls ⟨"NoLines", [(.ref 24)], [(.ref 44), (.ref 24), (.type "ValueError"), (.type "Exception"), (.type "BaseException"), (.type "object")], 43, "NoLines", true, [], [], false, none, false⟩), #[(some (.ref 28)), none, (some (.str "NoLines" 207)), (some (.str "NoLines" 215)), (some (.builtin "ValueError.__new__")), (some (.bool true))]⟩) ::
 (nat_lit 50, cO "is_figures" 240 "is_figures" 241 242 12 1 3 (.ref 47) (.ref 48) .none .none (.ref 49) 243 244) ::
 (nat_lit 51, fO "is_figures" "is_figures" (top 7) "dropsums.figures" 232 50) ::
 (nat_lit 57, cO "is_signed_figures" 246 "is_signed_figures" 247 248 16 1 3 (.ref 52) (.ref 53) (.ref 54) (.ref 55) (.ref 56) 250 251) ::
 (nat_lit 58, fO "is_signed_figures" "is_signed_figures" (top 8) "dropsums.figures" 232 57) ::
 (nat_lit 64, cO "whole_of" 253 "whole_of" 254 255 20 1 3 (.ref 59) (.ref 60) (.ref 61) (.ref 62) (.ref 63) 260 261) ::
 (nat_lit 65, fO "whole_of" "whole_of" (top 9) "dropsums.figures" 232 64) ::
 (nat_lit 71, cO "shown_whole" 263 "shown_whole" 264 265 30 1 3 (.ref 66) (.ref 67) (.ref 68) (.ref 69) (.ref 70) 269 270) ::
 (nat_lit 72, fO "shown_whole" "shown_whole" (top 10) "dropsums.figures" 232 71) ::
 (nat_lit 76, cO "shown_wholes" 272 "shown_wholes" 273 274 39 1 3 (.ref 73) (.ref 74) .none .none (.ref 75) 275 276) ::
 (nat_lit 77, fO "shown_wholes" "shown_wholes" (top 11) "dropsums.figures" 232 76) ::
 (nat_lit 83, cO "is_whole" 280 "is_whole" 281 282 42 1 3 (.ref 78) (.ref 79) (.ref 80) (.ref 81) (.ref 82) 284 285) ::
 (nat_lit 84, fO "is_whole" "is_whole" (top 13) "dropsums.wholes" 278 83) ::
 (nat_lit 90, cO "is_whole_within" 287 "is_whole_within" 288 289 44 3 3 (.ref 85) (.ref 86) (.ref 87) (.ref 88) (.ref 89) 293 294) ::
 (nat_lit 91, fO "is_whole_within" "is_whole_within" (top 14) "dropsums.wholes" 278 90) ::
 (nat_lit 97, cO "form_of_number" 314 "form_of_number" 315 316 55 2 3 (.ref 92) (.ref 93) (.ref 94) (.ref 95) (.ref 96) 319 320) ::
 (nat_lit 98, fO "form_of_number" "form_of_number" (top 24) "dropsums.forms" 306 97) ::
 (nat_lit 104, cO "form_of_drops" 322 "form_of_drops" 323 324 57 2 3 (.ref 99) (.ref 100) (.ref 101) (.ref 102) (.ref 103) 327 328) ::
 (nat_lit 105, fO "form_of_drops" "form_of_drops" (top 25) "dropsums.forms" 306 104) ::
 (nat_lit 109, cO "noughts" 330 "noughts" 331 332 59 1 3 (.ref 106) (.ref 107) .none .none (.ref 108) 333 334) ::
 (nat_lit 110, fO "noughts" "noughts" (top 26) "dropsums.forms" 306 109) ::
 (nat_lit 114, cO "one_at" 336 "one_at" 337 338 61 2 3 (.ref 111) (.ref 112) .none .none (.ref 113) 339 340) ::
 (nat_lit 115, fO "one_at" "one_at" (top 27) "dropsums.forms" 306 114) ::
 (nat_lit 119, cO "added" 342 "added" 343 344 63 2 3 (.ref 116) (.ref 117) .none .none (.ref 118) 345 346) ::
 (nat_lit 120, fO "added" "added" (top 28) "dropsums.forms" 306 119) ::
 (nat_lit 124, cO "so_often" 348 "so_often" 349 350 65 2 3 (.ref 121) (.ref 122) .none .none (.ref 123) 351 352) ::
 (nat_lit 125, fO "so_often" "so_often" (top 29) "dropsums.forms" 306 124) ::
 (nat_lit 131, cO "less" 354 "less" 355 356 67 2 3 (.ref 126) (.ref 127) (.ref 128) (.ref 129) (.ref 130) 359 360) ::
 (nat_lit 132, fO "less" "less" (top 30) "dropsums.forms" 306 131) ::
 (nat_lit 138, cO "and_more" 362 "and_more" 363 364 69 2 3 (.ref 133) (.ref 134) (.ref 135) (.ref 136) (.ref 137) 367 368) ::
 (nat_lit 139, fO "and_more" "and_more" (top 31) "dropsums.forms" 306 138) ::
 (nat_lit 145, cO "pieces_of" 376 "pieces_of" 377 378 74 2 3 (.ref 140) (.ref 141) (.ref 142) (.ref 143) (.ref 144) 384 385) ::
 (nat_lit 146, fO "pieces_of" "pieces_of" (top 35) "dropsums.asks" 370 145) ::
 (nat_lit 152, cO "pieces_of_two" 387 "pieces_of_two" 388 389 83 5 3 (.ref 147) (.ref 148) (.ref 149) (.ref 150) (.ref 151) 399 400) ::
 (nat_lit 153, fO "pieces_of_two" "pieces_of_two" (top 36) "dropsums.asks" 370 152) ::
 (nat_lit 159, cO "both_ways" 402 "both_ways" 403 404 95 2 3 (.ref 154) (.ref 155) (.ref 156) (.ref 157) (.ref 158) 407 408) ::
 (nat_lit 160, fO "both_ways" "both_ways" (top 37) "dropsums.asks" 370 159) ::
 (nat_lit 166, cO "form_of_line" 410 "form_of_line" 411 412 97 2 3 (.ref 161) (.ref 162) (.ref 163) (.ref 164) (.ref 165) 415 416) ::
 (nat_lit 167, fO "form_of_line" "form_of_line" (top 38) "dropsums.asks" 370 166) ::
 (nat_lit 171, cO "is_weights" 420 "is_weights" 421 422 100 1 3 (.ref 168) (.ref 169) .none .none (.ref 170) 423 424) ::
 (nat_lit 172, fO "is_weights" "is_weights" (top 40) "dropsums.weights" 418 171) ::
 (nat_lit 178, cO "is_weight" 426 "is_weight" 427 428 105 1 3 (.ref 173) (.ref 174) (.ref 175) (.ref 176) (.ref 177) 430 431) ::
 (nat_lit 179, fO "is_weight" "is_weight" (top 41) "dropsums.weights" 418 178) ::
 (nat_lit 183, cO "is_right" 447 "is_right" 448 449 116 3 3 (.ref 180) (.ref 181) .none .none (.ref 182) 450 451) ::
 (nat_lit 184, fO "is_right" "is_right" (top 49) "dropsums.papers" 433 183) ::
 (nat_lit 190, cO "trees_within" 453 "trees_within" 454 455 120 1 3 (.ref 185) (.ref 186) (.ref 187) (.ref 188) (.ref 189) 457 458) ::
 (nat_lit 191, fO "trees_within" "trees_within" (top 50) "dropsums.papers" 433 190) ::
 (nat_lit 195, cO "sorts_taken" 460 "sorts_taken" 461 462 126 2 3 (.ref 192) (.ref 193) .none .none (.ref 194) 463 464) ::
 (nat_lit 196, fO "sorts_taken" "sorts_taken" (top 51) "dropsums.papers" 433 195) ::
 (nat_lit 200, cO "shown_paper" 468 "shown_paper" 469 470 129 1 3 (.ref 197) (.ref 198) .none .none (.ref 199) 471 472) ::
 (nat_lit 201, fO "shown_paper" "shown_paper" (top 53) "dropsums.paperlines" 466 200) ::
 (nat_lit 207, cO "shown_tree" 474 "shown_tree" 475 476 133 1 3 (.ref 202) (.ref 203) (.ref 204) (.ref 205) (.ref 206) 480 481) ::
 (nat_lit 208, fO "shown_tree" "shown_tree" (top 54) "dropsums.paperlines" 466 207) ::
 (nat_lit 214, cO "shown_head" 483 "shown_head" 484 485 138 1 3 (.ref 209) (.ref 210) (.ref 211) (.ref 212) (.ref 213) 489 490) ::
 (nat_lit 215, fO "shown_head" "shown_head" (top 55) "dropsums.paperlines" 466 214) ::
 (nat_lit 219, cO "shown_weights" 492 "shown_weights" 493 494 149 1 3 (.ref 216) (.ref 217) .none .none (.ref 218) 495 496) ::
 (nat_lit 220, fO "shown_weights" "shown_weights" (top 56) "dropsums.paperlines" 466 219) ::
 (nat_lit 226, cO "read_paper" 498 "read_paper" 499 500 151 3 3 (.ref 221) (.ref 222) (.ref 223) (.ref 224) (.ref 225) 509 510) ::
 (nat_lit 227, fO "read_paper" "read_paper" (top 57) "dropsums.paperlines" 466 226) ::
 (nat_lit 231, cO "read_kepts" 512 "read_kepts" 513 514 160 2 3 (.ref 228) (.ref 229) .none .none (.ref 230) 515 516) ::
 (nat_lit 232, fO "read_kepts" "read_kepts" (top 58) "dropsums.paperlines" 466 231) ::
 (nat_lit 238, cO "read_heights" 518 "read_heights" 519 520 170 3 3 (.ref 233) (.ref 234) (.ref 235) (.ref 236) (.ref 237) 525 526) ::
 (nat_lit 239, fO "read_heights" "read_heights" (top 59) "dropsums.paperlines" 466 238) ::
 (nat_lit 245, cO "words_at" 528 "words_at" 529 530 175 2 3 (.ref 240) (.ref 241) (.ref 242) (.ref 243) (.ref 244) 533 534) ::
 (nat_lit 246, fO "words_at" "words_at" (top 60) "dropsums.paperlines" 466 245) ::
 (nat_lit 250, cO "read_counts" 536 "read_counts" 537 538 179 2 3 (.ref 247) (.ref 248) .none .none (.ref 249) 539 540) ::
 (nat_lit 251, fO "read_counts" "read_counts" (top 61) "dropsums.paperlines" 466 250) ::
 (nat_lit 255, cO "read_weights" 542 "read_weights" 543 544 183 2 3 (.ref 252) (.ref 253) .none .none (.ref 254) 545 546) ::
 (nat_lit 256, fO "read_weights" "read_weights" (top 62) "dropsums.paperlines" 466 255) ::
 (nat_lit 260, cO "read_grounds" 548 "read_grounds" 549 550 188 2 3 (.ref 257) (.ref 258) .none .none (.ref 259) 551 552) ::
 (nat_lit 261, fO "read_grounds" "read_grounds" (top 63) "dropsums.paperlines" 466 260) ::
 (nat_lit 274, cO "__init__" 566 "TreeReader.__init__" 567 568 196 5 3 (.ref 269) (.ref 270) (.ref 271) (.ref 272) (.ref 273) 574 575) ::
 (nat_lit 275, fO "__init__" "TreeReader.__init__" (wz (top 64) 0) "dropsums.paperlines" 466 274) ::
 (nat_lit 281, cO "read_tree" 577 "TreeReader.read_tree" 578 579 203 2 3 (.ref 276) (.ref 277) (.ref 278) (.ref 279) (.ref 280) 584 585) ::
 (nat_lit 282, fO "read_tree" "TreeReader.read_tree" (wz (top 64) 1) "dropsums.paperlines" 466 281) ::
 (nat_lit 286, cO "read_lacks" 587 "TreeReader.read_lacks" 588 589 220 4 3 (.ref 283) (.ref 284) .none .none (.ref 285) 590 591) ::
 (nat_lit 287, fO "read_lacks" "TreeReader.read_lacks" (wz (top 64) 2) "dropsums.paperlines" 466 286) ::
 (nat_lit 293, cO "read_cut" 593 "TreeReader.read_cut" 594 595 227 4 3 (.ref 288) (.ref 289) (.ref 290) (.ref 291) (.ref 292) 603 604) ::
 (nat_lit 294, fO "read_cut" "TreeReader.read_cut" (wz (top 64) 3) "dropsums.paperlines" 466 293) ::
 (nat_lit 300, cO "read_right" 606 "TreeReader.read_right" 607 608 235 3 3 (.ref 295) (.ref 296) (.ref 297) (.ref 298) (.ref 299) 614 615) ::
 (nat_lit 301, fO "read_right" "TreeReader.read_right" (wz (top 64) 4) "dropsums.paperlines" 466 300) ::
 (nat_lit 303, ⟨(.type "dict"), none, (.dict #[dEo P "__module__" 561 (.str "dropsums.paperlines" 466), dEo P "__firstlineno__" 565 (.int 194 564), dEo P "__init__" 576 (.ref 275), dEo P "read_tree" 586 (.ref 282), dEo P "read_lacks" 592 (.ref 287), dEo P "read_cut" 605 (.ref 294), dEo P "read_right" 616 (.ref 301), dEo P "__static_attributes__" 622 (.ref 302), dEo P "__dict__" 624 (.ref 305), dEo P "__weakref__" 626 (.ref 306), dEo P "__doc__" 627 .none] 4), #[]⟩) ::
 (nat_lit 304, ⟨(.type "type"), none, (.cls ⟨"TreeReader", [(.type "object")], [(.ref 304), (.type "object")], 303, "TreeReader", true, [], [], false, none, false⟩), #[none, none, (some (.str "TreeReader" 554)), (some (.str "TreeReader" 562)), (some (.builtin "object.__new__")), (some (.bool true))]⟩) ::
 (nat_lit 314, cO "_law_tape" 632 "_law_tape" 633 634 242 1 3 (.ref 309) (.ref 310) (.ref 311) (.ref 312) (.ref 313) 636 637) ::
 (nat_lit 315, fO "_law_tape" "_law_tape" (top 66) "law_dropsums_k37_papers_written_and_read" 630 314) ::
 (nat_lit 321, cO "_law_draw" 639 "_law_draw" 640 641 244 2 3 (.ref 316) (.ref 317) (.ref 318) (.ref 319) (.ref 320) 647 648) ::
 (nat_lit 322, fO "_law_draw" "_law_draw" (top 67) "law_dropsums_k37_papers_written_and_read" 630 321) ::
 (nat_lit 326, cO "_law_line" 650 "_law_line" 651 652 258 2 3 (.ref 323) (.ref 324) .none .none (.ref 325) 653 654) ::
 (nat_lit 327, fO "_law_line" "_law_line" (top 68) "law_dropsums_k37_papers_written_and_read" 630 326) ::
 (nat_lit 333, cO "_law_ask" 656 "_law_ask" 657 658 261 2 3 (.ref 328) (.ref 329) (.ref 330) (.ref 331) (.ref 332) 663 664) ::
 (nat_lit 334, fO "_law_ask" "_law_ask" (top 69) "law_dropsums_k37_papers_written_and_read" 630 333) ::
 (nat_lit 338, cO "_law_names" 666 "_law_names" 667 668 269 2 3 (.ref 335) (.ref 336) .none .none (.ref 337) 669 670) ::
 (nat_lit 339, fO "_law_names" "_law_names" (top 70) "law_dropsums_k37_papers_written_and_read" 630 338) ::
 (nat_lit 345, cO "_law_rule" 672 "_law_rule" 673 674 274 2 3 (.ref 340) (.ref 341) (.ref 342) (.ref 343) (.ref 344) 680 681) ::
 (nat_lit 346, fO "_law_rule" "_law_rule" (top 71) "law_dropsums_k37_papers_written_and_read" 630 345) ::
 (nat_lit 350, cO "_law_pot" 683 "_law_pot" 684 685 284 3 3 (.ref 347) (.ref 348) .none .none (.ref 349) 686 687) ::
 (nat_lit 351, fO "_law_pot" "_law_pot" (top 72) "law_dropsums_k37_papers_written_and_read" 630 350) ::
 (nat_lit 357, cO "_law_weights" 689 "_law_weights" 690 691 294 1 3 (.ref 352) (.ref 353) (.ref 354) (.ref 355) (.ref 356) 695 696) ::
 (nat_lit 358, fO "_law_weights" "_law_weights" (top 73) "law_dropsums_k37_papers_written_and_read" 630 357) ::
 (nat_lit 362, cO "_law_taken" 698 "_law_taken" 699 700 299 1 3 (.ref 359) (.ref 360) .none .none (.ref 361) 701 702) ::
 (nat_lit 363, fO "_law_taken" "_law_taken" (top 74) "law_dropsums_k37_papers_written_and_read" 630 362) ::
 (nat_lit 367, cO "_law_tree" 704 "_law_tree" 705 706 301 4 3 (.ref 364) (.ref 365) .none .none (.ref 366) 707 708) ::
 (nat_lit 368, fO "_law_tree" "_law_tree" (top 75) "law_dropsums_k37_papers_written_and_read" 630 367) ::
 (nat_lit 374, cO "_law_sizes" 710 "_law_sizes" 711 712 315 1 3 (.ref 369) (.ref 370) (.ref 371) (.ref 372) (.ref 373) 714 715) ::
 (nat_lit 375, fO "_law_sizes" "_law_sizes" (top 76) "law_dropsums_k37_papers_written_and_read" 630 374) ::
 (nat_lit 379, cO "_law_any_paper" 717 "_law_any_paper" 718 719 317 3 3 (.ref 376) (.ref 377) .none .none (.ref 378) 720 721) ::
 (nat_lit 380, fO "_law_any_paper" "_law_any_paper" (top 77) "law_dropsums_k37_papers_written_and_read" 630 379) ::
 (nat_lit 384, cO "_law_weight_words" 723 "_law_weight_words" 724 725 324 1 3 (.ref 381) (.ref 382) .none .none (.ref 383) 726 727) ::
 (nat_lit 385, fO "_law_weight_words" "_law_weight_words" (top 78) "law_dropsums_k37_papers_written_and_read" 630 384) ::
 (nat_lit 391, cO "_law_tree_lines" 729 "_law_tree_lines" 730 731 326 1 3 (.ref 386) (.ref 387) (.ref 388) (.ref 389) (.ref 390) 738 739) ::
 (nat_lit 392, fO "_law_tree_lines" "_law_tree_lines" (top 79) "law_dropsums_k37_papers_written_and_read" 630 391) ::
 (nat_lit 396, cO "_law_paper_lines" 741 "_law_paper_lines" 742 743 341 1 3 (.ref 393) (.ref 394) .none .none (.ref 395) 744 745) ::
 (nat_lit 397, fO "_law_paper_lines" "_law_paper_lines" (top 80) "law_dropsums_k37_papers_written_and_read" 630 396) ::
 (nat_lit 403, cO "law" 747 "law" 748 749 344 1 3 (.ref 398) (.ref 399) (.ref 400) (.ref 401) (.ref 402) 760 761) ::
 (nat_lit 404, fO "law" "law" (top 81) "law_dropsums_k37_papers_written_and_read" 630 403) :: []
def KA : List Addr := 3 :: 23 :: 24 :: 40 :: 41 :: 43 :: 44 :: 50 :: 51 :: 57 :: 58 :: 64 :: 65 :: 71 :: 72 :: 76 :: 77 :: 83 :: 84 :: 90 :: 91 :: 97 :: 98 :: 104 :: 105 :: 109 :: 110 :: 114 :: 115 :: 119 :: 120 :: 124 :: 125 :: 131 :: 132 :: 138 :: 139 :: 145 :: 146 :: 152 :: 153 :: 159 :: 160 :: 166 :: 167 :: 171 :: 172 :: 178 :: 179 :: 183 :: 184 :: 190 :: 191 :: 195 :: 196 :: 200 :: 201 :: 207 :: 208 :: 214 :: 215 :: 219 :: 220 :: 226 :: 227 :: 231 :: 232 :: 238 :: 239 :: 245 :: 246 :: 250 :: 251 :: 255 :: 256 :: 260 :: 261 :: 274 :: 275 :: 281 :: 282 :: 286 :: 287 :: 293 :: 294 :: 300 :: 301 :: 303 :: 304 :: 314 :: 315 :: 321 :: 322 :: 326 :: 327 :: 333 :: 334 :: 338 :: 339 :: 345 :: 346 :: 350 :: 351 :: 357 :: 358 :: 362 :: 363 :: 367 :: 368 :: 374 :: 375 :: 379 :: 380 :: 384 :: 385 :: 391 :: 392 :: 396 :: 397 :: 403 :: 404 :: []
theorem ke : ∀ P, KA = (KK P).map (·.1) := fun _ => by kernel_rfl
def VW : Program := { PySem.Challenge.pw_dropsums_k37_papers_written_and_read with main := { PySem.Challenge.pw_dropsums_k37_papers_written_and_read.main with body := ([1, 2, 4, 5, 6, 7, 8, 9, 10, 11, 13, 14, 15, 16, 17, 18, 19, 21, 22, 23, 24, 25, 26, 27, 28, 29, 30, 31, 33, 34, 35, 36, 37, 38, 40, 41, 43, 44, 45, 46, 47, 48, 49, 50, 51, 53, 54, 55, 56, 57, 58, 59, 60, 61, 62, 63, 64, 66, 67, 68, 69, 70, 71, 72, 73, 74, 75, 76, 77, 78, 79, 80, 81] : List Nat).map top } }
abbrev RR := PySem.Challenge.rw_dropsums_k37_papers_written_and_read.row
theorem leftA : ∀ w, (PySem.W.openEnds PySem.treeTable RR.prog w 5172).map (fun s => (s.heap.keysOk (PySem.W.looseW VW []) ((PyProof.Rows.recsOf VW).map (·.name)) ((PyProof.Rows.litsOf VW).map (·.1)) ((PyProof.Rows.clssOf VW (PySem.W.looseW VW [])).map (·.name)) && s.heap.accountedOkI (PySem.importedModules RR.prog.main.body) && s.heap.isNs PySem.mainGlobals && s.heap.isNs PySem.builtinsNs && PyProof.Rows.tablesOk VW s.heap && (fun s => PySem.W.xlAt VW [] s && PySem.W.recOk (PySem.W.RowW.records RR.toRowW) s) s && (if true then s.gens.size == 0 else !PySem.leftWithCleanup s.gens))) = some (true) := fun w => by kernel_rfl
theorem leftB : ∀ w, (PySem.W.openEnds PySem.treeTable RR.prog w 5172).map (fun s => (PyProof.Rows.tabsOk VW s)) = some (true) := fun w => by kernel_rfl
theorem leftC : ∀ w, (PySem.W.openEnds PySem.treeTable RR.prog w 5172).map (fun s => (PyProof.Rows.seen ((PyProof.Rows.recsOf VW).map (·.name)) (PyProof.Rows.ownsOf VW) [] { s with gens := #[] }, s.heap.bltView)) = some (PyProof.Rows.expectedOf VW, PySem.bltViewBooted) := fun w => by kernel_rfl
theorem leftD : ∀ w, (PySem.W.openEnds PySem.treeTable RR.prog w 5172).map (fun s => (PySem.pinSeenD VW (PyProof.Rows.drecsOf VW) s, PyProof.Rows.plainSeenE VW (PySem.W.looseW VW []) s, PyProof.Rows.plainSeenD VW [] s)) = some (PySem.pinGoodD (PyProof.Rows.drecsOf VW), PyProof.Rows.plainGoodE VW (PySem.W.looseW VW []), PyProof.Rows.plainGoodD VW []) := fun w => by kernel_rfl
theorem leftE : ∀ w, (PySem.W.openEnds PySem.treeTable RR.prog w 5172).map (fun s => (PySem.W.wideSeen VW s, PySem.W.clsSeenW VW [] s)) = some (PySem.W.wideGood VW, PySem.W.clsGoodW VW []) := fun w => by kernel_rfl
theorem leftH : ∀ w, (PySem.W.openEnds PySem.treeTable RR.prog w 5172).map (PySem.W.Hook.obs (PySem.W.kHook KK KA ke)) = some (PySem.W.Hook.val (PySem.W.kHook KK KA ke) w) := fun w => by kernel_rfl
theorem pr2 {α β : Type} {a a' : α} {b b' : β} (h : a = a') (g : b = b') : (a, b) = (a', b') := by rw [h, g]
theorem left_mk {α : Type} {o : Option PySem.Shared} {q : PySem.Program} {lo mods : List PySem.Str} {Xt : PySem.Shared → Bool} {Yf : PySem.Shared → α} {y : α}
    (h1 : o.map (fun s => (s.heap.keysOk (PySem.W.looseW q lo) ((PyProof.Rows.recsOf q).map (·.name)) ((PyProof.Rows.litsOf q).map (·.1)) ((PyProof.Rows.clssOf q (PySem.W.looseW q lo)).map (·.name)) && s.heap.accountedOkI mods && s.heap.isNs PySem.mainGlobals && s.heap.isNs PySem.builtinsNs && PyProof.Rows.tablesOk q s.heap && Xt s && (if true then s.gens.size == 0 else !PySem.leftWithCleanup s.gens))) = some true)
    (h2 : o.map (fun s => PyProof.Rows.tabsOk q s) = some true)
    (h3 : o.map (fun s => (PyProof.Rows.seen ((PyProof.Rows.recsOf q).map (·.name)) (PyProof.Rows.ownsOf q) [] { s with gens := #[] }, s.heap.bltView)) = some (PyProof.Rows.expectedOf q, PySem.bltViewBooted))
    (h4 : o.map (fun s => (PySem.pinSeenD q (PyProof.Rows.drecsOf q) s, PyProof.Rows.plainSeenE q (PySem.W.looseW q lo) s, PyProof.Rows.plainSeenD q lo s)) = some (PySem.pinGoodD (PyProof.Rows.drecsOf q), PyProof.Rows.plainGoodE q (PySem.W.looseW q lo), PyProof.Rows.plainGoodD q lo))
    (h5 : o.map (fun s => (PySem.W.wideSeen q s, PySem.W.clsSeenW q lo s)) = some (PySem.W.wideGood q, PySem.W.clsGoodW q lo)) (h6 : o.map Yf = some y) :
    o.map (fun s => (PySem.W.openSeen q lo mods Xt true s, Yf s)) = some (PySem.W.openGood q lo, y) := by
  cases o with
  | none => cases h1
  | some s =>
    have g1 := Option.some.inj h1
    have g2 := Option.some.inj h2
    have g3 := Prod.mk.inj (Option.some.inj h3)
    have g4 := Prod.mk.inj (Option.some.inj h4)
    have g45 := Prod.mk.inj g4.2
    have g5 := Prod.mk.inj (Option.some.inj h5)
    have g6 := Option.some.inj h6
    refine congrArg some (pr2 ?_ g6)
    unfold PySem.W.openSeen PySem.W.openGood
    refine pr2 g3.1 (pr2 g3.2 (pr2 g1 (pr2 g2 (pr2 g4.1 (pr2 g45.1 (pr2 g45.2 (pr2 g5.1 g5.2)))))))
theorem left0 : PySem.W.LeftO RR.prog VW [] (fun s => PySem.W.xlAt VW [] s && PySem.W.recOk (PySem.W.RowW.records RR.toRowW) s) (PySem.W.Hook.obs (PySem.W.kHook KK KA ke)) (PySem.W.Hook.val (PySem.W.kHook KK KA ke)) 5172 := fun w => left_mk (leftA w) (leftB w) (leftC w) (leftD w) (leftE w) (leftH w)
theorem said0 : PySem.Challenge.rw_dropsums_k37_papers_written_and_read.wellSaid = true := by decide +kernel
end K37
namespace L2
open PySem PySem.Spec PyProof.Rows
section
variable {P : Program} {w : World} {A : Around} {R : Result → Shared → Prop} {s : Shared}
theorem comp_loop {elt tgt iter : Expr} {ifs : List Expr} {scope : Scope} {pos : Pos} {it acc : Value} {env : Env} (J : Nat → Shared → Prop)
  (turn : ∀ n s, J n s → wpAny (model P w) A (pyNext it) (fun r c₁ => match r with
   | none => R (.ok .next) c₁
   | some v => wpAny (model P w) A (letOwnedTupleGo tgt it v) (fun _ d₁ => wpAny (model P w) A (assign tgt env v) (fun _ c₂ =>
     wpAny (model P w) A (forIn ifs true fun c r => if r = true then do let ok ← isTrue c env (eval c env); pure (ForInStep.yield ok) else pure (ForInStep.yield r)) (fun ok c₃ =>
      if ok = true then wpAny (model P w) A (eval elt env) (fun x c₄ =>
       wpAny (model P w) A (call (.builtin "list.append") [acc, x]) (fun _ c₅ => ∃ m, m < n ∧ J m c₅) (notedBy (model P w) A env fun e s' => R (.error e) s') c₄) (notedBy (model P w) A env fun e s' => R (.error e) s') c₃
      else ∃ m, m < n ∧ J m c₃) (notedBy (model P w) A env fun e s' => R (.error e) s') c₂) (notedBy (model P w) A env fun e s' => R (.error e) s') d₁) (notedBy (model P w) A env fun e s' => R (.error e) s') c₁) (notedBy (model P w) A env fun e s' => R (.error e) s') s)
  (n : Nat) (hn : J n s) :
  codeAny (model P w) A (.compLoop (.ListComp elt [⟨tgt, iter, ifs, 0⟩] scope pos) 0 it acc env) R s := by
 refine codeAny_loop rfl J (fun n s hJ => ?_) n hn
 show wpAny _ A ((compTurn (.ListComp elt [⟨tgt, iter, ifs, 0⟩] scope pos) 0 it acc env).onRaise (fun x => do noteFrame x env; theTreesLotGoes x)) _ _ s
 refine wpAny_noted ?_
 rw [compTurn_list]
 refine wpAny_bind (wpAny_standAt (wpAny_bind (wpAny_mono (turn n s hJ) (fun r c₁ e₁ => ?_) fun _ _ z => z)))
 cases r with
 | none => exact wpAny_pure e₁
 | some v =>
  refine wpAny_bind (wpAny_mono e₁ (fun _ d₁ f₁ => ?_) fun _ _ z => z)
  refine wpAny_bind (wpAny_mono f₁ (fun _ c₂ e₂ => wpAny_bind (wpAny_mono e₂ (fun ok c₃ e₃ => ?_) fun _ _ z => z)) fun _ _ z => z)
  cases ok with
  | false => exact wpAny_pure ⟨rfl, e₃⟩
  | true =>
   exact wpAny_bind (wpAny_bind (wpAny_mono e₃ (fun x c₄ e₄ => wpAny_bind (wpAny_mono e₄ (fun _ c₅ e₅ => wpAny_pure (wpAny_pure ⟨rfl, e₅⟩)) fun _ _ z => z)) fun _ _ z => z))
end
def cloF (env : Env) : List (Str × NameKind) → List (Str × Addr) → List (Str × Addr)
 | [], acc => acc
 | (n, k) :: r, acc => if k = .free then cloF env r ((n, (env.cells.lookup n).getD 0) :: acc) else cloF env r acc
theorem vL {env : Env} : ∀ (names : List (Str × NameKind)) (acc : List (Str × Addr)), (∀ x ∈ names, x.2 = .free → ∃ c, env.cells.lookup x.1 = some c) →
  (forIn names acc (fun (x : Str × NameKind) (cs : List (Str × Addr)) => (if (x.2 == NameKind.free) = true then do let a ← cellOf env x.1; pure (ForInStep.yield ((x.1, a) :: cs)) else pure (ForInStep.yield cs) : Sem (ForInStep (List (Str × Addr))))) : Sem (List (Str × Addr))) = pure (cloF env names acc)
 | [], acc, _ => by simp [cloF]
 | (n, k) :: r, acc, h => by
  have ih := fun acc => vL (env := env) r acc fun x hx => h x (List.mem_cons_of_mem _ hx)
  rw [List.forIn_cons]
  by_cases hk : k = .free
  ·subst hk
   obtain ⟨c, hc⟩ := h (n, .free) List.mem_cons_self rfl
   have hc' : env.cells.lookup n = some c := hc
   have e : cellOf env n = pure c := by unfold cellOf; rw [hc']
   simp only [cloF, if_true, hc', Option.getD_some, beq_self_eq_true, e, pure_bind]
   exact ih _
  ·have hb : (k == NameKind.free) = false := by simpa using hk
   simp only [cloF, hk, if_false, hb, Bool.false_eq_true, pure_bind]
   exact ih _
theorem closure_eq {env : Env} {scope : Scope} (h : ∀ x ∈ scope.names, x.2 = .free → ∃ c, env.cells.lookup x.1 = some c) : closureFor scope env = pure (cloF env scope.names []) := by
 rw [← vL scope.names [] h]
 unfold closureFor
 simp only [bind_pure]
theorem yX {env : Env} {y : Str} : ∀ (names : List (Str × NameKind)) (acc : List (Str × Addr)), (cloF env names acc).lookup y = if (y, NameKind.free) ∈ names then some ((env.cells.lookup y).getD 0) else acc.lookup y
 | [], acc => by simp [cloF]
 | (n, k) :: r, acc => by
  unfold cloF
  by_cases hk : k = .free
  ·subst hk
   rw [if_pos rfl, yX r]
   by_cases hy : y = n
   ·subst hy
    simp [List.lookup_cons]
   ·have hb : (y == n) = false := by simpa using hy
    simp [List.lookup_cons, hb, hy]
  ·rw [if_neg hk, yX r]
   have : ¬ ((y, NameKind.free) = (n, k)) := by
    intro e
    exact hk (Prod.mk.inj e).2.symm
   simp [this]
structure CScope (o sc : Scope) (TN F : List Str) : Prop where
 okind : o.kind = .function
 kind : sc.kind = .function
 nocell : ∀ y ∈ sc.names, y.2 ≠ .cell
 names : ∀ y ∈ sc.names, y.2 = .local → sc.names.lookup y.1 = some .local
 fr : ∀ y ∈ sc.names, y.2 = .free → o.names.lookup y.1 = some .cell ∧ sc.names.lookup y.1 = some .free
 ff : ∀ y ∈ F, (y, NameKind.free) ∈ sc.names
theorem wf {env : Env} {y : Str} (hk : env.scope.kind = .function) (hc : env.kindOf y = some .cell) : ∀ {names : List (Str × NameKind)}, names.lookup y = some .free →
  (names.map fun (n, k) => if (k == NameKind.free && env.scope.kind == .function && env.kindOf n == some .cell) then (n, NameKind.cell) else (n, k)).lookup y = some .cell
 | [], h => by simp at h
 | (n, k) :: r, h => by
  have ih := @wf env y hk hc r
  show List.lookup y ((if (k == NameKind.free && env.scope.kind == .function && env.kindOf n == some .cell) = true then (n, NameKind.cell) else (n, k)) :: _) = _
  cases hx : y == n with
  | true =>
   rw [List.lookup_cons, hx] at h
   cases h
   have e : y = n := by simpa using hx
   subst e
   rw [if_pos (by simp [hk, hc])]
   simp [List.lookup_cons]
  | false =>
   rw [List.lookup_cons, hx] at h
   by_cases hc' : (k == NameKind.free && env.scope.kind == .function && env.kindOf n == some .cell) = true
   ·rw [if_pos hc']; simp only [List.lookup_cons, hx]; exact ih h
   ·rw [if_neg hc']; simp only [List.lookup_cons, hx]; exact ih h
theorem we {env : Env} {y : Str} : ∀ {names : List (Str × NameKind)}, (∀ z ∈ names, z.2 ≠ .cell) →
    ((names.map fun (n, k) => if (k == NameKind.free && env.scope.kind == .function && env.kindOf n == some .cell) then (n, NameKind.cell) else (n, k)).lookup y = some .cell ∨
     (names.map fun (n, k) => if (k == NameKind.free && env.scope.kind == .function && env.kindOf n == some .cell) then (n, NameKind.cell) else (n, k)).lookup y = some .free) → (y, NameKind.free) ∈ names
  | [], _, h => by simp at h
  | (n, k) :: r, hn, h => by
    have ih := @we env y r fun z hz => hn z (List.mem_cons_of_mem _ hz)
    have h' : List.lookup y ((if (k == NameKind.free && env.scope.kind == .function && env.kindOf n == some .cell) = true then (n, NameKind.cell) else (n, k)) :: (r.map fun (n, k) => if (k == NameKind.free && env.scope.kind == .function && env.kindOf n == some .cell) then (n, NameKind.cell) else (n, k))) = some .cell ∨
      List.lookup y ((if (k == NameKind.free && env.scope.kind == .function && env.kindOf n == some .cell) = true then (n, NameKind.cell) else (n, k)) :: (r.map fun (n, k) => if (k == NameKind.free && env.scope.kind == .function && env.kindOf n == some .cell) then (n, NameKind.cell) else (n, k))) = some .free := h
    clear h
    cases hx : y == n with
    | true =>
      have e : y = n := by simpa using hx
      subst e
      by_cases hc' : (k == NameKind.free && env.scope.kind == .function && env.kindOf y == some .cell) = true
      · have hk : k = .free := by
          have := (Bool.and_eq_true _ _ ▸ (Bool.and_eq_true _ _ ▸ hc').1).1
          simpa using this
        subst hk
        exact List.mem_cons_self
      · rw [if_neg hc'] at h'
        simp only [List.lookup_cons, beq_self_eq_true] at h'
        rcases h' with h' | h'
        · cases h'
          exact absurd rfl (hn _ List.mem_cons_self)
        · cases h'
          exact List.mem_cons_self
    | false =>
      by_cases hc' : (k == NameKind.free && env.scope.kind == .function && env.kindOf n == some .cell) = true
      · rw [if_pos hc'] at h'; simp only [List.lookup_cons, hx] at h'; exact List.mem_cons_of_mem _ (ih h')
      · rw [if_neg hc'] at h'; simp only [List.lookup_cons, hx] at h'; exact List.mem_cons_of_mem _ (ih h')
def cxC (X : Cx) (N : List Str) (sc : Scope) (cl : List (Str × Addr)) (C : Addr) (fp : List Addr) (s₃ : Shared) (H₃ : Hp) (xe : Value → Shared → Prop) : Cx :=
 { X with N := N, s₀ := s₃, H₀ := H₃, env := compEnvC sc cl C X.env, outer := X.stack, ex := fp, fn := fun _ => false, pn := [], xe := xe }
def sub (ix : List Nat) (σ : St) : St := ix.map fun i => (σ[i]?).join
theorem inv_comp {X : Cx} {pins : List (Addr × Obj)} {σ : St} {H : Hp} {s : Shared} {sc : Scope} {TN F : List Str} {ix : List Nat} {fp : List Addr} {h4 : Heap} {tk : Nat} {m : Str → Option Value} {xe : Value → Shared → Prop}
  (S : CScope X.env.scope sc TN F) (hix : ix.map (fun i => X.N[i]?) = F.map some) (I : Inv X pins σ H s) (hf : ∀ b ∈ fp, FpOk X pins H b) (ho : ∀ b ∈ fp, ∃ o, s.heap.get? b = some o)
  (hk : ∀ b o, s.heap.get? b = some o → h4.get? b = some o) (hn : h4.Ns s.heap.objs.size m) :
  Inv (cxC X (TN ++ F) sc (cloF X.env sc.names []) s.heap.objs.size fp s H xe) [] (List.replicate TN.length none ++ sub ix σ) H { s with heap := h4, toks := tk } := by
 have cl : ∀ x c, (cloF X.env sc.names []).lookup x = some c → X.env.cells.lookup x = some c := fun x c e => by
  rw [yX] at e
  by_cases hx : (x, NameKind.free) ∈ sc.names
  ·rw [if_pos hx] at e
   obtain ⟨c', hc'⟩ := I.ok.has x (.inl (S.fr _ hx rfl).1)
   rw [hc'] at e ⊢
   exact e
  ·rw [if_neg hx] at e
   cases e
 have cl' : ∀ x, (x, NameKind.free) ∈ sc.names → (cloF X.env sc.names []).lookup x = X.env.cells.lookup x := fun x hx => by
  rw [yX, if_pos hx]
  obtain ⟨c', hc'⟩ := I.ok.has x (.inl (S.fr _ hx rfl).1)
  rw [hc']
  rfl
 have hlen : ix.length = F.length := by
  have := congrArg List.length hix
  simpa using this
 refine ⟨⟨I.ok.mod, S.kind, I.ok.glob, I.ok.blt, Nat.le_refl _, fun x y c h1 h2 => I.ok.inj x y c (cl x c h1) (cl y c h2), fun x hx => ?_, fun x c z => (nomatch z), I.ok.hd, I.ok.frames, .inl rfl, fun b hb => ⟨?_, fun x c e => (hf b hb).2.2.2.2.1 x c (cl x c e)⟩,
  I.bs, Nat.le_trans I.ok.bsz I.sz, fun b o e hb => ?_, fun b hb hfs => ?_, I.stack, I.stkFree⟩, rfl, I.bare, Un.kept hk, ⟨m, hn, fun i x v h1 h2 h3 => ?_⟩, fun x c e => ?_, I.hok.fresh (Nat.le_refl _), fun x c e => I.freeC x c (cl x c e), fun p hp => absurd (show p ∈ ([] : List (Addr × Obj)) from hp) (by simp), I.hok.kept hk, ?_⟩
 ·have hx' : (x, NameKind.free) ∈ sc.names := we (env := X.env) S.nocell hx
  obtain ⟨c, hc⟩ := I.ok.has x (.inl (S.fr _ hx' rfl).1)
  exact ⟨c, (cl' x hx').trans hc⟩
 ·obtain ⟨o, e⟩ := ho b hb
  exact Nat.ne_of_lt (Heap.lt_size e)
 ·rcases (hf b hb).2.2.2.1 with z | z
  ·exact I.ok.noex b o e z
  ·exact absurd (Nat.lt_of_lt_of_le (Heap.lt_size e) (Nat.le_trans I.ok.bsz z)) (Nat.lt_irrefl _)
 ·rcases List.mem_cons.mp (I.stkSub b hfs) with z | z
  ·exact (hf b hb).2.1 z
  ·exact (hf b hb).2.2.1 z
 ·have hi : TN.length ≤ i := by
   apply Nat.le_of_not_lt
   intro hlt
   rw [List.getElem?_append_left (by simpa using hlt), List.getElem?_replicate] at h2
   split at h2 <;> cases h2
  rw [List.getElem?_append_right (by simpa using hi), List.length_replicate] at h2
  have h1' : F[i - TN.length]? = some x := by
   have : (TN ++ F)[i]? = some x := h1
   rw [List.getElem?_append_right hi] at this
   exact this
  have e3 := congrArg (fun l => l[i - TN.length]?) hix
  simp only [List.getElem?_map, h1', Option.map_some] at e3
  unfold sub at h2
  rw [List.getElem?_map] at h2
  cases ej : ix[i - TN.length]? with
  | none => rw [ej] at h2; cases h2
  | some k =>
   rw [ej] at h2 e3
   have h2' : (σ[k]?).join = some v := Option.some.inj h2
   have e3' : X.N[k]? = some x := Option.some.inj e3
   have hσ : σ[k]? = some (some v) := by
    cases e : σ[k]? with
    | none => rw [e] at h2'; cases h2'
    | some q =>
     rw [e] at h2'
     have : q = some v := h2'
     rw [this]
   have hfr := S.ff x (List.mem_of_getElem? h1')
   have hcell := (S.fr _ hfr rfl).1
   obtain ⟨m0, hn0, hl0⟩ := I.loc
   obtain ⟨u, r, l⟩ := hl0 k x v e3' hσ (.inr (.inl hcell))
   refine ⟨u, r, ?_⟩
   rcases l with ⟨l1, _⟩ | ⟨_, c, hc, o, ho', hd⟩
   ·have l1' : X.env.scope.names.lookup x = some .local := l1
    rw [hcell] at l1'
    cases l1'
   ·exact .inr ⟨.inl (wf (env := X.env) S.okind hcell (S.fr _ hfr rfl).2), c, (cl' x hfr).trans hc, o, hk c o ho', hd⟩
 ·obtain ⟨v, o, ho', hd⟩ := I.cell x c (cl x c e)
  exact ⟨v, o, hk c o ho', hd⟩
 ·show _ = (TN ++ F).length
  rw [List.length_append, List.length_append, List.length_replicate]
  unfold sub
  rw [List.length_map, hlen]
def PTs (X : Cx) (ifs : List Expr) (tc : TT) : Prop :=
 ∀ (pins : List (Addr × Obj)) (s : Shared) (σ : St) (H : Hp) (Q : Bool → Hp → Prop), Inv X pins σ H s → tc σ H Q →
  wpAny (model X.prog X.w) X.A (forIn ifs true fun c r => if r = true then do let ok ← isTrue c X.env (eval c X.env); pure (ForInStep.yield ok) else pure (ForInStep.yield r)) (TP X pins σ Q) X.xe s
def tAll : TT := fun _ H Q => Q true H
theorem zz {X : Cx} : PTs X [] tAll := fun _ _ _ H _ I h => wpAny_tests_nil ⟨H, I, h⟩
theorem Zs {X : Cx} {c : Expr} {tc : TT} (hc : PT X c tc) : PTs X [c] tc := fun pins s σ H Q I h => wpAny_tests_one (hc pins s σ H Q I h)
def CGo (J : It) (D : Addr) (g : TG) (tc : TT) (te : TE) (Q : VK) (σ : St) (H : Hp) : Prop :=
 ∃ W : Nat → Nat → St → List V → Hp → Prop, (∃ m, W 0 m σ [] (upd H D (.lst []))) ∧ ∀ i m τ ys H, W i m τ ys H → H D = some (.lst ys) ∧
  ((J.stop i H ∧ Q (.ref D) H) ∨ (J.go i H ∧ ∀ v H', J.yld i H v H' → g v τ H' fun τ2 H2 => tc τ2 H2 fun b H3 =>
   if b = true then te τ2 H3 fun y H4 => H4 D = some (.lst ys) ∧ ys.length < sizeLine ∧ ∃ m', m' < m ∧ W (i + 1) m' τ2 (ys ++ [y]) (upd H4 D (.lst (ys ++ [y])))
   else ∃ m', m' < m ∧ W (i + 1) m' τ2 ys H3))
def xH (wi : TI) (n : Nat) (ix : List Nat) (g : TG) (tc : TT) (te : TE) : TE := fun σ H Q => wi σ H fun J H1 => ∀ D, H1 D = none → CGo J D g tc te Q (List.replicate n none ++ sub ix σ) H1
theorem append_ok {X : Cx} {pins : List (Addr × Obj)} {σ : St} {H : Hp} {s : Shared} {D : Addr} {ys : List V} {y : V} {u : Value} {Q : Value → Shared → Prop} {E : Value → Shared → Prop} (I : Inv X pins σ H s) (hD : H D = some (.lst ys)) (hz : ys.length < sizeLine) (r : RelV y u)
  (h : ∀ s', Inv X pins σ (upd H D (.lst (ys ++ [y]))) s' → Q .none s') : wpAny (model X.prog X.w) X.A (call (.builtin "list.append") [.ref D, u]) Q E s := by
 obtain ⟨z, its, n, rr, hl, e⟩ := I.lstM hD
 refine call_meets F.slot_list_append ⟨_, e, rfl⟩ F.entry_list_append (F.args_list_append_2 _ _) (PySem.list_append D its.toArray n u (by rw [List.size_toArray]; omega)) ⟨e, ?_⟩
 refine h _ (I.lset (its' := its ++ [u]) hD e (by simp) (rr.append (.cons r .nil)) ?_)
 rw [List.length_append, List.length_singleton]
 omega
theorem vJ {X : Cx} {pins : List (Addr × Obj)} {σ : St} {H : Hp} {s : Shared} {sc : Scope} {TN F : List Str} {ix : List Nat} {elt tg iter : Expr} {ifs : List Expr} {pos : Pos} {g : TG} {tc : TT} {te : TE} {J : It} {fp : List Addr} {it : Addr} {tn : Nat → Heap → Prop} {Q : VK}
  {RR : Value → Addr → Result → Shared → Prop} {E : Value → Shared → Prop}
  (S : CScope X.env.scope sc TN F) (hix : ix.map (fun i => X.N[i]?) = F.map some) (hc : X.calm = true) (I : Inv X pins σ H s) (T : Turn X.prog X.w X.K tg J fp it tn) (st : tn 0 s.heap) (hf : ∀ b ∈ fp, FpOk X pins H b)
  (hg : ∀ cl C fp s3 H3 xe, PG (cxC X (TN ++ F) sc cl C fp s3 H3 xe) tg g) (ht : ∀ cl C fp s3 H3 xe, PTs (cxC X (TN ++ F) sc cl C fp s3 H3 xe) ifs tc) (he : ∀ cl C fp s3 H3 xe, PE (cxC X (TN ++ F) sc cl C fp s3 H3 xe) elt te)
  (hW : ∀ D, H D = none → CGo J D g tc te Q (List.replicate TN.length none ++ sub ix σ) H)
  (fin : ∀ D C H' s', Inv X pins σ H' s' → (∃ m, s'.heap.Ns C m) → H' C = none → C ≠ X.env.locals → X.s₀.heap.objs.size ≤ C → (∀ x c, X.env.cells.lookup x = some c → c ≠ C) → (∀ p ∈ X.pn ++ pins, p.1 ≠ C) → Q (.ref D) H' → RR (.ref D) C (.ok .next) s') :
  wpAny (model X.prog X.w) X.A (newList []) (fun acc s₃ => wpAny (model X.prog X.w) X.A (newFunctionEnv sc X.env.globals (cloF X.env sc.names []) [] X.env.qual none .none (some X.env)) (fun cenv s₄ =>
   codeAny (model X.prog X.w) X.A (.compStart (.ListComp elt [⟨tg, iter, ifs, 0⟩] sc pos) 0 (.ref it) acc { cenv with scope := relabel sc X.env }) (RR acc cenv.locals) s₄) E s₃) E s := by
 have hfo : ∀ b ∈ fp, ∃ o, s.heap.get? b = some o := fun b hb => let ⟨o, e, _⟩ := T.obj 0 _ st b hb; ⟨o, e⟩
 refine wpAny_newObj_type ?_
 obtain ⟨W, ⟨m0, w0⟩, go⟩ := hW s.heap.objs.size I.fresh
 have I3 : Inv X pins σ (upd H s.heap.objs.size (.lst [])) { s with heap := s.heap.push { cls := .type "list", data := .seq ([] : List Value).toArray } } := I.lnew (its := []) (ys := []) (t' := s.toks) .nil (Nat.zero_le _)
 generalize hs3 : ({ s with heap := s.heap.push { cls := .type "list", data := .seq ([] : List Value).toArray } } : Shared) = s3 at I3
 have hk3 : ∀ b o, s.heap.get? b = some o → s3.heap.get? b = some o := fun b o e => by
  rw [← hs3]
  exact Heap.get?_push_of_some _ e
 have hf3 : ∀ b ∈ fp, FpOk X pins (upd H s.heap.objs.size (.lst [])) b := fun b hb => by
  obtain ⟨o, e⟩ := hfo b hb
  exact ⟨by rw [zi (Nat.ne_of_lt (Heap.lt_size e))]; exact (hf b hb).1, (hf b hb).2⟩
 have st3 : tn 0 s3.heap := T.keep 0 _ _ st fun b hb o e => hk3 b o e
 show wpAny _ _ _ _ _ s3
 refine wpAny_newFunctionEnv S.nocell (by intro y hy; simp at hy) (fun h4 hn4 hsb => ?_) S.kind
 have hk4 : ∀ b o, s3.heap.get? b = some o → h4.get? b = some o := fun b o e => (hsb.2 b (Nat.ne_of_lt (Heap.lt_size e))).trans (Heap.get?_push_of_some _ e)
 generalize hR : RR (.ref s.heap.objs.size) s3.heap.objs.size = R
 have loop : ∀ s4 : Shared, s4 = { s3 with heap := h4, toks := s3.toks + ([] : List (Str × Value)).length } →
   codeAny (model X.prog X.w) X.A (.compLoop (.ListComp elt [⟨tg, iter, ifs, 0⟩] sc pos) 0 (.ref it) (.ref s.heap.objs.size) (compEnvC sc (cloF X.env sc.names []) s3.heap.objs.size X.env)) R s4 := by
  rintro s4 rfl
  let X' : Cx := cxC X (TN ++ F) sc (cloF X.env sc.names []) s3.heap.objs.size fp s3 (upd H s.heap.objs.size (.lst [])) (notedBy (model X.prog X.w) X.A (compEnvC sc (cloF X.env sc.names []) s3.heap.objs.size X.env) fun e s' => R (.error e) s')
  have I4 : Inv X' [] (List.replicate TN.length none ++ sub ix σ) (upd H s.heap.objs.size (.lst [])) { s3 with heap := h4, toks := s3.toks + ([] : List (Str × Value)).length } :=
   inv_comp S hix I3 hf3 (fun b hb => let ⟨o, e⟩ := hfo b hb; ⟨o, hk3 b o e⟩) hk4 hn4
  have fpx : ∀ {H' : Hp}, (∀ b ∈ fp, H' b = none) → ∀ b ∈ fp, FpOk X' [] H' b := fun {H'} hn b hb => by
   refine ⟨hn b hb, (I4.ok.exf b hb).1, fun z => I4.ok.exfs b hb z, .inl hb, fun x c e => (I4.ok.exf b hb).2 x c e, fun p hp => absurd (show p ∈ ([] : List (Addr × Obj)) from hp) (by simp)⟩
  refine comp_loop (fun n s' => ∃ i τ ys H', Inv X' [] τ H' s' ∧ tn i s'.heap ∧ (∀ b ∈ fp, H' b = none) ∧ W i n τ ys H') ?_ m0 ⟨0, _, [], _, I4, T.keep 0 _ _ st3 fun b hb o e => hk4 b o e, fun b hb => (hf3 b hb).1, w0⟩
  rintro n s5 ⟨i, τ, ys, H5, I5, st5, fr5, w5⟩
  obtain ⟨hD, hgo⟩ := go i n τ ys H5 w5
  rcases hgo with ⟨stop, q⟩ | ⟨hgo, step⟩
  ·refine thn (T.done X' rfl rfl rfl hc i [] s5 τ H5 X'.xe I5 (fpx fr5) st5 stop) fun r s6 ⟨hr, I6⟩ => ?_
   subst hr
   show R (.ok .next) s6
   rw [← hR]
   have J6 : Inv X pins σ H5 s6 := I3.call' (ch := fp) I6.os I6.base I6.hok I6.bare fun b hb => ⟨(hf3 b hb).2.2.2.1, (hf3 b hb).2.1, (hf3 b hb).2.2.2.2.1, (hf3 b hb).2.2.2.2.2⟩
   refine fin s.heap.objs.size s3.heap.objs.size H5 s6 J6 (let ⟨m, hn, _⟩ := I6.loc; ⟨m, hn⟩) I6.free (Nat.ne_of_gt I3.lt) I3.sz (fun x c e z => ?_) (fun p hp z => ?_) q
   ·obtain ⟨v, o, ho, _⟩ := I3.cell x c e
    exact absurd (Heap.lt_size ho) (by rw [z]; exact Nat.lt_irrefl _)
   ·exact absurd (Heap.lt_size (I3.pin p hp).1) (by rw [z]; exact Nat.lt_irrefl _)
  ·refine thn (T.item X' rfl rfl rfl hc i [] s5 τ H5 X'.xe I5 (fpx fr5) st5 hgo) fun r s6 ⟨u, hr, h6⟩ => ?_
   subst hr
   refine thn h6 fun _ s7 ⟨v, H7, I7, r7, y7, st7, fr7⟩ => ?_
   have I7' := I7.pinned (fpx fr7) (T.obj _ _ st7)
   refine thn (hg _ _ _ _ _ _ _ s7 τ H7 v u _ I7' r7 (step v H7 y7)) fun _ s8 ⟨τ8, H8, I8, q8⟩ => ?_
   refine thn (ht _ _ _ _ _ _ _ s8 τ8 H8 _ I8 q8) fun ok s9 ⟨H9, I9, q9⟩ => ?_
   have again : ∀ {ys' : List V} {H' : Hp} {s' : Shared}, Inv X' ([] ++ vv fp s7.heap) τ8 H' s' → (∃ m', m' < n ∧ W (i + 1) m' τ8 ys' H') → ∃ m, m < n ∧ ∃ i τ ys H'', Inv X' [] τ H'' s' ∧ tn i s'.heap ∧ (∀ b ∈ fp, H'' b = none) ∧ W i m τ ys H'' := fun {ys' H' s'} I' ⟨m', hm, w'⟩ => by
    refine ⟨m', hm, i + 1, τ8, ys', H', I'.unpinned, T.keep _ _ _ st7 fun b hb o e => (I'.pin (b, o) (List.mem_append_right _ (List.mem_append_right _ (xm hb e)))).1, fun b hb => ?_, w'⟩
    obtain ⟨o, e, d⟩ := T.obj _ _ st7 b hb
    exact (I'.pin (b, o) (List.mem_append_right _ (List.mem_append_right _ (xm hb e)))).2.1
   cases ok with
   | false =>
    exact again I9 q9
   | true =>
    refine thn (he _ _ _ _ _ _ _ s9 τ8 H9 _ I9 q9) fun x s10 ⟨y, H10, I10, r10, hD10, hz10, q10⟩ => ?_
    exact append_ok (X := X') I10 hD10 hz10 r10 fun s11 I11 => again I11 q10
 subst hR
 exact codeAny_compStart_list (loop _ rfl) (T.self X.A 0 _ _ _ (T.keep 0 _ _ st3 fun b hb o e => hk4 b o e) (loop _ rfl))
section
variable {X : Cx} {sc : Scope} {TN F : List Str} {ix : List Nat} {elt tg iter : Expr} {ifs : List Expr} {pos : Pos} {g : TG} {tc : TT} {te : TE} {wi : TI}
theorem vK (S : CScope X.env.scope sc TN F) {pins : List (Addr × Obj)} {σ : St} {H : Hp} {s : Shared} (I : Inv X pins σ H s) : closureFor sc X.env = pure (cloF X.env sc.names []) :=
 closure_eq fun x hx hk => I.ok.has x.1 (.inl (S.fr x hx hk).1)
theorem zB (S : CScope X.env.scope sc TN F) (hix : ix.map (fun i => X.N[i]?) = F.map some) (hc : X.calm = true) (hi : PI X tg iter wi)
  (hg : ∀ cl C fp s3 H3 xe, PG (cxC X (TN ++ F) sc cl C fp s3 H3 xe) tg g) (ht : ∀ cl C fp s3 H3 xe, PTs (cxC X (TN ++ F) sc cl C fp s3 H3 xe) ifs tc) (he : ∀ cl C fp s3 H3 xe, PE (cxC X (TN ++ F) sc cl C fp s3 H3 xe) elt te)
  (hs : ∀ x, foldedSetIterable iter X.env x = pure x := by intro _; rfl) : PE X (.ListComp elt [⟨tg, iter, ifs, 0⟩] sc pos) (xH wi TN.length ix g tc te) := by
 intro pins s σ H Q I h
 rw [eval_ListComp]
 refine wpAny_comprehension_free (use := none) rfl hs (vK S I) S.kind S.names (thn (hi pins s σ H _ I h) fun v s1 h1 => thn h1 fun itv s2 h2 => ?_)
 obtain ⟨it, fp, tn, J, H2, e, I2, T, st2, f2, q2⟩ := h2
 subst e
 refine vJ (RR := fun acc C => compPost (model X.prog X.w) X.A X.xe none (EP X pins σ Q) acc C) S hix hc I2 T st2 f2 hg ht he q2 fun D C H' s' I' hn hC1 hC2 hC3 hC4 hC5 q => ?_
 obtain ⟨m, hn⟩ := hn
 exact ⟨m, hn, fun h' hs' => ⟨.ref D, H', I'.turned (t' := s'.toks) (fun b o hb e => (hs'.2 b hb).trans e) hC1 hC2 (.inr hC3) hC4 hC5, rfl, q⟩⟩
theorem xB {i : Nat} {y : Str} {py spos : Pos} (hN : X.N.Nodup) (hiy : X.N[i]? = some y) (hy : X.env.scope.names.lookup y = some .local) (S : CScope X.env.scope sc TN F) (hix : ix.map (fun i => X.N[i]?) = F.map some) (hc : X.calm = true) (hi : PI X tg iter wi)
  (hg : ∀ cl C fp s3 H3 xe, PG (cxC X (TN ++ F) sc cl C fp s3 H3 xe) tg g) (ht : ∀ cl C fp s3 H3 xe, PTs (cxC X (TN ++ F) sc cl C fp s3 H3 xe) ifs tc) (he : ∀ cl C fp s3 H3 xe, PE (cxC X (TN ++ F) sc cl C fp s3 H3 xe) elt te)
  (hsw : swapsWith (.ListComp elt [⟨tg, iter, ifs, 0⟩] sc pos) (some (.Name y py)) spos.line X.env = pure true := by rfl)
  (hs : ∀ x, foldedSetIterable iter X.env x = pure x := by intro _; rfl) : PS X (.Assign [.Name y py] (.ListComp elt [⟨tg, iter, ifs, 0⟩] sc pos) spos) (tAsg (xH wi TN.length ix g tc te) (zU i)) := by
 intro pins s σ H D I h
 rw [exec_Assign_Name_used _ _ _ _ hsw]; refine wpAny_bind (wpAny_standAt (wpAny_bind ?_))
 show wpAny _ X.A (do let _ ← comprehension (.ListComp elt [⟨tg, iter, ifs, 0⟩] sc pos) sc X.env _ (newList []) false (eval iter X.env) (some (assign (.Name y py) X.env))) _ _ s
 refine wpAny_bind (wpAny_mono (wpAny_comprehension_free (use := some (assign (.Name y py) X.env)) (Q := fun _ s' => SP X pins D .next s') rfl hs (vK S I) S.kind S.names
  (thn (hi pins s σ H _ I h) fun v s1 h1 => thn h1 fun itv s2 h2 => ?_)) (fun _ s' hq => wpAny_pure (wpAny_pure hq)) fun _ _ e => e)
 obtain ⟨it, fp, tn, J, H2, e, I2, T, st2, f2, q2⟩ := h2
 subst e
 refine vJ (RR := fun acc C => compPost (model X.prog X.w) X.A X.xe (some (assign (.Name y py) X.env)) (fun _ s' => SP X pins D .next s') acc C) S hix hc I2 T st2 f2 hg ht he q2 fun Dl C H' s' I' hn hC1 hC2 hC3 hC4 hC5 q => ?_
 obtain ⟨m, hn⟩ := hn
 show wpAny _ X.A (assign (.Name y py) X.env (.ref Dl)) _ _ _
 refine wpAny_assign_Name (vR I' hN hiy (.inl hy) (show RelV (.ref Dl) (.ref Dl) from rfl) (fun s'' I'' ⟨a, hsb, ha⟩ => ?_) (.inr hy))
 have haC : C ≠ a := by
  rcases ha with z | z
  ·rw [z]; exact hC2
  ·exact fun z' => hC4 y a z z'.symm
 refine ⟨m, hn.sameBut hsb haC, fun h' hs' => ?_⟩
 exact ⟨_, H', I''.turned (t' := s''.toks) (fun b o hb e => (hs'.2 b hb).trans e) hC1 hC2 (.inr hC3) hC4 hC5, q⟩
end
def YD (H : Hp) (p : Addr) : Option (List V) := match H p with
 | some (.lst xs) => some xs
 | some (.tup xs) => some xs
 | _ => none
def dAt (H : Hp) (x y : V) : Option V := match x, y with
 | .ref p, .int i => (YD H p).bind fun xs => atI xs i
 | _, _ => none
def rIxd : R2 := fun x y H Q => ∃ v, dAt H x y = some v ∧ Q v H
section
variable {X : Cx}
theorem ix_d : IxR X rIxd := by
 intro value slice pins s σ H x y v u Q I rx ry h hs
 refine ix_seq value slice pins s σ H x y v u Q I rx ry ?_ hs
 obtain ⟨z, e, q⟩ := h
 unfold dAt at e
 split at e
 case h_2 => cases e
 case h_1 p i =>
  unfold YD at e
  split at e
  case h_1 xs hp => exact .inl ⟨_, xs, _, z, rfl, rfl, SqL.of hp, e, q⟩
  case h_2 xs hp => exact .inr (.inl ⟨_, xs, _, z, rfl, rfl, SqT.of hp, e, q⟩)
  case h_3 => cases e
theorem ziq {X : Cx} {a b : Expr} {ta tb : TE} {pos : Pos} (ha : PE X a ta) (hb : PE X b tb) (hs : PlainIx b := by exact fun _ _ => rfl) : PE X (.Subscript a b pos) (tOp rIxd ta tb) := zk ix_d ha hb hs
def dSet (H : Hp) (o i v : V) : Option Hp := match o, i with
 | .ref p, .int k => match H p with
  | some (.lst xs) => (ixN xs.length k).map fun j => upd H p (.lst (xs.set j v))
  | _ => none
 | _, _ => none
def WR : V → V → V → Hp → (Hp → Prop) → Prop := fun o i v H Q => ∃ H', dSet H o i v = some H' ∧ Q H'
theorem vT : PSet X WR := by
 intro pins s σ H o i v ov iv u Q I ro ri rv h
 refine set_list pins s σ H o i v ov iv u Q I ro ri rv ?_
 obtain ⟨H', e, q⟩ := h
 unfold dSet at e
 split at e
 case h_2 => cases e
 case h_1 p k =>
  split at e
  case h_2 => cases e
  case h_1 xs hp =>
   cases ej : ixN xs.length k with
   | none => rw [ej] at e; cases e
   | some j =>
    rw [ej] at e
    cases e
    exact ⟨p, xs, k, j, rfl, rfl, hp, ej, q⟩
end
section
variable {σ : St} {H : Hp} {Q : VK} {D : Ends} {t u : TS} {te ta tb : TE} {tr : TA} {g : TG} {r : R2} {x y v : V} {c : TT} {QB : Bool → Hp → Prop} {QL : List V → Hp → Prop} {QG : St → Hp → Prop} {n : Nat}
theorem wH (h : t { D with nx := u D } σ H) : tSeq t u D σ H := h
theorem xO (h : D.nx σ H) : Wv D σ H := h
theorem xG (h : te σ H fun x H1 => g x σ H1 D.nx) : tAsg te g D σ H := h
theorem yk {i : Nat} (h : QG (σ.set i (some v)) H) : zU i v σ H QG := h
theorem w_op (h : ta σ H fun x H1 => tb σ H1 fun y H2 => r x y H2 Q) : tOp r ta tb σ H Q := h
theorem w6 {i : Nat} (e : σ[i]? = some (some v)) (h : Q v H) : tVar i σ H Q := ⟨v, e, h⟩
theorem w_c (h : Q v H) : tC v σ H Q := h
theorem wJ {k : Int → Int → V} {i j : Int} (h : Q (k i j) H) : rI0 k (.int i) (.int j) H Q := ⟨i, j, rfl, rfl, h⟩
theorem w_rI {C : Int → Int → Prop} {k : Int → Int → V} {i j : Int} (hc : C i j) (h : Q (k i j) H) : rI C k (.int i) (.int j) H Q := ⟨i, j, rfl, rfl, hc, h⟩
theorem wc {b : TS} (h : c σ H fun b' H1 => if b' = true then t D σ H1 else b D σ H1) : tIfS c t b D σ H := h
theorem vf (h : c σ H fun b' H1 => if b' = true then ta σ H1 Q else tb σ H1 Q) : tIf c ta tb σ H Q := h
theorem xM (h : te σ H fun x H' => ∃ k, x = .bl k ∧ QB k H') : Wr te σ H QB := h
theorem w_tb (h : te σ H fun x H' => ∃ k, x = .bl k ∧ QB k H') : tB te σ H QB := h
theorem w_bl {b : Bool} {P : Bool → Prop} (h : P b) : ∃ k, V.bl b = .bl k ∧ P k := ⟨b, rfl, h⟩
theorem w_not (h : c σ H fun b H1 => QB (!b) H1) : tNot c σ H QB := h
theorem wI (h : te σ H D.rt) : tRet te D σ H := h
theorem vd (h : QL [] H) : tNil σ H QL := h
theorem xU (h : te σ H fun x H1 => tr σ H1 fun xs H2 => QL (x :: xs) H2) : vQ te tr σ H QL := h
theorem ve (h : tr σ H fun xs H1 => xs.length ≤ sizeLine ∧ ∀ p, H1 p = none → Q (.ref p) (upd H1 p (.lst xs))) : tLst tr σ H Q := h
theorem w9 (h : tr σ H fun xs H1 => xs.length ≤ sizeLine ∧ ∀ p, H1 p = none → Q (.ref p) (upd H1 p (.tup xs))) : tTup tr σ H Q := h
theorem w_cb {r : List V → Hp → VK → Prop} (h : tr σ H fun vs H1 => r vs H1 Q) : tCB r tr σ H Q := h
theorem xV {sp : Sp} {dvs : List V} {E : XK} (h : tr σ H fun vs H1 => sp (vs ++ dvs) H1 Q E) : Yt sp dvs E tr σ H Q := h
theorem xQ {to ti : TE} {ts : TSet} (h : to σ H fun o H1 => ti σ H1 fun i H2 => ts o i v H2 fun H3 => QG σ H3) : gSub to ti ts v σ H QG := h
theorem zD {p : Addr} {xs : List V} {i : Int} (hp : H p = some (.lst xs)) (e : atI xs i = some v) (h : Q v H) : rIxd (.ref p) (.int i) H Q := ⟨v, by simp only [dAt, YD, hp, Option.bind_some, e], h⟩
theorem zm {p : Addr} {xs : List V} {i : Int} (hp : H p = some (.tup xs)) (e : atI xs i = some v) (h : Q v H) : rIxd (.ref p) (.int i) H Q := ⟨v, by simp only [dAt, YD, hp, Option.bind_some, e], h⟩
theorem vO {p : Addr} {xs : List V} {i : Int} {j : Nat} {QH : Hp → Prop} (hp : H p = some (.lst xs)) (e : ixN xs.length i = some j) (h : QH (upd H p (.lst (xs.set j v)))) : WR (.ref p) (.int i) v H QH :=
 ⟨_, by simp only [dSet, hp, e, Option.map_some], h⟩
theorem vg {c d : TT} (h : c σ H fun b H1 => if b = true then d σ H1 QB else QB false H1) : tAnd c d σ H QB := h
theorem w_or {c d : TT} (h : c σ H fun b H1 => if b = true then QB true H1 else d σ H1 QB) : tOr c d σ H QB := h
theorem iteD {p A B : Prop} [Decidable p] (h1 : p → A) (h2 : ¬ p → B) : if decide p = true then A else B := by
 by_cases h : p
 ·rw [decide_eq_true h, if_pos rfl]
  exact h1 h
 ·rw [decide_eq_false h, if_neg Bool.false_ne_true]
  exact h2 h
end
def Has (P : Program) (w : World) (K : W.Frag) (mg : Str → Option Value) (base : Heap) (k : Nat) (x : Str) (ps : List Str) (sp : Sp) : Prop :=
 ∃ f fd, FnOk P w K mg base CX0 k f fd ps sp ∧ mg x = some (.ref f) ∧ PySem.W.keepIn K (.ref f) = true ∧ Binds K fd ps []
theorem pe_fn {X : Cx} {k j : Nat} {x : Str} {ps : List Str} {sp : Sp} {e : Expr} {es : List Expr} {t : TA} {p pos : Pos} (h : Has X.prog X.w X.K X.mg X.base k x ps sp) (hr : Room j X.A) (hkj : k ≤ j) (ha : PA X (e :: es) t) (hg : Gl X x := by rfl)
  (hdb : (x == ("__debug__" : Str)) = false := by decide) (he : starEach (e :: es) X.env = (false, eval e X.env) :: starEach es X.env := by rfl) (hpl : (backTo pos (starEach es X.env)).any (·.1) = false := by rfl) :
  PE X (.Call (.Name x p) (e :: es) [] pos) (Yt sp [] E0 t) := by
 obtain ⟨f, fd, F, hm, hk, hb⟩ := h
 exact pe_call F (hr.mono hkj) hg hm hk hb .nil XN ha hdb he hpl
section
variable {lo : Int} {n : Nat} {D : Addr} {te : TE} {tc : TT} {Q : VK} {ρ : St} {H : Hp}
theorem yw (Pv : Nat → List V → Hp → Prop) (h0 : Pv 0 [] (upd H D (.lst [])))
  (hs : ∀ i ys H', i < n → Pv i ys H' → H' D = some (.lst ys) → ∀ (R : V → Hp → Prop) (S : Hp → Prop), (∀ y H4, H4 D = some (.lst ys) → ys.length < sizeLine → Pv (i + 1) (ys ++ [y]) (upd H4 D (.lst (ys ++ [y]))) → R y H4) → (∀ H3, H3 D = some (.lst ys) → Pv (i + 1) ys H3 → S H3) →
   tc (some (.int (lo + i)) :: ρ) H' fun b H3 => if b = true then te (some (.int (lo + i)) :: ρ) H3 R else S H3)
  (hd : ∀ ys H', Pv n ys H' → H' D = some (.lst ys) → Q (.ref D) H') : CGo (Itr lo n) D (zU 0) tc te Q (none :: ρ) H := by
 refine ⟨fun i m τ ys H' => m = n - i ∧ i ≤ n ∧ (∃ tv, τ = tv :: ρ) ∧ Pv i ys H' ∧ H' D = some (.lst ys), ⟨n, by omega, Nat.zero_le _, ⟨_, rfl⟩, h0, ze⟩, ?_⟩
 rintro i m τ ys H' ⟨rfl, hi, ⟨tv, rfl⟩, hp, hD⟩
 refine ⟨hD, ?_⟩
 by_cases hlt : i < n
 ·refine .inr ⟨hlt, ?_⟩
  rintro v H'' ⟨rfl, rfl⟩
  show tc (some (.int (lo + i)) :: ρ) _ _
  exact hs i ys _ hlt hp hD _ _ (fun y H4 a b c => ⟨a, b, n - (i + 1), by omega, rfl, hlt, ⟨_, rfl⟩, c, ze⟩) fun H3 a c => ⟨n - (i + 1), by omega, rfl, hlt, ⟨_, rfl⟩, c, a⟩
 ·have e : i = n := by omega
  subst e
  exact .inl ⟨Nat.le_refl _, hd ys _ hp hD⟩
theorem ZH {K : W.Frag} {a : Addr} {xs : List V} (Pv : Nat → List V → Hp → Prop) (h0 : Pv 0 [] (upd H D (.lst []))) (hl : ∀ i ys H', i ≤ xs.length → Pv i ys H' → SqT K H' a xs)
  (hs : ∀ i x ys H', xs[i]? = some x → Pv i ys H' → H' D = some (.lst ys) → ∀ (R : V → Hp → Prop) (S : Hp → Prop), (∀ y H4, H4 D = some (.lst ys) → ys.length < sizeLine → Pv (i + 1) (ys ++ [y]) (upd H4 D (.lst (ys ++ [y]))) → R y H4) → (∀ H3, H3 D = some (.lst ys) → Pv (i + 1) ys H3 → S H3) →
   tc (some x :: ρ) H' fun b H3 => if b = true then te (some x :: ρ) H3 R else S H3)
  (hd : ∀ ys H', Pv xs.length ys H' → H' D = some (.lst ys) → Q (.ref D) H') : CGo (Itt K a) D (zU 0) tc te Q (none :: ρ) H := by
 refine ⟨fun i m τ ys H' => m = xs.length - i ∧ i ≤ xs.length ∧ (∃ tv, τ = tv :: ρ) ∧ Pv i ys H' ∧ H' D = some (.lst ys), ⟨xs.length, by omega, Nat.zero_le _, ⟨_, rfl⟩, h0, ze⟩, ?_⟩
 rintro i m τ ys H' ⟨rfl, hi, ⟨tv, rfl⟩, hp, hD⟩
 refine ⟨hD, ?_⟩
 have sq := hl i ys H' hi hp
 by_cases hlt : i < xs.length
 ·refine .inr ⟨⟨xs, xs[i], sq, by simp [hlt]⟩, ?_⟩
  rintro v H'' ⟨rfl, hv⟩
  have hv' := hv xs sq
  show tc (some v :: ρ) _ _
  exact hs i v ys _ hv' hp hD _ _ (fun y H4 a b c => ⟨a, b, xs.length - (i + 1), by omega, rfl, hlt, ⟨_, rfl⟩, c, ze⟩) fun H3 a c => ⟨xs.length - (i + 1), by omega, rfl, hlt, ⟨_, rfl⟩, c, a⟩
 ·have e : i = xs.length := by omega
  subst e
  exact .inl ⟨⟨xs, sq, Nat.le_refl _⟩, hd ys _ hp hD⟩
end
theorem yz {σ : St} {H : Hp} {Q : Bool → Hp → Prop} (h : Q true H) : tAll σ H Q := h
def yA (sc o : Scope) : Scope :=
 { sc with names := sc.names.map fun (n, k) => if (k == .free && o.kind == .function && o.names.lookup n == some .cell) then (n, .cell) else (n, k) }
instance {sc : Scope} {x : Str} : Decidable (Vis sc x) := by unfold Vis; infer_instance
structure BScope (o sc : Scope) (TN F G : List Str) : Prop extends CScope o sc TN F where
 nd : (TN ++ F).Nodup
 vis : ∀ x ∈ TN ++ F, Vis (yA sc o) x
 loc : ∀ x ∈ TN, (yA sc o).names.lookup x = some .local
 gl : ∀ x ∈ G, (yA sc o).names.lookup x = some .globalImplicit
section
variable {X : Cx} {sc : Scope} {TN F G : List Str} {cl : List (Str × Addr)} {C : Addr} {fp : List Addr} {s3 : Shared} {H3 : Hp} {xe : Value → Shared → Prop} {x : Str} {pos : Pos}
theorem pvb (S : BScope X.env.scope sc TN F G) (i : Nat) (hN : (TN ++ F)[i]? = some x := by rfl) (hd : (x == ("__debug__" : Str)) = false := by decide) (hcd : (x == ("__classdict__" : Str)) = false := by decide) : PE (cxC X (TN ++ F) sc cl C fp s3 H3 xe) (.Name x pos) (tVar i) :=
 XM hN (S.vis x (List.mem_of_getElem? hN)) hd hcd
theorem pgb (S : BScope X.env.scope sc TN F G) (i : Nat) (hN : (TN ++ F)[i]? = some x := by rfl) (hT : TN[i]? = some x := by rfl) : PG (cxC X (TN ++ F) sc cl C fp s3 H3 xe) (.Name x pos) (zU i) :=
 YN S.nd hN (.inl (S.loc x (List.mem_of_getElem? hT))) (.inr (S.loc x (List.mem_of_getElem? hT)))
theorem BScope.g (S : BScope X.env.scope sc TN F G) (i : Nat) (hG : G[i]? = some x := by rfl) : Gl (cxC X (TN ++ F) sc cl C fp s3 H3 xe) x := S.gl x (List.mem_of_getElem? hG)
end
def Yr (vs : List V) : TA := fun _ H Q => Q vs H
theorem xL {vs : List V} {σ : St} {H : Hp} {Q : List V → Hp → Prop} (h : Q vs H) : Yr vs σ H Q := h
instance {sc : Scope} {x : Str} : Decidable (Loc sc x) := by unfold Loc; infer_instance
structure Nm (N : List Str) (sc : Scope) : Prop where
 nd : N.Nodup
 loc : ∀ x ∈ N, Loc sc x
section
variable {X : Cx} {x : Str} {pos : Pos}
theorem Loc.vis {sc : Scope} (h : Loc sc x) : Vis sc x := h.elim .inl fun z => .inr (.inl z)
theorem pvd (M : Nm X.N X.env.scope) (i : Nat) (hN : X.N[i]? = some x := by rfl) (hd : (x == ("__debug__" : Str)) = false := by decide) (hcd : (x == ("__classdict__" : Str)) = false := by decide) : PE X (.Name x pos) (tVar i) :=
 XM hN (M.loc x (List.mem_of_getElem? hN)).vis hd hcd
theorem zj {e : Expr} {te : TE} {pos' : Pos} (M : Nm X.N X.env.scope) (i : Nat) (he : PE X e te) (hi : X.N[i]? = some x := by rfl) (hs : swapsWith e (some (.Name x pos')) pos.line X.env = pure false := by rfl) (hf : X.fn x = true := by rfl) :
  PS X (.Assign [.Name x pos'] e pos) (tAsg te (zU i)) := ps_set M.nd hi (M.loc x (List.mem_of_getElem? hi)) he hs (.inl hf)
theorem pgd (M : Nm X.N X.env.scope) (i : Nat) (hi : X.N[i]? = some x := by rfl) (hf : X.fn x = true := by rfl) : PG X (.Name x pos) (zU i) := YN M.nd hi (M.loc x (List.mem_of_getElem? hi)) (.inl hf)
end
section
variable {ta : TA} {tl : TE} {n : Nat} {ix : List Nat} {g : TG} {tc : TT} {te : TE} {σ : St} {H : Hp} {Q : VK}
theorem xc (h : ta σ H fun vs H1 => ∃ j : Int, vs = [.int j] ∧ -(2 ^ 62) ≤ j ∧ j < 2 ^ 62 ∧ ∀ D, H1 D = none → CGo (Itr 0 j.toNat) D g tc te Q (List.replicate n none ++ sub ix σ) H1) : xH (Y0 ta) n ix g tc te σ H Q := h
theorem xb {K : W.Frag} (h : tl σ H fun x H1 => ∃ a, x = .ref a ∧ (∃ xs, SqT K H1 a xs) ∧ ∀ D, H1 D = none → CGo (Itt K a) D g tc te Q (List.replicate n none ++ sub ix σ) H1) : xH (iTup K tl) n ix g tc te σ H Q := h
end
def ForJ (J : It) (g : TG) (tb : TS) (D : Ends) (σ : St) (H1 : Hp) : Prop := ∃ W : Nat → Nat → St → Hp → Prop, (∃ m, W 0 m σ H1) ∧ ∀ i m σ H, W i m σ H →
 (J.stop i H ∧ D.nx σ H) ∨ (J.go i H ∧ ∃ N : St → Hp → Prop, (∀ σ' H', N σ' H' → ∃ m', m' < m ∧ W (i + 1) m' σ' H') ∧ ∀ x H', J.yld i H x H' → g x σ H' fun σ2 H2 => tb { D with nx := N, ct := N, bk := D.nx } σ2 H2)
theorem xS {ta : TA} {g : TG} {tb : TS} {D : Ends} {σ : St} {H : Hp} (h : ta σ H fun vs H1 => ∃ j : Int, vs = [.int j] ∧ -(2 ^ 62) ≤ j ∧ j < 2 ^ 62 ∧ ForJ (Itr 0 j.toNat) g tb D σ H1) : tFor (Y0 ta) g tb D σ H := h
theorem xR {K : W.Frag} {tl : TE} {g : TG} {tb : TS} {D : Ends} {σ : St} {H : Hp} (h : tl σ H fun x H1 => ∃ a, x = .ref a ∧ (∃ xs, SqT K H1 a xs) ∧ ForJ (Itt K a) g tb D σ H1) : tFor (iTup K tl) g tb D σ H := h
def zW : Expr → Bool
 | .Starred .. => true
 | _ => false
theorem xp {e : Expr} {es : List Expr} {env : Env} (h : zW e = false) : starEach (e :: es) env = (false, eval e env) :: starEach es env := by
 cases e <;> first | rfl | cases h
theorem yL {env : Env} {pos : Pos} : ∀ {es : List Expr}, es.all (fun e => !zW e) = true → (backTo pos (starEach es env)).any (·.1) = false
 | [], _ => rfl
 | e :: es, h => by
  rw [List.all_cons, Bool.and_eq_true] at h; rw [xp (by simpa using h.1)]
  cases es with
  | nil => rfl
  | cons a r =>
   have ih := yL (env := env) (pos := pos) (es := a :: r) h.2
   rw [xp (by simpa using (by simpa using h.2 : zW a = false ∧ _).1)] at ih ⊢
   exact ih
section
variable {X : Cx} {e a : Expr} {es : List Expr} {te : TE} {t ta : TA} {x : Str} {p pos : Pos} {tg : Expr} {id T : String} {r : List V → Hp → VK → Prop}
theorem pa_c (ha : PE X e te) (hr : PA X es t) (h : zW e = false := by rfl) : PA X (e :: es) (vQ te t) := YT ha hr (xp h)
theorem yR (hm : X.mg "range" = none) (ha : PA X [a] ta) (hg : Gl X "range" := by rfl) (h : zW a = false := by rfl) : PI X tg (.Call (.Name "range" p) [a] [] pos) (Y0 ta) := pi_range1 hg hm ha (xp h)
theorem zF (hc : yq X (.builtin id) r) (hm : X.mg x = none) (hv : bootBuiltins x = some (.builtin id)) (ha : PA X (e :: es) t) (hg : Gl X x := by rfl) (h : zW e = false := by rfl) (h2 : es.all (fun e => !zW e) = true := by rfl) (hn : x ≠ "__name__" := by decide) (hdb : (x == ("__debug__" : Str)) = false := by decide) :
  PE X (.Call (.Name x p) (e :: es) [] pos) (tCB r t) := pe_callB hc hg hm hv ha hn hdb (xp h) (yL h2)
theorem zK (hc : yq X (.type T) r) (hm : X.mg x = none) (hv : bootBuiltins x = some (.type T)) (ha : PA X (e :: es) t) (hg : Gl X x := by rfl) (h : zW e = false := by rfl) (h2 : es.all (fun e => !zW e) = true := by rfl) (hn : x ≠ "__name__" := by decide) (hdb : (x == ("__debug__" : Str)) = false := by decide) :
  PE X (.Call (.Name x p) (e :: es) [] pos) (tCB r t) := pe_callTy hc hg hm hv ha hn hdb (xp h) (yL h2)
theorem pe_f {k j : Nat} {ps : List Str} {sp : Sp} (h : Has X.prog X.w X.K X.mg X.base k x ps sp) (hr : Room j X.A) (hkj : k ≤ j) (ha : PA X (e :: es) t) (hg : Gl X x := by rfl) (h1 : zW e = false := by rfl) (h2 : es.all (fun e => !zW e) = true := by rfl)
  (hdb : (x == ("__debug__" : Str)) = false := by decide) : PE X (.Call (.Name x p) (e :: es) [] pos) (Yt sp [] E0 t) := pe_fn h hr hkj ha hg hdb (xp h1) (yL h2)
end
end L2
namespace L2
theorem pa_1 {X : Cx} {e : PySem.Expr} {te : TE} (ha : PE X e te) (h : zW e = false := by rfl) : PA X [e] (vQ te tNil) := pa_c ha xx h
theorem pa_2 {X : Cx} {e e' : PySem.Expr} {te te' : TE} (ha : PE X e te) (hb : PE X e' te') (h : zW e = false := by rfl) (h' : zW e' = false := by rfl) : PA X [e, e'] (vQ te (vQ te' tNil)) := pa_c ha (pa_1 hb h') h
end L2
namespace L2
open PySem PySem.Spec PyProof.Rows
theorem xT {te : TE} {D : Ends} {σ : St} {H : Hp} (h : te σ H fun _ H1 => D.nx σ H1) : Ww te D σ H := h
theorem w_bm {K : W.Frag} {T : String} {r : V → List V → Hp → VK → Prop} {to : TE} {t : TA} {σ : St} {H : Hp} {Q : VK} (h : to σ H fun x H1 => tyV K T x H1 ∧ t σ H1 fun xs H2 => r x xs H2 Q) : tBM K T r to t σ H Q := h
mutual
inductive RdV (H : Hp) : V → PyData → Prop
 | non : RdV H .non .none
 | bl (b : Bool) : RdV H (.bl b) (.bool b)
 | int (i : Int) : RdV H (.int i) (.int i)
 | str (x : Str) : RdV H (.str x) (.str x)
 | lst {p : Addr} {xs : List V} {ds : List PyData} : H p = some (.lst xs) → RdVs H xs ds → RdV H (.ref p) (.list ds)
 | tup {p : Addr} {xs : List V} {ds : List PyData} : H p = some (.tup xs) → RdVs H xs ds → RdV H (.ref p) (.tuple ds)
 | ftup {p : Addr} {o : Obj} {xs : List V} {ds : List PyData} : H p = some (.frz o (.tup xs)) → RdVs H xs ds → RdV H (.ref p) (.tuple ds)
inductive RdVs (H : Hp) : List V → List PyData → Prop
 | nil : RdVs H [] []
 | cons {v : V} {d : PyData} {vs : List V} {ds : List PyData} : RdV H v d → RdVs H vs ds → RdVs H (v :: vs) (d :: ds)
end
section
variable {X : Cx} {pins : List (Addr × Obj)} {σ : St} {H : Hp} {s : Shared}
mutual
theorem RdV.reads (I : Inv X pins σ H s) {v : V} {d : PyData} : RdV H v d → ∀ {u : Value}, RelV v u → ∃ as, Reads s.heap u d as
 | .non, u, r => by
  cases r
  exact ⟨[], .none⟩
 | .bl b, u, r => by
  cases r
  exact ⟨[], .bool b⟩
 | .int i, u, r => by
  obtain ⟨t, rfl⟩ := r
  exact ⟨[], .int i t⟩
 | .str x, u, r => by
  obtain ⟨t, rfl⟩ := r
  exact ⟨[], .str x t⟩
 | .lst (p := p) hp h, u, r => by
  cases r
  obtain ⟨its, n, rv, e, z⟩ := I.lst hp
  obtain ⟨as, q⟩ := RdVs.reads I h rv
  exact ⟨p :: as, .list e rfl rfl (by simpa using q)⟩
 | .tup (p := p) hp h, u, r => by
  cases r
  obtain ⟨z, its, rv, o, e, c, n, d⟩ := I.hok p _ hp
  obtain ⟨as, q⟩ := RdVs.reads I h rv
  exact ⟨as, .tuple e c d (by simpa using q)⟩
 | .ftup (p := p) hp h, u, r => by
  cases r
  obtain ⟨_, z, its, rv, o, e, c, n, d⟩ := I.hok p _ hp
  obtain ⟨as, q⟩ := RdVs.reads I h rv
  exact ⟨as, .tuple e c d (by simpa using q)⟩
theorem RdVs.reads (I : Inv X pins σ H s) {vs : List V} {ds : List PyData} : RdVs H vs ds → ∀ {us : List Value}, Vals vs us → ∃ as, ReadsAll s.heap us ds as
 | .nil, us, r => by
  cases r
  exact ⟨[], .nil⟩
 | .cons h hs, us, r => by
  cases r with
  | cons r1 r2 =>
   obtain ⟨as, q⟩ := RdV.reads I h r1
   obtain ⟨bs, q2⟩ := RdVs.reads I hs r2
   exact ⟨as ++ bs, .cons q q2⟩
end
end
theorem vq {H : Hp} : ∀ (ns : List Int), RdVs H (ns.map V.int) (ns.map PyData.int)
 | [] => .nil
 | n :: ns => .cons (.int n) (vq ns)
section
variable {X : Cx} {k : Nat}
def rEqD : R2 := fun x y H Q => ∃ dx dy, RdV H x dx ∧ RdV H y dy ∧ dx.canLay0 = true ∧ dy.canLay0 = true ∧ dx.depth ≤ 60 ∧ Q (.bl (PyData.eqv dx dy)) H
theorem op_eqD (hr : Room k X.A) : OpR X (compareOp .Eq) rEqD := by
 intro pins s σ H x y v u Q I rx ry h
 obtain ⟨dx, dy, hx, hy, cx, cy, hd, q⟩ := h
 obtain ⟨as, ra⟩ := hx.reads I rx
 obtain ⟨bs, rb⟩ := hy.reads I ry
 have := hr.units
 exact SeqAt.compareEq_reads ra rb cx cy (by omega) ⟨.bl _, H, I, rfl, q⟩
def WS : List V → Hp → VK → Prop := fun xs H Q => ∃ v d, xs = [v] ∧ RdV H v d ∧ d.showable = true ∧ d.hasDict = false ∧ d.depth ≤ 50 ∧ d.shown.length ≤ sizeLine ∧ Q (.str d.shown) H
theorem wF (hr : Room k X.A) : yq X (.builtin "repr") WS := by
 intro pins s σ H xs us Q I r h
 obtain ⟨v, d, rfl, hv, h1, h2, h3, h4, q⟩ := h
 obtain ⟨u, rfl, ru⟩ := r.one
 have hu := hr.units
 cases hv with
 | non =>
  cases ru
  exact PySem.P.repr_of_none ⟨.str _, H, I.tok _, ⟨_, rfl⟩, q⟩
 | bl b =>
  cases ru
  exact PySem.P.repr_of_bool ⟨.str _, H, I.tok _, ⟨_, rfl⟩, q⟩
 | int i =>
  obtain ⟨t, rfl⟩ := ru
  exact PySem.P.repr_of_int (by simpa [PyData.showable] using h1) ⟨.str _, H, I.tok _, ⟨_, rfl⟩, q⟩
 | str x =>
  obtain ⟨t, rfl⟩ := ru
  exact PySem.P.repr_of_str ⟨.str _, H, I.tok _, ⟨_, rfl⟩, q⟩ h4
 | lst hp hs =>
  obtain ⟨as, ra⟩ := RdV.reads I (.lst hp hs) ru
  cases ru
  exact repr_of_reads' ra h1 (fun z => by rw [h2] at z; cases z) hr.gd (by omega) (fun _ _ e => e) (fun h' u tk hk => ⟨.str _, H, I.kept hk, ⟨_, rfl⟩, q⟩) h4
 | tup hp hs =>
  obtain ⟨as, ra⟩ := RdV.reads I (.tup hp hs) ru
  cases ru
  exact repr_of_reads' ra h1 (fun z => by rw [h2] at z; cases z) hr.gd (by omega) (fun _ _ e => e) (fun h' u tk hk => ⟨.str _, H, I.kept hk, ⟨_, rfl⟩, q⟩) h4
 | ftup hp hs =>
  obtain ⟨as, ra⟩ := RdV.reads I (.ftup hp hs) ru
  cases ru
  exact repr_of_reads' ra h1 (fun z => by rw [h2] at z; cases z) hr.gd (by omega) (fun _ _ e => e) (fun h' u tk hk => ⟨.str _, H, I.kept hk, ⟨_, rfl⟩, q⟩) h4
end
theorem ZX : ∀ (ns ms : List Int), PyData.eqvAll (ns.map PyData.int) (ms.map PyData.int) = decide (ns = ms)
 | [], [] => by simp only [List.map_nil, PyData.eqvAll, decide_true]
 | [], m :: ms => by simp [PyData.eqvAll]
 | n :: ns, [] => by simp [PyData.eqvAll]
 | n :: ns, m :: ms => by
  simp only [List.map_cons, PyData.eqvAll, PyData.eqv, ZX ns ms]
  by_cases h : n = m
  ·subst h; simp
  ·simp [h]
theorem vD : ∀ (ns : List Int), PyData.canLayAll0 (ns.map PyData.int) = true
 | [] => rfl
 | n :: ns => by simp [PyData.canLayAll0, PyData.canLay0, vD ns]
theorem vI : ∀ (ns : List Int), PyData.depthAll (ns.map PyData.int) = 0
 | [] => rfl
 | n :: ns => by simp [PyData.depthAll, PyData.depth, vI ns]
theorem w_eqL {H : Hp} {Q : VK} {p q : Addr} {ns ms : List Int} (hp : H p = some (.lst (ns.map V.int))) (hq : H q = some (.lst (ms.map V.int))) (h : Q (.bl (decide (ns = ms))) H) : rEqD (.ref p) (.ref q) H Q := by
 refine ⟨_, _, .lst hp (vq ns), .lst hq (vq ms), vD ns, vD ms, ?_, ?_⟩
 ·show PyData.depthAll _ + 1 ≤ 60
  rw [vI]
  decide
 ·show Q (.bl (PyData.eqvAll _ _)) H
  rw [ZX]
  exact h
section
variable {X : Cx}
theorem Ym : ∀ {xs : List V} {us : List Value}, xs.length = us.length → (∀ (j : Nat) (x : V) (u : Value), xs[j]? = some x → us[j]? = some u → RelV x u) → Vals xs us
 | [], [], _, _ => .nil
 | [], v :: vs, h, _ => absurd h (by simp)
 | v :: vs, [], h, _ => absurd h (by simp)
 | x :: xs, u :: us, h, k => .cons (k 0 x u rfl rfl) (Ym (by simpa using h) fun j y v e1 e2 => k (j + 1) y v (by simpa using e1) (by simpa using e2))
def rRange : List V → Hp → VK → Prop := fun xs H Q => ∃ j : Int, xs = [.int j] ∧ ∀ r, H r = none → Q (.ref r) (upd H r (.rng 0 j))
theorem call_rangeV : yq X (.type "range") rRange := by
 intro pins s σ H xs us Q I r h
 obtain ⟨j, rfl, q⟩ := h
 obtain ⟨u, rfl, ru⟩ := r.one
 obtain ⟨t, rfl⟩ := ru
 refine call_range_1 ⟨.ref _, _, I.laid (fun b o e => Heap.get?_push_of_some _ e) (Nat.le_refl _) ?_, rfl, q _ I.fresh⟩
 exact ⟨_, _, _, Heap.get?_push_size _ rfl⟩
def rListR : List V → Hp → VK → Prop := fun xs H Q => ∃ (p : Addr) (n : Nat), xs = [.ref p] ∧ H p = some (.rng 0 (n : Int)) ∧ n ≤ 1000 ∧ ∀ l, H l = none → Q (.ref l) (upd H l (.lst ((List.range n).map fun (i : Nat) => V.int (i : Int))))
theorem call_listRng (hc : X.calm = true) : yq X (.type "list") rListR := by
 intro pins s σ H xs us Q I r h
 obtain ⟨p, n, rfl, hp, hn, q⟩ := h
 obtain ⟨u, rfl, ru⟩ := r.one
 cases ru
 obtain ⟨t, u, v, e⟩ := I.hok p _ hp
 refine call_list_range (n := n) (I.ok.hd hc) e (small_one (by omega) (by omega) (by omega) (by omega)) (by rw [rangeSize_one]; split <;> omega) (by omega) fun h' tk acc' c' hk hS hacc => ?_
 refine ⟨.ref _, _, I.laid (t' := tk) hk (Nat.le_refl _) ?_, rfl, q _ I.fresh⟩
 obtain ⟨hsz, hit⟩ := hacc
 refine ⟨by rw [List.length_map, List.length_range]; exact Nat.le_of_lt (zn hn), acc'.toList, c', Ym (by simp [hsz]) fun j x u ex eu => ?_, hS⟩
 have hj : j < n := by
  have := (List.getElem?_eq_some_iff.mp ex).1
  simpa using this
 rw [List.getElem?_map, List.getElem?_range hj] at ex
 have ex' : V.int (j : Int) = x := Option.some.inj ex
 subst ex'
 obtain ⟨t, ht⟩ := hit j u (by simpa using eu)
 exact ⟨t, by rw [ht]; congr 1; omega⟩
end
section
variable {prog : Program} {w : World} {A : Around} {E : Value → Shared → Prop} {s : Shared}
theorem xk {j t : Addr} {i : Nat} {its : Array Value} {v : Value} {Q : Value → Shared → Prop} (J : s.heap.IsTupleIter j t i) (T : s.heap.IsTuple t its) (e : its[i]? = some v)
  (k : ∀ h', h'.IsTupleIter j t (i + 1) → Heap.SameBut j s.heap h' → Q v { s with heap := h' }) : wpAny (model prog w) A (Builtin.SmallTypes.nextOf (.ref j)) Q E s := by
 obtain ⟨o, ho, hc, hd⟩ := id J; obtain ⟨ot, hot, _, n, hdt⟩ := T
 unfold Builtin.SmallTypes.nextOf; refine wpAny_bind (wpAny_callSpecial?_slot (name := Str.ofString "__next__") J.typeIs F.slot_tuple_iterator_next (wpAny_call_entry F.slot_tuple_iterator_next J.typeIs F.entry_tuple_iterator_next ?_ (F.args_tuple_iterator_next_1 _)))
 show wpAny _ _ (field (.ref j) 0 >>= _) _ _ s; refine wpAny_bind (wpAny_field ho hd (x := .ref t) rfl ?_)
 show wpAny _ _ (if (Value.ref t == Value.none) = true then _ else _) _ _ s; rw [if_neg (show ¬ ((Value.ref t == Value.none) = true) from Bool.false_ne_true)]
 show wpAny _ _ (field (.ref j) 1 >>= _) _ _ s; refine wpAny_bind (wpAny_field ho hd (x := .int i 0) rfl ?_)
 show wpAny _ _ (seqItems? (.ref t) >>= _) _ _ s; refine wpAny_bind (wpAny_seqItems hot hdt ?_)
 simp only [Int.toNat_natCast, e]
 refine wpAny_bind (wpAny_setField ho hd (by simp) (wpAny_pure ⟨v, rfl, wpAny_pure (k _ ?_ (Heap.SameBut.update ..))⟩))
 exact ⟨_, Heap.get?_update_self _ ho (Obj.isFreed_of_fields (Obj.data_mapFields hd _)), (Obj.cls_mapFields ..).trans hc, by rw [Obj.data_mapFields hd]; simp [rawInt]⟩
theorem wy {j t : Addr} {i : Nat} {its : Array Value} {Q : Value → Shared → Prop} (hh : A.handled = none) (J : s.heap.IsTupleIter j t i) (T : s.heap.IsTuple t its) (e : its[i]? = none)
  (k : ∀ h' x, Heap.ExtBut j s.heap h' → (∃ o, h'.get? x = some o ∧ o.cls = .type "StopIteration") → E (.ref x) { s with heap := h' }) : wpAny (model prog w) A (Builtin.SmallTypes.nextOf (.ref j)) Q E s := by
 obtain ⟨o, ho, hc, hd⟩ := id J; obtain ⟨ot, hot, _, n, hdt⟩ := T
 unfold Builtin.SmallTypes.nextOf; refine wpAny_bind (wpAny_callSpecial?_slot (name := Str.ofString "__next__") J.typeIs F.slot_tuple_iterator_next (wpAny_call_entry F.slot_tuple_iterator_next J.typeIs F.entry_tuple_iterator_next ?_ (F.args_tuple_iterator_next_1 _)))
 show wpAny _ _ (field (.ref j) 0 >>= _) _ _ s; refine wpAny_bind (wpAny_field ho hd (x := .ref t) rfl ?_)
 show wpAny _ _ (if (Value.ref t == Value.none) = true then _ else _) _ _ s; rw [if_neg (show ¬ ((Value.ref t == Value.none) = true) from Bool.false_ne_true)]
 show wpAny _ _ (field (.ref j) 1 >>= _) _ _ s; refine wpAny_bind (wpAny_field ho hd (x := .int i 0) rfl ?_)
 show wpAny _ _ (seqItems? (.ref t) >>= _) _ _ s; refine wpAny_bind (wpAny_seqItems hot hdt ?_)
 simp only [Int.toNat_natCast, e]; refine wpAny_bind (wpAny_rule (wpAny_bind (wpAny_setField ho hd (by simp) ?_)))
 show wpAny _ _ (newExc (.type "StopIteration") [] >>= _) _ _ _; refine wpAny_bind ?_; simp only [newExc, newTuple]
 refine wpAny_bind (wpAny_newObj_type ?_ (by size_fits)); refine wpAny_bind (m := firstArgMember _ _) (wpAny_of_eq (a := Value.none) (by first | rfl | (simp only [firstArgMember]; rfl)) ?_)
 refine wpAny_newObj_type ?_ (by size_fits); simp only [raiseNew]; refine wpAny_bind (wpAny_handled ?_)
 (first | rw [show A.in1.handled = none from hh] | rw [hh]); refine wpAny_bind (wpAny_pure (wpAny_throw ?_)); exact k _ _ (((Heap.SameBut.update ..).extBut.push _).push _) ⟨_, Heap.get?_push_size _ rfl, rfl⟩
theorem Zd (hh : A.handled = none) (j t : Addr) (ne : t ≠ j) (its : Array Value) : Draws prog w A j [j, t] its.size (fun i v => its[i]? = some v) (fun i h => h.IsTupleIter j t i ∧ h.IsTuple t its) where
 live := fun _ _ q => let ⟨o, e, _⟩ := q.1; ⟨o, e⟩
 frame := fun _ _ _ q hk => ⟨q.1.at fun o e => hk j (by simp) o e, let ⟨o, e, r⟩ := q.2; ⟨o, hk t (by simp) o e, r⟩⟩
 item := fun i s Q E hi q k => xk q.1 q.2 (v := its[i]) (by simp [hi]) fun h' J' sb => k _ h' s.toks (by simp [hi]) ⟨J', let ⟨o, e, r⟩ := q.2; ⟨o, sb.extBut t o ne e, r⟩⟩ sb
 done := fun s Q E q k => wy hh q.1 q.2 (by simp) k
abbrev enuH (h : Heap) (t : Addr) : Heap := h.push { cls := .type "tuple_iterator", data := .fields #[.ref t, .int 0 0] }
abbrev enuH2 (h : Heap) (t : Addr) : Heap := (enuH h t).push { cls := .type "enumerate", data := .fields #[.none, .bool false, .ref h.objs.size, rawInt 0, .none, .none] }
theorem enu_new (t : Addr) (its : Array Value) : Meets (Builtin.«enumerate.__new__» ⟨[.type "enumerate", .ref t], []⟩) (fun _ R s => s.heap.IsTuple t its ∧ R (.ok (.ret (.ref (enuH s.heap t).objs.size))) { s with heap := enuH2 s.heap t }) :=
 .of_wp fun prog w A R s h => by
  obtain ⟨hp, g, d, tk, os⟩ := s; obtain ⟨hT, h⟩ := h
  have hsub := sub_enumerate; obtain ⟨o, ho, hc, n, hd⟩ := id hT
  have hT' : Heap.IsTuple (Shared.heap ⟨hp, g, d, tk, os⟩) t its := hT
  obtain ⟨c, dct, dt, sl⟩ := o
  replace hc : c = .type "tuple" := hc
  replace hd : dt = .seq its n := hd
  subst hc hd
  wp_walk using AutoSeq1.wpAny_loadPart' ho
  refine wpAny_stack_any fun st => wpAny_pure ?_; split
  ·rename_i cl _ _ _ _ _; cases (cl == Value.type "enumerate")
   ·wp_walk using AutoSeq1.wpAny_loadPart' ho, wpAny_pyIter_tuple hT'; exact ⟨_, rfl, h⟩
   ·wp_walk using AutoSeq1.wpAny_loadPart' ho, wpAny_pyIter_tuple hT'; exact ⟨_, rfl, h⟩
  ·wp_walk using AutoSeq1.wpAny_loadPart' ho, wpAny_pyIter_tuple hT'; exact ⟨_, rfl, h⟩
theorem call_enu {t : Addr} {its : Array Value} {Q : Value → Shared → Prop} (hT : s.heap.IsTuple t its)
  (k : ∀ h', IsEnum h' (s.heap.objs.size + 1) s.heap.objs.size 0 .none → h'.IsTupleIter s.heap.objs.size t 0 → (∀ b o, s.heap.get? b = some o → h'.get? b = some o) → Q (.ref (s.heap.objs.size + 1)) { s with heap := h' }) :
  wpAny (model prog w) A (call (.type "enumerate") [.ref t]) Q E s := by
 refine callType_new F.called_enumerate (by decide) (F.typeCall_enumerate_1 _) (F.newCall_enumerate_1 _) (fun obj => F.args_object_init_2 obj _) F.entry_enumerate_new (enu_new t its) ⟨hT, ?_⟩
 have z1 : (enuH s.heap t).objs.size = s.heap.objs.size + 1 := Heap.size_push ..
 have he := Heap.get?_push_size (enuH s.heap t) (o := { cls := .type "enumerate", data := .fields #[.none, .bool false, .ref s.heap.objs.size, rawInt 0, .none, .none] }) rfl
 show _ ∧ _
 rw [z1] at he ⊢
 exact ⟨⟨_, he, rfl⟩, k _ he ⟨_, Heap.get?_push_of_some _ (Heap.get?_push_size _ rfl), rfl, rfl⟩ fun b o x => Heap.get?_push_of_some _ (Heap.get?_push_of_some _ x)⟩
end
section
variable {X : Cx} {pins : List (Addr × Obj)} {σ : St} {H : Hp} {s : Shared}
theorem Inv.turnNew {h' : Heap} {tk : Nat} {ch : List Addr} {T : Addr} {xs : List V} {vals : List Value} (I : Inv X pins σ H s) (hf : ∀ b ∈ ch, FpOk X pins H b) (k : ∀ b o, b ∉ ch → s.heap.get? b = some o → h'.get? b = some o) (ht : ∀ b ∈ ch, ∃ o, h'.get? b = some o)
  (hT : s.heap.objs.size ≤ T) (r : Vals xs vals) (hz : xs.length ≤ sizeLine) (hv : h'.IsTuple T vals.toArray) : Inv X pins σ (upd H T (.tup xs)) { s with heap := h', toks := tk } := by
 have hn : H T = none := I.hok.fresh hT
 have nT : ∀ b o, s.heap.get? b = some o → b ≠ T := fun b o e z => absurd (Nat.lt_of_lt_of_le (Heap.lt_size e) (z ▸ hT)) (Nat.lt_irrefl _)
 have nc : ∀ b u, H b = some u → b ∉ ch := fun b u e z => by rw [(hf b z).1] at e; cases e
 refine I.step (g' := s.gens) (d' := s.drawn) (ch := ch) (fun b hb => ⟨(hf b hb).2.2.2.1, (hf b hb).2.1, (hf b hb).2.2.2.2.1, (hf b hb).2.2.2.2.2⟩) (fun b o _ _ hc e _ => k b o hc e) (fun b o _ _ hc e _ => ⟨o.slots, k b o hc e⟩)
  (fun b o _ e n => by rw [zi (nT b o e)]; exact n) (fun b o hc e => ⟨o, k b o hc e⟩) (fun b ys e => by rw [zi (zh e hn)]; exact e) (fun b o u e => by rw [zi (zh e hn)]; exact e)
  (fun b ps e => ⟨#[], by rw [zi (zh e hn), e]; simp⟩) (fun m hm => ?_) (fun b u e => ?_) I.bare
 ·obtain ⟨o, es, ep, ho, q⟩ := hm
  exact ⟨o, es, ep, k _ o (fun z => (hf _ z).2.1 rfl) ho, q⟩
 ·by_cases hb : b = T
  ·subst hb
   rw [ze] at e
   cases e
   exact ⟨hz, vals, r, hv⟩
  ·rw [zi hb] at e
   refine (I.hok b u e).stay (fun c v hc q => k c v ?_ q) (fun c q => by rw [zi (zh q hn)]; exact q) fun c ys q => by rw [zi (zh q hn)]; exact q
   rcases hc with z | z
   ·rw [z]; exact nc b u e
   ·exact nc c _ z
theorem Inv.turnOnly {h' : Heap} {tk : Nat} {ch : List Addr} (I : Inv X pins σ H s) (hf : ∀ b ∈ ch, FpOk X pins H b) (k : ∀ b o, b ∉ ch → s.heap.get? b = some o → h'.get? b = some o) : Inv X pins σ H { s with heap := h', toks := tk } := by
 have nc : ∀ b u, H b = some u → b ∉ ch := fun b u e z => by rw [(hf b z).1] at e; cases e
 refine I.step (g' := s.gens) (d' := s.drawn) (ch := ch) (fun b hb => ⟨(hf b hb).2.2.2.1, (hf b hb).2.1, (hf b hb).2.2.2.2.1, (hf b hb).2.2.2.2.2⟩) (fun b o _ _ hc e _ => k b o hc e) (fun b o _ _ hc e _ => ⟨o.slots, k b o hc e⟩)
  (fun b o _ e n => n) (fun b o hc e => ⟨o, k b o hc e⟩) (fun b ys e => e) (fun b o u e => e) (fun b ps e => ⟨#[], by rw [e]; simp⟩) (fun m hm => ?_) (fun b u e => ?_) I.bare
 ·obtain ⟨o, es, ep, ho, q⟩ := hm
  exact ⟨o, es, ep, k _ o (fun z => (hf _ z).2.1 rfl) ho, q⟩
 ·refine (I.hok b u e).stay (fun c v hc q => k c v ?_ q) (fun c q => q) fun c ys q => q
  rcases hc with z | z
  ·rw [z]; exact nc b u e
  ·exact nc c _ z
end
def Ite (K : W.Frag) (a : Addr) : It :=
 ⟨fun i H => ∃ xs x, SqT K H a xs ∧ xs[i]? = some x, fun i H v H' => ∃ p x, v = .ref p ∧ H p = none ∧ H' = upd H p (.tup [.int (i : Int), x]) ∧ ∀ xs, SqT K H a xs → xs[i]? = some x, fun i H => ∃ xs, SqT K H a xs ∧ xs.length = i⟩
theorem turn_enu {P : Program} {w : World} {K : W.Frag} {es : List Expr} {kt : Nat} {pt : Pos} (a e it : Addr) (hei : e ≠ it) (hai : a ≠ it) (hae : a ≠ e) :
  Turn P w K (.Tuple es kt pt) (Ite K a) [e, it] e (fun i h => (∃ old, IsEnum h e it i old) ∧ h.IsTupleIter it a i) where
 mem := by simp
 obj := fun i h st b hb => by
  obtain ⟨⟨old, he⟩, o, eo, c, d⟩ := st
  rcases List.mem_cons.mp hb with rfl | hq
  ·exact ⟨_, he, fun v z => by have z' : Data.fields _ = Data.cell v := z; cases z'⟩
  ·rw [List.mem_singleton.mp hq]; exact ⟨o, eo, fun v z => by rw [d] at z; cases z⟩
 keep := fun i h h' st k => ⟨let ⟨old, he⟩ := st.1; ⟨old, k e (by simp) _ he⟩, st.2.at fun o x => k it (by simp) o x⟩
 item := by
  intro X hP hw hK hc i pins s σ H E I hf st hg
  subst hP hw hK
  obtain ⟨xs, x, hq, hx⟩ := hg
  obtain ⟨its, rv, p, hz⟩ := I.tuple hq
  obtain ⟨u, hu, ru⟩ := rv.get hx
  have W := WalksT.enumerateD (Zd (prog := X.prog) (w := X.w) (A := X.A.in1) (I.ok.hd hc) it a hai its.toArray) e hei (by simp [hei, Ne.symm hae]) (by simp)
  have hi : i < its.toArray.size := by
   have := (List.getElem?_eq_some_iff.mp hu).1
   simpa using this
  refine W.item i s _ E hi ⟨st.1, st.2, p⟩ fun T vals h' tk hP hsz hT hM hk => ⟨.ref T, rfl, ?_⟩
  obtain ⟨t, x', hx', rfl⟩ := hP
  have ex : x' = u := by
   have : its[i]? = some x' := by simpa using hx'
   rw [this] at hu
   exact Option.some.inj hu
  subst ex
  refine W.go es kt pt i T { s with heap := h', toks := tk } _ E hM fun h'' hst hk2 => ?_
  obtain ⟨⟨old2, he2⟩, hit2, _⟩ := hst
  have hTw := W.apart i T h' hM
  obtain ⟨oT, eT, cT⟩ := hT
  have I2 : Inv X pins σ (upd H T (.tup [.int (i : Int), x])) { s with heap := h'', toks := tk } := I.turnNew (ch := [e, it]) hf (fun b o hb q => hk2 b o hb (hk b o hb q)) (fun b hb => by
   rcases List.mem_cons.mp hb with rfl | hq
   ·exact ⟨_, he2⟩
   ·rw [List.mem_singleton.mp hq]; obtain ⟨o, eo, _⟩ := hit2; exact ⟨o, eo⟩) hsz (vals := [.int i t, x']) (.cons ⟨t, rfl⟩ (.cons ru .nil)) (sz2) ⟨oT, hk2 T oT hTw eT, cT⟩
  refine ⟨.ref T, _, I2, rfl, ⟨T, x, rfl, I.hok.fresh hsz, rfl, fun ys hy => by rw [I.tuple_inj hy hq]; exact hx⟩, ⟨⟨old2, he2⟩, hit2⟩, fun b hb => ?_⟩
  rw [zi (fun z => hTw (by rw [← z]; exact hb))]
  exact (hf b hb).1
 done := by
  intro X hP hw hK hc i pins s σ H E I hf st hg
  subst hP hw hK
  obtain ⟨xs, hq, hx⟩ := hg
  obtain ⟨its, rv, p, hz⟩ := I.tuple hq
  have hl := rv.length
  have W := WalksT.enumerateD (Zd (prog := X.prog) (w := X.w) (A := X.A.in1) (I.ok.hd hc) it a hai its.toArray) e hei (by simp [hei, Ne.symm hae]) (by simp)
  have ei : i = its.toArray.size := by rw [List.size_toArray]; omega
  subst ei
  exact W.done s _ E ⟨st.1, st.2, p⟩ fun h' tk hk => ⟨rfl, I.turnOnly hf hk⟩
 self := fun _ _ s _ _ st h => by
  obtain ⟨⟨old, he⟩, _⟩ := st
  exact wpAny_pyIter_enum he h
section
variable {X : Cx} {es : List Expr} {kt : Nat} {pt : Pos}
def iEnu (K : W.Frag) (ta : TA) : TI := fun σ H R => ta σ H fun vs H1 => ∃ a, vs = [.ref a] ∧ (∃ xs, SqT K H1 a xs) ∧ R (Ite K a) H1
theorem pi_enu {e : Expr} {ta : TA} {p pos : Pos} (hm : X.mg "enumerate" = none) (ha : PA X [e] ta) (hg : Gl X "enumerate" := by rfl) (h : zW e = false := by rfl) : PI X (.Tuple es kt pt) (.Call (.Name "enumerate" p) [e] [] pos) (iEnu X.K ta) := by
 intro pins s σ H R I hh
 refine Call_ (xn I hg hm boot_enumerate (PyProof.Rows.callWith_type1 (thn (ha pos pins s σ H _ I hh) fun us s1 ⟨vs, H1, I1, r1, q1⟩ => ?_) (xp h) rfl))
 obtain ⟨a, rfl, ⟨xs, hq⟩, q⟩ := q1
 obtain ⟨u, rfl, ru⟩ := r1.one
 cases ru
 obtain ⟨its, rv, pl, hz⟩ := I1.tuple hq
 have hlt : a < s1.heap.objs.size := by
  obtain ⟨o, eo, _⟩ := pl
  exact Heap.lt_size eo
 refine call_enu (its := its.toArray) pl fun h' he hi hk => wpAny_pyIter_enum he ?_
 refine ⟨_, [s1.heap.objs.size + 1, s1.heap.objs.size], _, _, H1, rfl, I1.kept (t' := s1.toks) hk, turn_enu a (s1.heap.objs.size + 1) s1.heap.objs.size (Nat.succ_ne_self _) (Nat.ne_of_lt hlt) (Nat.ne_of_lt (Nat.lt_of_lt_of_le hlt (Nat.le_succ _))), ⟨⟨_, he⟩, hi⟩, fun b hb => ?_, q⟩
 have hb' : s1.heap.objs.size ≤ b := by
  rcases List.mem_cons.mp hb with z | z
  ·rw [z]; exact Nat.le_succ _
  ·rw [List.mem_singleton.mp z]
   exact Nat.le_refl _
 exact I1.fpOk hb' (I1.hok.fresh hb')
end
section
variable {prog : Program} {w : World} {A : Around} {E : Value → Shared → Prop} {s : Shared}
theorem tupX {h h' : Heap} {t a : Addr} {its : Array Value} (T : h.IsTuple t its) (x : Heap.ExtBut a h h') (n : t ≠ a) : h'.IsTuple t its := let ⟨o, e, r⟩ := T; ⟨o, x t o n e, r⟩
theorem tupJ {h h' : Heap} {j t a : Addr} {i : Nat} (J : h.IsTupleIter j t i) (x : Heap.ExtBut a h h') (n : j ≠ a) : h'.IsTupleIter j t i := J.at fun o e => x j o n e
theorem zipT_item {z TI TO i1 i2 l1 l2 : Addr} {k1 k2 : Nat} {xs ys : Array Value} {x y a b : Value} {Q : Value → Shared → Prop} (D : ZipApart z TI TO i1 i2 l1 l2) (hz : IsZip s.heap z TI TO .none) (hTI : IsPair s.heap TI (.ref i1) (.ref i2)) (hTO : IsPair s.heap TO a b)
  (h1 : s.heap.IsTupleIter i1 l1 k1) (h2 : s.heap.IsTupleIter i2 l2 k2) (hl1 : s.heap.IsTuple l1 xs) (hl2 : s.heap.IsTuple l2 ys) (hx : xs[k1]? = some x) (hy : ys[k2]? = some y)
  (hQ : ∀ h', IsZip h' z TI TO (rawInt s.heap.objs.size) → IsPair h' TO x y → h'.IsTupleIter i1 l1 (k1 + 1) → h'.IsTupleIter i2 l2 (k2 + 1) → IsPair h' s.heap.objs.size x y →
   (∀ d o, d ≠ z → d ≠ TO → d ≠ i1 → d ≠ i2 → s.heap.get? d = some o → h'.get? d = some o) → Q (.ref s.heap.objs.size) { s with heap := h' }) :
  wpAny (model prog w) A (Builtin.«zip.__next__» ⟨[.ref z], []⟩) (fun f s' => ∃ v, f = .done (.ret v) ∧ Q v s') E s := by
 show wpAny _ _ (field (.ref z) 2 >>= _) _ _ _; refine wpAny_bind (wpAny_field hz rfl (x := .bool false) rfl ?_)
 show wpAny _ _ (field (.ref z) 3 >>= _) _ _ _; refine wpAny_bind (wpAny_field hz rfl (x := .ref TI) rfl ?_)
 refine wpAny_bind (wpAny_seqItems hTI rfl ?_); show wpAny _ _ (Builtin.SmallTypes.ownedTupleIsFree (.ref z) >>= _) _ _ _
 refine wpAny_bind ?_; unfold Builtin.SmallTypes.ownedTupleIsFree
 refine wpAny_bind (wpAny_field hz rfl (x := .none) rfl (wpAny_pure ?_)); simp only [if_true]
 refine wpAny_bind (wpAny_rule ?_); refine wpAny_bind (wpAny_field hz rfl (x := .ref TO) rfl ?_)
 refine wpAny_bind (wpAny_setField_rec hz (by simp) fun g1 zz1 s1 => ?_); replace zz1 : IsZip g1 z TI TO .ellipsis := zz1
 refine wpAny_bind ?_; simp only [List.zipIdx_cons, List.zipIdx_nil, List.forIn_cons, List.forIn_nil]
 refine wpAny_bind (wpAny_bind (wpAny_onRaise ?_)); show wpAny _ _ (Builtin.SmallTypes.nextOf (.ref i1) >>= _) _ _ _
 refine wpAny_bind (xk (tupJ h1 s1.extBut D.i1z) (tupX hl1 s1.extBut D.l1z) hx fun g2 j2 s2 => wpAny_pure ?_)
 have o2 : IsPair g2 TO a b := s2.extBut _ _ D.TOi1 (s1.extBut _ _ D.TOz hTO)
 refine wpAny_bind (wpAny_seqItems o2 rfl ?_); refine wpAny_bind (wpAny_updateSeq_pair o2 fun g3 o3 s3 => ?_); replace o3 : IsPair g3 TO x b := o3
 refine wpAny_bind (wpAny_letGo (wpAny_pure ?_)); refine wpAny_bind (wpAny_bind (wpAny_onRaise ?_)); show wpAny _ _ (Builtin.SmallTypes.nextOf (.ref i2) >>= _) _ _ _
 refine wpAny_bind (xk (tupJ (tupJ (tupJ h2 s1.extBut D.i2z) s2.extBut D.i12.symm) s3.extBut D.TOi2.symm) (tupX (tupX (tupX hl2 s1.extBut D.l2z) s2.extBut D.l2i1) s3.extBut D.l2TO) hy fun g4 j4 s4 => wpAny_pure ?_)
 have o4 : IsPair g4 TO x b := s4.extBut _ _ D.TOi2 o3
 refine wpAny_bind (wpAny_seqItems o4 rfl ?_); refine wpAny_bind (wpAny_updateSeq_pair o4 fun g5 o5 s5 => ?_); replace o5 : IsPair g5 TO x y := o5
 refine wpAny_bind (wpAny_letGo (wpAny_pure (wpAny_pure ?_))); refine wpAny_bind (wpAny_seqItems o5 rfl ?_); refine wpAny_bind (wpAny_newTuple ?_)
 have sz : g5.objs.size = s.heap.objs.size := by rw [s5.1, s4.1, s3.1, s2.1, s1.1]
 have z5 : IsZip g5 z TI TO .ellipsis := s5.extBut _ _ D.TOz.symm (s4.extBut _ _ D.i2z.symm (s3.extBut _ _ D.TOz.symm (s2.extBut _ _ D.i1z.symm zz1)))
 have k5 : ∀ c o, c ≠ z → c ≠ TO → c ≠ i1 → c ≠ i2 → s.heap.get? c = some o → g5.get? c = some o := fun c o c1 c2 c3 c4 q => s5.extBut _ _ c2 (s4.extBut _ _ c4 (s3.extBut _ _ c2 (s2.extBut _ _ c3 (s1.extBut _ _ c1 q))))
 have a5 : g5.IsTupleIter i1 l1 (k1 + 1) := tupJ (tupJ (tupJ j2 s3.extBut D.TOi1.symm) s4.extBut D.i12) s5.extBut D.TOi1.symm
 have b5 : g5.IsTupleIter i2 l2 (k2 + 1) := tupJ j4 s5.extBut D.TOi2.symm
 have zlt : z < g5.objs.size := Heap.lt_size z5
 show wpAny _ _ (Builtin.SmallTypes.ownedTupleHandOut (.ref z) (.ref g5.objs.size) >>= _) _ _ _; refine wpAny_bind ?_; unfold Builtin.SmallTypes.ownedTupleHandOut
 have z6 : IsZip (g5.push { cls := .type "tuple", data := .seq #[x, y] }) z TI TO .ellipsis := Heap.get?_push_of_some _ z5
 refine wpAny_bind (wpAny_setField_rec z6 (by simp) fun g7 z7 s7 => ?_); replace z7 : IsZip g7 z TI TO (rawInt g5.objs.size) := z7
 refine wpAny_setField_rec z7 (by simp) fun g8 z8 s8 => ?_; replace z8 : IsZip g8 z TI TO (rawInt g5.objs.size) := z8
 have up : ∀ c o, c ≠ z → g5.get? c = some o → g8.get? c = some o := fun c o c1 q => s8.extBut _ _ c1 (s7.extBut _ _ c1 (Heap.get?_push_of_some _ q))
 have t8 : IsPair g8 g5.objs.size x y := s8.extBut _ _ (Nat.ne_of_gt zlt) (s7.extBut _ _ (Nat.ne_of_gt zlt) (Heap.get?_push_size _ rfl))
 rw [sz] at z8 t8; refine wpAny_pure ⟨_, rfl, ?_⟩; show Q (.ref g5.objs.size) _; rw [sz]
 exact hQ g8 z8 (up _ _ D.TOz o5) (a5.at fun o q => up _ o D.i1z q) (b5.at fun o q => up _ o D.i2z q) t8 fun c o c1 c2 c3 c4 q => up c o c1 (k5 c o c1 c2 c3 c4 q)
theorem zipT_end {z TI TO i1 i2 l1 l2 : Addr} {k1 k2 : Nat} {xs ys : Array Value} {a b : Value} {Q : Fin → Shared → Prop} (hh : A.handled = none) (D : ZipApart z TI TO i1 i2 l1 l2) (hz : IsZip s.heap z TI TO .none) (hTI : IsPair s.heap TI (.ref i1) (.ref i2)) (hTO : IsPair s.heap TO a b)
  (h1 : s.heap.IsTupleIter i1 l1 k1) (h2 : s.heap.IsTupleIter i2 l2 k2) (hl1 : s.heap.IsTuple l1 xs) (hl2 : s.heap.IsTuple l2 ys) (hend : xs[k1]? = none ∨ ys[k2]? = none)
  (hE : ∀ h' e, (∀ d o, d ≠ z → d ≠ TO → d ≠ i1 → d ≠ i2 → s.heap.get? d = some o → h'.get? d = some o) → (∃ o, h'.get? e = some o ∧ o.cls = .type "StopIteration") → E (.ref e) { s with heap := h' }) : wpAny (model prog w) A (Builtin.«zip.__next__» ⟨[.ref z], []⟩) Q E s := by
 show wpAny _ _ (field (.ref z) 2 >>= _) _ _ _; refine wpAny_bind (wpAny_field hz rfl (x := .bool false) rfl ?_)
 show wpAny _ _ (field (.ref z) 3 >>= _) _ _ _; refine wpAny_bind (wpAny_field hz rfl (x := .ref TI) rfl ?_)
 refine wpAny_bind (wpAny_seqItems hTI rfl ?_); show wpAny _ _ (Builtin.SmallTypes.ownedTupleIsFree (.ref z) >>= _) _ _ _
 refine wpAny_bind ?_; unfold Builtin.SmallTypes.ownedTupleIsFree
 refine wpAny_bind (wpAny_field hz rfl (x := .none) rfl (wpAny_pure ?_)); simp only [if_true]
 refine wpAny_bind (wpAny_rule ?_); refine wpAny_bind (wpAny_field hz rfl (x := .ref TO) rfl ?_)
 refine wpAny_bind (wpAny_setField_rec hz (by simp) fun g1 zz1 s1 => ?_); replace zz1 : IsZip g1 z TI TO .ellipsis := zz1
 refine wpAny_bind ?_; simp only [List.zipIdx_cons, List.zipIdx_nil, List.forIn_cons, List.forIn_nil]
 refine wpAny_bind (wpAny_bind (wpAny_onRaise ?_)); show wpAny _ _ (Builtin.SmallTypes.nextOf (.ref i1) >>= _) _ _ _
 cases hx : xs[k1]? with
 | none =>
  refine wpAny_bind (wy hh (tupJ h1 s1.extBut D.i1z) (tupX hl1 s1.extBut D.l1z) hx fun g2 e s2 he => ?_)
  obtain ⟨oe, hoe, hce⟩ := he; have z2 : IsZip g2 z TI TO .ellipsis := s2 _ _ D.i1z.symm zz1
  have ez : e ≠ z := fun q => by subst q; rw [z2] at hoe; cases hoe; simp at hce
  refine wpAny_setField_rec z2 (by simp) fun g3 _ s3 => hE g3 e (fun c o c1 _ c3 _ q => s3.extBut _ _ c1 (s2 _ _ c3 (s1.extBut _ _ c1 q))) ⟨oe, s3.extBut _ _ ez hoe, hce⟩
 | some x =>
  have hy : ys[k2]? = none := by rcases hend with q | q; rw [hx] at q; cases q; exact q
  refine wpAny_bind (xk (tupJ h1 s1.extBut D.i1z) (tupX hl1 s1.extBut D.l1z) hx fun g2 j2 s2 => wpAny_pure ?_)
  have o2 : IsPair g2 TO a b := s2.extBut _ _ D.TOi1 (s1.extBut _ _ D.TOz hTO)
  refine wpAny_bind (wpAny_seqItems o2 rfl ?_); refine wpAny_bind (wpAny_updateSeq_pair o2 fun g3 o3 s3 => ?_); refine wpAny_bind (wpAny_letGo (wpAny_pure ?_))
  refine wpAny_bind (wpAny_bind (wpAny_onRaise ?_)); show wpAny _ _ (Builtin.SmallTypes.nextOf (.ref i2) >>= _) _ _ _
  refine wpAny_bind (wy hh (tupJ (tupJ (tupJ h2 s1.extBut D.i2z) s2.extBut D.i12.symm) s3.extBut D.TOi2.symm) (tupX (tupX (tupX hl2 s1.extBut D.l2z) s2.extBut D.l2i1) s3.extBut D.l2TO) hy fun g4 e s4 he => ?_)
  obtain ⟨oe, hoe, hce⟩ := he; have z4 : IsZip g4 z TI TO .ellipsis := s4 _ _ D.i2z.symm (s3.extBut _ _ D.TOz.symm (s2.extBut _ _ D.i1z.symm zz1))
  have ez : e ≠ z := fun q => by subst q; rw [z4] at hoe; cases hoe; simp at hce
  refine wpAny_setField_rec z4 (by simp) fun g5 _ s5 => hE g5 e (fun c o c1 c2 c3 c4 q => s5.extBut _ _ c1 (s4 _ _ c4 (s3.extBut _ _ c2 (s2.extBut _ _ c3 (s1.extBut _ _ c1 q))))) ⟨oe, s5.extBut _ _ ez hoe, hce⟩
abbrev zpH1 (h : Heap) (a : Addr) : Heap := h.push { cls := .type "tuple_iterator", data := .fields #[.ref a, .int 0 0] }
abbrev zpH2 (h : Heap) (a b : Addr) : Heap := (zpH1 h a).push { cls := .type "tuple_iterator", data := .fields #[.ref b, .int 0 0] }
abbrev zpH3 (h : Heap) (a b : Addr) : Heap := (zpH2 h a b).push { cls := .type "tuple", data := .seq #[.ref h.objs.size, .ref (zpH1 h a).objs.size] }
abbrev zpH4 (h : Heap) (a b : Addr) : Heap := (zpH3 h a b).push { cls := .type "tuple", data := .seq #[.none, .none] }
abbrev zpH5 (h : Heap) (a b : Addr) : Heap := (zpH4 h a b).push { cls := .type "zip", data := .fields #[.none, .bool false, .bool false, .ref (zpH2 h a b).objs.size, .ref (zpH3 h a b).objs.size] }
theorem zp_new (a b : Addr) (xs ys : Array Value) : Meets (Builtin.«zip.__new__» ⟨[.type "zip", .ref a, .ref b], []⟩) (fun _ R s => s.heap.IsTuple a xs ∧ s.heap.IsTuple b ys ∧ R (.ok (.ret (.ref (zpH4 s.heap a b).objs.size))) { s with heap := zpH5 s.heap a b }) :=
 .of_wp fun prog w A R s h => by
  obtain ⟨hp, g, d, tk, os⟩ := s; obtain ⟨hA, hB, h⟩ := h; have hsub := sub_zip
  have tA : Heap.IsTuple (Shared.heap ⟨hp, g, d, tk, os⟩) a xs := hA
  have tB : Heap.IsTuple (Shared.heap ⟨hp.push { cls := .type "tuple_iterator", data := .fields #[.ref a, .int 0 0] }, g, d, tk, os⟩) b ys := let ⟨o, e, r⟩ := hB; ⟨o, Heap.get?_push_of_some _ e, r⟩
  wp_walk using wpAny_pyIter_tuple tA, wpAny_pyIter_tuple tB
  exact ⟨_, rfl, h⟩
theorem call_zp {a b : Addr} {xs ys : Array Value} {Q : Value → Shared → Prop} (hA : s.heap.IsTuple a xs) (hB : s.heap.IsTuple b ys)
  (k : ∀ h', IsZip h' (s.heap.objs.size + 4) (s.heap.objs.size + 2) (s.heap.objs.size + 3) .none → IsPair h' (s.heap.objs.size + 2) (.ref s.heap.objs.size) (.ref (s.heap.objs.size + 1)) → IsPair h' (s.heap.objs.size + 3) .none .none →
   h'.IsTupleIter s.heap.objs.size a 0 → h'.IsTupleIter (s.heap.objs.size + 1) b 0 → (∀ c o, s.heap.get? c = some o → h'.get? c = some o) → Q (.ref (s.heap.objs.size + 4)) { s with heap := h' }) :
  wpAny (model prog w) A (call (.type "zip") [.ref a, .ref b]) Q E s := by
 refine callType_new F.called_zip (by decide) (F.typeCall_zip_2 _ _) (F.newCall_zip_2 _ _) (fun obj => F.args_object_init_3 obj _ _) F.entry_zip_new (zp_new a b xs ys) ⟨hA, hB, ?_⟩
 have z1 : (zpH1 s.heap a).objs.size = s.heap.objs.size + 1 := Heap.size_push ..
 have z2 : (zpH2 s.heap a b).objs.size = s.heap.objs.size + 2 := by rw [Heap.size_push, z1]
 have z3 : (zpH3 s.heap a b).objs.size = s.heap.objs.size + 3 := by rw [Heap.size_push, z2]
 have z4 : (zpH4 s.heap a b).objs.size = s.heap.objs.size + 4 := by rw [Heap.size_push, z3]
 have g5 : (zpH5 s.heap a b).get? (zpH4 s.heap a b).objs.size = some _ := Heap.get?_push_size _ rfl
 have g4 : (zpH5 s.heap a b).get? (zpH3 s.heap a b).objs.size = some _ := Heap.get?_push_of_some _ (Heap.get?_push_size _ rfl)
 have g3 : (zpH5 s.heap a b).get? (zpH2 s.heap a b).objs.size = some _ := Heap.get?_push_of_some _ (Heap.get?_push_of_some _ (Heap.get?_push_size _ rfl))
 have g2 : (zpH5 s.heap a b).get? (zpH1 s.heap a).objs.size = some _ := Heap.get?_push_of_some _ (Heap.get?_push_of_some _ (Heap.get?_push_of_some _ (Heap.get?_push_size _ rfl)))
 have g1 : (zpH5 s.heap a b).get? s.heap.objs.size = some _ := Heap.get?_push_of_some _ (Heap.get?_push_of_some _ (Heap.get?_push_of_some _ (Heap.get?_push_of_some _ (Heap.get?_push_size _ rfl))))
 show _ ∧ _
 rw [z2, z3, z4] at g5; rw [z1, z2] at g3; rw [z3] at g4; rw [z1] at g2
 have kk : ∀ c o, s.heap.get? c = some o → (zpH5 s.heap a b).get? c = some o := fun c o q => Heap.get?_push_of_some _ (Heap.get?_push_of_some _ (Heap.get?_push_of_some _ (Heap.get?_push_of_some _ (Heap.get?_push_of_some _ q))))
 rw [z4]
 exact ⟨⟨_, g5, rfl⟩, k _ g5 g3 g4 ⟨_, g1, rfl, rfl⟩ ⟨_, g2, rfl, rfl⟩ kk⟩
end
def Itz (K : W.Frag) (a b : Addr) : It :=
 ⟨fun i H => ∃ xs ys x y, SqT K H a xs ∧ SqT K H b ys ∧ xs[i]? = some x ∧ ys[i]? = some y, fun i H v H' => ∃ p x y, v = .ref p ∧ H p = none ∧ H' = upd H p (.tup [x, y]) ∧ (∀ xs, SqT K H a xs → xs[i]? = some x) ∧ ∀ ys, SqT K H b ys → ys[i]? = some y,
  fun i H => ∃ xs ys, SqT K H a xs ∧ SqT K H b ys ∧ (xs.length ≤ i ∨ ys.length ≤ i)⟩
theorem turn_zp {P : Program} {w : World} {K : W.Frag} {es : List Expr} {kt : Nat} {pt : Pos} (a b z TI TO i1 i2 : Addr) (D : ZipApart z TI TO i1 i2 a b) :
  Turn P w K (.Tuple es kt pt) (Itz K a b) [z, TI, TO, i1, i2] z (fun i h => IsZip h z TI TO .none ∧ IsPair h TI (.ref i1) (.ref i2) ∧ (∃ u v, IsPair h TO u v) ∧ h.IsTupleIter i1 a i ∧ h.IsTupleIter i2 b i) where
 mem := by simp
 obj := fun i h st q hq => by
  obtain ⟨hz, hI, ⟨u, v, hO⟩, ⟨o1, e1, c1, d1⟩, ⟨o2, e2, c2, d2⟩⟩ := st
  simp only [List.mem_cons, List.not_mem_nil, or_false] at hq
  rcases hq with rfl | rfl | rfl | rfl | rfl
  ·exact ⟨_, hz, fun v y => by have y' : Data.fields _ = Data.cell v := y; cases y'⟩
  ·exact ⟨_, hI, fun v y => by have y' : Data.seq _ _ = Data.cell v := y; cases y'⟩
  ·exact ⟨_, hO, fun v y => by have y' : Data.seq _ _ = Data.cell v := y; cases y'⟩
  ·exact ⟨o1, e1, fun v y => by rw [d1] at y; cases y⟩
  ·exact ⟨o2, e2, fun v y => by rw [d2] at y; cases y⟩
 keep := fun i h h' st k => ⟨k z (by simp) _ st.1, k TI (by simp) _ st.2.1, let ⟨u, v, q⟩ := st.2.2.1; ⟨u, v, k TO (by simp) _ q⟩, st.2.2.2.1.at fun o x => k i1 (by simp) o x, st.2.2.2.2.at fun o x => k i2 (by simp) o x⟩
 item := by
  intro X hP hw hK hc i pins s σ H E I hf st hg
  subst hP hw hK
  obtain ⟨xs, ys, x, y, hqa, hqb, hx, hy⟩ := hg
  obtain ⟨ia, rva, pa, za⟩ := I.tuple hqa
  obtain ⟨ib, rvb, pb, zb⟩ := I.tuple hqb
  obtain ⟨u, hu, ru⟩ := rva.get hx
  obtain ⟨v, hv, rv⟩ := rvb.get hy
  obtain ⟨hz, hI, ⟨ou, ov, hO⟩, h1, h2⟩ := st
  have hT : s.TypeIs (.ref z) "zip" := ⟨_, hz, rfl⟩; unfold pyNext
  refine wpAny_bind (wpAny_attempt (wpAny_callSpecial?_slot (name := Str.ofString "__next__") hT F.slot_zip_next (wpAny_call_entry F.slot_zip_next hT F.entry_zip_next
   (zipT_item D hz hI hO h1 h2 pa pb (x := u) (y := v) (by simpa using hu) (by simpa using hv) fun h' z' o' a' b' t' k' => wpAny_pure ?_) (F.args_zip_next_1 _))))
  refine ⟨_, rfl, wpAny_letOwnedTupleGo_zip z' fun h'' z'' sb => ?_⟩
  have nz : s.heap.objs.size ≠ z := Nat.ne_of_gt (Heap.lt_size hz)
  have nTO : s.heap.objs.size ≠ TO := Nat.ne_of_gt (Heap.lt_size hO)
  have nTI : s.heap.objs.size ≠ TI := Nat.ne_of_gt (Heap.lt_size hI)
  have n1 : s.heap.objs.size ≠ i1 := by obtain ⟨o, e, _⟩ := h1; exact Nat.ne_of_gt (Heap.lt_size e)
  have n2 : s.heap.objs.size ≠ i2 := by obtain ⟨o, e, _⟩ := h2; exact Nat.ne_of_gt (Heap.lt_size e)
  have up : ∀ q o, q ≠ z → h'.get? q = some o → h''.get? q = some o := fun q o hq e => (sb.2 q hq).trans e
  have hI'' : IsPair h'' TI (.ref i1) (.ref i2) := up _ _ D.TIz (k' TI _ D.TIz D.TITO D.TIi1 D.TIi2 hI)
  have I2 : Inv X pins σ (upd H s.heap.objs.size (.tup [x, y])) { s with heap := h'', toks := s.toks } := I.turnNew (ch := [z, TI, TO, i1, i2]) hf (fun q o hq e => by
   simp only [List.mem_cons, List.not_mem_nil, or_false, not_or] at hq
   exact up q o hq.1 (k' q o hq.1 hq.2.2.1 hq.2.2.2.1 hq.2.2.2.2 e)) (fun q hq => by
   simp only [List.mem_cons, List.not_mem_nil, or_false] at hq
   rcases hq with rfl | rfl | rfl | rfl | rfl
   ·exact ⟨_, z''⟩
   ·exact ⟨_, hI''⟩
   ·exact ⟨_, up _ _ D.TOz o'⟩
   ·obtain ⟨o, e, _⟩ := a'; exact ⟨o, up _ o D.i1z e⟩
   ·obtain ⟨o, e, _⟩ := b'; exact ⟨o, up _ o D.i2z e⟩) (Nat.le_refl _) (vals := [u, v]) (.cons ru (.cons rv .nil)) (sz2) ⟨_, up _ _ nz t', rfl, _, rfl⟩
  refine ⟨.ref s.heap.objs.size, _, I2, rfl, ⟨_, x, y, rfl, I.fresh, rfl, fun zs hzs => by rw [I.tuple_inj hzs hqa]; exact hx, fun zs hzs => by rw [I.tuple_inj hzs hqb]; exact hy⟩,
   ⟨z'', hI'', ⟨_, _, up _ _ D.TOz o'⟩, a'.at fun o e => up _ o D.i1z e, b'.at fun o e => up _ o D.i2z e⟩, fun q hq => ?_⟩
  have hq0 := (hf q hq).1
  simp only [List.mem_cons, List.not_mem_nil, or_false] at hq
  rw [zi]
  ·exact hq0
  ·rcases hq with rfl | rfl | rfl | rfl | rfl
   ·exact Ne.symm nz
   ·exact Ne.symm nTI
   ·exact Ne.symm nTO
   ·exact Ne.symm n1
   ·exact Ne.symm n2
 done := by
  intro X hP hw hK hc i pins s σ H E I hf st hg
  subst hP hw hK
  obtain ⟨xs, ys, hqa, hqb, hx⟩ := hg
  obtain ⟨ia, rva, pa, za⟩ := I.tuple hqa
  obtain ⟨ib, rvb, pb, zb⟩ := I.tuple hqb
  obtain ⟨hz, hI, ⟨ou, ov, hO⟩, h1, h2⟩ := st
  have la := rva.length
  have lb := rvb.length
  have hT : s.TypeIs (.ref z) "zip" := ⟨_, hz, rfl⟩; unfold pyNext
  refine wpAny_bind (wpAny_attempt (wpAny_callSpecial?_slot (name := Str.ofString "__next__") hT F.slot_zip_next (wpAny_call_entry F.slot_zip_next hT F.entry_zip_next
   (zipT_end (I.ok.hd hc) D hz hI hO h1 h2 pa pb (hx.elim (fun q => .inl (by simp; omega)) fun q => .inr (by simp; omega)) fun h' e k' he => ?_) (F.args_zip_next_1 _))))
  obtain ⟨o, ho, hcl⟩ := he
  refine wpAny_bind (wpAny_isInstance (T := "StopIteration") (b := true) ⟨o, ho, hcl⟩ isSubtype_stop ?_)
  refine wpAny_pure ⟨rfl, I.turnOnly (tk := s.toks) hf fun q o hq e => ?_⟩
  simp only [List.mem_cons, List.not_mem_nil, or_false, not_or] at hq
  exact k' q o hq.1 hq.2.2.1 hq.2.2.2.1 hq.2.2.2.2 e
 self := fun _ _ s _ _ st h => wpAny_pyIter_zip st.1 h
section
variable {X : Cx} {es : List Expr} {kt : Nat} {pt : Pos}
def iZp (K : W.Frag) (ta : TA) : TI := fun σ H R => ta σ H fun vs H1 => ∃ a b, vs = [.ref a, .ref b] ∧ (∃ xs, SqT K H1 a xs) ∧ (∃ ys, SqT K H1 b ys) ∧ R (Itz K a b) H1
theorem WW {e e' : Expr} {ta : TA} {p pos : Pos} (hm : X.mg "zip" = none) (ha : PA X [e, e'] ta) (hg : Gl X "zip" := by rfl) (h : zW e = false := by rfl) (h' : zW e' = false := by rfl) : PI X (.Tuple es kt pt) (.Call (.Name "zip" p) [e, e'] [] pos) (iZp X.K ta) := by
 intro pins s σ H R I hh
 refine Call_ (xn I hg hm boot_zip (PyProof.Rows.callWith_type1 (thn (ha pos pins s σ H _ I hh) fun us s1 ⟨vs, H1, I1, r1, q1⟩ => ?_) (xp h) (yL (by simp [h']))))
 obtain ⟨a, b, rfl, ⟨xs, hqa⟩, ⟨ys, hqb⟩, q⟩ := q1
 cases r1 with
 | cons ru r2 =>
  cases r2 with
  | cons rv r3 =>
   cases r3
   cases ru
   cases rv
   obtain ⟨ia, rva, pa, za⟩ := I1.tuple hqa
   obtain ⟨ib, rvb, pb, zb⟩ := I1.tuple hqb
   have la : a < s1.heap.objs.size := by obtain ⟨o, e, _⟩ := pa; exact Heap.lt_size e
   have lb : b < s1.heap.objs.size := by obtain ⟨o, e, _⟩ := pb; exact Heap.lt_size e
   refine call_zp (xs := ia.toArray) (ys := ib.toArray) pa pb fun g hz hI hO j1 j2 hk => wpAny_pyIter_zip hz ?_
   refine ⟨_, [s1.heap.objs.size + 4, s1.heap.objs.size + 2, s1.heap.objs.size + 3, s1.heap.objs.size, s1.heap.objs.size + 1], _, _, H1, rfl, I1.kept (t' := s1.toks) hk, turn_zp a b _ _ _ _ _ (zipApart_new la lb), ⟨hz, hI, ⟨_, _, hO⟩, j1, j2⟩, fun q hq => ?_, by assumption⟩
   have hq' : s1.heap.objs.size ≤ q := by
    simp only [List.mem_cons, List.not_mem_nil, or_false] at hq
    rcases hq with z | z | z | z | z <;> rw [z] <;> first | exact Nat.le_refl _ | exact Nat.le_add_right _ _
   exact I1.fpOk hq' (I1.hok.fresh hq')
end
structure Apart3 (z TI TO i1 i2 i3 l1 l2 l3 : Addr) : Prop where
 nz : TI ≠ z ∧ TO ≠ z ∧ i1 ≠ z ∧ i2 ≠ z ∧ i3 ≠ z
 nI : TI ≠ TO ∧ TI ≠ i1 ∧ TI ≠ i2 ∧ TI ≠ i3
 nO : TO ≠ i1 ∧ TO ≠ i2 ∧ TO ≠ i3
 ni : i1 ≠ i2 ∧ i1 ≠ i3 ∧ i2 ≠ i3
 l1 : l1 ≠ z ∧ l1 ≠ TO ∧ l1 ≠ i1 ∧ l1 ≠ i2 ∧ l1 ≠ i3
 l2 : l2 ≠ z ∧ l2 ≠ TO ∧ l2 ≠ i1 ∧ l2 ≠ i2 ∧ l2 ≠ i3
 l3 : l3 ≠ z ∧ l3 ≠ TO ∧ l3 ≠ i1 ∧ l3 ≠ i2 ∧ l3 ≠ i3
section
variable {D : Addr} {te : TE} {tc : TT} {Q : VK} {ρ : St} {H : Hp}
theorem cgo_zip {K : W.Frag} {a b : Addr} {xs zs : List V} (hlen : xs.length = zs.length) (Pv : Nat → List V → Hp → Prop) (h0 : Pv 0 [] (upd H D (.lst []))) (hl : ∀ i ys H', i ≤ xs.length → Pv i ys H' → SqT K H' a xs ∧ SqT K H' b zs)
  (hs : ∀ i x z ys H' p, xs[i]? = some x → zs[i]? = some z → Pv i ys H' → H' D = some (.lst ys) → H' p = none → ∀ (R : V → Hp → Prop) (S : Hp → Prop), (∀ y H4, H4 D = some (.lst ys) → ys.length < sizeLine → Pv (i + 1) (ys ++ [y]) (upd H4 D (.lst (ys ++ [y]))) → R y H4) → (∀ H3, H3 D = some (.lst ys) → Pv (i + 1) ys H3 → S H3) →
   tc (some x :: some z :: ρ) (upd H' p (.tup [x, z])) fun b H3 => if b = true then te (some x :: some z :: ρ) H3 R else S H3)
  (hd : ∀ ys H', Pv xs.length ys H' → H' D = some (.lst ys) → Q (.ref D) H') : CGo (Itz K a b) D (gTup K 2 (yP (zU 0) (yP (zU 1) gNil))) tc te Q (none :: none :: ρ) H := by
 refine ⟨fun i m τ ys H' => m = xs.length - i ∧ i ≤ xs.length ∧ (∃ tv tw, τ = tv :: tw :: ρ) ∧ Pv i ys H' ∧ H' D = some (.lst ys), ⟨xs.length, by omega, Nat.zero_le _, ⟨_, _, rfl⟩, h0, ze⟩, ?_⟩
 rintro i m τ ys H' ⟨rfl, hi, ⟨tv, tw, rfl⟩, hp, hD⟩
 refine ⟨hD, ?_⟩
 obtain ⟨sq, sq'⟩ := hl i ys H' hi hp
 by_cases hlt : i < xs.length
 ·have hlt' : i < zs.length := by omega
  refine .inr ⟨⟨xs, zs, xs[i], zs[i], sq, sq', by simp [hlt], by simp [hlt']⟩, ?_⟩
  rintro v H'' ⟨p, x, z, rfl, hpn, rfl, hx, hz⟩
  have hx' := hx xs sq
  have hz' := hz zs sq'
  refine ⟨p, [x, z], rfl, SqT.of ze, rfl, x, [z], rfl, z, [], rfl, rfl, ?_⟩
  exact hs i x z ys _ p hx' hz' hp hD hpn _ _ (fun y H4 a b c => ⟨a, b, xs.length - (i + 1), by omega, rfl, hlt, ⟨_, _, rfl⟩, c, ze⟩) fun H3 a c => ⟨xs.length - (i + 1), by omega, rfl, hlt, ⟨_, _, rfl⟩, c, a⟩
 ·have e : i = xs.length := by omega
  subst e
  exact .inl ⟨⟨xs, zs, sq, sq', .inl (Nat.le_refl _)⟩, hd ys _ hp hD⟩
end
section
variable {ta : TA} {tl : TE} {n : Nat} {ix : List Nat} {g : TG} {tc : TT} {te : TE} {σ : St} {H : Hp} {Q : VK}
theorem y9 {K : W.Frag} (h : ta σ H fun vs H1 => ∃ a b, vs = [.ref a, .ref b] ∧ (∃ xs, SqT K H1 a xs) ∧ (∃ ys, SqT K H1 b ys) ∧ ∀ D, H1 D = none → CGo (Itz K a b) D g tc te Q (List.replicate n none ++ sub ix σ) H1) : xH (iZp K ta) n ix g tc te σ H Q := h
theorem xf {K : W.Frag} (h : tl σ H fun x H1 => ∃ a, x = .ref a ∧ (∃ xs, SqL K H1 a xs) ∧ ∀ D, H1 D = none → CGo (Itl K a) D g tc te Q (List.replicate n none ++ sub ix σ) H1) : xH (Va K tl) n ix g tc te σ H Q := h
end
section
variable {X : Cx}
def rIsI (K : W.Frag) : List V → Hp → VK → Prop := fun xs H Q => ∃ v n t b, xs = [v, .ty n] ∧ TyOf K H v t ∧ PySem.W.kitOne K t (.type n) = some b ∧ Q (.bl b) H
theorem y4 : yq X (.builtin "isinstance") (rIsI X.K) := by
 intro pins s σ H xs us Q I r h
 obtain ⟨v, n, t, b, rfl, ty, e, q⟩ := h
 cases r with
 | cons r1 r2 =>
  obtain ⟨u, rfl, ru⟩ := Vals.one r2
  cases ru
  exact isinst_ok I r1 ty e fun tk => ⟨.bl b, H, I.kept (t' := tk) fun _ _ e => e, rfl, q⟩
theorem kit_ii (K : W.Frag) : PySem.W.kitOne K (.type "int") (.type "int") = some true := by rfl
theorem kit_ib (K : W.Frag) : PySem.W.kitOne K (.type "int") (.type "bool") = some false := by rfl
theorem Ye (K : W.Frag) : PySem.W.kitOne K (.type "tuple") (.type "tuple") = some true := by rfl
end
section
variable {σ : St} {H : Hp} {Q : VK} {te ta tb tc : TE} {r r' : R2} {tl th : TO}
theorem xg (h : ta σ H fun x H1 => tb σ H1 fun y H2 => r x y H2 fun z H3 => ∃ k, z = .bl k ∧ (if k = true then tc σ H3 fun w' H4 => r' y w' H4 Q else Q (.bl false) H3)) : Xn r r' ta tb tc σ H Q := h
theorem w_sl {r : V → Option Int → Option Int → Hp → VK → Prop} (h : te σ H fun x H1 => tl σ H1 fun l H2 => th σ H2 fun u H3 => r x l u H3 Q) : tSl r te tl th σ H Q := h
theorem yK {QO : Option Int → Hp → Prop} (h : QO none H) : Ys σ H QO := h
theorem xN {QO : Option Int → Hp → Prop} (h : te σ H fun x H1 => ∃ i, x = .int i ∧ QO (some i) H1) : Ws te σ H QO := h
end
theorem yS {X : Cx} {sc : Scope} {N : List Str} {cl : List (Str × Addr)} {C : Addr} {fp : List Addr} {s3 : Shared} {H3 : Hp} {xe : Value → Shared → Prop} {es : List Expr} {k n : Nat} {pos : Pos} {t : TGs} (hc : X.calm = true) (h : PGs (cxC X N sc cl C fp s3 H3 xe) es t)
  (hn : (assignEach es (cxC X N sc cl C fp s3 H3 xe).env).length = n := by rfl) (hst : (assignEach es (cxC X N sc cl C fp s3 H3 xe).env).findIdx? (·.1) = none := by rfl) : PG (cxC X N sc cl C fp s3 H3 xe) (.Tuple es k pos) (gTup X.K n t) := XJ (X := cxC X N sc cl C fp s3 H3 xe) hc h hn hst
theorem yM {t u : TS} {D : Ends} {σ : St} {H : Hp} (Post : St → Hp → Prop) (h2 : ∀ σ' H', Post σ' H' → u D σ' H') (h1 : (∀ σ' H', Post σ' H' → u D σ' H') → t { D with nx := u D } σ H) : tSeq t u D σ H := h1 h2
def Wi : Expr → Option V
 | .Constant (.int n) _ _ => some (.int n)
 | .Constant (.str y) _ _ => some (.str y)
 | .UnaryOp .USub (.Constant (.int n) _ _) _ => some (.int (-n))
 | _ => none
def wZ : List Expr → Option (List V)
 | [] => some []
 | e :: r => match Wi e, wZ r with
  | some v, some vs => some (v :: vs)
  | _, _ => none
theorem vx {X : Cx} : ∀ {es : List Expr} {vs : List V}, wZ es = some vs → PA X es (Yr vs)
 | [], vs, h => by
  cases h
  exact xx
 | e :: r, vs, h => by
  unfold wZ at h
  split at h
  case h_2 => cases h
  case h_1 v vs' h1 h2 =>
   cases h
   have ih := vx (X := X) h2
   have go : ∀ {te : TE}, PE X e te → (starEach (e :: r) X.env = (false, eval e X.env) :: starEach r X.env) → (∀ σ H Q, Q v H → te σ H Q) → PA X (e :: r) (Yr (v :: vs')) := fun {te} he hs hq => by
    have q := YT he ih hs
    intro pos pins s σ H Q I hh
    exact q pos pins s σ H Q I (hq σ H _ hh)
   unfold Wi at h1
   split at h1
   case h_1 => cases h1; exact go zd rfl fun _ _ _ h => h
   case h_2 => cases h1; exact go zp rfl fun _ _ _ h => h
   case h_3 => cases h1; exact go (wN xu zd) rfl fun _ _ _ h => ⟨_, rfl, h⟩
   case h_4 => cases h1
theorem xj {X : Cx} {es : List Expr} {pos : Pos} {vs : List V} (h : wZ es = some vs) : PE X (.List es pos) (tLst (Yr vs)) := zE (vx h)
theorem w8 {σ : St} {H : Hp} {Q : VK} {g : Int → V} {ta : TE} (h : ta σ H fun x H1 => ∃ i, x = .int i ∧ Q (g i) H1) : tUn (rU g) ta σ H Q := h
end L2
namespace G2
open PySem L2
theorem md {i j : Int} (h : 0 < j) : 0 ≤ i % j ∧ i % j < j := ⟨Int.emod_nonneg _ (Int.ne_of_gt h), Int.emod_lt_of_pos _ h⟩
theorem mulL {i j : Int} (h1 : -4000000000 < i) (h2 : i < 4000000000) : CMul i j := .inl ⟨by omega, by omega⟩
theorem mulR {i j : Int} (h1 : -4000000000 < j) (h2 : j < 4000000000) : CMul i j := .inr ⟨by omega, by omega⟩
theorem ofI {r : Int} (h : 0 ≤ r) : ∃ n : Nat, r = (n : Int) := ⟨r.toNat, by omega⟩
structure TK (H H' : Hp) : Prop where
 t : ∀ q xs, H q = some (.tup xs) → H' q = some (.tup xs)
 f : ∀ q o u, H q = some (.frz o u) → H' q = some (.frz o u)
section
variable {p l : Addr} {H H' H'' : Hp} {o : HO}
theorem TK.trans (a : TK H H') (b : TK H' H'') : TK H H'' := ⟨fun q xs e => b.t q xs (a.t q xs e), fun q o u e => b.f q o u (a.f q o u e)⟩
theorem TK.new (h : H l = none) : TK H (upd H l o) := ⟨fun q xs e => by rw [zi (zh e h)]; exact e, fun q ob u e => by rw [zi (zh e h)]; exact e⟩
theorem TK.lst {ys : List V} (h : H l = some (.lst ys)) : TK H (upd H l o) := ⟨fun q xs e => by rw [zi (xI e h (by intro z; cases z))]; exact e, fun q ob u e => by rw [zi (xI e h (by intro z; cases z))]; exact e⟩
theorem TK.same (k : Same H H') : TK H H' := ⟨fun _ _ e => k _ _ e, fun _ _ _ e => k _ _ e⟩
end
theorem _root_.L2.Same.new {H H' : Hp} {l : Addr} {o : HO} (k : Same H H') (h : H' l = none) : Same H (upd H' l o) := fun b u e => by
 rw [zi (zh (k b u e) h)]
 exact k b u e
theorem _root_.L2.Same.put {H H' : Hp} {l : Addr} {o : HO} (k : Same H H') (h : H l = none) : Same H (upd H' l o) := fun b u e => by
 rw [zi (zh e h)]
 exact k b u e
def SqF (K : W.Frag) (H : Hp) (a : Addr) (xs : List V) : Prop :=
 (∃ o, H a = some (.frz o (.lst xs))) ∨ ∃ (o : Obj) (its : Array Value) (n : Nat), K.lookup a = some o ∧ o.cls = .type "list" ∧ o.dict = none ∧ o.data = .seq its n ∧ its.size ≤ sizeLine ∧ Vals xs its.toList
theorem SqF.sq {K : W.Frag} {H : Hp} {a : Addr} {xs : List V} : SqF K H a xs → SqL K H a xs
 | .inl ⟨o, e⟩ => .inl (.inr ⟨o, e⟩)
 | .inr h => .inr h
theorem SqF.of {K : W.Frag} {H : Hp} {a : Addr} {xs : List V} (O : Only H) : SqL K H a xs → SqF K H a xs
 | .inl (.inl e) => by
  rcases O a with z | ⟨o, ys, z⟩
  ·rw [e] at z; cases z
  ·rw [e] at z; cases z
 | .inl (.inr h) => .inl h
 | .inr h => .inr h
structure Tp (H : Hp) (p l : Addr) (ns : List Int) : Prop where
 ex : ∃ c e : Int, H p = some (.lst [.ref l, .int c, .int e])
 hl : H l = some (.lst (ns.map V.int))
 ne : p ≠ l
section
variable {p l a : Addr} {H H' : Hp} {o : HO} {ns : List Int}
theorem Tp.draw (t : Tp H p l ns) {c e : Int} : Tp (upd H p (.lst [.ref l, .int c, .int e])) p l ns := ⟨⟨c, e, ze⟩, by rw [zi (Ne.symm t.ne)]; exact t.hl, t.ne⟩
theorem Tp.np (t : Tp H p l ns) (h : H a = none) : p ≠ a := let ⟨_, _, e⟩ := t.ex; zh e h
theorem Tp.nl (t : Tp H p l ns) (h : H a = none) : l ≠ a := zh t.hl h
theorem Tp.new (t : Tp H p l ns) (h : H a = none) : Tp (upd H a o) p l ns := by
 obtain ⟨c, e, hp⟩ := t.ex
 exact ⟨⟨c, e, by rw [zi (zh hp h)]; exact hp⟩, by rw [zi (zh t.hl h)]; exact t.hl, t.ne⟩
theorem Tp.put (t : Tp H p l ns) (h1 : p ≠ a) (h2 : l ≠ a) : Tp (upd H a o) p l ns := by
 obtain ⟨c, e, hp⟩ := t.ex
 exact ⟨⟨c, e, by rw [zi h1]; exact hp⟩, by rw [zi h2]; exact t.hl, t.ne⟩
theorem Tp.same (t : Tp H p l ns) (k : Same H H') : Tp H' p l ns := by
 obtain ⟨c, e, hp⟩ := t.ex
 exact ⟨⟨c, e, k _ _ hp⟩, k _ _ t.hl, t.ne⟩
theorem Tp.tk (t : Tp H p l ns) : TK H (upd H p o) := let ⟨_, _, e⟩ := t.ex; TK.lst e
end
theorem ZC (ds : List PyData) : (PyData.shown (.tuple ds)).length ≤ ((PyData.shownAll ds).map (·.length)).sum + 2 * (PyData.shownAll ds).length + 3 := tupleText_len_le _
structure Shw (d : PyData) (n h : Nat) : Prop where
 s : d.showable = true
 nd : d.hasDict = false
 p : d.depth ≤ h
 l : d.shown.length ≤ n
theorem Shw.up {d : PyData} {n h m i : Nat} (x : Shw d n h) (h1 : n ≤ m) (h2 : h ≤ i) : Shw d m i := ⟨x.s, x.nd, Nat.le_trans x.p h2, Nat.le_trans x.l h1⟩
theorem Shw.two {a b : PyData} {m n h : Nat} (ha : Shw a m h) (hb : Shw b n h) : Shw (.tuple [a, b]) (m + n + 7) (h + 1) := ⟨by
  simp only [PyData.showable, PyData.showableAll, ha.s, hb.s, Bool.and_self], by
  simp only [PyData.hasDict, PyData.hasDictAll, ha.nd, hb.nd, Bool.or_self], by
  show PyData.depthAll [a, b] + 1 ≤ h + 1
  have := ha.p
  have := hb.p
  simp only [PyData.depthAll]
  omega, by
  have h1 := ZC [a, b]
  have := ha.l
  have := hb.l
  simp only [PyData.shownAll, List.map_cons, List.map_nil, List.sum_cons, List.sum_nil, List.length_cons, List.length_nil] at h1
  omega⟩
theorem Shw.three {a b c : PyData} {m n k h : Nat} (ha : Shw a m h) (hb : Shw b n h) (hc : Shw c k h) : Shw (.tuple [a, b, c]) (m + n + k + 9) (h + 1) := ⟨by
  simp only [PyData.showable, PyData.showableAll, ha.s, hb.s, hc.s, Bool.and_self], by
  simp only [PyData.hasDict, PyData.hasDictAll, ha.nd, hb.nd, hc.nd, Bool.or_self], by
  show PyData.depthAll [a, b, c] + 1 ≤ h + 1
  have := ha.p
  have := hb.p
  have := hc.p
  simp only [PyData.depthAll]
  omega, by
  have h1 := ZC [a, b, c]
  have := ha.l
  have := hb.l
  have := hc.l
  simp only [PyData.shownAll, List.map_cons, List.map_nil, List.sum_cons, List.sum_nil, List.length_cons, List.length_nil] at h1
  omega⟩
end G2
namespace L2
open PySem PySem.Spec PyProof.Rows
theorem Zv {X : Cx} : OpR X (binaryOp .Mult) (rI IntMulOk fun i j => .int (i * j)) := opI fun _ _ _ _ _ _ _ hc q => mul_int q hc
end L2
namespace G2
open PySem L2
def Bg (i : Int) : Prop := i.natAbs < 10 ^ 90
theorem Bg.bits {i : Int} (h : Bg i) : Builtin.Int.intBits i ≤ 300 := by
 unfold Bg at h
 unfold Builtin.Int.intBits
 by_cases h0 : i = 0
 ·subst h0
  decide
 ·have e : (i == 0) = false := by simpa using h0
  rw [e]
  have := (Nat.log2_lt (n := i.natAbs) (k := 299) (by omega)).mpr (Nat.lt_of_lt_of_le h (by decide +kernel))
  show i.natAbs.log2 + 1 ≤ 300
  omega
theorem mulB {i j : Int} (h : Bg i) (h' : Bg j) : IntMulOk i j := PySem.IntMulOk.of_le h.bits h'.bits (by decide)
section
variable {D : Addr} {te : TE} {tc : TT} {Q : VK} {ρ : St} {H : Hp} {K : W.Frag} {a b : Addr}
theorem Yj {xs ys : List Int} (g : Int → Int → Int) (ha : H a = some (.tup (xs.map V.int))) (hb : H b = some (.tup (ys.map V.int))) (hlen : xs.length = ys.length) (hn : xs.length ≤ 1000)
  (step : ∀ (i : Nat) (x y : Int) (H' : Hp), xs[i]? = some x → ys[i]? = some y → Same H H' → ∀ R : V → Hp → Prop, (∀ H'', Same H' H'' → R (.int (g x y)) H'') → te (some (.int x) :: some (.int y) :: ρ) H' R)
  (q : ∀ H', Same H H' → H' D = some (.lst ((List.zipWith g xs ys).map V.int)) → Q (.ref D) H') (hD : H D = none) : CGo (Itz K a b) D (gTup K 2 (yP (zU 0) (yP (zU 1) gNil))) tAll te Q (none :: none :: ρ) H := by
 refine cgo_zip (xs := xs.map V.int) (zs := ys.map V.int) (by simp [hlen]) (fun i zs H' => zs = ((List.zipWith g xs ys).take i).map V.int ∧ Same H H') ⟨rfl, Same.new (Same.refl H) hD⟩ (fun i zs H' _ ⟨_, k'⟩ => ⟨SqT.of (k' _ _ ha), SqT.of (k' _ _ hb)⟩) ?_ ?_
 ·rintro i x z zs H' p hx hz ⟨rfl, K'⟩ hDz hp R S kR _
  have hi1 : i < xs.length := by
   have := (List.getElem?_eq_some_iff.mp hx).1
   simpa using this
  have hi2 : i < ys.length := by omega
  have ex : x = .int xs[i] := by
   rw [List.getElem?_map, List.getElem?_eq_getElem hi1] at hx
   exact (Option.some.inj hx).symm
  have ez : z = .int ys[i] := by
   rw [List.getElem?_map, List.getElem?_eq_getElem hi2] at hz
   exact (Option.some.inj hz).symm
  subst ex ez
  refine yz ?_
  refine iteT ?_
  have hD' : upd H' p (.tup [.int xs[i], .int ys[i]]) D = some (.lst (((List.zipWith g xs ys).take i).map V.int)) := by rw [zi (zh hDz hp)]; exact hDz
  refine step i _ _ _ (by simp [hi1]) (by simp [hi2]) (K'.new hp) R fun H'' K'' => ?_
  refine kR _ _ (K'' _ _ hD') (by rw [List.length_map, List.length_take]; exact zn (by omega)) ⟨?_, ((K'.new hp).trans K'').put hD⟩
  have hz' : (List.zipWith g xs ys)[i]? = some (g xs[i] ys[i]) := by simp [List.getElem?_zipWith, hi1, hi2]
  rw [List.take_add_one, List.map_append, hz']
  rfl
 ·rintro zs H' ⟨rfl, K'⟩ hDz
  refine q H' K' ?_
  rw [hDz, List.take_of_length_le]
  simp
  omega
theorem Yn {xs : List Int} (g : Int → Int) (ha : H a = some (.tup (xs.map V.int))) (hn : xs.length ≤ 1000)
  (step : ∀ (i : Nat) (x : Int) (H' : Hp), xs[i]? = some x → Same H H' → ∀ R : V → Hp → Prop, (∀ H'', Same H' H'' → R (.int (g x)) H'') → te (some (.int x) :: ρ) H' R)
  (q : ∀ H', Same H H' → H' D = some (.lst ((xs.map g).map V.int)) → Q (.ref D) H') (hD : H D = none) : CGo (Itt K a) D (zU 0) tAll te Q (none :: ρ) H := by
 refine ZH (xs := xs.map V.int) (fun i zs H' => zs = ((xs.map g).take i).map V.int ∧ Same H H') ⟨rfl, Same.new (Same.refl H) hD⟩ (fun i zs H' _ ⟨_, k'⟩ => SqT.of (k' _ _ ha)) ?_ ?_
 ·rintro i x zs H' hx ⟨rfl, K'⟩ hDz R S kR _
  have hi1 : i < xs.length := by
   have := (List.getElem?_eq_some_iff.mp hx).1
   simpa using this
  have ex : x = .int xs[i] := by
   rw [List.getElem?_map, List.getElem?_eq_getElem hi1] at hx
   exact (Option.some.inj hx).symm
  subst ex
  refine yz ?_
  refine iteT ?_
  refine step i _ _ (by simp [hi1]) K' R fun H'' K'' => ?_
  refine kR _ _ (K'' _ _ hDz) (by rw [List.length_map, List.length_take]; exact zn (by omega)) ⟨?_, (K'.trans K'').put hD⟩
  rw [List.take_add_one, List.map_append]
  simp [hi1]
 ·rintro zs H' ⟨rfl, K'⟩ hDz
  refine q H' K' ?_
  rw [hDz, List.take_of_length_le]
  simp
theorem rng_map {n : Nat} (g : Nat → Int) (hn : n ≤ 1000)
  (step : ∀ (i : Nat) (H' : Hp), i < n → Same H H' → ∀ R : V → Hp → Prop, (∀ H'', Same H' H'' → R (.int (g i)) H'') → te (some (.int (i : Int)) :: ρ) H' R)
  (q : ∀ H', Same H H' → H' D = some (.lst (((List.range n).map g).map V.int)) → Q (.ref D) H') (hD : H D = none) : CGo (Itr 0 n) D (zU 0) tAll te Q (none :: ρ) H := by
 refine yw (fun i zs H' => zs = ((List.range i).map g).map V.int ∧ Same H H') ⟨rfl, Same.new (Same.refl H) hD⟩ ?_ ?_
 ·rintro i zs H' hi ⟨rfl, K'⟩ hDz R S kR _
  rw [Int.zero_add]
  refine yz ?_
  refine iteT ?_
  refine step i _ hi K' R fun H'' K'' => ?_
  refine kR _ _ (K'' _ _ hDz) (by rw [List.length_map, List.length_map, List.length_range]; exact zn (by omega)) ⟨?_, (K'.trans K'').put hD⟩
  rw [List.range_succ, List.map_append, List.map_append]
  rfl
 ·rintro zs H' ⟨rfl, K'⟩ hDz
  exact q H' K' hDz
theorem rng_gen {n : Nat} (J : Hp → Prop) (Pe : V → Hp → Prop) (hn : n ≤ 1000) (h0 : J (upd H D (.lst []))) (jD : ∀ H' ys zs, J H' → H' D = some (.lst ys) → J (upd H' D (.lst zs))) (pD : ∀ y H' ys zs, Pe y H' → J H' → H' D = some (.lst ys) → Pe y (upd H' D (.lst zs)))
  (step : ∀ (i : Nat) (H' : Hp) (ys : List V), i < n → J H' → H' D = some (.lst ys) → ∀ R : V → Hp → Prop, (∀ y H'', Pe y H'' → J H'' → H'' D = some (.lst ys) → (∀ z, Pe z H' → Pe z H'') → R y H'') → te (some (.int (i : Int)) :: ρ) H' R)
  (q : ∀ ys H', ys.length = n → (∀ y ∈ ys, Pe y H') → J H' → H' D = some (.lst ys) → Q (.ref D) H') : CGo (Itr 0 n) D (zU 0) tAll te Q (none :: ρ) H := by
 refine yw (fun i zs H' => zs.length = i ∧ (∀ y ∈ zs, Pe y H') ∧ J H') ⟨rfl, (fun y h => by cases h), h0⟩ ?_ ?_
 ·rintro i zs H' hi ⟨hl, hp, hJ⟩ hDz R S kR _
  rw [Int.zero_add]
  refine yz ?_
  refine iteT ?_
  refine step i H' zs hi hJ hDz R fun y H'' hy hJ' hD' hk => ?_
  refine kR _ _ hD' (zn (by omega)) ⟨by simp [hl], fun z hz => ?_, jD _ _ _ hJ' hD'⟩
  rcases List.mem_append.mp hz with old | new
  ·exact pD _ _ _ _ (hk z (hp z old)) hJ' hD'
  ·rw [List.mem_singleton.mp new]
   exact pD _ _ _ _ hy hJ' hD'
 ·rintro zs H' ⟨hl, hp, hJ⟩ hDz
  exact q zs H' hl hp hJ hDz
end
section
variable {X : Cx} {k : Nat}
def rNeD : R2 := fun x y H Q => ∃ dx dy, RdV H x dx ∧ RdV H y dy ∧ dx.canLay0 = true ∧ dy.canLay0 = true ∧ dx.depth ≤ 60 ∧ Q (.bl (!PyData.eqv dx dy)) H
theorem XR (hr : Room k X.A) : OpR X (compareOp .NotEq) rNeD := by
 intro pins s σ H x y v u Q I rx ry h
 obtain ⟨dx, dy, hx, hy, cx, cy, hd, q⟩ := h
 obtain ⟨as, ra⟩ := hx.reads I rx
 obtain ⟨bs, rb⟩ := hy.reads I ry
 have := hr.units
 exact SeqAt.compareNe_reads ra rb cx cy (by omega) ⟨.bl _, H, I, rfl, q⟩
end
structure Fm where
 ins : List Int
 sts : List Int
 plus : Int
def FmAt (H : Hp) (q : Addr) (f : Fm) : Prop := ∃ a b, H q = some (.tup [.ref a, .ref b, .int f.plus]) ∧ H a = some (.tup (f.ins.map V.int)) ∧ H b = some (.tup (f.sts.map V.int))
theorem FmAt.same {H H' : Hp} {q : Addr} {f : Fm} (k : Same H H') : FmAt H q f → FmAt H' q f
 | ⟨a, b, h1, h2, h3⟩ => ⟨a, b, k _ _ h1, k _ _ h2, k _ _ h3⟩
def addF (f g : Fm) : Fm := ⟨List.zipWith (fun x y => x + y) f.ins g.ins, List.zipWith (fun x y => x + y) f.sts g.sts, f.plus + g.plus⟩
def oftF (t : Int) (f : Fm) : Fm := ⟨f.ins.map fun x => t * x, f.sts.map fun x => t * x, t * f.plus⟩
def X0 (n : Int) (f : Fm) : Fm := ⟨f.ins, f.sts, f.plus + n⟩
structure FmOk (n m : Nat) (B : Int) (f : Fm) : Prop where
 li : f.ins.length = n
 ls : f.sts.length = m
 bi : ∀ x ∈ f.ins, -B ≤ x ∧ x ≤ B
 bs : ∀ x ∈ f.sts, -B ≤ x ∧ x ≤ B
 bp : -B ≤ f.plus ∧ f.plus ≤ B
theorem Bg.of {x B : Int} (hB : B < 10 ^ 90) (h : -B ≤ x ∧ x ≤ B) : Bg x := by
 unfold Bg
 omega
end G2
namespace L2
open PySem PySem.Spec PyProof.Rows
section
variable {X : Cx}
theorem Z1 : ∀ {bs : List Bool} {us : List Value}, Vals (bs.map V.bl) us → us = bs.map Value.bool
 | [], us, r => by
  cases r
  rfl
 | b :: bs, us, r => by
  cases r with
  | cons r1 r2 =>
   cases r1
   rw [Z1 r2]
   rfl
def rAll : List V → Hp → VK → Prop := fun xs H Q => ∃ (p : Addr) (bs : List Bool), xs = [.ref p] ∧ H p = some (.lst (bs.map V.bl)) ∧ Q (.bl (bs.all id)) H
theorem all_range (bs : List Bool) : (List.range bs.length).all (fun i => bs.getD i false) = bs.all id := by
 rw [Bool.eq_iff_iff, List.all_eq_true, List.all_eq_true]
 constructor
 ·intro h b hb
  obtain ⟨i, hi, rfl⟩ := List.getElem_of_mem hb
  have := h i (List.mem_range.mpr hi)
  simpa [List.getD_eq_getElem?_getD, hi] using this
 ·intro h i hi
  have hi' := List.mem_range.mp hi
  have := h bs[i] (List.getElem_mem hi')
  simpa [List.getD_eq_getElem?_getD, hi'] using this
theorem y6 (hc : X.calm = true) : yq X (.builtin "all") rAll := by
 intro pins s σ H xs us Q I r h
 obtain ⟨p, bs, rfl, hp, q⟩ := h
 obtain ⟨u, rfl, ru⟩ := r.one
 cases ru
 obtain ⟨its, n, rv, e, z⟩ := I.lst hp
 have hits := Z1 rv
 subst hits
 have hl : s.heap.IsList p (bs.map Value.bool).toArray := ⟨_, e, rfl, n, rfl⟩
 refine call_all_walk (wpAny_pyIter_list hl ?_)
 refine ⟨_, _, _, _, _, _, fun i => bs.getD i false, rfl, Walks.list (A := X.A.in1) (I.ok.hd hc) _ p (Nat.ne_of_lt (Heap.lt_size e)) (bs.map Value.bool).toArray, ⟨⟨_, Heap.get?_push_size _ rfl, rfl, rfl⟩, hl.push _⟩, ?_, fun h' tk hk => ?_⟩
 ·intro i v s' Q' E' hv hQ'
  have hv' : (bs.map Value.bool)[i]? = some v := by simpa using hv
  rw [List.getElem?_map] at hv'
  cases eb : bs[i]? with
  | none => rw [eb] at hv'; cases hv'
  | some b =>
   rw [eb] at hv'
   cases hv'
   have : bs.getD i false = b := by rw [List.getD_eq_getElem?_getD, eb]; rfl
   refine wpAny_truthy_bool ?_
   dsimp only at hQ'
   rw [this] at hQ'
   exact hQ'
 ·have e1 : (List.range (bs.map Value.bool).toArray.size).all (fun i => bs.getD i false) = bs.all id := by simpa using all_range bs
  rw [e1]
  exact ⟨.bl _, H, I.kept (t' := tk) (old_kept (l := p) hk), rfl, q⟩
end
def Itel (K : W.Frag) (a : Addr) : It :=
 ⟨fun i H => ∃ xs x, SqL K H a xs ∧ xs[i]? = some x, fun i H v H' => ∃ p x, v = .ref p ∧ H p = none ∧ H' = upd H p (.tup [.int (i : Int), x]) ∧ ∀ xs, SqL K H a xs → xs[i]? = some x, fun i H => ∃ xs, SqL K H a xs ∧ xs.length = i⟩
theorem turn_enl {P : Program} {w : World} {K : W.Frag} {es : List Expr} {kt : Nat} {pt : Pos} (a e it : Addr) (hei : e ≠ it) (hai : a ≠ it) (hae : a ≠ e) :
  Turn P w K (.Tuple es kt pt) (Itel K a) [e, it] e (fun i h => (∃ old, IsEnum h e it i old) ∧ h.IsListIter it a i) where
 mem := by simp
 obj := fun i h st b hb => by
  obtain ⟨⟨old, he⟩, o, eo, c, d⟩ := st
  rcases List.mem_cons.mp hb with rfl | hq
  ·exact ⟨_, he, fun v z => by have z' : Data.fields _ = Data.cell v := z; cases z'⟩
  ·rw [List.mem_singleton.mp hq]; exact ⟨o, eo, fun v z => by rw [d] at z; cases z⟩
 keep := fun i h h' st k => ⟨let ⟨old, he⟩ := st.1; ⟨old, k e (by simp) _ he⟩, st.2.at fun o x => k it (by simp) o x⟩
 item := by
  intro X hP hw hK hc i pins s σ H E I hf st hg
  subst hP hw hK
  obtain ⟨xs, x, hq, hx⟩ := hg
  obtain ⟨its, rv, p, hz⟩ := I.list hq
  obtain ⟨u, hu, ru⟩ := rv.get hx
  have W := WalksT.enumerateD (Draws.list (prog := X.prog) (w := X.w) (A := X.A.in1) (I.ok.hd hc) it a hai its.toArray) e hei (by simp [hei, Ne.symm hae]) (by simp)
  have hi : i < its.toArray.size := by
   have := (List.getElem?_eq_some_iff.mp hu).1
   simpa using this
  refine W.item i s _ E hi ⟨st.1, st.2, p.isList⟩ fun T vals h' tk hP hsz hT hM hk => ⟨.ref T, rfl, ?_⟩
  obtain ⟨t, x', hx', rfl⟩ := hP
  have ex : x' = u := by
   have : its[i]? = some x' := by simpa using hx'
   rw [this] at hu
   exact Option.some.inj hu
  subst ex
  refine W.go es kt pt i T { s with heap := h', toks := tk } _ E hM fun h'' hst hk2 => ?_
  obtain ⟨⟨old2, he2⟩, hit2, _⟩ := hst
  have hTw := W.apart i T h' hM
  obtain ⟨oT, eT, cT⟩ := hT
  have I2 : Inv X pins σ (upd H T (.tup [.int (i : Int), x])) { s with heap := h'', toks := tk } := I.turnNew (ch := [e, it]) hf (fun b o hb q => hk2 b o hb (hk b o hb q)) (fun b hb => by
   rcases List.mem_cons.mp hb with rfl | hq
   ·exact ⟨_, he2⟩
   ·rw [List.mem_singleton.mp hq]; obtain ⟨o, eo, _⟩ := hit2; exact ⟨o, eo⟩) hsz (vals := [.int i t, x']) (.cons ⟨t, rfl⟩ (.cons ru .nil)) (sz2) ⟨oT, hk2 T oT hTw eT, cT⟩
  refine ⟨.ref T, _, I2, rfl, ⟨T, x, rfl, I.hok.fresh hsz, rfl, fun ys hy => by rw [I.list_inj hy hq]; exact hx⟩, ⟨⟨old2, he2⟩, hit2⟩, fun b hb => ?_⟩
  rw [zi (fun z => hTw (by rw [← z]; exact hb))]
  exact (hf b hb).1
 done := by
  intro X hP hw hK hc i pins s σ H E I hf st hg
  subst hP hw hK
  obtain ⟨xs, hq, hx⟩ := hg
  obtain ⟨its, rv, p, hz⟩ := I.list hq
  have hl := rv.length
  have W := WalksT.enumerateD (Draws.list (prog := X.prog) (w := X.w) (A := X.A.in1) (I.ok.hd hc) it a hai its.toArray) e hei (by simp [hei, Ne.symm hae]) (by simp)
  have ei : i = its.toArray.size := by rw [List.size_toArray]; omega
  subst ei
  exact W.done s _ E ⟨st.1, st.2, p.isList⟩ fun h' tk hk => ⟨rfl, I.turnOnly hf hk⟩
 self := fun _ _ s _ _ st h => by
  obtain ⟨⟨old, he⟩, _⟩ := st
  exact wpAny_pyIter_enum he h
section
variable {X : Cx} {es : List Expr} {kt : Nat} {pt : Pos}
def iEnl (K : W.Frag) (ta : TA) : TI := fun σ H R => ta σ H fun vs H1 => ∃ a, vs = [.ref a] ∧ (∃ xs, SqL K H1 a xs) ∧ R (Itel K a) H1
theorem XI {e : Expr} {ta : TA} {p pos : Pos} (hm : X.mg "enumerate" = none) (ha : PA X [e] ta) (hg : Gl X "enumerate" := by rfl) (h : zW e = false := by rfl) : PI X (.Tuple es kt pt) (.Call (.Name "enumerate" p) [e] [] pos) (iEnl X.K ta) := by
 intro pins s σ H R I hh
 refine Call_ (xn I hg hm boot_enumerate (PyProof.Rows.callWith_type1 (thn (ha pos pins s σ H _ I hh) fun us s1 ⟨vs, H1, I1, r1, q1⟩ => ?_) (xp h) rfl))
 obtain ⟨a, rfl, ⟨xs, hq⟩, q⟩ := q1
 obtain ⟨u, rfl, ru⟩ := r1.one
 cases ru
 obtain ⟨its, rv, pl, hz⟩ := I1.list hq
 have hlt : a < s1.heap.objs.size := by
  obtain ⟨o, _, eo, _⟩ := pl
  exact Heap.lt_size eo
 refine call_enumerate_list (items := its.toArray) pl.isList fun h' he hi _ hk => wpAny_pyIter_enum he ?_
 refine ⟨_, [s1.heap.objs.size + 1, s1.heap.objs.size], _, _, H1, rfl, I1.kept (t' := s1.toks) hk, turn_enl a (s1.heap.objs.size + 1) s1.heap.objs.size (Nat.succ_ne_self _) (Nat.ne_of_lt hlt) (Nat.ne_of_lt (Nat.lt_of_lt_of_le hlt (Nat.le_succ _))), ⟨⟨_, he⟩, hi⟩, fun b hb => ?_, q⟩
 have hb' : s1.heap.objs.size ≤ b := by
  rcases List.mem_cons.mp hb with z | z
  ·rw [z]; exact Nat.le_succ _
  ·rw [List.mem_singleton.mp z]
   exact Nat.le_refl _
 exact I1.fpOk hb' (I1.hok.fresh hb')
def isI (i : Int) : Value → Bool
 | .int a _ => a == i
 | _ => false
theorem map_erase (k : Nat) (xs : List Int) : (xs.map V.int).eraseIdx k = (xs.eraseIdx k).map V.int := by
 induction xs generalizing k with
 | nil => rfl
 | cons x xs ih => cases k with
  | zero => rfl
  | succ k => simp [ih]
theorem for_enl {K : W.Frag} {a : Addr} {xs : List V} {g : TG} {tb : TS} {D : Ends} {σ : St} {H : Hp} (Pv : Nat → St → Hp → Prop) (h0 : Pv 0 σ H) (hl : ∀ i σ H, Pv i σ H → SqL K H a xs)
  (hs : ∀ (i : Nat) (x : V) σ H p, xs[i]? = some x → Pv i σ H → H p = none → g (.ref p) σ (upd H p (.tup [.int (i : Int), x])) fun σ2 H2 => tb { D with nx := Pv (i + 1), ct := Pv (i + 1), bk := D.nx } σ2 H2) (hd : ∀ σ H, Pv xs.length σ H → D.nx σ H) :
  ForJ (Itel K a) g tb D σ H := by
 refine ⟨fun i m σ H => m = xs.length - i ∧ i ≤ xs.length ∧ Pv i σ H, ⟨xs.length, by simp, Nat.zero_le _, h0⟩, ?_⟩
 rintro i m σ H ⟨rfl, hi, p⟩
 have qa := hl i σ H p
 by_cases hlt : i < xs.length
 ·refine .inr ⟨⟨xs, xs[i], qa, by simp [hlt]⟩, Pv (i + 1), fun σ' H' p' => ⟨xs.length - (i + 1), by omega, rfl, hlt, p'⟩, fun v H' yv => ?_⟩
  obtain ⟨q, x, rfl, hq, rfl, ex⟩ := yv
  exact hs i x σ H q (ex xs qa) p hq
 ·have e : i = xs.length := by omega
  subst e
  exact .inl ⟨⟨xs, qa, rfl⟩, hd σ H p⟩
theorem ZZ {D : Addr} {tc : TT} {te : TE} {Q : VK} {ρ : St} {H : Hp} {K : W.Frag} {a : Addr} {xs : List V} (Pv : Nat → List V → Hp → Prop) (h0 : Pv 0 [] (upd H D (.lst []))) (hl : ∀ i ys H', i ≤ xs.length → Pv i ys H' → SqL K H' a xs)
  (hs : ∀ i x ys H', xs[i]? = some x → Pv i ys H' → H' D = some (.lst ys) → ∀ (R : V → Hp → Prop) (S : Hp → Prop), (∀ y H4, H4 D = some (.lst ys) → ys.length < sizeLine → Pv (i + 1) (ys ++ [y]) (upd H4 D (.lst (ys ++ [y]))) → R y H4) → (∀ H3, H3 D = some (.lst ys) → Pv (i + 1) ys H3 → S H3) →
   tc (some x :: ρ) H' fun b H3 => if b = true then te (some x :: ρ) H3 R else S H3)
  (hd : ∀ ys H', Pv xs.length ys H' → H' D = some (.lst ys) → Q (.ref D) H') : CGo (Itl K a) D (zU 0) tc te Q (none :: ρ) H := by
 refine ⟨fun i m τ ys H' => m = xs.length - i ∧ i ≤ xs.length ∧ (∃ tv, τ = tv :: ρ) ∧ Pv i ys H' ∧ H' D = some (.lst ys), ⟨xs.length, by omega, Nat.zero_le _, ⟨_, rfl⟩, h0, ze⟩, ?_⟩
 rintro i m τ ys H' ⟨rfl, hi, ⟨tv, rfl⟩, hp, hD⟩
 refine ⟨hD, ?_⟩
 have sq := hl i ys H' hi hp
 by_cases hlt : i < xs.length
 ·refine .inr ⟨⟨xs, xs[i], sq, by simp [hlt]⟩, ?_⟩
  rintro v H'' ⟨rfl, hv⟩
  have hv' := hv xs sq
  show tc (some v :: ρ) _ _
  exact hs i v ys _ hv' hp hD _ _ (fun y H4 a b c => ⟨a, b, xs.length - (i + 1), by omega, rfl, hlt, ⟨_, rfl⟩, c, ze⟩) fun H3 a c => ⟨xs.length - (i + 1), by omega, rfl, hlt, ⟨_, rfl⟩, c, a⟩
 ·have e : i = xs.length := by omega
  subst e
  exact .inl ⟨⟨xs, sq, Nat.le_refl _⟩, hd ys _ hp hD⟩
def Itzl (K : W.Frag) (a b : Addr) : It :=
 ⟨fun i H => ∃ xs ys x y, SqL K H a xs ∧ SqL K H b ys ∧ xs[i]? = some x ∧ ys[i]? = some y, fun i H v H' => ∃ p x y, v = .ref p ∧ H p = none ∧ H' = upd H p (.tup [x, y]) ∧ (∀ xs, SqL K H a xs → xs[i]? = some x) ∧ ∀ ys, SqL K H b ys → ys[i]? = some y,
  fun i H => ∃ xs ys, SqL K H a xs ∧ SqL K H b ys ∧ (xs.length ≤ i ∨ ys.length ≤ i)⟩
theorem turn_zpl {P : Program} {w : World} {K : W.Frag} {es : List Expr} {kt : Nat} {pt : Pos} (a b z TI TO i1 i2 : Addr) (D : ZipApart z TI TO i1 i2 a b) :
  Turn P w K (.Tuple es kt pt) (Itzl K a b) [z, TI, TO, i1, i2] z (fun i h => IsZip h z TI TO .none ∧ IsPair h TI (.ref i1) (.ref i2) ∧ (∃ u v, IsPair h TO u v) ∧ h.IsListIter i1 a i ∧ h.IsListIter i2 b i) where
 mem := by simp
 obj := fun i h st q hq => by
  obtain ⟨hz, hI, ⟨u, v, hO⟩, ⟨o1, e1, c1, d1⟩, ⟨o2, e2, c2, d2⟩⟩ := st
  simp only [List.mem_cons, List.not_mem_nil, or_false] at hq
  rcases hq with rfl | rfl | rfl | rfl | rfl
  ·exact ⟨_, hz, fun v y => by have y' : Data.fields _ = Data.cell v := y; cases y'⟩
  ·exact ⟨_, hI, fun v y => by have y' : Data.seq _ _ = Data.cell v := y; cases y'⟩
  ·exact ⟨_, hO, fun v y => by have y' : Data.seq _ _ = Data.cell v := y; cases y'⟩
  ·exact ⟨o1, e1, fun v y => by rw [d1] at y; cases y⟩
  ·exact ⟨o2, e2, fun v y => by rw [d2] at y; cases y⟩
 keep := fun i h h' st k => ⟨k z (by simp) _ st.1, k TI (by simp) _ st.2.1, let ⟨u, v, q⟩ := st.2.2.1; ⟨u, v, k TO (by simp) _ q⟩, st.2.2.2.1.at fun o x => k i1 (by simp) o x, st.2.2.2.2.at fun o x => k i2 (by simp) o x⟩
 item := by
  intro X hP hw hK hc i pins s σ H E I hf st hg
  subst hP hw hK
  obtain ⟨xs, ys, x, y, hqa, hqb, hx, hy⟩ := hg
  obtain ⟨ia, rva, pa, za⟩ := I.list hqa
  obtain ⟨ib, rvb, pb, zb⟩ := I.list hqb
  obtain ⟨u, hu, ru⟩ := rva.get hx
  obtain ⟨v, hv, rv⟩ := rvb.get hy
  obtain ⟨hz, hI, ⟨ou, ov, hO⟩, h1, h2⟩ := st
  refine wpAny_pyNext_zip_item D hz hI hO h1 h2 pa.isList pb.isList (x := u) (y := v) (by simpa using hu) (by simpa using hv) fun h' z' o' a' b' t' _ k' => ?_
  refine ⟨_, rfl, wpAny_letOwnedTupleGo_zip z' fun h'' z'' sb => ?_⟩
  have nz : s.heap.objs.size ≠ z := Nat.ne_of_gt (Heap.lt_size hz)
  have nTO : s.heap.objs.size ≠ TO := Nat.ne_of_gt (Heap.lt_size hO)
  have nTI : s.heap.objs.size ≠ TI := Nat.ne_of_gt (Heap.lt_size hI)
  have n1 : s.heap.objs.size ≠ i1 := by obtain ⟨o, e, _⟩ := h1; exact Nat.ne_of_gt (Heap.lt_size e)
  have n2 : s.heap.objs.size ≠ i2 := by obtain ⟨o, e, _⟩ := h2; exact Nat.ne_of_gt (Heap.lt_size e)
  have up : ∀ q o, q ≠ z → h'.get? q = some o → h''.get? q = some o := fun q o hq e => (sb.2 q hq).trans e
  have hI'' : IsPair h'' TI (.ref i1) (.ref i2) := up _ _ D.TIz (k' TI _ D.TIz D.TITO D.TIi1 D.TIi2 hI)
  have I2 : Inv X pins σ (upd H s.heap.objs.size (.tup [x, y])) { s with heap := h'', toks := s.toks } := I.turnNew (ch := [z, TI, TO, i1, i2]) hf (fun q o hq e => by
   simp only [List.mem_cons, List.not_mem_nil, or_false, not_or] at hq
   exact up q o hq.1 (k' q o hq.1 hq.2.2.1 hq.2.2.2.1 hq.2.2.2.2 e)) (fun q hq => by
   simp only [List.mem_cons, List.not_mem_nil, or_false] at hq
   rcases hq with rfl | rfl | rfl | rfl | rfl
   ·exact ⟨_, z''⟩
   ·exact ⟨_, hI''⟩
   ·exact ⟨_, up _ _ D.TOz o'⟩
   ·obtain ⟨o, e, _⟩ := a'; exact ⟨o, up _ o D.i1z e⟩
   ·obtain ⟨o, e, _⟩ := b'; exact ⟨o, up _ o D.i2z e⟩) (Nat.le_refl _) (vals := [u, v]) (.cons ru (.cons rv .nil)) (sz2) ⟨_, up _ _ nz t', rfl, _, rfl⟩
  refine ⟨.ref s.heap.objs.size, _, I2, rfl, ⟨_, x, y, rfl, I.fresh, rfl, fun zs hzs => by rw [I.list_inj hzs hqa]; exact hx, fun zs hzs => by rw [I.list_inj hzs hqb]; exact hy⟩,
   ⟨z'', hI'', ⟨_, _, up _ _ D.TOz o'⟩, a'.at fun o e => up _ o D.i1z e, b'.at fun o e => up _ o D.i2z e⟩, fun q hq => ?_⟩
  have hq0 := (hf q hq).1
  simp only [List.mem_cons, List.not_mem_nil, or_false] at hq
  rw [zi]
  ·exact hq0
  ·rcases hq with rfl | rfl | rfl | rfl | rfl
   ·exact Ne.symm nz
   ·exact Ne.symm nTI
   ·exact Ne.symm nTO
   ·exact Ne.symm n1
   ·exact Ne.symm n2
 done := by
  intro X hP hw hK hc i pins s σ H E I hf st hg
  subst hP hw hK
  obtain ⟨xs, ys, hqa, hqb, hx⟩ := hg
  obtain ⟨ia, rva, pa, za⟩ := I.list hqa
  obtain ⟨ib, rvb, pb, zb⟩ := I.list hqb
  obtain ⟨hz, hI, ⟨ou, ov, hO⟩, h1, h2⟩ := st
  have la := rva.length
  have lb := rvb.length
  refine wpAny_pyNext_zip_end (I.ok.hd hc) D hz hI hO h1 h2 pa.isList pb.isList (hx.elim (fun q => .inl (by simp; omega)) fun q => .inr (by simp; omega)) fun h' k' => ?_
  refine ⟨rfl, I.turnOnly (tk := s.toks) hf fun q o hq e => ?_⟩
  simp only [List.mem_cons, List.not_mem_nil, or_false, not_or] at hq
  exact k' q o hq.1 hq.2.2.1 hq.2.2.2.1 hq.2.2.2.2 e
 self := fun _ _ s _ _ st h => wpAny_pyIter_zip st.1 h
def iZpl (K : W.Frag) (ta : TA) : TI := fun σ H R => ta σ H fun vs H1 => ∃ a b, vs = [.ref a, .ref b] ∧ (∃ xs, SqL K H1 a xs) ∧ (∃ ys, SqL K H1 b ys) ∧ R (Itzl K a b) H1
theorem XH {e e' : Expr} {ta : TA} {p pos : Pos} (hm : X.mg "zip" = none) (ha : PA X [e, e'] ta) (hg : Gl X "zip" := by rfl) (h : zW e = false := by rfl) (h' : zW e' = false := by rfl) : PI X (.Tuple es kt pt) (.Call (.Name "zip" p) [e, e'] [] pos) (iZpl X.K ta) := by
 intro pins s σ H R I hh
 refine Call_ (xn I hg hm boot_zip (PyProof.Rows.callWith_type1 (thn (ha pos pins s σ H _ I hh) fun us s1 ⟨vs, H1, I1, r1, q1⟩ => ?_) (xp h) (yL (by simp [h']))))
 obtain ⟨a, b, rfl, ⟨xs, hqa⟩, ⟨ys, hqb⟩, q⟩ := q1
 cases r1 with
 | cons ru r2 =>
  cases r2 with
  | cons rv r3 =>
   cases r3
   cases ru
   cases rv
   obtain ⟨ia, rva, pa, za⟩ := I1.list hqa
   obtain ⟨ib, rvb, pb, zb⟩ := I1.list hqb
   have la : a < s1.heap.objs.size := by obtain ⟨o, _, e, _⟩ := pa; exact Heap.lt_size e
   have lb : b < s1.heap.objs.size := by obtain ⟨o, _, e, _⟩ := pb; exact Heap.lt_size e
   refine call_zip_2 (xs := ia.toArray) (ys := ib.toArray) pa.isList pb.isList fun g hz hI hO j1 j2 _ hk => wpAny_pyIter_zip hz ?_
   refine ⟨_, [s1.heap.objs.size + 4, s1.heap.objs.size + 2, s1.heap.objs.size + 3, s1.heap.objs.size, s1.heap.objs.size + 1], _, _, H1, rfl, I1.kept (t' := s1.toks) hk, turn_zpl a b _ _ _ _ _ (zipApart_new la lb), ⟨hz, hI, ⟨_, _, hO⟩, j1, j2⟩, fun q hq => ?_, by assumption⟩
   have hq' : s1.heap.objs.size ≤ q := by
    simp only [List.mem_cons, List.not_mem_nil, or_false] at hq
    rcases hq with z | z | z | z | z <;> rw [z] <;> first | exact Nat.le_refl _ | exact Nat.le_add_right _ _
   exact I1.fpOk hq' (I1.hok.fresh hq')
end
section
variable {D : Addr} {te : TE} {tc : TT} {Q : VK} {ρ : St} {H : Hp}
theorem cgo_zpl {K : W.Frag} {a b : Addr} {xs zs : List V} {n : Nat} (n1 : n ≤ xs.length) (n2 : n ≤ zs.length) (n3 : xs.length ≤ n ∨ zs.length ≤ n) (Pv : Nat → List V → Hp → Prop) (h0 : Pv 0 [] (upd H D (.lst []))) (hl : ∀ i ys H', i ≤ n → Pv i ys H' → SqL K H' a xs ∧ SqL K H' b zs)
  (hs : ∀ i x z ys H' p, i < n → xs[i]? = some x → zs[i]? = some z → Pv i ys H' → H' D = some (.lst ys) → H' p = none → ∀ (R : V → Hp → Prop) (S : Hp → Prop), (∀ y H4, H4 D = some (.lst ys) → ys.length < sizeLine → Pv (i + 1) (ys ++ [y]) (upd H4 D (.lst (ys ++ [y]))) → R y H4) → (∀ H3, H3 D = some (.lst ys) → Pv (i + 1) ys H3 → S H3) →
   tc (some x :: some z :: ρ) (upd H' p (.tup [x, z])) fun b H3 => if b = true then te (some x :: some z :: ρ) H3 R else S H3)
  (hd : ∀ ys H', Pv n ys H' → H' D = some (.lst ys) → Q (.ref D) H') : CGo (Itzl K a b) D (gTup K 2 (yP (zU 0) (yP (zU 1) gNil))) tc te Q (none :: none :: ρ) H := by
 refine ⟨fun i m τ ys H' => m = n - i ∧ i ≤ n ∧ (∃ tv tw, τ = tv :: tw :: ρ) ∧ Pv i ys H' ∧ H' D = some (.lst ys), ⟨n, by omega, Nat.zero_le _, ⟨_, _, rfl⟩, h0, ze⟩, ?_⟩
 rintro i m τ ys H' ⟨rfl, hi, ⟨tv, tw, rfl⟩, hp, hD⟩
 refine ⟨hD, ?_⟩
 obtain ⟨sq, sq'⟩ := hl i ys H' hi hp
 by_cases hlt : i < n
 ·have hlt' : i < zs.length := by omega
  have hlt0 : i < xs.length := by omega
  refine .inr ⟨⟨xs, zs, xs[i], zs[i], sq, sq', by simp [hlt0], by simp [hlt']⟩, ?_⟩
  rintro v H'' ⟨p, x, z, rfl, hpn, rfl, hx, hz⟩
  have hx' := hx xs sq
  have hz' := hz zs sq'
  refine ⟨p, [x, z], rfl, SqT.of ze, rfl, x, [z], rfl, z, [], rfl, rfl, ?_⟩
  exact hs i x z ys _ p hlt hx' hz' hp hD hpn _ _ (fun y H4 a b c => ⟨a, b, n - (i + 1), by omega, rfl, hlt, ⟨_, _, rfl⟩, c, ze⟩) fun H3 a c => ⟨n - (i + 1), by omega, rfl, hlt, ⟨_, _, rfl⟩, c, a⟩
 ·have e : i = n := by omega
  subst e
  exact .inl ⟨⟨xs, zs, sq, sq', n3⟩, hd ys _ hp hD⟩
end
theorem ZK {K : W.Frag} {ta : TA} {n : Nat} {ix : List Nat} {g : TG} {tc : TT} {te : TE} {σ : St} {H : Hp} {Q : VK} (h : ta σ H fun vs H1 => ∃ a b, vs = [.ref a, .ref b] ∧ (∃ xs, SqL K H1 a xs) ∧ (∃ ys, SqL K H1 b ys) ∧ ∀ D, H1 D = none → CGo (Itzl K a b) D g tc te Q (List.replicate n none ++ sub ix σ) H1) : xH (iZpl K ta) n ix g tc te σ H Q := h
end L2
namespace G2
open PySem L2
end G2
namespace L2
open PySem PySem.Spec PyProof.Rows
structure NScope (o sc : Scope) (TN F : List Str) : Prop where
 okind : o.kind = .function
 kind : sc.kind = .function
 names : ∀ y ∈ sc.names, y.2 = .local → sc.names.lookup y.1 = some .local
 clN : ∀ y ∈ sc.names, y.2 = .cell → sc.names.lookup y.1 = some .cell
 fr : ∀ y ∈ sc.names, y.2 = .free → o.names.lookup y.1 = some .cell ∧ sc.names.lookup y.1 = some .free
 ff : ∀ y ∈ F, (y, NameKind.free) ∈ sc.names
structure NBScope (o sc : Scope) (TN F G : List Str) : Prop extends NScope o sc TN F where
 nd : (TN ++ F).Nodup
 vis : ∀ x ∈ TN ++ F, Vis (yA sc o) x
 loc : ∀ x ∈ TN, (yA sc o).names.lookup x = some .local ∨ ((yA sc o).names.lookup x = some .cell ∧ sc.names.lookup x = some .cell)
 gl : ∀ x ∈ G, (yA sc o).names.lookup x = some .globalImplicit
end L2
namespace PySem
open Sem (wp)
open Builtin
open AutoSeq1 (wpAny_loadPart')
end PySem
namespace L2
open PySem PySem.Spec PyProof.Rows
section
variable {X : Cx}
theorem iteNF {c A B : Prop} [Decidable c] (hc : ¬ c) (h : A) : if (!decide c) = true then A else B := by
 rw [decide_eq_false hc]
 exact h
theorem iteNB {c A B : Prop} [Decidable c] (h1 : ¬ c → A) (h2 : c → B) : if (!decide c) = true then A else B := by
 by_cases hc : c
 ·rw [decide_eq_true hc]
  exact h2 hc
 ·rw [decide_eq_false hc]
  exact h1 hc
theorem YM (m : Nat) (c : Int) : (List.replicate m [V.int c]).flatten = (List.replicate m c).map V.int := by
 induction m with
 | zero => rfl
 | succ m ih => rw [List.replicate_succ, List.flatten_cons, ih, List.replicate_succ]; rfl
end
end L2
namespace HT
open PySem PyProof.Rows
section
variable {prog : Program} {w : World} {A : Around} {E : Value → Shared → Prop} {s : Shared}
theorem getItem_tuple_all {t sl : Addr} {items : Array Value} {vl vu : Value} {lo hi : Option Int} {Q : Value → Shared → Prop} (ht : IsTup s.heap t items) (hs : s.heap.IsSliceOf sl vl vu .none) (pl : IsPart vl lo) (pu : IsPart vu hi)
  (hw : sIx items.size 0 lo = 0 ∧ sIx items.size items.size hi = items.size) (h : Q (.ref t) s) : wpAny (model prog w) A (getItem (.ref t) (.ref sl)) Q E s := by
 obtain ⟨os, hos, hcs, hds⟩ := id hs
 have hTs : s.TypeIs (.ref sl) "slice" := ⟨os, hos, hcs⟩
 unfold getItem
 try with_reducible refine wpAny_holding ?_
 first | refine wpAny_bind (wpAny_pure ?_) | skip
 refine wpAny_bind (wpAny_sequenceKey ht.typeIs (by decide) ?_)
 refine wpAny_bind (wpAny_callSpecial?_slot (name := Str.ofString "__getitem__") ht.typeIs PyProof.Rows.slot_tuple_getitem
  (wpAny_call_entry PyProof.Rows.slot_tuple_getitem ht.typeIs entry_tuple_getitem ?_ (args_tuple_getitem _ _)))
 show wpAny _ _ (Builtin.Tuple.tupleItemsOf (.ref t) >>= _) _ _ s
 refine wpAny_bind (tupleItemsOf_ ht ?_)
 refine wpAny_bind (wpAny_typeOf hTs ?_)
 rw [if_pos (by decide)]
 refine wpAny_bind (yZ hs pl pu ?_)
 have hyes : (((sIx items.size 0 lo : Nat) : Int) == 0 && (1 : Int) == 1 && (sIx items.size items.size hi - sIx items.size 0 lo) == items.size) = true := by
  rw [hw.1, hw.2]
  simp
 show wpAny _ _ (if (((sIx items.size 0 lo : Nat) : Int) == 0 && (1 : Int) == 1 && (sIx items.size items.size hi - sIx items.size 0 lo) == items.size) = true then _ else _) _ _ s
 rw [if_pos hyes]
 refine wpAny_bind (m := Builtin.Tuple.tupleIsExact _) ?_
 unfold Builtin.Tuple.tupleIsExact
 refine wpAny_bind (wpAny_typeOf ht.typeIs (wpAny_pure ?_))
 rw [if_pos (by decide)]
 refine wpAny_bind (wpAny_rule ?_)
 first
  | exact wpAny_pure ⟨_, rfl, wpAny_pure h⟩
  | exact wpAny_bind (wpAny_pure (wpAny_pure ⟨_, rfl, wpAny_pure h⟩))
  | exact wpAny_bind (wpAny_pure ⟨_, rfl, wpAny_pure h⟩)
end
end HT
namespace L2
open PySem PySem.Spec PyProof.Rows
section
variable {X : Cx}
def rSlG : V → Option Int → Option Int → Hp → VK → Prop := fun x lo hi H Q => ∃ a xs, x = .ref a ∧ H a = some (.tup xs) ∧ ∀ q H', Same H H' → H' q = some (.tup (cutV xs lo hi)) → Q (.ref q) H'
theorem YA : SlR X rSlG := by
 intro pins s σ H x v vl vu lo hi sl Q I rx hs pl pu h
 obtain ⟨a, xs, rfl, hH, q⟩ := h
 by_cases hw : HT.sIx xs.length 0 lo = 0 ∧ HT.sIx xs.length xs.length hi = xs.length
 ·cases rx
  obtain ⟨its, r, ht, hz⟩ := I.tuple (SqT.of hH)
  have hlen : its.toArray.size = xs.length := by rw [List.size_toArray]; exact r.length.symm
  refine ⟨"tuple", _, PyProof.Rows.slot_tuple_getitem.lookup, ht.typeIs, ?_⟩
  refine HT.getItem_tuple_all ht hs pl pu (by rw [hlen]; exact hw) ?_
  refine ⟨.ref a, H, I, rfl, q a H (Same.refl H) ?_⟩
  have e : cutV xs lo hi = xs := by
   unfold cutV
   rw [hw.1, hw.2, List.drop_zero, Nat.sub_zero, List.take_length]
  rw [e]
  exact hH
 ·exact sl_tup pins s σ H _ v vl vu lo hi sl Q I rx hs pl pu ⟨a, xs, rfl, SqT.of hH, hw, fun p hp => q p _ (Same.new (Same.refl H) hp) ze⟩
def rCatG : R2 := fun x y H Q => ∃ a b xs ys, x = .ref a ∧ y = .ref b ∧ H a = some (.tup xs) ∧ H b = some (.tup ys) ∧ xs.length + ys.length ≤ 1000 ∧ ∀ q H', Same H H' → H' q = some (.tup (xs ++ ys)) → Q (.ref q) H'
theorem yx : OpR X (binaryOp .Add) rCatG := by
 intro pins s σ H x y v u Q I rx ry h
 obtain ⟨a, b, xs, ys, rfl, rfl, ha, hb, hz, q⟩ := h
 have hz' : xs.length + ys.length ≤ sizeLine := Nat.le_trans hz (by decide)
 by_cases hx : xs = []
 ·cases rx
  cases ry
  obtain ⟨its, r1, p1, _⟩ := I.tuple (SqT.of ha)
  obtain ⟨its2, r2, p2, _⟩ := I.tuple (SqT.of hb)
  obtain ⟨⟨cls, dd, data, sl⟩, ho, hc, n, hd⟩ := id p1
  obtain ⟨⟨cls2, dd2, data2, sl2⟩, ho2, hc2, n2, hd2⟩ := id p2
  simp only at hc hd hc2 hd2
  subst hc hd hc2 hd2
  have hv : its = [] := r1.nil_iff.mpr hx
  refine concat_meets ⟨_, ho, rfl⟩ ⟨_, ho2, rfl⟩ noFill_tuple_add seq_tuple_add PySem.F.slot_tuple_add PySem.F.entry_tuple_add (PySem.F.args_tuple_add_2 _ _)
   (tuple_addW0 a b its.toArray its2.toArray n n2 dd dd2 sl sl2 (by simp [hv])) ⟨ho, ho2, ?_⟩
  refine ⟨.ref b, H, I, rfl, q b H (Same.refl H) ?_⟩
  rw [hx, List.nil_append]
  exact hb
 ·refine op_catT pins s σ H _ _ v u Q I rx ry ⟨a, b, xs, ys, rfl, rfl, SqT.of ha, SqT.of hb, hx, hz', fun e => ?_, fun _ p hp => q p _ (Same.new (Same.refl H) hp) ze⟩
  refine q a H (Same.refl H) ?_
  rw [e, List.append_nil]
  exact ha
end
end L2
namespace PySem
open Sem (wp)
open Builtin
open AutoSeq1 (wpAny_loadPart')
end PySem
namespace L2
open PySem PySem.Spec PyProof.Rows
end L2
namespace K37
open PySem L2 G2
end K37
local macro_rules | `(tactic| walk_at "v") => `(tactic| repeat (with_reducible first
  | refine L2.wH ?_ | refine L2.xG ?_ | refine L2.yk ?_ | refine L2.w_op ?_ | refine L2.w6 rfl ?_ | refine L2.w_c ?_ | refine L2.wJ ?_ | refine L2.wc ?_ | refine L2.vf ?_ | refine L2.xM ?_ | refine L2.w_tb ?_ | refine L2.w_bl ?_ | refine L2.w_not ?_ | refine L2.wI ?_ | refine L2.w_retN ?_
  | refine L2.vd ?_ | refine L2.xU ?_ | refine L2.ve ?_ | refine L2.w9 ?_ | refine L2.w_cb ?_ | refine L2.xV ?_ | refine L2.xQ ?_ | refine L2.vg ?_ | refine L2.w_or ?_ | refine L2.xO ?_ | refine L2.yz ?_ | refine L2.xL ?_ | refine L2.xc ?_ | refine L2.xb ?_ | refine L2.xS ?_ | refine L2.xR ?_ | refine L2.w_forL ?_ | refine L2.xT ?_ | refine L2.w_bm ?_ | refine L2.y9 ?_ | refine L2.xf ?_ | refine L2.xg ?_ | refine L2.w_sl ?_ | refine L2.yK ?_ | refine L2.xN ?_ | refine L2.w8 ?_ | refine L2.iteT ?_ | refine L2.iteF ?_))
namespace K37
open PySem L2 G2
theorem nmk {N : List Str} {sc : Scope} (h : N.Nodup ∧ ∀ x ∈ N, Loc sc x) : Nm N sc := ⟨h.1, h.2⟩
theorem fsk {N P : List Str} {sc : Scope} (h : N.Nodup ∧ (∀ x ∈ P, sc.names.lookup x = some .local ∨ sc.names.lookup x = some .cell) ∧ ∀ y ∈ sc.names, y.2 ≠ .free) (a : sc.kind = .function := by rfl) (b : sc.isCoroutine = false := by rfl) (c : sc.isGenerator = false := by rfl) (d : N.take P.length = P := by rfl) : FnScope N P sc := ⟨a, b, c, h.1, d, h.2.1, h.2.2⟩
abbrev YE : Stmt := top 66
abbrev YK : Stmt := top 67
abbrev wq : Stmt := top 70
abbrev YF : Stmt := top 71
structure Blt (mg : Str → Option Value) : Prop where
 len : mg "len" = none
 range : mg "range" = none
 tuple : mg "tuple" = none
section
variable {P : Program} {w : World} {K : W.Frag} {mg : Str → Option Value} {base : Heap}
theorem nmTape : Nm ["_law_script"] (zc YE) := ⟨by decide +kernel, by decide +kernel⟩
theorem scTape : FnScope ["_law_script"] ["_law_script"] (zc YE) := ⟨rfl, rfl, rfl, by decide +kernel, rfl, by decide +kernel, by decide +kernel⟩
def Xp (K : W.Frag) : Sp := fun vs H Q _ => ∃ (a : Addr) (ns : List Int), vs = [.ref a] ∧ SqL K H a (ns.map V.int) ∧ ∀ p l (ms : List Int) H', ms.length ≤ 63 → Tp H' p l ms → Same H H' → Q (.ref p) H'
theorem cut63 (ns : List Int) : cutV (ns.map V.int) none (some 63) = (ns.take 63).map V.int := by
 unfold cutV HT.sIx
 dsimp only
 rw [if_neg (by decide : ¬ (63 : Int) < 0), List.drop_zero, Nat.sub_zero, List.map_take, List.length_map]
 show List.take (min 63 ns.length) _ = _
 by_cases h : ns.length ≤ 63
 ·rw [Nat.min_eq_right h, List.take_of_length_le (by rw [List.length_map]; omega), List.take_of_length_le (by rw [List.length_map]; omega)]
 ·rw [Nat.min_eq_left (by omega)]
theorem ok_tape {f : Addr} {fd : FuncData} (F : Fun K "_law_tape" "_law_tape" YE f fd) : FnOk P w K mg base CX0 1 f fd ["_law_script"] (Xp K) := by
 refine F.ok scTape (fun vs H Q E h => ?_) (fun cdv A outer s H vs Q E hr h => ?_)
 ·obtain ⟨a, ns, rfl, _⟩ := h
  rfl
 obtain ⟨a, ns, rfl, hS, k⟩ := h
 refine' ⟨_, ?hb, ?rd⟩
 case hb =>
  refine' zg ?s1
  case' s1 => refine' zl ?p1
  case' p1 => refine' zE ?q1
  case' q1 => refine' pa_c ?u1 ?u2
  case u2 => exact pa_2 zd zd
  case u1 => exact zO ym (pvd nmTape 0) yh (zM zd)
 walk_at "v"
 refine ⟨_, rfl, ?_⟩
 refine ⟨a, _, rfl, hS, fun l hl => ?_⟩
 rw [cut63]
 walk_at "v"
 refine ⟨sz3, fun p hp => ?_⟩
 have nlp : l ≠ p := by
  intro z
  rw [← z, ze] at hp
  cases hp
 refine k p l (ns.take 63) _ (by rw [List.length_take]; omega) ⟨⟨_, _, ze⟩, by rw [zi nlp, ze], Ne.symm nlp⟩ ((Same.new (Same.refl H) hl).new hp)
abbrev W6 : List Str := ["_law_tape_here", "_law_many", "_law_cell", "_law_mixed", "_law_found"]
theorem zP : Nm W6 (zc YK) := ⟨by decide +kernel, by decide +kernel⟩
theorem scDraw : FnScope W6 ["_law_tape_here", "_law_many"] (zc YK) := ⟨rfl, rfl, rfl, by decide +kernel, rfl, by decide +kernel, by decide +kernel⟩
def xh : Sp := fun vs H Q _ => ∃ (p l : Addr) (ns : List Int) (m : Int), vs = [.ref p, .int m] ∧ Tp H p l ns ∧ 0 < m ∧ m < 1000000 ∧ ∀ (r c e : Int), 0 ≤ r → r < m → Q (.int r) (upd H p (.lst [.ref l, .int c, .int e]))
theorem ok_draw {f : Addr} {fd : FuncData} (B : Blt mg) (F : Fun K "_law_draw" "_law_draw" YK f fd) : FnOk P w K mg base CX0 1 f fd ["_law_tape_here", "_law_many"] xh := by
 refine F.ok scDraw (fun vs H Q E h => ?_) (fun cdv A outer s H vs Q E hr h => ?_)
 ·obtain ⟨p, l, ns, m, rfl, _⟩ := h
  rfl
 obtain ⟨p, l, ns, m, rfl, ⟨⟨c, e, hp⟩, hl, hne⟩, hm, hm2, k⟩ := h
 refine' ⟨_, ?hb, ?rd⟩
 case hb =>
  refine' zf ?s1 ?r1
  case' r1 => refine' zf ?s2 ?r2
  case' r2 => refine' zf ?s3 ?r3
  case' r3 => refine' zf ?s4 ?r4
  case' r4 => refine' zg ?s5
  case s1 => exact wt (zo zR (ziq (pvd zP 0) zd) zd) (wu (pvd zP 0) zd vT)
  case s3 => exact zj zP 4 (zo yO (ziq (pvd zP 0) zd) (pvd zP 1))
  case s4 => exact wt (zo op_fdiv (ziq (pvd zP 0) zd) (pvd zP 1)) (wu (pvd zP 0) zd vT)
  case s5 => exact zl (pvd zP 4)
  case s2 =>
   refine' zC (zq zV (ziq (pvd zP 0) zd) zd (zt _)) ?b2 zw
   case b2 =>
    refine' zf ?t1 ?u1
    case' u1 => refine' zf ?t2 ?u2
    case' u2 => refine' zf ?t3 ?u3
    case' u3 => refine' zg ?t4
    case t1 => exact zj zP 2 zd
    case t2 =>
     refine' zC ?c2 ?d2 zw
     case c2 => exact zq vW (zF zr B.len PySem.boot_len (pa_1 (ziq (pvd zP 0) zd))) zd (zt _)
     case' d2 => refine' zg ?e2
     case' e2 => refine' zj zP 2 ?f2
     case' f2 => refine' ziq (ziq (pvd zP 0) zd) ?g2
     case g2 => exact zo yO (ziq (pvd zP 0) zd) (zF zr B.len PySem.boot_len (pa_1 (ziq (pvd zP 0) zd)))
    case t3 =>
     refine' zC (zq YU (pvd zP 2) (zo wx zd zd) (zt _)) ?d3 zw
     case d3 =>
      refine' zf ?v1 ?w1
      case' w1 => refine' zf ?v2 ?w2
      case' w2 => refine' zg ?v3
      case v1 => exact zj zP 3 (zo yO (zo zR (zo zR (zo x8 (zo yO (pvd zP 2) zd) zd) (zo x8 (ziq (pvd zP 0) zd) zd)) zd) zd)
      case v2 => exact zj zP 3 (zo yO (zo x8 (pvd zP 3) (zo zR (pvd zP 3) zd)) zd)
      case v3 => exact zl (zo yO (zo yO (zo x8 (pvd zP 3) zd) zd) (pvd zP 1))
    case t4 => exact wt (zo ww (pvd zP 2) (zo wx zd zd)) (wu (pvd zP 0) zd vT)
 have hl' : ∀ {o : HO}, upd H p o l = some (.lst (ns.map V.int)) := fun {o} => by rw [zi (Ne.symm hne)]; exact hl
 walk_at "v"
 refine zD hp rfl ?_
 walk_at "v"
 refine vO hp rfl ?_
 with_reducible refine yM (fun σ' H' => ∃ (u2 u3 : Option V) (c' e' : Int), σ' = [some (.ref p), some (.int m), u2, u3, none] ∧ H' = upd H p (.lst [.ref l, .int c', .int e'])) ?_ fun fin => ?_
 ·rintro σ' H' ⟨u2, u3, c', e', rfl, rfl⟩
  walk_at "v"
  refine zD ze rfl ?_
  walk_at "v"
  refine w_rI hm ?_
  walk_at "v"
  refine zD ze rfl ?_
  walk_at "v"
  refine w_rI ⟨hm, by omega⟩ ?_
  walk_at "v"
  refine vO ze rfl ?_
  walk_at "v"
  rw [xA]
  exact k _ _ _ (md hm).1 (md hm).2
 walk_at "v"
 refine zD ze rfl ?_
 walk_at "v"
 refine ⟨rfl, ?_⟩
 walk_at "v"
 refine iteD (fun _ => ?_) (fun _ => ?_)
 ·refine wH ?_
  refine xG ?_
  refine w_c ?_
  refine yk ?_
  with_reducible refine yM (fun σ' H' => ∃ cell : Int, σ' = [some (.ref p), some (.int m), some (.int cell), none, none] ∧ H' = upd H p (.lst [.ref l, .int (c + 1), .int e])) ?_ fun tail => ?_
  ·rintro σ' H' ⟨cell, rfl, rfl⟩
   walk_at "v"
   refine w_rI ⟨by decide, by decide, by decide⟩ ?_
   walk_at "v"
   refine iteD (fun _ => ?_) (fun _ => ?_)
   ·walk_at "v"
    refine w_rI (by decide) ?_
    walk_at "v"
    refine w_rI (mulR (by decide) (by decide)) ?_
    walk_at "v"
    refine zD ze rfl ?_
    walk_at "v"
    refine w_rI (mulR (by decide) (by decide)) ?_
    walk_at "v"
    refine w_rI (by decide) ?_
    generalize hx : (cell % 2147483647 * 48271 + (c + 1) * 7919 + 12345) % 2147483629 = x
    have h1 := md (i := cell % 2147483647 * 48271 + (c + 1) * 7919 + 12345) (j := 2147483629) (by decide)
    rw [hx] at h1
    walk_at "v"
    refine w_rI (mulL (by omega) (by omega)) ?_
    walk_at "v"
    refine w_rI (by decide) ?_
    walk_at "v"
    refine w_rI (mulR (by decide) (by decide)) ?_
    walk_at "v"
    refine w_rI (by decide) ?_
    walk_at "v"
    refine w_rI hm ?_
    exact k _ _ _ (md hm).1 (md hm).2
   ·walk_at "v"
    refine w_rI ⟨by decide, by decide, by decide⟩ ?_
    walk_at "v"
    refine vO ze rfl ?_
    exact fin _ _ ⟨_, _, _, _, rfl, xA⟩
  walk_at "v"
  refine zD ze rfl ?_
  walk_at "v"
  refine ⟨l, _, rfl, .inl (SqL.of hl'), ?_⟩
  rw [List.length_map]
  walk_at "v"
  refine iteD (fun h0 => ?_) (fun _ => ?_)
  ·have h0' : 0 < ns.length := by omega
   walk_at "v"
   refine zD ze rfl ?_
   walk_at "v"
   refine zD ze rfl ?_
   walk_at "v"
   refine zD ze rfl ?_
   walk_at "v"
   refine ⟨l, _, rfl, .inl (SqL.of hl'), ?_⟩
   rw [List.length_map]
   refine w_rI h0 ?_
   obtain ⟨j, hj⟩ : ∃ j : Nat, (c + 1) % (ns.length : Int) = (j : Int) := ofI (md h0).1
   have hjl : j < ns.length := by
    have := (md (i := c + 1) h0).2
    omega
   rw [hj]
   refine zD (v := .int ns[j]) hl' (zx (by simp [hjl])) ?_
   exact tail _ _ ⟨_, rfl, rfl⟩
  ·exact tail _ _ ⟨_, rfl, rfl⟩
 ·exact fin _ _ ⟨_, _, _, _, rfl, rfl⟩
end
def Bp (p : Addr) (H H' : Hp) : Prop := ∀ q o, q ≠ p → H q = some o → H' q = some o
section
variable {p l a : Addr} {H H' H'' : Hp} {o : HO} {ns : List Int}
theorem Bp.refl : Bp p H H := fun _ _ _ e => e
theorem Bp.new (b : Bp p H H') (h : H' a = none) : Bp p H (upd H' a o) := fun q u hq e => by
 have e' := b q u hq e
 rw [zi (zh e' h)]
 exact e'
theorem Bp.at (b : Bp p H H') : Bp p H (upd H' p o) := fun q u hq e => by
 rw [zi hq]
 exact b q u hq e
theorem Bp.put (b : Bp p H H') (h : H a = none) : Bp p H (upd H' a o) := fun q u hq e => by
 rw [zi (zh e h)]
 exact b q u hq e
theorem Bp.trans (a : Bp p H H') (b : Bp p H' H'') : Bp p H H'' := fun q o hq e => b q o hq (a q o hq e)
theorem Bp.same (k : Same H H') : Bp p H H' := fun q o _ e => k q o e
theorem Bp.free (b : Bp p H H') (hp : p ≠ a) (h : H' a = none) : H a = none := by
 cases e : H a with
 | none => rfl
 | some o => rw [b a o (Ne.symm hp) e] at h; cases h
theorem Tp.tkb (t : Tp H p l ns) (b : Bp p H H') : TK H H' := by
 obtain ⟨c, e, hp⟩ := t.ex
 exact ⟨fun q xs eq => b q _ (xI eq hp (by intro z; cases z)) eq, fun q o u eq => b q _ (xI eq hp (by intro z; cases z)) eq⟩
end
def pool12 : List Str := ["a", "ab", "abc", "b", "sort", "rules", "into", "begins", "inx", "outs", "tox", "abcdefgh"]
abbrev XY : List Str := ["_law_tape_here", "_law_many", "_law_pool", "_law_start", "_law_step"]
theorem xD : Nm XY (zc wq) := ⟨by decide +kernel, by decide +kernel⟩
theorem scNames : FnScope XY ["_law_tape_here", "_law_many"] (zc wq) := ⟨rfl, rfl, rfl, by decide +kernel, rfl, by decide +kernel, by decide +kernel⟩
def retTup (s : Stmt) : Scope := match s with
 | .Return (some (.Call _ [.ListComp _ _ sc _] _ _)) _ => sc
 | _ => nsc
abbrev cNames : Scope := retTup ((zu wq).getD 3 (.Pass ⟨0, 0, 0, 0⟩))
theorem bsNames : BScope (zc wq) cNames ["_law_k"] ["_law_pool", "_law_start", "_law_step"] [] := { okind := by decide +kernel, kind := by decide +kernel, nocell := by decide +kernel, names := by decide +kernel, fr := by decide +kernel, ff := by decide +kernel, nd := by decide +kernel, vis := by decide +kernel, loc := by decide +kernel, gl := by decide +kernel }
theorem wM {xs : List Int} {r : Int} (h0 : 0 ≤ r) (h1 : r < xs.length) : ∃ x, x ∈ xs ∧ atI (xs.map V.int) r = some (.int x) := by
 obtain ⟨j, rfl⟩ := ofI h0
 have hj : j < xs.length := by omega
 exact ⟨xs[j], List.getElem_mem hj, zx (by simp [hj])⟩
theorem pickW {xs : List Str} {r : Int} (h0 : 0 ≤ r) (h1 : r < xs.length) : ∃ x, x ∈ xs ∧ atI (xs.map V.str) r = some (.str x) := by
 obtain ⟨j, rfl⟩ := ofI h0
 have hj : j < xs.length := by omega
 exact ⟨xs[j], List.getElem_mem hj, zx (by simp [hj])⟩
def Yx : Sp := fun vs H Q _ => ∃ (p l : Addr) (ns : List Int) (m : Nat), vs = [.ref p, .int (m : Int)] ∧ Tp H p l ns ∧ m ≤ 8 ∧ ∀ (q : Addr) (nm : List Str) (H' : Hp), nm.length = m → (∀ x ∈ nm, x ∈ pool12) → H' q = some (.tup (nm.map V.str)) → Tp H' p l ns → Bp p H H' → Q (.ref q) H'
section
variable {P : Program} {w : World} {K : W.Frag} {mg : Str → Option Value} {base : Heap}
theorem ok_Names {f : Addr} {fd : FuncData} (B : Blt mg) (D : Has P w K mg base 1 "_law_draw" ["_law_tape_here", "_law_many"] xh) (F : Fun K "_law_names" "_law_names" wq f fd) : FnOk P w K mg base CX0 2 f fd ["_law_tape_here", "_law_many"] Yx := by
 refine F.ok scNames (fun vs H Q E h => ?_) (fun cdv A outer s H vs Q E hr h => ?_)
 ·obtain ⟨p, l, ns, m, rfl, _⟩ := h
  rfl
 obtain ⟨p, l, ns, m, rfl, T0, hm8, k⟩ := h
 refine' ⟨_, ?hb, ?rd⟩
 case hb =>
  refine' zf ?s1 ?r1
  case' r1 => refine' zf ?s2 ?r2
  case' r2 => refine' zf ?s3 ?r3
  case' r3 => refine' zg ?s4
  case s1 =>
   refine' zj xD 2 ?p1
   case p1 =>
    refine xj (vs := pool12.map V.str) ?_
    decide +kernel
  case s2 => exact zj xD 3 (pe_f D hr (by decide) (pa_2 (pvd xD 0) zd))
  case s3 =>
   refine' zj xD 4 ?p3
   case' p3 => refine' ziq ?a3 (pe_f D hr (by decide) (pa_2 (pvd xD 0) zd))
   case a3 =>
    refine xj (vs := ([1, 5, 7, 11] : List Int).map V.int) ?_
    decide +kernel
  case s4 =>
   refine' zl ?p4
   case' p4 => refine' zK zA B.tuple PyProof.Rows.boot_tuple ?p5
   case' p5 => refine' pa_1 ?p6
   case p6 =>
    refine' zB (ix := [2, 3, 4]) bsNames.toCScope rfl rfl (yR B.range (pa_1 (pvd xD 1))) ?h4 ?h5 ?h6
    case h4 => exact fun _ _ _ _ _ _ => pgb bsNames 0
    case h5 => exact fun _ _ _ _ _ _ => zz
    case h6 => exact fun _ _ _ _ _ _ => ziq (pvb bsNames 1) (zo yO (zo zR (pvb bsNames 2) (zo x8 (pvb bsNames 3) (pvb bsNames 0))) zd)
 walk_at "v"
 refine ⟨by show 12 ≤ sizeLine; decide, fun a1 ha1 => ?_⟩
 have T1 := T0.new (o := .lst (pool12.map V.str)) ha1
 have np1 := T0.np ha1
 have b1 : Bp p H (upd H a1 (.lst (pool12.map V.str))) := Bp.refl.new ha1
 have e1 : upd H a1 (.lst (pool12.map V.str)) a1 = some (.lst (pool12.map V.str)) := ze
 generalize upd H a1 (.lst (pool12.map V.str)) = H1 at T1 b1 e1 ⊢
 walk_at "v"
 refine ⟨p, l, ns, 12, rfl, T1, by decide, by decide, fun st c e s0 s1 => ?_⟩
 have T2 := T1.draw (c := c) (e := e)
 have b2 : Bp p H (upd H1 p (.lst [.ref l, .int c, .int e])) := b1.at
 have e2 : upd H1 p (.lst [.ref l, .int c, .int e]) a1 = some (.lst (pool12.map V.str)) := by rw [zi (Ne.symm np1)]; exact e1
 generalize upd H1 p (.lst [.ref l, .int c, .int e]) = H2 at T2 b2 e2 ⊢
 walk_at "v"
 refine ⟨sz4, fun a2 ha2 => ?_⟩
 have T3 := T2.new (o := .lst (([1, 5, 7, 11] : List Int).map V.int)) ha2
 have np2 := T2.np ha2
 have b3 : Bp p H (upd H2 a2 (.lst (([1, 5, 7, 11] : List Int).map V.int))) := b2.new ha2
 have e3 : upd H2 a2 (.lst (([1, 5, 7, 11] : List Int).map V.int)) a1 = some (.lst (pool12.map V.str)) := by rw [zi (zh e2 ha2)]; exact e2
 have g3 : upd H2 a2 (.lst (([1, 5, 7, 11] : List Int).map V.int)) a2 = some (.lst (([1, 5, 7, 11] : List Int).map V.int)) := ze
 generalize upd H2 a2 (.lst (([1, 5, 7, 11] : List Int).map V.int)) = H3 at T3 b3 e3 g3 ⊢
 walk_at "v"
 refine ⟨p, l, ns, 4, rfl, T3, by decide, by decide, fun r c e r0 r1 => ?_⟩
 obtain ⟨sp, hsp, hat⟩ := wM (xs := [1, 5, 7, 11]) r0 r1
 refine zD (by rw [zi (Ne.symm np2)]; exact g3) hat ?_
 have T4 := T3.draw (c := c) (e := e)
 have b4 : Bp p H (upd H3 p (.lst [.ref l, .int c, .int e])) := b3.at
 have e4 : upd H3 p (.lst [.ref l, .int c, .int e]) a1 = some (.lst (pool12.map V.str)) := by rw [zi (Ne.symm np1)]; exact e3
 generalize upd H3 p (.lst [.ref l, .int c, .int e]) = H4 at T4 b4 e4 ⊢
 walk_at "v"
 refine ⟨_, rfl, by omega, by omega, fun d hd => ?_⟩
 rw [Int.toNat_natCast]
 refine yw (ρ := [some (.ref a1), some (.int st), some (.int sp)]) (fun i ys H' => ∃ nm : List Str, ys = nm.map V.str ∧ nm.length = i ∧ (∀ x ∈ nm, x ∈ pool12) ∧ Same H4 H') ⟨[], rfl, rfl, (fun x h => by cases h), Same.new (Same.refl H4) hd⟩ ?_ ?_
 ·rintro i ys H' hi ⟨nm, rfl, hnl, hnm, K'⟩ hD R S kR _
  have hs4 : 1 ≤ sp ∧ sp ≤ 11 := by
   simp only [List.mem_cons, List.not_mem_nil, or_false] at hsp
   omega
  walk_at "v"
  refine w_rI (mulL (by omega) (by omega)) ?_
  walk_at "v"
  refine w_rI (by decide) ?_
  have q12 := md (i := st + sp * (0 + (i : Int))) (j := 12) (by decide)
  obtain ⟨x, hx, hax⟩ := pickW (xs := pool12) q12.1 (by show _ < (12 : Int); exact q12.2)
  refine zD (K' _ _ e4) hax ?_
  refine kR _ _ hD (by rw [List.length_map]; exact zn (by omega)) ⟨nm ++ [x], by rw [List.map_append]; rfl, by simp [hnl], fun y hy => ?_, K'.put hd⟩
  rcases List.mem_append.mp hy with old | new
  ·exact hnm y old
  ·rw [List.mem_singleton.mp new]
   exact hx
 ·rintro ys H5 ⟨nm, rfl, hnl, hnm, K5⟩ hD
  walk_at "v"
  refine ⟨d, _, rfl, .inl ⟨SqL.of hD, fun q hq => ?_⟩⟩
  exact k q nm _ hnl hnm ze ((T4.same K5).new hq) ((b4.trans (Bp.same K5)).new hq)
abbrev W1 : List Str := ["_law_tape_here", "_law_many", "_law_takes", "_law_k", "_law_gives"]
theorem zX : Nm W1 (zc YF) := ⟨by decide +kernel, by decide +kernel⟩
theorem scRule : FnScope W1 ["_law_tape_here", "_law_many"] (zc YF) := ⟨rfl, rfl, rfl, by decide +kernel, rfl, by decide +kernel, by decide +kernel⟩
def Cn9 (m : Nat) (H : Hp) (a : Addr) : Prop := ∃ xs : List Int, H a = some (.lst (xs.map V.int)) ∧ xs.length = m ∧ ∀ x ∈ xs, 0 ≤ x ∧ x ≤ 9
theorem Cn9.new {m : Nat} {H : Hp} {a b : Addr} {o : HO} (c : Cn9 m H a) (h : a ≠ b) : Cn9 m (upd H b o) a := let ⟨xs, e, r⟩ := c; ⟨xs, by rw [zi h]; exact e, r⟩
theorem Cn9.ne {m : Nat} {H : Hp} {a b : Addr} (c : Cn9 m H a) (h : H b = none) : a ≠ b := let ⟨_, e, _⟩ := c; zh e h
theorem Cn9.zero {m : Nat} {H : Hp} {a : Addr} (e : H a = some (.lst ((List.replicate m (0 : Int)).map V.int))) : Cn9 m H a := ⟨_, e, List.length_replicate, fun x hx => by rw [List.eq_of_mem_replicate hx]; exact ⟨by decide, by decide⟩⟩
theorem Cn9.set {m j : Nat} {H : Hp} {a : Addr} {xs : List Int} {v : Int} (hl : xs.length = m) (hb : ∀ x ∈ xs, 0 ≤ x ∧ x ≤ 9) (hv : 0 ≤ v ∧ v ≤ 9) : Cn9 m (upd H a (.lst ((xs.map V.int).set j (.int v)))) a := by
 refine ⟨xs.set j v, by rw [ze, List.map_set], by rw [List.length_set]; exact hl, fun x hx => ?_⟩
 rcases List.mem_or_eq_of_mem_set hx with h | h
 ·exact hb x h
 ·rw [h]
  exact hv
theorem ixK {n : Nat} {r : Int} (h0 : 0 ≤ r) (h1 : r < n) : ixN n r = some r.toNat := by
 unfold ixN
 rw [if_pos h0, if_pos h1]
def RuleT (m : Nat) (H : Hp) (r : Addr) : Prop := ∃ (a b : Addr) (ts gs : List Int), H r = some (.tup [.ref a, .ref b]) ∧ H a = some (.tup (ts.map V.int)) ∧ H b = some (.tup (gs.map V.int)) ∧ ts.length = m ∧ gs.length = m ∧ (∀ x ∈ ts, 0 ≤ x ∧ x ≤ 9) ∧ (∀ x ∈ gs, 0 ≤ x ∧ x ≤ 9)
def Xr : Sp := fun vs H Q _ => ∃ (p l : Addr) (ns : List Int) (m : Nat), vs = [.ref p, .int (m : Int)] ∧ Tp H p l ns ∧ 0 < m ∧ m ≤ 8 ∧ ∀ (q : Addr) (H' : Hp), RuleT m H' q → Tp H' p l ns → Bp p H H' → Q (.ref q) H'
theorem ok_Rule {f : Addr} {fd : FuncData} (B : Blt mg) (D : Has P w K mg base 1 "_law_draw" ["_law_tape_here", "_law_many"] xh) (F : Fun K "_law_rule" "_law_rule" YF f fd) : FnOk P w K mg base CX0 2 f fd ["_law_tape_here", "_law_many"] Xr := by
 refine F.ok scRule (fun vs H Q E h => ?_) (fun cdv A outer s H vs Q E hr h => ?_)
 ·obtain ⟨p, l, ns, m, rfl, _⟩ := h
  rfl
 obtain ⟨p, l, ns, m, rfl, T0, hm0, hm8, k⟩ := h
 refine' ⟨_, ?hb, ?rd⟩
 case hb =>
  refine' zf ?s1 ?r1
  case' r1 => refine' zf ?s2 ?r2
  case' r2 => refine' zf ?s3 ?r3
  case' r3 => refine' zf ?s4 ?r4
  case' r4 => refine' zf ?s5 ?r5
  case' r5 => refine' zg ?s6
  case s1 => exact zj zX 2 (zo XQ (zE (pa_1 zd)) (pvd zX 1))
  case s3 => exact zj zX 4 (zo XQ (zE (pa_1 zd)) (pvd zX 1))
  case s2 =>
   refine' yt PassesOwn.never rfl (yR B.range (pa_1 (zo zR zd (pe_f D hr (by decide) (pa_2 (pvd zX 0) zd))))) (pgd zX 3) ?fb
   case fb =>
    refine' zg ?f1
    case' f1 => refine' wt ?f2 (wu (pvd zX 2) (pe_f D hr (by decide) (pa_2 (pvd zX 0) (pvd zX 1))) vT)
    case' f2 => refine' ziq ?f3 (pe_f D hr (by decide) (pa_2 (pvd zX 0) zd))
    case f3 =>
     refine xj (vs := ([1, 1, 2, 9] : List Int).map V.int) ?_
     decide +kernel
  case s4 =>
   refine' yt PassesOwn.never rfl (yR B.range (pa_1 (pe_f D hr (by decide) (pa_2 (pvd zX 0) zd)))) (pgd zX 3) ?gb
   case gb =>
    refine' zg ?g1
    case' g1 => refine' wt ?g2 (wu (pvd zX 4) (pe_f D hr (by decide) (pa_2 (pvd zX 0) (pvd zX 1))) vT)
    case' g2 => refine' ziq ?g3 (pe_f D hr (by decide) (pa_2 (pvd zX 0) zd))
    case g3 =>
     refine xj (vs := ([1, 1, 2, 9] : List Int).map V.int) ?_
     decide +kernel
  case s5 =>
   refine' zC (zq (op_eqD hr) (pvd zX 4) (pvd zX 2) (zt _)) ?h1 zw
   case' h1 => refine' zg ?h2
   case' h2 => refine' wt ?h3 (wu (pvd zX 4) zd vT)
   case h3 => exact zo yO (zo zR (ziq (pvd zX 4) zd) zd) zd
  case s6 =>
   refine' zl ?j1
   case' j1 => refine' zy ?j2
   case j2 => exact pa_2 (zK zA B.tuple PyProof.Rows.boot_tuple (pa_1 (pvd zX 2))) (zK zA B.tuple PyProof.Rows.boot_tuple (pa_1 (pvd zX 4)))
 walk_at "v"
 refine ⟨sz1, fun z0 hz0 => ?_⟩
 have K1 : Same H (upd H z0 (.lst [.int 0])) := Same.new (Same.refl H) hz0
 have e1 : upd H z0 (.lst [.int 0]) z0 = some (.lst [.int 0]) := ze
 generalize upd H z0 (.lst [.int 0]) = H1 at K1 e1 ⊢
 walk_at "v"
 refine ⟨z0, _, _, rfl, rfl, e1, by omega, by omega, by rw [Int.toNat_natCast]; exact Nat.le_of_lt (zn (by simp; omega)), fun a ha => ?_⟩
 rw [Int.toNat_natCast, YM]
 have T1 := T0.same K1
 have npa := T1.np ha
 have nla := T1.nl ha
 have h0a : H a = none := by
  cases e : H a with
  | none => rfl
  | some o => rw [K1 _ _ e] at ha; cases ha
 have T2 := T1.new (o := .lst ((List.replicate m (0 : Int)).map V.int)) ha
 have b2 : Bp p H (upd H1 a (.lst ((List.replicate m (0 : Int)).map V.int))) := (Bp.same K1).new ha
 have c2 : Cn9 m (upd H1 a (.lst ((List.replicate m (0 : Int)).map V.int))) a := Cn9.zero ze
 generalize upd H1 a (.lst ((List.replicate m (0 : Int)).map V.int)) = H2 at T2 b2 c2 ⊢
 walk_at "v"
 refine ⟨p, l, ns, 2, rfl, T2, by decide, by decide, fun r c e r0 r1 => ?_⟩
 have T3 := T2.draw (c := c) (e := e)
 have b3 : Bp p H (upd H2 p (.lst [.ref l, .int c, .int e])) := b2.at
 have c3 := c2.new (o := .lst [.ref l, .int c, .int e]) (Ne.symm npa)
 generalize upd H2 p (.lst [.ref l, .int c, .int e]) = H3 at T3 b3 c3 ⊢
 walk_at "v"
 refine ⟨_, rfl, by omega, by omega, ?_⟩
 refine yu (fun i σ H' => ∃ (u3 : Option V), σ = [some (.ref p), some (.int (m : Int)), some (.ref a), u3, none] ∧ Tp H' p l ns ∧ Bp p H H' ∧ Cn9 m H' a) ⟨none, rfl, T3, b3, c3⟩ ?_ ?_
 ·rintro i σ H' hi ⟨u3, rfl, T, bb, cc⟩
  walk_at "v"
  refine ⟨sz4, fun z hz => ?_⟩
  have Tz := T.new (o := .lst (([1, 1, 2, 9] : List Int).map V.int)) hz
  have npz := T.np hz
  have bz : Bp p H (upd H' z (.lst (([1, 1, 2, 9] : List Int).map V.int))) := bb.new hz
  have ez : upd H' z (.lst (([1, 1, 2, 9] : List Int).map V.int)) z = some (.lst (([1, 1, 2, 9] : List Int).map V.int)) := ze
  have cz := cc.new (o := .lst (([1, 1, 2, 9] : List Int).map V.int)) (cc.ne hz)
  generalize upd H' z (.lst (([1, 1, 2, 9] : List Int).map V.int)) = Hz at Tz bz ez cz ⊢
  walk_at "v"
  refine ⟨p, l, ns, 4, rfl, Tz, by decide, by decide, fun r c e r0 r1 => ?_⟩
  obtain ⟨v, hv, hat⟩ := wM (xs := [1, 1, 2, 9]) r0 r1
  refine zD (by rw [zi (Ne.symm npz)]; exact ez) hat ?_
  have hv9 : 0 ≤ v ∧ v ≤ 9 := by
   simp only [List.mem_cons, List.not_mem_nil, or_false] at hv
   omega
  have Ty := Tz.draw (c := c) (e := e)
  have by' : Bp p H (upd Hz p (.lst [.ref l, .int c, .int e])) := bz.at
  have cy := cz.new (o := .lst [.ref l, .int c, .int e]) (Ne.symm npa)
  generalize upd Hz p (.lst [.ref l, .int c, .int e]) = Hy at Ty by' cy ⊢
  walk_at "v"
  refine ⟨p, l, ns, m, rfl, Ty, by omega, by omega, fun r c e r0 r1 => ?_⟩
  have Tx := Ty.draw (c := c) (e := e)
  have bx : Bp p H (upd Hy p (.lst [.ref l, .int c, .int e])) := by'.at
  have cx := cy.new (o := .lst [.ref l, .int c, .int e]) (Ne.symm npa)
  generalize upd Hy p (.lst [.ref l, .int c, .int e]) = Hx at Tx bx cx ⊢
  obtain ⟨xs, ex, hxl, hxb⟩ := cx
  walk_at "v"
  refine vO ex (ixK r0 (by rw [List.length_map, hxl]; exact r1)) ?_
  refine ⟨_, rfl, Tx.put npa nla, bx.put h0a, Cn9.set hxl hxb hv9⟩
 ·rintro σ H4 ⟨u3, rfl, T4, b4, c4⟩
  walk_at "v"
  refine ⟨sz1, fun z1 hz1 => ?_⟩
  have K5 : Same H4 (upd H4 z1 (.lst [.int 0])) := Same.new (Same.refl H4) hz1
  have e5 : upd H4 z1 (.lst [.int 0]) z1 = some (.lst [.int 0]) := ze
  have c5 := c4.new (o := .lst [.int 0]) (c4.ne hz1)
  generalize upd H4 z1 (.lst [.int 0]) = H5 at K5 e5 c5 ⊢
  walk_at "v"
  refine ⟨z1, _, _, rfl, rfl, e5, by omega, by omega, by rw [Int.toNat_natCast]; exact Nat.le_of_lt (zn (by simp; omega)), fun g hg => ?_⟩
  rw [Int.toNat_natCast, YM]
  have noa : a ≠ g := c5.ne hg
  have npo : p ≠ a := npa
  have T5 := T4.same K5
  have npg := T5.np hg
  have nlg := T5.nl hg
  have b5 : Bp p H H5 := b4.trans (Bp.same K5)
  have h0g : H g = none := b5.free npg hg
  have T6 := T5.new (o := .lst ((List.replicate m (0 : Int)).map V.int)) hg
  have b6 : Bp p H (upd H5 g (.lst ((List.replicate m (0 : Int)).map V.int))) := b5.new hg
  have c6 : Cn9 m (upd H5 g (.lst ((List.replicate m (0 : Int)).map V.int))) g := Cn9.zero ze
  have o6 := c5.new (o := .lst ((List.replicate m (0 : Int)).map V.int)) noa
  generalize upd H5 g (.lst ((List.replicate m (0 : Int)).map V.int)) = H6 at T6 b6 c6 o6 ⊢
  walk_at "v"
  refine ⟨p, l, ns, 4, rfl, T6, by decide, by decide, fun r c e r0 r1 => ?_⟩
  have T7 := T6.draw (c := c) (e := e)
  have b7 : Bp p H (upd H6 p (.lst [.ref l, .int c, .int e])) := b6.at
  have c7 := c6.new (o := .lst [.ref l, .int c, .int e]) (Ne.symm npg)
  have o7 := o6.new (o := .lst [.ref l, .int c, .int e]) (Ne.symm npa)
  generalize upd H6 p (.lst [.ref l, .int c, .int e]) = H7 at T7 b7 c7 o7 ⊢
  walk_at "v"
  refine ⟨_, rfl, by omega, by omega, ?_⟩
  refine yu (fun i σ H' => ∃ (u3 : Option V), σ = [some (.ref p), some (.int (m : Int)), some (.ref a), u3, some (.ref g)] ∧ Tp H' p l ns ∧ Bp p H H' ∧ Cn9 m H' g ∧ Cn9 m H' a) ⟨_, rfl, T7, b7, c7, o7⟩ ?_ ?_
  ·rintro i σ H' hi ⟨u3, rfl, T, bb, cc, oo⟩
   walk_at "v"
   refine ⟨sz4, fun z hz => ?_⟩
   have Tz := T.new (o := .lst (([1, 1, 2, 9] : List Int).map V.int)) hz
   have npz := T.np hz
   have bz : Bp p H (upd H' z (.lst (([1, 1, 2, 9] : List Int).map V.int))) := bb.new hz
   have ez : upd H' z (.lst (([1, 1, 2, 9] : List Int).map V.int)) z = some (.lst (([1, 1, 2, 9] : List Int).map V.int)) := ze
   have cz := cc.new (o := .lst (([1, 1, 2, 9] : List Int).map V.int)) (cc.ne hz)
   have oz := oo.new (o := .lst (([1, 1, 2, 9] : List Int).map V.int)) (oo.ne hz)
   generalize upd H' z (.lst (([1, 1, 2, 9] : List Int).map V.int)) = Hz at Tz bz ez cz oz ⊢
   walk_at "v"
   refine ⟨p, l, ns, 4, rfl, Tz, by decide, by decide, fun r c e r0 r1 => ?_⟩
   obtain ⟨v, hv, hat⟩ := wM (xs := [1, 1, 2, 9]) r0 r1
   refine zD (by rw [zi (Ne.symm npz)]; exact ez) hat ?_
   have hv9 : 0 ≤ v ∧ v ≤ 9 := by
    simp only [List.mem_cons, List.not_mem_nil, or_false] at hv
    omega
   have Ty := Tz.draw (c := c) (e := e)
   have by' : Bp p H (upd Hz p (.lst [.ref l, .int c, .int e])) := bz.at
   have cy := cz.new (o := .lst [.ref l, .int c, .int e]) (Ne.symm npg)
   have oy := oz.new (o := .lst [.ref l, .int c, .int e]) (Ne.symm npa)
   generalize upd Hz p (.lst [.ref l, .int c, .int e]) = Hy at Ty by' cy oy ⊢
   walk_at "v"
   refine ⟨p, l, ns, m, rfl, Ty, by omega, by omega, fun r c e r0 r1 => ?_⟩
   have Tx := Ty.draw (c := c) (e := e)
   have bx : Bp p H (upd Hy p (.lst [.ref l, .int c, .int e])) := by'.at
   have cx := cy.new (o := .lst [.ref l, .int c, .int e]) (Ne.symm npg)
   have ox := oy.new (o := .lst [.ref l, .int c, .int e]) (Ne.symm npa)
   generalize upd Hy p (.lst [.ref l, .int c, .int e]) = Hx at Tx bx cx ox ⊢
   obtain ⟨xs, ex, hxl, hxb⟩ := cx
   walk_at "v"
   refine vO ex (ixK r0 (by rw [List.length_map, hxl]; exact r1)) ?_
   refine ⟨_, rfl, Tx.put npg nlg, bx.put h0g, Cn9.set hxl hxb hv9, ox.new noa⟩
  ·rintro σ H8 ⟨u3, rfl, T8, b8, ⟨gs, eg, hgl, hgb⟩, ⟨ts, et, htl, htb⟩⟩
   have last : ∀ (gs : List Int) (H9 : Hp), gs.length = m → (∀ x ∈ gs, 0 ≤ x ∧ x ≤ 9) → H9 g = some (.lst (gs.map V.int)) → H9 a = some (.lst (ts.map V.int)) → Tp H9 p l ns → Bp p H H9 → True := fun _ _ _ _ _ _ _ _ => trivial
   with_reducible refine yM (fun σ' H' => ∃ (u3 : Option V) (gs : List Int), σ' = [some (.ref p), some (.int (m : Int)), some (.ref a), u3, some (.ref g)] ∧ gs.length = m ∧ (∀ x ∈ gs, 0 ≤ x ∧ x ≤ 9) ∧ H' g = some (.lst (gs.map V.int)) ∧ H' a = some (.lst (ts.map V.int)) ∧ Tp H' p l ns ∧ Bp p H H') ?_ fun rest => ?_
   ·rintro σ' H9 ⟨u3, gs, rfl, hgl, hgb, eg, et, T9, b9⟩
    walk_at "v"
    refine ⟨a, _, rfl, .inl ⟨SqL.of et, fun qa hqa => ?_⟩⟩
    have KA : Same H9 (upd H9 qa (.tup (ts.map V.int))) := Same.new (Same.refl H9) hqa
    have eA : upd H9 qa (.tup (ts.map V.int)) qa = some (.tup (ts.map V.int)) := ze
    generalize upd H9 qa (.tup (ts.map V.int)) = HA at KA eA ⊢
    walk_at "v"
    refine ⟨g, _, rfl, .inl ⟨SqL.of (KA _ _ eg), fun qb hqb => ?_⟩⟩
    have KB : Same HA (upd HA qb (.tup (gs.map V.int))) := Same.new (Same.refl HA) hqb
    have eB : upd HA qb (.tup (gs.map V.int)) qb = some (.tup (gs.map V.int)) := ze
    generalize upd HA qb (.tup (gs.map V.int)) = HB at KB eB ⊢
    walk_at "v"
    refine ⟨sz2, fun q hq => ?_⟩
    have KC : Same HB (upd HB q (.tup [.ref qa, .ref qb])) := Same.new (Same.refl HB) hq
    have K9 := (KA.trans KB).trans KC
    exact k q _ ⟨qa, qb, ts, gs, ze, KC _ _ (KB _ _ eA), KC _ _ eB, htl, hgl, htb, hgb⟩ (T9.same K9) (b9.trans (Bp.same K9))
   ·walk_at "v"
    refine w_eqL eg et ?_
    walk_at "v"
    refine iteD (fun _ => ?_) (fun _ => ?_)
    ·have hg0 : 0 < gs.length := by omega
     have hg00 := hgb _ (List.getElem_mem hg0)
     walk_at "v"
     refine zD (v := .int gs[0]) eg (show atI _ ((0 : Nat) : Int) = _ from zx (by simp [hg0])) ?_
     walk_at "v"
     refine w_rI (by decide) ?_
     walk_at "v"
     have q10 := md (i := gs[0] + 1) (j := 10) (by decide)
     refine vO eg (ixK (by decide) (by rw [List.length_map]; omega)) ?_
     obtain ⟨gs', eg', hgl', hgb'⟩ := Cn9.set (H := H8) (a := g) (j := (0 : Int).toNat) hgl hgb ⟨q10.1, by omega⟩
     exact rest _ _ ⟨_, gs', rfl, hgl', hgb', eg', by rw [zi noa]; exact et, T8.put npg nlg, b8.put h0g⟩
    ·exact rest _ _ ⟨_, gs, rfl, hgl, hgb, eg, et, T8, b8⟩
end
abbrev sPot : Stmt := top 72
structure Blt2 (mg : Str → Option Value) : Prop extends Blt mg where
 list : mg "list" = none
 min : mg "min" = none
abbrev nPot : List Str := ["_law_tape_here", "_law_most", "_law_rules", "_law_many", "_law_names_here", "_law_some", "_law_left", "_law_inputs", "_law_k", "_law_begin"]
theorem ya : Nm nPot (zc sPot) := nmk (by decide +kernel)
theorem scPot : FnScope nPot ["_law_tape_here", "_law_most", "_law_rules"] (zc sPot) := fsk (by decide +kernel)
def Xc (s : Stmt) : Scope := match s with
 | .Assign _ (.Call _ [.ListComp _ _ sc _] _ _) _ => sc
 | _ => nsc
abbrev cPotA : Scope := Xc ((zu sPot).getD 2 (.Pass ⟨0, 0, 0, 0⟩))
abbrev cPotB : Scope := Xc ((zu sPot).getD 6 (.Pass ⟨0, 0, 0, 0⟩))
theorem bsPotA : BScope (zc sPot) cPotA ["_law_k"] ["_law_tape_here", "_law_many"] ["_law_rule"] := { okind := by decide +kernel, kind := by decide +kernel, nocell := by decide +kernel, names := by decide +kernel, fr := by decide +kernel, ff := by decide +kernel, nd := by decide +kernel, vis := by decide +kernel, loc := by decide +kernel, gl := by decide +kernel }
theorem bsPotB : BScope (zc sPot) cPotB ["_law_k"] ["_law_tape_here"] ["_law_draw"] := { okind := by decide +kernel, kind := by decide +kernel, nocell := by decide +kernel, names := by decide +kernel, fr := by decide +kernel, ff := by decide +kernel, nd := by decide +kernel, vis := by decide +kernel, loc := by decide +kernel, gl := by decide +kernel }
structure SS (p l : Addr) (ns : List Int) (H0 H : Hp) : Prop where
 tp : Tp H p l ns
 bt : Bp p H0 H
section
variable {p l a : Addr} {ns : List Int} {H0 H H' : Hp} {o : HO}
theorem SS.draw (r : SS p l ns H0 H) {c e : Int} : SS p l ns H0 (upd H p (.lst [.ref l, .int c, .int e])) := ⟨r.tp.draw, r.bt.at⟩
theorem SS.new (r : SS p l ns H0 H) (h : H a = none) : SS p l ns H0 (upd H a o) := ⟨r.tp.new h, r.bt.new h⟩
theorem SS.put (r : SS p l ns H0 H) (h : H0 a = none) (h1 : p ≠ a) (h2 : l ≠ a) : SS p l ns H0 (upd H a o) := ⟨r.tp.put h1 h2, r.bt.put h⟩
theorem SS.call (r : SS p l ns H0 H) (t : Tp H' p l ns) (b : Bp p H H') : SS p l ns H0 H' := ⟨t, r.bt.trans b⟩
theorem SS.none (r : SS p l ns H0 H) (h : H a = none) : H0 a = none := r.bt.free (r.tp.np h) h
theorem SS.tk (r : SS p l ns H0 H) {c e : Int} : TK H (upd H p (.lst [.ref l, .int c, .int e])) := r.tp.tk
end
theorem RuleT.tk {m : Nat} {H H' : Hp} {r : Addr} (k : TK H H') (R : RuleT m H r) : RuleT m H' r := let ⟨a, b, ts, gs, h1, h2, h3, h4⟩ := R; ⟨a, b, ts, gs, k.t _ _ h1, k.t _ _ h2, k.t _ _ h3, h4⟩
theorem map_eraseB (k : Nat) (xs : List Int) : (xs.map V.int).eraseIdx k = (xs.eraseIdx k).map V.int := map_erase k xs
structure PotT (H : Hp) (q : Addr) (nm : List Str) (rs : List Addr) (ins beg : List Int) (ans : Int) (m : Nat) : Prop where
 ex : ∃ ps pr pin pb : Addr, H q = some (.tup [.ref ps, .ref pr, .ref pin, .ref pb, .int ans]) ∧ H ps = some (.tup (nm.map V.str)) ∧ H pr = some (.tup (rs.map V.ref)) ∧ H pin = some (.tup (ins.map V.int)) ∧ H pb = some (.tup (beg.map V.int))
 hr : ∀ r ∈ rs, RuleT m H r
 nl : nm.length = m
 np : ∀ x ∈ nm, x ∈ pool12
 r8 : rs.length ≤ 8
 m0 : 0 < m
 m8 : m ≤ 8
 hi : ∀ i ∈ ins, 0 ≤ i ∧ i < (m : Int)
 i3 : ins.length ≤ 3
 bl : beg.length = m
 hb : ∀ b ∈ beg, 0 ≤ b ∧ b ≤ 99
 ha : 0 ≤ ans ∧ ans < (m : Int)
theorem PotT.tk {H H' : Hp} {q : Addr} {nm : List Str} {rs : List Addr} {ins beg : List Int} {ans : Int} {m : Nat} (k : TK H H') (h : PotT H q nm rs ins beg ans m) : PotT H' q nm rs ins beg ans m :=
 let ⟨ps, pr, pin, pb, h1, h2, h3, h4, h5⟩ := h.ex
 ⟨⟨ps, pr, pin, pb, k.t _ _ h1, k.t _ _ h2, k.t _ _ h3, k.t _ _ h4, k.t _ _ h5⟩, fun r hr => (h.hr r hr).tk k, h.nl, h.np, h.r8, h.m0, h.m8, h.hi, h.i3, h.bl, h.hb, h.ha⟩
def WF : Sp := fun vs H Q _ => ∃ (p l : Addr) (ns : List Int) (mo ru : Nat), vs = [.ref p, .int (mo : Int), .int (ru : Int)] ∧ Tp H p l ns ∧ 0 < mo ∧ mo ≤ 8 ∧ ru ≤ 8 ∧ ∀ (q : Addr) (nm : List Str) (rs : List Addr) (ins beg : List Int) (ans : Int) (m : Nat) (H' : Hp), PotT H' q nm rs ins beg ans m → Tp H' p l ns → Bp p H H' → Q (.ref q) H'
section
variable {P : Program} {w : World} {K : W.Frag} {mg : Str → Option Value} {base : Heap}
theorem ok_Pot {f : Addr} {fd : FuncData} (B : Blt2 mg) (D : Has P w K mg base 1 "_law_draw" ["_law_tape_here", "_law_many"] xh) (N : Has P w K mg base 2 "_law_names" ["_law_tape_here", "_law_many"] Yx) (R : Has P w K mg base 2 "_law_rule" ["_law_tape_here", "_law_many"] Xr) (F : Fun K "_law_pot" "_law_pot" sPot f fd) : FnOk P w K mg base CX0 3 f fd ["_law_tape_here", "_law_most", "_law_rules"] WF := by
 refine F.ok scPot (fun vs H Q E h => ?_) (fun cdv A outer s H vs Q E hr h => ?_)
 ·obtain ⟨p, l, ns, mo, ru, rfl, _⟩ := h
  rfl
 obtain ⟨p, l, ns, mo, ru, rfl, T0, mo0, mo8, ru8, k⟩ := h
 refine' ⟨_, ?hb, ?rd⟩
 case hb =>
  refine' zf ?s1 ?r1
  case' r1 => refine' zf ?s2 ?r2
  case' r2 => refine' zf ?s3 ?r3
  case' r3 => refine' zf ?s4 ?r4
  case' r4 => refine' zf ?s5 ?r5
  case' r5 => refine' zf ?s6 ?r6
  case' r6 => refine' zf ?s7 ?r7
  case' r7 => refine' zg ?s8
  case s1 => exact zj ya 3 (zo zR zd (pe_f D hr (by decide) (pa_2 (pvd ya 0) (pvd ya 1))))
  case s2 => exact zj ya 4 (pe_f N hr (by decide) (pa_2 (pvd ya 0) (pvd ya 3)))
  case s3 =>
   refine' zj ya 5 ?p3
   case' p3 => refine' zK zA B.tuple PyProof.Rows.boot_tuple ?qc3
   case' qc3 => refine' pa_1 ?c3
   case c3 =>
    refine' zB (ix := [0, 3]) bsPotA.toCScope rfl rfl ?h3 ?h4 ?h5 ?h6
    case' h3 => refine' yR B.range ?pa3
    case' pa3 => refine' pa_1 ?i3
    case' i3 => refine' pe_f D hr (by decide) ?i4
    case i4 => exact pa_2 (pvd ya 0) (zo zR (pvd ya 2) zd)
    case h4 => exact fun _ _ _ _ _ _ => pgb bsPotA 0
    case h5 => exact fun _ _ _ _ _ _ => zz
    case h6 => exact fun _ _ _ _ _ _ => pe_f R hr (by decide) (pa_2 (pvb bsPotA 1) (pvb bsPotA 2)) (bsPotA.g 0)
  case s4 =>
   refine' zj ya 6 ?p4
   case' p4 => refine' zK (call_listRng rfl) B.list PyProof.Rows.boot_list ?q4
   case' q4 => refine' pa_1 ?u4
   case u4 => exact zK call_rangeV B.range PyProof.Rows.boot_range (pa_1 (pvd ya 3))
  case s5 => exact zj ya 7 (zE xx)
  case s6 =>
   refine' yt PassesOwn.never rfl ?i6 (pgd ya 8) ?b6
   case' i6 => refine' yR B.range ?pa6
   case' pa6 => refine' pa_1 ?j6
   case' j6 => refine' zF (call_min2 rfl) B.min PyProof.Rows.boot_min ?q6
   case q6 => exact pa_2 (pe_f D hr (by decide) (pa_2 (pvd ya 0) zd)) (pvd ya 3)
   case b6 =>
    refine' zg ?b6a
    case' b6a => refine' yE ?b6b
    case' b6b => refine' yn PySem.F.plainAttrs_list PySem.F.slot_list_append PySem.F.type_list_append yI (pvd ya 7) ?b6c
    case' b6c => refine' pa_1 ?b6d
    case' b6d => refine' yn PySem.F.plainAttrs_list PySem.F.slot_list_pop PySem.F.type_list_pop mt_popAt (pvd ya 6) ?b6e
    case' b6e => refine' pa_1 ?b6f
    case' b6f => refine' pe_f D hr (by decide) ?b6g
    case' b6g => refine' pa_2 (pvd ya 0) ?b6h
    case b6h => exact zF zr B.len PySem.boot_len (pa_1 (pvd ya 6))
  case s7 =>
   refine' zj ya 9 ?p7
   case' p7 => refine' zK zA B.tuple PyProof.Rows.boot_tuple ?qc7
   case' qc7 => refine' pa_1 ?c7
   case c7 =>
    refine' zB (ix := [0]) bsPotB.toCScope rfl rfl (yR B.range (pa_1 (pvd ya 3))) ?k4 ?k5 ?k6
    case k4 => exact fun _ _ _ _ _ _ => pgb bsPotB 0
    case k5 => exact fun _ _ _ _ _ _ => zz
    case k6 =>
     intro _ _ _ _ _ _
     refine' ziq ?e7 ?g7
     case g7 => exact pe_f D hr (by decide) (pa_2 (pvb bsPotB 1) zd) (bsPotB.g 0)
     case e7 =>
      refine xj (vs := ([0, 0, 1, 2, 99] : List Int).map V.int) ?_
      decide +kernel
  case s8 =>
   refine' zl ?z1
   case' z1 => refine' zy ?z2
   case' z2 => refine' pa_c (pvd ya 4) ?z3
   case' z3 => refine' pa_c (pvd ya 5) ?z4
   case' z4 => refine' pa_c (zK zA B.tuple PyProof.Rows.boot_tuple (pa_1 (pvd ya 7))) ?z5
   case z5 => exact pa_2 (pvd ya 9) (pe_f D hr (by decide) (pa_2 (pvd ya 0) (pvd ya 3)))
 walk_at "v"
 refine ⟨p, l, ns, mo, rfl, T0, by omega, by omega, fun r c e r0 r1 => ?_⟩
 have S1 : SS p l ns H (upd H p (.lst [.ref l, .int c, .int e])) := ⟨T0.draw, Bp.refl.at⟩
 generalize upd H p (.lst [.ref l, .int c, .int e]) = H1 at S1 ⊢
 obtain ⟨r', rfl⟩ := ofI r0
 obtain ⟨m, hm⟩ : ∃ m : Nat, (1 + (r' : Int)) = (m : Int) := ⟨1 + r', by omega⟩
 have m0 : 0 < m := by omega
 have m8 : m ≤ 8 := by omega
 walk_at "v"
 rw [hm]
 refine ⟨p, l, ns, m, rfl, S1.tp, m8, fun ps nm H2 hnl hnm e2 T2 b2 => ?_⟩
 have S2 := S1.call T2 b2
 walk_at "v"
 refine ⟨p, l, ns, _, rfl, T2, by omega, by omega, fun r c e r0 r1 => ?_⟩
 have S3 := S2.draw (c := c) (e := e)
 have e3 := (S2.tk (c := c) (e := e)).t _ _ e2
 generalize upd H2 p (.lst [.ref l, .int c, .int e]) = H3 at S3 e3 ⊢
 obtain ⟨rn, rfl⟩ := ofI r0
 have rn8 : rn ≤ 8 := by omega
 refine ⟨_, rfl, by omega, by omega, fun d hd => ?_⟩
 rw [Int.toNat_natCast]
 have npd := S3.tp.np hd
 have nld := S3.tp.nl hd
 have h0d := S3.none hd
 refine G2.rng_gen (ρ := [some (.ref p), some (.int (m : Int))]) (fun H' => SS p l ns H H' ∧ TK H3 H') (fun y H' => ∃ r, y = V.ref r ∧ RuleT m H' r) (by omega) ⟨S3.new hd, TK.new hd⟩ (fun H' ys zs ⟨a1, a2⟩ hD => ⟨a1.put h0d npd nld, a2.trans (TK.lst hD)⟩) (fun y H' ys zs ⟨r, hy, hr⟩ _ hD => ⟨r, hy, hr.tk (TK.lst hD)⟩) (fun i' H' ys hi' ⟨a1, a2⟩ hD R' kR => ?_) (fun ys H4 hyl hys ⟨S4, TK4⟩ hD => ?_)
 ·walk_at "v"
  refine ⟨p, l, ns, m, rfl, a1.tp, m0, m8, fun q H'' hq t' b' => ?_⟩
  have tk' := Tp.tkb a1.tp b'
  exact kR _ H'' ⟨q, rfl, hq⟩ ⟨a1.call t' b', a2.trans tk'⟩ (b' _ _ (Ne.symm npd) hD) fun z ⟨r, hz, hr⟩ => ⟨r, hz, hr.tk tk'⟩
 obtain ⟨rs, rfl, hrs⟩ : ∃ rs : List Addr, ys = rs.map V.ref ∧ ∀ r ∈ rs, RuleT m H4 r := by
  clear hyl hD
  induction ys with
  | nil => exact ⟨[], rfl, fun r h => by cases h⟩
  | cons y ys ih =>
   obtain ⟨r, rfl, hr'⟩ := hys y List.mem_cons_self
   obtain ⟨rs, rfl, h⟩ := ih fun z hz => hys z (List.mem_cons_of_mem _ hz)
   exact ⟨r :: rs, rfl, fun x hx => by
    rcases List.mem_cons.mp hx with rfl | hx
    ·exact hr'
    ·exact h x hx⟩
 rw [List.length_map] at hyl
 have e4 := TK4.t _ _ e3
 walk_at "v"
 refine ⟨d, _, rfl, .inl ⟨SqL.of hD, fun pr hpr => ?_⟩⟩
 have S8 := S4.new (o := .tup (rs.map V.ref)) hpr
 have T8 : TK H4 (upd H4 pr (.tup (rs.map V.ref))) := TK.new hpr
 have ep8 := T8.t _ _ e4
 have hrs8 : ∀ r ∈ rs, RuleT m (upd H4 pr (.tup (rs.map V.ref))) r := fun r h => (hrs r h).tk T8
 have er8 : upd H4 pr (.tup (rs.map V.ref)) pr = some (.tup (rs.map V.ref)) := ze
 generalize upd H4 pr (.tup (rs.map V.ref)) = H8 at S8 ep8 er8 hrs8 ⊢
 clear T8 hD hrs hpr hys
 walk_at "v"
 refine ⟨m, rfl, fun rg hrg => ?_⟩
 have S9 := S8.new (o := .rng 0 m) hrg
 have T9 : TK H8 (upd H8 rg (.rng 0 m)) := TK.new hrg
 have erg : upd H8 rg (.rng 0 m) rg = some (.rng 0 m) := ze
 generalize upd H8 rg (.rng 0 m) = H9 at S9 T9 erg ⊢
 walk_at "v"
 refine ⟨rg, m, rfl, erg, by omega, fun pl hpl => ?_⟩
 have S10 := S9.new (o := .lst ((List.range m).map fun (i : Nat) => V.int (i : Int))) hpl
 have T10 := T9.trans (TK.new (o := .lst ((List.range m).map fun (i : Nat) => V.int (i : Int))) hpl)
 have n0l := S9.none hpl
 have ppl := S9.tp.np hpl
 have lpl := S9.tp.nl hpl
 have el : upd H9 pl (.lst ((List.range m).map fun (i : Nat) => V.int (i : Int))) pl = some (.lst (((List.range m).map fun (i : Nat) => (i : Int)).map V.int)) := by rw [ze, List.map_map]; rfl
 generalize upd H9 pl (.lst ((List.range m).map fun (i : Nat) => V.int (i : Int))) = H10 at S10 T10 el ⊢
 clear S9 T9 erg hpl hrg
 walk_at "v"
 refine ⟨Nat.zero_le _, fun pi hpi => ?_⟩
 have S11 := S10.new (o := .lst []) hpi
 have T11 := T10.trans (TK.new (o := .lst []) hpi)
 have n0i := S10.none hpi
 have ppi := S10.tp.np hpi
 have lpi := S10.tp.nl hpi
 have nli : pl ≠ pi := zh el hpi
 have el11 : upd H10 pi (.lst []) pl = some (.lst (((List.range m).map fun (i : Nat) => (i : Int)).map V.int)) := by rw [zi nli]; exact el
 have ei11 : upd H10 pi (.lst []) pi = some (.lst (([] : List Int).map V.int)) := ze
 generalize upd H10 pi (.lst []) = H11 at S11 T11 el11 ei11 ⊢
 clear S10 T10 el hpi
 walk_at "v"
 refine ⟨p, l, ns, 4, rfl, S11.tp, by decide, by decide, fun r c e r0 r1 => ?_⟩
 have S13 := S11.draw (c := c) (e := e)
 have T13 := T11.trans (S11.tk (c := c) (e := e))
 have el13 : upd H11 p (.lst [.ref l, .int c, .int e]) pl = some (.lst (((List.range m).map fun (i : Nat) => (i : Int)).map V.int)) := by rw [zi (Ne.symm ppl)]; exact el11
 have ei13 : upd H11 p (.lst [.ref l, .int c, .int e]) pi = some (.lst (([] : List Int).map V.int)) := by rw [zi (Ne.symm ppi)]; exact ei11
 generalize upd H11 p (.lst [.ref l, .int c, .int e]) = H13 at S13 T13 el13 ei13 ⊢
 clear S11 T11 el11 ei11
 obtain ⟨c4, rfl⟩ := ofI r0
 walk_at "v"
 refine ⟨_, _, rfl, ?_⟩
 obtain ⟨cn, hcn, cn3, cnm⟩ : ∃ cn : Nat, (if (m : Int) < (c4 : Int) then (m : Int) else (c4 : Int)) = (cn : Int) ∧ cn ≤ 3 ∧ cn ≤ m := by
  by_cases h : (m : Int) < (c4 : Int)
  ·exact ⟨m, by rw [if_pos h], by omega, by omega⟩
  ·exact ⟨c4, by rw [if_neg h], by omega, by omega⟩
 rw [hcn]
 walk_at "v"
 refine ⟨_, rfl, by omega, by omega, ?_⟩
 rw [Int.toNat_natCast]
 refine yu (fun i σ H' => ∃ (u : Option V) (lf is : List Int), σ = [some (.ref p), some (.int (mo : Int)), some (.int (ru : Int)), some (.int (m : Int)), some (.ref ps), some (.ref pr), some (.ref pl), some (.ref pi), u, none] ∧ H' pl = some (.lst (lf.map V.int)) ∧ H' pi = some (.lst (is.map V.int)) ∧ lf.length + i = m ∧ is.length = i ∧ (∀ j ∈ lf, 0 ≤ j ∧ j < (m : Int)) ∧ (∀ j ∈ is, 0 ≤ j ∧ j < (m : Int)) ∧ SS p l ns H H' ∧ TK H8 H')
  ⟨none, _, [], rfl, el13, ei13, by simp, rfl, fun j hj => by
   obtain ⟨q, hq, rfl⟩ := List.mem_map.mp hj
   have := List.mem_range.mp hq
   omega, (fun j hj => by cases hj), S13, T13⟩ ?_ ?_
 ·rintro i σ H' hi ⟨u, lf, is, rfl, el, ei, hlen1, hlen2, hlf, his, S, T⟩
  walk_at "v"
  refine ⟨.inl ⟨rfl, _, SqL.of ei⟩, ?_⟩
  walk_at "v"
  refine ⟨.inl ⟨rfl, _, SqL.of el⟩, ?_⟩
  walk_at "v"
  refine ⟨pl, _, rfl, .inl (SqL.of el), ?_⟩
  rw [List.length_map]
  refine ⟨p, l, ns, lf.length, rfl, S.tp, by omega, by omega, fun r c e r0 r1 => ?_⟩
  have S' := S.draw (c := c) (e := e)
  have T' := T.trans (S.tk (c := c) (e := e))
  have el' : upd H' p (.lst [.ref l, .int c, .int e]) pl = some (.lst (lf.map V.int)) := by rw [zi (Ne.symm ppl)]; exact el
  have ei' : upd H' p (.lst [.ref l, .int c, .int e]) pi = some (.lst (is.map V.int)) := by rw [zi (Ne.symm ppi)]; exact ei
  generalize upd H' p (.lst [.ref l, .int c, .int e]) = H2 at S' T' el' ei' ⊢
  obtain ⟨j, rfl⟩ := ofI r0
  have hj : j < lf.length := by omega
  have hix : ixN (lf.map V.int).length (j : Int) = some j := by
   rw [List.length_map]
   unfold ixN
   rw [if_pos r0, if_pos r1]
   rfl
  walk_at "v"
  refine ⟨pl, _, _, j, .int lf[j], rfl, rfl, el', by omega, by omega, (ZE hix).1, by simp [hj], ?_⟩
  have S'' := S'.put (o := .lst ((lf.map V.int).eraseIdx j)) n0l ppl lpl
  have T'' := T'.trans (TK.lst (o := .lst ((lf.map V.int).eraseIdx j)) el')
  have el'' : upd H2 pl (.lst ((lf.map V.int).eraseIdx j)) pl = some (.lst ((lf.eraseIdx j).map V.int)) := by rw [ze, map_eraseB]
  have ei'' : upd H2 pl (.lst ((lf.map V.int).eraseIdx j)) pi = some (.lst (is.map V.int)) := by rw [zi (Ne.symm nli)]; exact ei'
  generalize upd H2 pl (.lst ((lf.map V.int).eraseIdx j)) = H3' at S'' T'' el'' ei'' ⊢
  walk_at "v"
  refine ⟨pi, _, _, rfl, rfl, ei'', by rw [List.length_map]; exact zn (by omega), ?_⟩
  refine ⟨_, lf.eraseIdx j, is ++ [lf[j]], rfl, by rw [zi nli]; exact el'', by rw [ze, List.map_append]; rfl, ?_, by simp [hlen2], ?_, ?_, S''.put n0i ppi lpi, T''.trans (TK.lst ei'')⟩
  ·rw [List.length_eraseIdx_of_lt hj]
   omega
  ·exact fun q hq => hlf q (List.mem_of_mem_eraseIdx hq)
  ·intro q hq
   rcases List.mem_append.mp hq with old | new
   ·exact his q old
   ·rw [List.mem_singleton.mp new]
    exact hlf _ (List.getElem_mem hj)
 ·rintro σ H14 ⟨u, lf, is, rfl, el, ei, hlen1, hlen2, hlf, his, S14, T14⟩
  have hi3 : is.length ≤ 3 := by omega
  walk_at "v"
  refine ⟨_, rfl, by omega, by omega, fun db hdb => ?_⟩
  rw [Int.toNat_natCast]
  have pdb := S14.tp.np hdb
  have ldb := S14.tp.nl hdb
  have n0b := S14.none hdb
  have nib : pi ≠ db := zh ei hdb
  refine yw (ρ := [some (.ref p)]) (fun i ys H' => ∃ bs : List Int, ys = bs.map V.int ∧ bs.length = i ∧ (∀ b ∈ bs, 0 ≤ b ∧ b ≤ 99) ∧ SS p l ns H H' ∧ TK H8 H' ∧ H' pi = some (.lst (is.map V.int)))
   ⟨[], rfl, rfl, (fun b hb => by cases hb), S14.new hdb, T14.trans (TK.new hdb), by rw [zi nib]; exact ei⟩ ?_ ?_
  ·rintro i ys H' hi ⟨bs, rfl, hbl, hbs, S, T, ei'⟩ hD R' S' kR _
   walk_at "v"
   refine ⟨sz5, fun z hz => ?_⟩
   have Sz := S.new (o := .lst (([0, 0, 1, 2, 99] : List Int).map V.int)) hz
   have Tz := T.trans (TK.new (o := .lst (([0, 0, 1, 2, 99] : List Int).map V.int)) hz)
   have npz := S.tp.np hz
   have ez : upd H' z (.lst (([0, 0, 1, 2, 99] : List Int).map V.int)) z = some (.lst (([0, 0, 1, 2, 99] : List Int).map V.int)) := ze
   have dz : upd H' z (.lst (([0, 0, 1, 2, 99] : List Int).map V.int)) db = some (.lst (bs.map V.int)) := by rw [zi (zh hD hz)]; exact hD
   have iz : upd H' z (.lst (([0, 0, 1, 2, 99] : List Int).map V.int)) pi = some (.lst (is.map V.int)) := by rw [zi (zh ei' hz)]; exact ei'
   generalize upd H' z (.lst (([0, 0, 1, 2, 99] : List Int).map V.int)) = Hz at Sz Tz ez dz iz ⊢
   walk_at "v"
   refine ⟨p, l, ns, 5, rfl, Sz.tp, by decide, by decide, fun r c e r0 r1 => ?_⟩
   obtain ⟨v, hv, hat⟩ := wM (xs := [0, 0, 1, 2, 99]) r0 r1
   refine zD (by rw [zi (Ne.symm npz)]; exact ez) hat ?_
   have hD' : upd Hz p (.lst [.ref l, .int c, .int e]) db = some (.lst (bs.map V.int)) := by rw [zi (Ne.symm pdb)]; exact dz
   have hI' : upd Hz p (.lst [.ref l, .int c, .int e]) pi = some (.lst (is.map V.int)) := by rw [zi (Ne.symm ppi)]; exact iz
   refine kR _ _ hD' (by rw [List.length_map]; exact zn (by omega)) ⟨bs ++ [v], by rw [List.map_append]; rfl, by simp [hbl], fun b hb => ?_, (Sz.draw).put n0b pdb ldb, (Tz.trans Sz.tk).trans (TK.lst hD'), by rw [zi nib]; exact hI'⟩
   rcases List.mem_append.mp hb with old | new
   ·exact hbs b old
   ·rw [List.mem_singleton.mp new]
    simp only [List.mem_cons, List.not_mem_nil, or_false] at hv
    omega
  ·rintro ys H15 ⟨bs, rfl, hbl, hbs, S15, T15, ei15⟩ hD
   walk_at "v"
   refine ⟨db, _, rfl, .inl ⟨SqL.of hD, fun pb hpb => ?_⟩⟩
   have S16 := S15.new (o := .tup (bs.map V.int)) hpb
   have T16 := T15.trans (TK.new (o := .tup (bs.map V.int)) hpb)
   have eb : upd H15 pb (.tup (bs.map V.int)) pb = some (.tup (bs.map V.int)) := ze
   have ei16 : upd H15 pb (.tup (bs.map V.int)) pi = some (.lst (is.map V.int)) := by rw [zi (zh ei15 hpb)]; exact ei15
   generalize upd H15 pb (.tup (bs.map V.int)) = H16 at S16 T16 eb ei16 ⊢
   walk_at "v"
   refine ⟨pi, _, rfl, .inl ⟨SqL.of ei16, fun pin hpin => ?_⟩⟩
   have S17 := S16.new (o := .tup (is.map V.int)) hpin
   have T67 : TK H16 (upd H16 pin (.tup (is.map V.int))) := TK.new hpin
   have T17 := T16.trans T67
   have en : upd H16 pin (.tup (is.map V.int)) pin = some (.tup (is.map V.int)) := ze
   have eb17 := T67.t _ _ eb
   generalize upd H16 pin (.tup (is.map V.int)) = H17 at S17 T17 en eb17 ⊢
   walk_at "v"
   refine ⟨p, l, ns, m, rfl, S17.tp, by omega, by omega, fun ans c e a0 a1 => ?_⟩
   have S18 := S17.draw (c := c) (e := e)
   have T78 := S17.tk (c := c) (e := e)
   generalize upd H17 p (.lst [.ref l, .int c, .int e]) = H18 at S18 T78 ⊢
   walk_at "v"
   refine ⟨sz5, fun q hq => ?_⟩
   have T89 : TK H18 (upd H18 q (.tup [.ref ps, .ref pr, .ref pin, .ref pb, .int ans])) := TK.new hq
   have T19 := (T17.trans T78).trans T89
   have S19 := S18.new (o := .tup [.ref ps, .ref pr, .ref pin, .ref pb, .int ans]) hq
   exact k q nm rs is bs ans m _ ⟨⟨ps, pr, pin, pb, ze, T19.t _ _ ep8, T19.t _ _ er8, (T78.trans T89).t _ _ en, (T78.trans T89).t _ _ eb17⟩, fun r hr' => (hrs8 r hr').tk T19, hnl, hnm, by omega, m0, m8, his, hi3, hbl, hbs, a0, a1⟩ S19.tp S19.bt
end
end K37
namespace L2
open PySem PySem.Spec PyProof.Rows
section
variable {X : Cx}
def rLnT : List V → Hp → VK → Prop := fun xs H Q => ∃ (p : Addr) (ys : List V), xs = [.ref p] ∧ H p = some (.tup ys) ∧ Q (.int ys.length) H
theorem call_lnT : yq X (.builtin "len") rLnT := fun pins s σ H xs us Q I r h => zr pins s σ H xs us Q I r (let ⟨p, ys, e, hp, q⟩ := h; ⟨p, ys, e, .inr (SqT.of hp), q⟩)
def rTupL : List V → Hp → VK → Prop := fun xs H Q => ∃ (p : Addr) (ys : List V), xs = [.ref p] ∧ H p = some (.lst ys) ∧ ∀ q H', Same H H' → H' q = some (.tup ys) → Q (.ref q) H'
theorem zS : yq X (.type "tuple") rTupL := fun pins s σ H xs us Q I r h => zA pins s σ H xs us Q I r (let ⟨p, ys, e, hp, q⟩ := h; ⟨p, ys, e, .inl ⟨SqL.of hp, fun l hl => q l _ (Same.new (Same.refl H) hl) ze⟩⟩)
end
end L2
namespace G2
open PySem L2
def Fms (H : Hp) : List Addr → List Fm → Prop
 | [], [] => True
 | q :: qs, f :: fs => FmAt H q f ∧ Fms H qs fs
 | _, _ => False
theorem Fms.len {H : Hp} : ∀ {qs : List Addr} {fs : List Fm}, Fms H qs fs → qs.length = fs.length
 | [], [], _ => rfl
 | q :: qs, f :: fs, h => by rw [List.length_cons, List.length_cons, Fms.len h.2]
 | [], _ :: _, h => h.elim
 | _ :: _, [], h => h.elim
theorem Xd {n h : Nat} : ∀ ds : List PyData, (∀ d ∈ ds, Shw d n h) → PyData.showableAll ds = true ∧ PyData.hasDictAll ds = false ∧ PyData.depthAll ds ≤ h ∧ ((PyData.shownAll ds).map (·.length)).sum ≤ n * ds.length ∧ (PyData.shownAll ds).length = ds.length
 | [], _ => ⟨rfl, rfl, Nat.zero_le _, Nat.zero_le _, rfl⟩
 | d :: ds, k => by
  obtain ⟨h1, h2, h3, h4, h5⟩ := Xd ds fun x hx => k x (List.mem_cons_of_mem _ hx)
  have e := k d List.mem_cons_self
  have e3 := e.p
  have e4 := e.l
  refine ⟨?_, ?_, ?_, ?_, ?_⟩
  ·simp only [PyData.showableAll, e.s, h1, Bool.and_self]
  ·simp only [PyData.hasDictAll, e.nd, h2, Bool.or_self]
  ·simp only [PyData.depthAll]
   omega
  ·simp only [PyData.shownAll, List.map_cons, List.sum_cons, List.length_cons, Nat.mul_succ]
   omega
  ·simp only [PyData.shownAll, List.length_cons, h5]
theorem Shw.tups {n h : Nat} {ds : List PyData} (k : ∀ d ∈ ds, Shw d n h) : Shw (.tuple ds) ((n + 2) * ds.length + 3) (h + 1) := by
 obtain ⟨h1, h2, h3, h4, h5⟩ := Xd ds k
 refine ⟨by simp only [PyData.showable]; exact h1, by simp only [PyData.hasDict]; exact h2, ?_, ?_⟩
 ·show PyData.depthAll _ + 1 ≤ h + 1
  omega
 ·have := ZC ds
  rw [Nat.add_mul]
  omega
section
variable {D : Addr} {te : TE} {tc : TT} {Q : VK} {ρ : St} {H : Hp} {K : W.Frag} {a b : Addr}
theorem tup_mapA {xs : List V} (g : V → Int) (ha : H a = some (.tup xs)) (hn : xs.length ≤ 1000)
  (step : ∀ (i : Nat) (x : V) (H' : Hp), xs[i]? = some x → Same H H' → ∀ R : V → Hp → Prop, (∀ H'', Same H' H'' → R (.int (g x)) H'') → te (some x :: ρ) H' R)
  (q : ∀ H', Same H H' → H' D = some (.lst ((xs.map g).map V.int)) → Q (.ref D) H') (hD : H D = none) : CGo (Itt K a) D (zU 0) tAll te Q (none :: ρ) H := by
 refine ZH (xs := xs) (fun i zs H' => zs = ((xs.map g).take i).map V.int ∧ Same H H') ⟨rfl, Same.new (Same.refl H) hD⟩ (fun i zs H' _ ⟨_, k'⟩ => SqT.of (k' _ _ ha)) ?_ ?_
 ·rintro i x zs H' hx ⟨rfl, K'⟩ hDz R S kR _
  have hi1 : i < xs.length := (List.getElem?_eq_some_iff.mp hx).1
  have ex : x = xs[i] := by
   rw [List.getElem?_eq_getElem hi1] at hx
   exact (Option.some.inj hx).symm
  refine yz ?_
  refine iteT ?_
  refine step i _ _ hx K' R fun H'' K'' => ?_
  refine kR _ _ (K'' _ _ hDz) (by rw [List.length_map, List.length_take]; exact zn (by omega)) ⟨?_, (K'.trans K'').put hD⟩
  rw [List.take_add_one, List.map_append]
  simp [hi1, ex]
 ·rintro zs H' ⟨rfl, K'⟩ hDz
  refine q H' K' ?_
  rw [hDz, List.take_of_length_le]
  simp
end
end G2
namespace K37
open PySem L2 G2
theorem nob {H : Hp} {a : Addr} (o : HO) (h : H a = none) : ∃ H2, upd H a o = H2 ∧ Same H H2 ∧ H2 a = some o := ⟨_, rfl, Same.new (Same.refl _) h, ze⟩
theorem nop {H G : Hp} {a : Addr} (o : HO) (M : Same H G) (h : H a = none) : ∃ H2, upd G a o = H2 ∧ Same H H2 ∧ H2 a = some o := ⟨_, rfl, M.put h, ze⟩
theorem lf2 {H H' : Hp} (k : Same H H') {a0 a1 : Addr} {o0 o1 : HO} (h0 : H a0 = some o0) (h1 : H a1 = some o1) : H' a0 = some o0 ∧ H' a1 = some o1 := ⟨k _ _ h0, k _ _ h1⟩
theorem lf3 {H H' : Hp} (k : Same H H') {a0 a1 a2 : Addr} {o0 o1 o2 : HO} (h0 : H a0 = some o0) (h1 : H a1 = some o1) (h2 : H a2 = some o2) : H' a0 = some o0 ∧ H' a1 = some o1 ∧ H' a2 = some o2 := ⟨k _ _ h0, k _ _ h1, k _ _ h2⟩
theorem lf4 {H H' : Hp} (k : Same H H') {a0 a1 a2 a3 : Addr} {o0 o1 o2 o3 : HO} (h0 : H a0 = some o0) (h1 : H a1 = some o1) (h2 : H a2 = some o2) (h3 : H a3 = some o3) : H' a0 = some o0 ∧ H' a1 = some o1 ∧ H' a2 = some o2 ∧ H' a3 = some o3 := ⟨k _ _ h0, k _ _ h1, k _ _ h2, k _ _ h3⟩
theorem lf5 {H H' : Hp} (k : Same H H') {a0 a1 a2 a3 a4 : Addr} {o0 o1 o2 o3 o4 : HO} (h0 : H a0 = some o0) (h1 : H a1 = some o1) (h2 : H a2 = some o2) (h3 : H a3 = some o3) (h4 : H a4 = some o4) : H' a0 = some o0 ∧ H' a1 = some o1 ∧ H' a2 = some o2 ∧ H' a3 = some o3 ∧ H' a4 = some o4 := ⟨k _ _ h0, k _ _ h1, k _ _ h2, k _ _ h3, k _ _ h4⟩
theorem lf6 {H H' : Hp} (k : Same H H') {a0 a1 a2 a3 a4 a5 : Addr} {o0 o1 o2 o3 o4 o5 : HO} (h0 : H a0 = some o0) (h1 : H a1 = some o1) (h2 : H a2 = some o2) (h3 : H a3 = some o3) (h4 : H a4 = some o4) (h5 : H a5 = some o5) : H' a0 = some o0 ∧ H' a1 = some o1 ∧ H' a2 = some o2 ∧ H' a3 = some o3 ∧ H' a4 = some o4 ∧ H' a5 = some o5 := ⟨k _ _ h0, k _ _ h1, k _ _ h2, k _ _ h3, k _ _ h4, k _ _ h5⟩
abbrev sNum : Stmt := top 24
abbrev sDrp : Stmt := top 25
abbrev sNgt : Stmt := top 26
abbrev sOne : Stmt := top 27
abbrev x5 : Stmt := top 28
abbrev xZ : Stmt := top 29
abbrev YI : Stmt := top 30
abbrev YG : Stmt := top 31
abbrev YL : Stmt := top 37
abbrev YH : Stmt := top 38
def Kn (mg : Str → Option Value) (x : Str) (i : Int) : Prop := ∃ t, mg x = some (Value.int i t)
theorem pe_k {X : Cx} {x : Str} {i : Int} {pos : Pos} (h : Kn X.mg x i) (hg : Gl X x := by rfl) (hd : (x == ("__debug__" : Str)) = false := by decide) : PE X (.Name x pos) (tC (.int i)) := by
 obtain ⟨t, e⟩ := h
 exact YO hg e ⟨t, rfl⟩ hd
structure Blt3 (mg : Str → Option Value) : Prop extends Blt2 mg where
 int : mg "int" = none
 zip : mg "zip" = none
 repr : mg "repr" = none
 soK : Kn mg "SORTS" 0
 inK : Kn mg "INPUTS" 2
 anK : Kn mg "ANSWER" 4
 biK : Kn mg "BY_INPUTS" 0
 bsK : Kn mg "BY_SORTS" 1
 plK : Kn mg "PLUS" 2
 byK : Kn mg "BY" 0
 lpK : Kn mg "LINE_PLUS" 1
def wL (s : Stmt) : Scope := match s with
 | .Return (some (.Call _ [.ListComp _ _ sc _] _ _)) _ => sc
 | _ => nsc
def Yo (s : Stmt) (i : Nat) : Scope := match s with
 | .Return (some (.Tuple es _ _)) _ => match es.getD i (.Name "" ⟨0, 0, 0, 0⟩) with
  | .Call _ [.ListComp _ _ sc _] _ _ => sc
  | _ => nsc
 | _ => nsc
section
variable {P : Program} {w : World} {K : W.Frag} {mg : Str → Option Value} {base : Heap}
abbrev XZ : List Str := ["one", "other"]
theorem xE : Nm XZ (zc x5) := ⟨by decide +kernel, by decide +kernel⟩
theorem scAdded : FnScope XZ ["one", "other"] (zc x5) := ⟨rfl, rfl, rfl, by decide +kernel, rfl, by decide +kernel, by decide +kernel⟩
abbrev Wk (i : Nat) : Scope := Yo ((zu x5).getD 0 (.Pass ⟨0, 0, 0, 0⟩)) i
theorem bsAdded0 : BScope (zc x5) (Wk 0) ["a", "b"] [] [] := { okind := by decide +kernel, kind := by decide +kernel, nocell := by decide +kernel, names := by decide +kernel, fr := by decide +kernel, ff := by decide +kernel, nd := by decide +kernel, vis := by decide +kernel, loc := by decide +kernel, gl := by decide +kernel }
theorem bsAdded1 : BScope (zc x5) (Wk 1) ["a", "b"] [] [] := { okind := by decide +kernel, kind := by decide +kernel, nocell := by decide +kernel, names := by decide +kernel, fr := by decide +kernel, ff := by decide +kernel, nd := by decide +kernel, vis := by decide +kernel, loc := by decide +kernel, gl := by decide +kernel }
def Yz : Sp := fun vs H Q _ => ∃ (p q : Addr) (f g : Fm), vs = [.ref p, .ref q] ∧ FmAt H p f ∧ FmAt H q g ∧ f.ins.length = g.ins.length ∧ f.sts.length = g.sts.length ∧ f.ins.length ≤ 1000 ∧ f.sts.length ≤ 1000 ∧ ∀ r H', Same H H' → FmAt H' r (addF f g) → Q (.ref r) H'
theorem ok_Added {f : Addr} {fd : FuncData} (B : Blt3 mg) (F : Fun K "added" "added" x5 f fd) : FnOk P w K mg base CX0 1 f fd ["one", "other"] Yz := by
 refine F.ok scAdded (fun vs H Q E h => ?_) (fun cdv A outer s H vs Q E hr h => ?_)
 ·obtain ⟨p, q, f, g, rfl, _⟩ := h
  rfl
 obtain ⟨p, q, fm, gm, rfl, ⟨a, b, h1, h2, h3⟩, ⟨a', b', h1', h2', h3'⟩, hl1, hl2, hn1, hn2, k⟩ := h
 refine' ⟨_, ?hb, ?rd⟩
 case hb =>
  refine' zg ?s1
  case' s1 => refine' zl ?p1
  case' p1 => refine' zy ?q1
  case' q1 => refine' pa_c ?x1 ?y1
  case' y1 => refine' pa_2 ?x2 ?x3
  case x3 => exact zo zR (ziq (pvd xE 0) (pe_k B.plK)) (ziq (pvd xE 1) (pe_k B.plK))
  case' x1 => refine' zK zA B.tuple PyProof.Rows.boot_tuple ?x1a
  case' x1a => refine' pa_1 ?x1b
  case x1b =>
   refine' zB (ix := []) bsAdded0.toCScope rfl rfl ?h3 ?h4 ?h5 ?h6
   case h3 =>
    refine' WW B.zip ?h3a
    case h3a => exact pa_2 (ziq (pvd xE 0) (pe_k B.biK)) (ziq (pvd xE 1) (pe_k B.biK))
   case h4 =>
    intro _ _ _ _ _ _
    refine' yS (n := 2) rfl ?za1
    case' za1 => refine' zN ?za2 ?za3
    case za2 => exact pgb bsAdded0 0
    case' za3 => refine' zN ?za4 yF
    case za4 => exact pgb bsAdded0 1
   case h5 => exact fun _ _ _ _ _ _ => zz
   case h6 => exact fun _ _ _ _ _ _ => zo zR (pvb bsAdded0 0) (pvb bsAdded0 1)
  case' x2 => refine' zK zA B.tuple PyProof.Rows.boot_tuple ?x2a
  case' x2a => refine' pa_1 ?x2b
  case x2b =>
   refine' zB (ix := []) bsAdded1.toCScope rfl rfl ?i3 ?i4 ?i5 ?i6
   case i3 =>
    refine' WW B.zip ?i3a
    case i3a => exact pa_2 (ziq (pvd xE 0) (pe_k B.bsK)) (ziq (pvd xE 1) (pe_k B.bsK))
   case i4 =>
    intro _ _ _ _ _ _
    refine' yS (n := 2) rfl ?zb1
    case' zb1 => refine' zN ?zb2 ?zb3
    case zb2 => exact pgb bsAdded1 0
    case' zb3 => refine' zN ?zb4 yF
    case zb4 => exact pgb bsAdded1 1
   case i5 => exact fun _ _ _ _ _ _ => zz
   case i6 => exact fun _ _ _ _ _ _ => zo zR (pvb bsAdded1 0) (pvb bsAdded1 1)
 walk_at "v"
 refine zm h1 rfl ?_
 walk_at "v"
 refine zm h1' rfl ?_
 walk_at "v"
 refine ⟨a, a', rfl, ⟨_, SqT.of h2⟩, ⟨_, SqT.of h2'⟩, fun D hD => ?_⟩
 refine Yj (ρ := []) (fun x y => x + y) h2 h2' hl1 hn1 (fun i x y H' _ _ _ R kR => ?_) (fun H1 K1 hD1 => ?_) hD
 ·walk_at "v"
  exact kR _ (Same.refl _)
 walk_at "v"
 refine ⟨D, _, rfl, .inl ⟨SqL.of hD1, fun t1 ht1 => ?_⟩⟩
 have K2 := K1.new (o := .tup ((List.zipWith (fun x y => x + y) fm.ins gm.ins).map V.int)) ht1
 have e2 : upd H1 t1 (.tup ((List.zipWith (fun x y => x + y) fm.ins gm.ins).map V.int)) t1 = some (.tup ((List.zipWith (fun x y => x + y) fm.ins gm.ins).map V.int)) := ze
 generalize upd H1 t1 (.tup ((List.zipWith (fun x y => x + y) fm.ins gm.ins).map V.int)) = H2 at K2 e2 ⊢
 walk_at "v"
 refine zm (K2 _ _ h1) rfl ?_
 walk_at "v"
 refine zm (K2 _ _ h1') rfl ?_
 walk_at "v"
 refine ⟨b, b', rfl, ⟨_, SqT.of (K2 _ _ h3)⟩, ⟨_, SqT.of (K2 _ _ h3')⟩, fun D2 hD2 => ?_⟩
 refine Yj (ρ := []) (fun x y => x + y) (K2 _ _ h3) (K2 _ _ h3') hl2 hn2 (fun i x y H' _ _ _ R kR => ?_) (fun H3 K3 hD3 => ?_) hD2
 ·walk_at "v"
  exact kR _ (Same.refl _)
 walk_at "v"
 refine ⟨D2, _, rfl, .inl ⟨SqL.of hD3, fun t2 ht2 => ?_⟩⟩
 have K4 := K3.new (o := .tup ((List.zipWith (fun x y => x + y) fm.sts gm.sts).map V.int)) ht2
 have e4 : upd H3 t2 (.tup ((List.zipWith (fun x y => x + y) fm.sts gm.sts).map V.int)) t2 = some (.tup ((List.zipWith (fun x y => x + y) fm.sts gm.sts).map V.int)) := ze
 generalize upd H3 t2 (.tup ((List.zipWith (fun x y => x + y) fm.sts gm.sts).map V.int)) = H4 at K4 e4 ⊢
 have KA := K2.trans K4
 walk_at "v"
 refine zm (KA _ _ h1) rfl ?_
 walk_at "v"
 refine zm (KA _ _ h1') rfl ?_
 walk_at "v"
 refine ⟨sz3, fun r hr => ?_⟩
 refine k r _ (KA.new hr) ⟨t1, t2, ze, ?_, ?_⟩
 ·rw [zi (zh (K4 _ _ e2) hr)]
  exact K4 _ _ e2
 ·rw [zi (zh e4 hr)]
  exact e4
abbrev XX : List Str := ["form", "times"]
theorem wU : Nm XX (zc xZ) := ⟨by decide +kernel, by decide +kernel⟩
theorem scOften : FnScope XX ["form", "times"] (zc xZ) := ⟨rfl, rfl, rfl, by decide +kernel, rfl, by decide +kernel, by decide +kernel⟩
abbrev Wj (i : Nat) : Scope := Yo ((zu xZ).getD 0 (.Pass ⟨0, 0, 0, 0⟩)) i
theorem bsOften0 : BScope (zc xZ) (Wj 0) ["number"] ["times"] [] := { okind := by decide +kernel, kind := by decide +kernel, nocell := by decide +kernel, names := by decide +kernel, fr := by decide +kernel, ff := by decide +kernel, nd := by decide +kernel, vis := by decide +kernel, loc := by decide +kernel, gl := by decide +kernel }
theorem bsOften1 : BScope (zc xZ) (Wj 1) ["number"] ["times"] [] := { okind := by decide +kernel, kind := by decide +kernel, nocell := by decide +kernel, names := by decide +kernel, fr := by decide +kernel, ff := by decide +kernel, nd := by decide +kernel, vis := by decide +kernel, loc := by decide +kernel, gl := by decide +kernel }
def Zo : Sp := fun vs H Q _ => ∃ (p : Addr) (f : Fm) (t : Int), vs = [.ref p, .int t] ∧ FmAt H p f ∧ f.ins.length ≤ 1000 ∧ f.sts.length ≤ 1000 ∧ (∀ x ∈ f.ins, IntMulOk t x) ∧ (∀ x ∈ f.sts, IntMulOk t x) ∧ IntMulOk t f.plus ∧ ∀ r H', Same H H' → FmAt H' r (oftF t f) → Q (.ref r) H'
theorem ok_Often {f : Addr} {fd : FuncData} (B : Blt3 mg) (F : Fun K "so_often" "so_often" xZ f fd) : FnOk P w K mg base CX0 1 f fd ["form", "times"] Zo := by
 refine F.ok scOften (fun vs H Q E h => ?_) (fun cdv A outer s H vs Q E hr h => ?_)
 ·obtain ⟨p, f, t, rfl, _⟩ := h
  rfl
 obtain ⟨p, fm, t, rfl, ⟨a, b, h1, h2, h3⟩, hn1, hn2, m1, m2, m3, k⟩ := h
 refine' ⟨_, ?hb, ?rd⟩
 case hb =>
  refine' zg ?s1
  case' s1 => refine' zl ?p1
  case' p1 => refine' zy ?q1
  case' q1 => refine' pa_c ?x1 ?y1
  case' y1 => refine' pa_2 ?x2 ?x3
  case x3 => exact zo Zv (pvd wU 1) (ziq (pvd wU 0) (pe_k B.plK))
  case' x1 => refine' zK zA B.tuple PyProof.Rows.boot_tuple ?x1a
  case' x1a => refine' pa_1 ?x1b
  case x1b =>
   refine' zB (ix := [1]) bsOften0.toCScope rfl rfl ?h3 ?h4 ?h5 ?h6
   case h3 =>
    refine' yd ?h3a
    case h3a => exact ziq (pvd wU 0) (pe_k B.biK)
   case h4 => exact fun _ _ _ _ _ _ => pgb bsOften0 0
   case h5 => exact fun _ _ _ _ _ _ => zz
   case h6 => exact fun _ _ _ _ _ _ => zo Zv (pvb bsOften0 1) (pvb bsOften0 0)
  case' x2 => refine' zK zA B.tuple PyProof.Rows.boot_tuple ?x2a
  case' x2a => refine' pa_1 ?x2b
  case x2b =>
   refine' zB (ix := [1]) bsOften1.toCScope rfl rfl ?i3 ?i4 ?i5 ?i6
   case i3 =>
    refine' yd ?i3a
    case i3a => exact ziq (pvd wU 0) (pe_k B.bsK)
   case i4 => exact fun _ _ _ _ _ _ => pgb bsOften1 0
   case i5 => exact fun _ _ _ _ _ _ => zz
   case i6 => exact fun _ _ _ _ _ _ => zo Zv (pvb bsOften1 1) (pvb bsOften1 0)
 walk_at "v"
 refine zm h1 rfl ?_
 refine ⟨a, rfl, ⟨_, SqT.of h2⟩, fun D hD => ?_⟩
 refine Yn (ρ := [some (.int t)]) (fun x => t * x) h2 hn1 (fun i x H' hx _ R kR => ?_) (fun H1 K1 hD1 => ?_) hD
 ·walk_at "v"
  refine w_rI (m1 x (List.mem_of_getElem? hx)) ?_
  exact kR _ (Same.refl _)
 walk_at "v"
 refine ⟨D, _, rfl, .inl ⟨SqL.of hD1, fun t1 ht1 => ?_⟩⟩
 have K2 := K1.new (o := .tup ((fm.ins.map fun x => t * x).map V.int)) ht1
 have e2 : upd H1 t1 (.tup ((fm.ins.map fun x => t * x).map V.int)) t1 = some (.tup ((fm.ins.map fun x => t * x).map V.int)) := ze
 generalize upd H1 t1 (.tup ((fm.ins.map fun x => t * x).map V.int)) = H2 at K2 e2 ⊢
 walk_at "v"
 refine zm (K2 _ _ h1) rfl ?_
 refine ⟨b, rfl, ⟨_, SqT.of (K2 _ _ h3)⟩, fun D2 hD2 => ?_⟩
 refine Yn (ρ := [some (.int t)]) (fun x => t * x) (K2 _ _ h3) hn2 (fun i x H' hx _ R kR => ?_) (fun H3 K3 hD3 => ?_) hD2
 ·walk_at "v"
  refine w_rI (m2 x (List.mem_of_getElem? hx)) ?_
  exact kR _ (Same.refl _)
 walk_at "v"
 refine ⟨D2, _, rfl, .inl ⟨SqL.of hD3, fun t2 ht2 => ?_⟩⟩
 have K4 := K3.new (o := .tup ((fm.sts.map fun x => t * x).map V.int)) ht2
 have e4 : upd H3 t2 (.tup ((fm.sts.map fun x => t * x).map V.int)) t2 = some (.tup ((fm.sts.map fun x => t * x).map V.int)) := ze
 generalize upd H3 t2 (.tup ((fm.sts.map fun x => t * x).map V.int)) = H4 at K4 e4 ⊢
 have KA := K2.trans K4
 walk_at "v"
 refine zm (KA _ _ h1) rfl ?_
 refine w_rI m3 ?_
 walk_at "v"
 refine ⟨sz3, fun r hr => ?_⟩
 refine k r _ (KA.new hr) ⟨t1, t2, ze, ?_, ?_⟩
 ·rw [zi (zh (K4 _ _ e2) hr)]
  exact K4 _ _ e2
 ·rw [zi (zh e4 hr)]
  exact e4
abbrev W2 : List Str := ["form", "number"]
theorem Zy : Nm W2 (zc YG) := ⟨by decide +kernel, by decide +kernel⟩
theorem scMore : FnScope W2 ["form", "number"] (zc YG) := ⟨rfl, rfl, rfl, by decide +kernel, rfl, by decide +kernel, by decide +kernel⟩
def Z8 : Sp := fun vs H Q _ => ∃ (p : Addr) (f : Fm) (t : Int), vs = [.ref p, .int t] ∧ FmAt H p f ∧ ∀ r H', Same H H' → FmAt H' r (X0 t f) → Q (.ref r) H'
theorem ok_More {f : Addr} {fd : FuncData} (B : Blt3 mg) (F : Fun K "and_more" "and_more" YG f fd) : FnOk P w K mg base CX0 1 f fd ["form", "number"] Z8 := by
 refine F.ok scMore (fun vs H Q E h => ?_) (fun cdv A outer s H vs Q E hr h => ?_)
 ·obtain ⟨p, f, t, rfl, _⟩ := h
  rfl
 obtain ⟨p, fm, t, rfl, ⟨a, b, h1, h2, h3⟩, k⟩ := h
 refine' ⟨_, ?hb, ?rd⟩
 case hb =>
  refine' zg ?s1
  case' s1 => refine' zl ?p1
  case' p1 => refine' zy ?q1
  case' q1 => refine' pa_c (ziq (pvd Zy 0) (pe_k B.biK)) ?y1
  case' y1 => refine' pa_2 (ziq (pvd Zy 0) (pe_k B.bsK)) ?x3
  case x3 => exact zo zR (ziq (pvd Zy 0) (pe_k B.plK)) (pvd Zy 1)
 walk_at "v"
 refine zm h1 rfl ?_
 walk_at "v"
 refine zm h1 rfl ?_
 walk_at "v"
 refine zm h1 rfl ?_
 walk_at "v"
 refine ⟨sz3, fun r hr => ?_⟩
 have K2 := Same.new (o := .tup [.ref a, .ref b, .int (fm.plus + t)]) (Same.refl H) hr
 exact k r _ K2 ⟨a, b, ze, K2 _ _ h2, K2 _ _ h3⟩
structure _root_.G2.Ln where
 bys : List Int
 plus : Int
def _root_.G2.Ln.ok (m : Nat) (a : Ln) : Prop := a.bys.length = m ∧ (∀ x ∈ a.bys, -99 ≤ x ∧ x ≤ 99) ∧ -99 ≤ a.plus ∧ a.plus ≤ 99
def _root_.G2.LnAt (H : Hp) (q : Addr) (a : Ln) : Prop := ∃ b, H q = some (.tup [.ref b, .int a.plus]) ∧ H b = some (.tup (a.bys.map V.int))
theorem _root_.G2.LnAt.tk {H H' : Hp} {q : Addr} {a : Ln} (k : TK H H') : LnAt H q a → LnAt H' q a
 | ⟨b, h1, h2⟩ => ⟨b, k.t _ _ h1, k.t _ _ h2⟩
inductive _root_.G2.Ak where
 | sum (a : Ln)
 | part (a : Ln) (m : Int)
 | two (w : Str) (a b : Ln)
def _root_.G2.AkAt (H : Hp) (q : Addr) : Ak → Prop
 | .sum a => ∃ l, H q = some (.tup [.str "sum", .ref l]) ∧ LnAt H l a
 | .part a m => ∃ l, H q = some (.tup [.str "part", .ref l, .int m]) ∧ LnAt H l a
 | .two w a b => ∃ l r, H q = some (.tup [.str w, .ref l, .ref r]) ∧ LnAt H l a ∧ LnAt H r b
def _root_.G2.four (w : Str) : Prop := w = "least" ∨ w = "most" ∨ w = "more" ∨ w = "same"
def _root_.G2.Ak.ok (m : Nat) : Ak → Prop
 | .sum a => a.ok m
 | .part a k => a.ok m ∧ 2 ≤ k ∧ k ≤ 9
 | .two w a b => four w ∧ a.ok m ∧ b.ok m
theorem _root_.G2.AkAt.tk {H H' : Hp} {q : Addr} (k : TK H H') : ∀ {A : Ak}, AkAt H q A → AkAt H' q A
 | .sum a, ⟨l, h1, h2⟩ => ⟨l, k.t _ _ h1, h2.tk k⟩
 | .part a m, ⟨l, h1, h2⟩ => ⟨l, k.t _ _ h1, h2.tk k⟩
 | .two w a b, ⟨l, r, h1, h2, h3⟩ => ⟨l, r, k.t _ _ h1, h2.tk k, h3.tk k⟩
def oneH (n : Nat) (i : Int) : List Int := (List.range n).map fun (j : Nat) => if (j : Int) = i then (1 : Int) else 0
def drpF (n m : Nat) (i : Int) : Fm := ⟨List.replicate n 0, oneH m i, 0⟩
structure Pt (H : Hp) (q : Addr) (ins beg : List Int) (m : Nat) : Prop where
 ex : ∃ (ps pr pin pb : Addr) (a : V) (xs : List V), H q = some (.tup [.ref ps, .ref pr, .ref pin, .ref pb, a]) ∧ H ps = some (.tup xs) ∧ xs.length = m ∧ H pin = some (.tup (ins.map V.int)) ∧ H pb = some (.tup (beg.map V.int))
 m8 : m ≤ 8
 i3 : ins.length ≤ 3
 hi : ∀ i ∈ ins, 0 ≤ i ∧ i < (m : Int)
 bl : beg.length = m
 hb : ∀ b ∈ beg, 0 ≤ b ∧ b ≤ 99
theorem Pt.tk {H H' : Hp} {q : Addr} {ins beg : List Int} {m : Nat} (k : TK H H') (h : Pt H q ins beg m) : Pt H' q ins beg m :=
 let ⟨ps, pr, pin, pb, a, xs, h1, h2, h3, h4, h5⟩ := h.ex
 ⟨⟨ps, pr, pin, pb, a, xs, k.t _ _ h1, k.t _ _ h2, h3, k.t _ _ h4, k.t _ _ h5⟩, h.m8, h.i3, h.hi, h.bl, h.hb⟩
theorem Pt.same {H H' : Hp} {q : Addr} {ins beg : List Int} {m : Nat} (k : Same H H') (h : Pt H q ins beg m) : Pt H' q ins beg m := h.tk (TK.same k)
theorem PotT.pt {H : Hp} {q : Addr} {nm : List Str} {rs : List Addr} {ins beg : List Int} {ans : Int} {m : Nat} (h : PotT H q nm rs ins beg ans m) : Pt H q ins beg m :=
 let ⟨ps, pr, pin, pb, h1, h2, h3, h4, h5⟩ := h.ex
 ⟨⟨ps, pr, pin, pb, _, _, h1, h2, by rw [List.length_map]; exact h.nl, h4, h5⟩, h.m8, h.i3, h.hi, h.bl, h.hb⟩
theorem rep0 : ∀ xs : List V, (xs.map fun _ => (0 : Int)) = List.replicate xs.length 0
 | [] => rfl
 | x :: xs => by rw [List.map_cons, rep0 xs, List.length_cons, List.replicate_succ]
def Yw : Sp := fun vs H Q _ => ∃ (p : Addr) (xs : List V), vs = [.ref p] ∧ H p = some (.tup xs) ∧ xs.length ≤ 1000 ∧ ∀ q H', Same H H' → H' q = some (.tup ((List.replicate xs.length (0 : Int)).map V.int)) → Q (.ref q) H'
def WG : Sp := fun vs H Q _ => ∃ (p : Addr) (xs : List V) (i : Int), vs = [.ref p, .int i] ∧ H p = some (.tup xs) ∧ xs.length ≤ 1000 ∧ ∀ q H', Same H H' → H' q = some (.tup ((oneH xs.length i).map V.int)) → Q (.ref q) H'
def spFm (g : Nat → Nat → Int → Fm) : Sp := fun vs H Q _ => ∃ (p : Addr) (ins beg : List Int) (m : Nat) (i : Int), vs = [.ref p, .int i] ∧ Pt H p ins beg m ∧ ∀ r H', Same H H' → FmAt H' r (g ins.length m i) → Q (.ref r) H'
abbrev nNgt : List Str := ["things"]
theorem nmNgt : Nm nNgt (zc sNgt) := nmk (by decide +kernel)
theorem scNgt : FnScope nNgt ["things"] (zc sNgt) := fsk (by decide +kernel)
abbrev nOne : List Str := ["things", "place"]
theorem nmOne : Nm nOne (zc sOne) := nmk (by decide +kernel)
theorem scOne : FnScope nOne ["things", "place"] (zc sOne) := fsk (by decide +kernel)
abbrev nDrp : List Str := ["pot", "sort"]
theorem XV : Nm nDrp (zc sDrp) := nmk (by decide +kernel)
theorem scDrp : FnScope nDrp ["pot", "sort"] (zc sDrp) := fsk (by decide +kernel)
abbrev cNgt : Scope := wL ((zu sNgt).getD 0 (.Pass ⟨0, 0, 0, 0⟩))
abbrev cOne : Scope := wL ((zu sOne).getD 0 (.Pass ⟨0, 0, 0, 0⟩))
theorem bsNgt : BScope (zc sNgt) cNgt ["thing"] [] [] := { okind := by decide +kernel, kind := by decide +kernel, nocell := by decide +kernel, names := by decide +kernel, fr := by decide +kernel, ff := by decide +kernel, nd := by decide +kernel, vis := by decide +kernel, loc := by decide +kernel, gl := by decide +kernel }
theorem bsOne : BScope (zc sOne) cOne ["number"] ["place"] [] := { okind := by decide +kernel, kind := by decide +kernel, nocell := by decide +kernel, names := by decide +kernel, fr := by decide +kernel, ff := by decide +kernel, nd := by decide +kernel, vis := by decide +kernel, loc := by decide +kernel, gl := by decide +kernel }
theorem ok_Ngt {f : Addr} {fd : FuncData} (B : Blt3 mg) (F : Fun K "noughts" "noughts" sNgt f fd) : FnOk P w K mg base CX0 1 f fd ["things"] Yw := by
 refine F.ok scNgt (fun vs H Q E h => ?_) (fun cdv A outer s H vs Q E hr h => ?_)
 ·obtain ⟨p, xs, rfl, _⟩ := h
  rfl
 obtain ⟨p, xs, rfl, hp, hn, k⟩ := h
 refine' ⟨_, ?hb, ?rd⟩
 case hb =>
  refine' zg ?s1
  case' s1 => refine' zl ?p1
  case' p1 => refine' zK zA B.tuple PyProof.Rows.boot_tuple ?q1
  case' q1 => refine' pa_1 ?u1
  case u1 =>
   refine' zB (ix := []) bsNgt.toCScope rfl rfl (yd (pvd nmNgt 0)) ?h4 ?h5 ?h6
   case h4 => exact fun _ _ _ _ _ _ => pgb bsNgt 0
   case h5 => exact fun _ _ _ _ _ _ => zz
   case h6 => exact fun _ _ _ _ _ _ => zd
 walk_at "v"
 refine ⟨p, rfl, ⟨_, SqT.of hp⟩, fun D hD => ?_⟩
 refine tup_mapA (ρ := []) (fun _ => 0) hp hn (fun i x H' hx K' R kR => ?_) (fun H1 K1 e1 => ?_) hD
 ·walk_at "v"
  exact kR _ (Same.refl _)
 rw [rep0] at e1
 walk_at "v"
 refine ⟨D, _, rfl, .inl ⟨SqL.of e1, fun q hq => ?_⟩⟩
 exact k q _ (K1.new hq) ze
theorem ok_One {f : Addr} {fd : FuncData} (B : Blt3 mg) (F : Fun K "one_at" "one_at" sOne f fd) : FnOk P w K mg base CX0 1 f fd ["things", "place"] WG := by
 refine F.ok scOne (fun vs H Q E h => ?_) (fun cdv A outer s H vs Q E hr h => ?_)
 ·obtain ⟨p, xs, i, rfl, _⟩ := h
  rfl
 obtain ⟨p, xs, i, rfl, hp, hn, k⟩ := h
 refine' ⟨_, ?hb, ?rd⟩
 case hb =>
  refine' zg ?s1
  case' s1 => refine' zl ?p1
  case' p1 => refine' zK zA B.tuple PyProof.Rows.boot_tuple ?q1
  case' q1 => refine' pa_1 ?u1
  case u1 =>
   refine' zB (ix := [1]) bsOne.toCScope rfl rfl ?h3 ?h4 ?h5 ?h6
   case h3 => exact yR B.range (pa_1 (zF call_lnT B.len PySem.boot_len (pa_1 (pvd nmOne 0))))
   case h4 => exact fun _ _ _ _ _ _ => pgb bsOne 0
   case h5 => exact fun _ _ _ _ _ _ => zz
   case h6 => exact fun _ _ _ _ _ _ => ZS (zq zV (pvb bsOne 0) (pvb bsOne 1) (zt _)) zd zd
 walk_at "v"
 refine ⟨p, _, rfl, hp, ?_⟩
 refine ⟨_, rfl, by omega, by omega, fun D hD => ?_⟩
 rw [Int.toNat_natCast]
 refine rng_map (ρ := [some (.int i)]) (fun j => if (j : Int) = i then (1 : Int) else 0) hn (fun j H' hj K' R kR => ?_) (fun H1 K1 e1 => ?_) hD
 ·have kR' := kR _ (Same.refl _)
  walk_at "v"
  refine ⟨rfl, ?_⟩
  walk_at "v"
  refine iteD (fun h => ?_) (fun h => ?_)
  ·rw [if_pos (V.int.inj h)] at kR'
   walk_at "v"
   exact kR'
  ·rw [if_neg fun z => h (congrArg V.int z)] at kR'
   walk_at "v"
   exact kR'
 walk_at "v"
 refine ⟨D, _, rfl, .inl ⟨SqL.of e1, fun q hq => ?_⟩⟩
 exact k q _ (K1.new hq) ze
theorem ok_Drp {f : Addr} {fd : FuncData} (B : Blt3 mg) (fO : Has P w K mg base 1 "one_at" ["things", "place"] WG) (fN : Has P w K mg base 1 "noughts" ["things"] Yw) (F : Fun K "form_of_drops" "form_of_drops" sDrp f fd) : FnOk P w K mg base CX0 2 f fd ["pot", "sort"] (spFm drpF) := by
 refine F.ok scDrp (fun vs H Q E h => ?_) (fun cdv A outer s H vs Q E hr h => ?_)
 ·obtain ⟨p, ins, beg, m, i, rfl, _⟩ := h
  rfl
 obtain ⟨p, ins, beg, m, i, rfl, hp, k⟩ := h
 refine' ⟨_, ?hb, ?rd⟩
 case hb =>
  refine' zg ?s1
  case' s1 => refine' zl ?p1
  case' p1 => refine' zy ?q1
  case' q1 => refine' pa_c ?x1 ?y1
  case x1 => exact pe_f fN hr (by decide) (pa_1 (ziq (pvd XV 0) (pe_k B.inK)))
  case' y1 => refine' pa_2 ?x2 zd
  case x2 => exact pe_f fO hr (by decide) (pa_2 (ziq (pvd XV 0) (pe_k B.soK)) (pvd XV 1))
 obtain ⟨ps, pr, pin, pb, a, xs, h1, h2, h3, h4, h5⟩ := hp.ex
 have m8 := hp.m8
 have i3 := hp.i3
 walk_at "v"
 refine zm h1 rfl ?_
 walk_at "v"
 refine ⟨pin, _, rfl, h4, by rw [List.length_map]; omega, fun q1 H1 K1 e1 => ?_⟩
 rw [List.length_map] at e1
 walk_at "v"
 refine zm (K1 _ _ h1) rfl ?_
 walk_at "v"
 refine ⟨ps, _, i, rfl, K1 _ _ h2, by omega, fun q2 H2 K2 e2 => ?_⟩
 rw [h3] at e2
 walk_at "v"
 refine ⟨sz3, fun r hr => ?_⟩
 refine k r _ ((K1.trans K2).new hr) ⟨q1, q2, ze, ?_, ?_⟩
 ·rw [zi (zh (K2 _ _ e1) hr)]
  exact K2 _ _ e1
 ·rw [zi (zh e2 hr)]
  exact e2
end
structure Sh where
 x : Int
 y : Int
 z : Int
 p : Int
def shF (n m : Nat) (ans : Int) (a b : Ln) (s : Sh) : Fm := ⟨(List.range n).map fun (k : Nat) => s.x * a.bys.getD k 0 + s.y * b.bys.getD k 0, (List.range m).map fun (k : Nat) => s.z * (if (k : Int) = ans then (1 : Int) else 0), s.x * a.plus + s.y * b.plus + s.p⟩
def numF (n m : Nat) (i : Int) : Fm := ⟨List.replicate n 0, List.replicate m 0, i⟩
def linF (m : Nat) (a : Ln) : Fm := ⟨a.bys, List.replicate m 0, a.plus⟩
def ZW (f g : Fm) : Fm := addF f (oftF (-1) g)
section
variable {n m : Nat} {ans : Int} {a b : Ln}
theorem xr (n : Nat) (g : Nat → Int) (h : ∀ k, g k = 0) : List.replicate n 0 = (List.range n).map g := by
 refine List.ext_getElem (by simp) fun i h1 h2 => ?_
 simp [h]
theorem XS (i : Int) : numF n m i = shF n m ans a b ⟨0, 0, 0, i⟩ := by
 unfold numF shF
 congr 1
 ·exact xr n _ fun k => by simp
 ·exact xr m _ fun k => by simp
 ·simp
theorem Yi : drpF n m ans = shF n m ans a b ⟨0, 0, 1, 0⟩ := by
 unfold drpF shF oneH
 congr 1
 ·exact xr n _ fun k => by simp
 ·refine List.map_congr_left fun k _ => ?_
  simp
 ·simp
theorem Xb {c : Ln} (h : c.bys.length = n) : c.bys = (List.range n).map fun (k : Nat) => c.bys.getD k 0 := by
 refine List.ext_getElem (by simp [h]) fun i h1 h2 => ?_
 simp [List.getD_eq_getElem?_getD, h1]
theorem ZB (h : a.ok n) : linF m a = shF n m ans a b ⟨1, 0, 0, 0⟩ := by
 unfold linF shF
 congr 1
 ·refine (Xb h.1).trans (List.map_congr_left fun k _ => ?_)
  simp
 ·exact xr m _ fun k => by simp
 ·simp
theorem lin_sh2 (h : b.ok n) : linF m b = shF n m ans a b ⟨0, 1, 0, 0⟩ := by
 unfold linF shF
 congr 1
 ·refine (Xb h.1).trans (List.map_congr_left fun k _ => ?_)
  simp
 ·exact xr m _ fun k => by simp
 ·simp
theorem W9 {x y x' y' A B : Int} : x * A + y * B + -1 * (x' * A + y' * B) = (x - x') * A + (y - y') * B := by
 rw [Int.sub_mul, Int.sub_mul]
 omega
theorem zH (s t : Sh) : ZW (shF n m ans a b s) (shF n m ans a b t) = shF n m ans a b ⟨s.x - t.x, s.y - t.y, s.z - t.z, s.p - t.p⟩ := by
 unfold ZW addF oftF shF
 congr 1
 ·rw [List.map_map, List.zipWith_map, List.zipWith_self]
  exact List.map_congr_left fun k _ => W9
 ·dsimp only
  rw [List.map_map, List.zipWith_map, List.zipWith_self]
  refine List.map_congr_left fun k _ => ?_
  show s.z * _ + -1 * (t.z * _) = (s.z - t.z) * _
  rw [Int.sub_mul]
  omega
 ·show s.x * a.plus + s.y * b.plus + s.p + -1 * (t.x * a.plus + t.y * b.plus + t.p) = (s.x - t.x) * a.plus + (s.y - t.y) * b.plus + (s.p - t.p)
  rw [← W9]
  omega
theorem sh_oft (c : Int) (s : Sh) : oftF c (shF n m ans a b s) = shF n m ans a b ⟨c * s.x, c * s.y, c * s.z, c * s.p⟩ := by
 unfold oftF shF
 congr 1
 ·rw [List.map_map]
  refine List.map_congr_left fun k _ => ?_
  show c * (s.x * _ + s.y * _) = _
  rw [Int.mul_add, Int.mul_assoc, Int.mul_assoc]
 ·rw [List.map_map]
  refine List.map_congr_left fun k _ => ?_
  show c * (s.z * _) = _
  rw [Int.mul_assoc]
 ·show c * (s.x * a.plus + s.y * b.plus + s.p) = _
  rw [Int.mul_add, Int.mul_add, Int.mul_assoc, Int.mul_assoc]
theorem Zr (c : Int) (s : Sh) : X0 c (shF n m ans a b s) = shF n m ans a b ⟨s.x, s.y, s.z, s.p + c⟩ := by
 unfold X0 shF
 congr 1
 show s.x * a.plus + s.y * b.plus + s.p + c = _
 rw [Int.add_assoc]
def Sh.sm (s : Sh) : Prop := (-20 ≤ s.x ∧ s.x ≤ 20) ∧ (-20 ≤ s.y ∧ s.y ≤ 20) ∧ (-20 ≤ s.z ∧ s.z ≤ 20) ∧ -20 ≤ s.p ∧ s.p ≤ 20
theorem Y3 {xs : List Int} (h : ∀ x ∈ xs, -99 ≤ x ∧ x ≤ 99) (k : Nat) : -99 ≤ xs.getD k 0 ∧ xs.getD k 0 ≤ 99 := by
 rw [List.getD_eq_getElem?_getD]
 by_cases hi : k < xs.length
 ·rw [List.getElem?_eq_getElem hi]
  exact h _ (List.getElem_mem hi)
 ·rw [List.getElem?_eq_none (by omega)]
  exact ⟨by decide, by decide⟩
theorem vA {x y : Int} (hx : -20 ≤ x ∧ x ≤ 20) (hy : -99 ≤ y ∧ y ≤ 99) : -1980 ≤ x * y ∧ x * y ≤ 1980 := by
 have h : (x * y).natAbs ≤ 20 * 99 := by
  rw [Int.natAbs_mul]
  exact Nat.mul_le_mul (by omega) (by omega)
 omega
theorem zQ {s : Sh} (hs : s.sm) (ha : a.ok n) (hb : b.ok n) : FmOk n m (10 ^ 50) (shF n m ans a b s) := by
 obtain ⟨h1, h2, h3, h4⟩ := hs
 refine ⟨by simp [shF], by simp [shF], fun x hx => ?_, fun x hx => ?_, ?_⟩
 ·obtain ⟨k, _, rfl⟩ := List.mem_map.mp hx
  have e1 := vA h1 (Y3 ha.2.1 k)
  have e2 := vA h2 (Y3 hb.2.1 k)
  show -10 ^ 50 ≤ s.x * a.bys.getD k 0 + s.y * b.bys.getD k 0 ∧ s.x * a.bys.getD k 0 + s.y * b.bys.getD k 0 ≤ 10 ^ 50
  omega
 ·obtain ⟨k, _, rfl⟩ := List.mem_map.mp hx
  have e1 := vA h3 (y := if (k : Int) = ans then (1 : Int) else 0) (by split <;> exact ⟨by decide, by decide⟩)
  show -10 ^ 50 ≤ s.z * (if (k : Int) = ans then (1 : Int) else 0) ∧ s.z * (if (k : Int) = ans then (1 : Int) else 0) ≤ 10 ^ 50
  omega
 ·have e1 := vA h1 ha.2.2
  have e2 := vA h2 hb.2.2
  show -10 ^ 50 ≤ s.x * a.plus + s.y * b.plus + s.p ∧ s.x * a.plus + s.y * b.plus + s.p ≤ 10 ^ 50
  omega
end
theorem Wf {n m : Nat} {f : Fm} {c : Int} (h : FmOk n m (10 ^ 50) f) (hc : -99 ≤ c ∧ c ≤ 99) : (∀ x ∈ f.ins, IntMulOk c x) ∧ (∀ x ∈ f.sts, IntMulOk c x) ∧ IntMulOk c f.plus := by
 have b1 : Bg c := Bg.of (B := 99) (by decide +kernel) hc
 exact ⟨fun x hx => mulB b1 (Bg.of (by decide +kernel) (h.bi x hx)), fun x hx => mulB b1 (Bg.of (by decide +kernel) (h.bs x hx)), mulB b1 (Bg.of (by decide +kernel) h.bp)⟩
def FO (H : Hp) (n m : Nat) (q : Addr) (f : Fm) : Prop := FmAt H q f ∧ FmOk n m (10 ^ 50) f
theorem FO.same {H H' : Hp} {n m : Nat} {q : Addr} {f : Fm} (k : Same H H') (h : FO H n m q f) : FO H' n m q f := ⟨h.1.same k, h.2⟩
def Zp : Sp := fun vs H Q _ => ∃ (p q : Addr) (f g : Fm) (n m : Nat), vs = [.ref p, .ref q] ∧ FO H n m p f ∧ FO H n m q g ∧ n ≤ 10 ∧ m ≤ 10 ∧ ∀ r H', Same H H' → FmAt H' r (ZW f g) → Q (.ref r) H'
def Z9 : Sp := fun vs H Q _ => ∃ (p q : Addr) (f g : Fm) (n m : Nat), vs = [.ref p, .ref q] ∧ FO H n m p f ∧ FO H n m q g ∧ n ≤ 10 ∧ m ≤ 10 ∧ ∀ r u v H', Same H H' → H' r = some (.tup [.ref u, .ref v]) → FmAt H' u (ZW f g) → FmAt H' v (ZW g f) → Q (.ref r) H'
def Xv : Sp := fun vs H Q _ => ∃ (p q : Addr) (ins beg : List Int) (m : Nat) (a : Ln), vs = [.ref p, .ref q] ∧ Pt H p ins beg m ∧ LnAt H q a ∧ ∀ r H', Same H H' → FmAt H' r (linF m a) → Q (.ref r) H'
abbrev W5 : List Str := ["one", "other"]
theorem XU : Nm W5 (zc YI) := ⟨by decide +kernel, by decide +kernel⟩
theorem scLess : FnScope W5 ["one", "other"] (zc YI) := ⟨rfl, rfl, rfl, by decide +kernel, rfl, by decide +kernel, by decide +kernel⟩
abbrev W7 : List Str := ["one", "other"]
theorem ZA : Nm W7 (zc YL) := ⟨by decide +kernel, by decide +kernel⟩
theorem scBoth : FnScope W7 ["one", "other"] (zc YL) := ⟨rfl, rfl, rfl, by decide +kernel, rfl, by decide +kernel, by decide +kernel⟩
abbrev nNum : List Str := ["pot", "number"]
theorem XT : Nm nNum (zc sNum) := nmk (by decide +kernel)
theorem scNum : FnScope nNum ["pot", "number"] (zc sNum) := fsk (by decide +kernel)
abbrev W4 : List Str := ["pot", "line"]
theorem Yc : Nm W4 (zc YH) := ⟨by decide +kernel, by decide +kernel⟩
theorem scLinF : FnScope W4 ["pot", "line"] (zc YH) := ⟨rfl, rfl, rfl, by decide +kernel, rfl, by decide +kernel, by decide +kernel⟩
section
variable {P : Program} {w : World} {K : W.Frag} {mg : Str → Option Value} {base : Heap}
theorem ok_Less {f : Addr} {fd : FuncData} (fA : Has P w K mg base 1 "added" ["one", "other"] Yz) (fO : Has P w K mg base 1 "so_often" ["form", "times"] Zo) (F : Fun K "less" "less" YI f fd) : FnOk P w K mg base CX0 2 f fd ["one", "other"] Zp := by
 refine F.ok scLess (fun vs H Q E h => ?_) (fun cdv A outer s H vs Q E hr h => ?_)
 ·obtain ⟨p, q, f, g, n, m, rfl, _⟩ := h
  rfl
 obtain ⟨p, q, f, g, n, m, rfl, hp, hq, n10, m10, k⟩ := h
 refine' ⟨_, ?hb, ?rd⟩
 case hb =>
  refine' zg ?s1
  case' s1 => refine' zl ?p1
  case' p1 => refine' pe_f fA hr (by decide) ?p2
  case' p2 => refine' pa_2 (pvd XU 0) ?p3
  case p3 => exact pe_f fO hr (by decide) (pa_2 (pvd XU 1) (wN xu zd))
 have l1 := hp.2.li
 have l2 := hp.2.ls
 have l3 := hq.2.li
 have l4 := hq.2.ls
 have fok := Wf hq.2 (c := -1) ⟨by decide, by decide⟩
 walk_at "v"
 refine ⟨_, rfl, ?_⟩
 refine ⟨q, g, -1, rfl, hq.1, by omega, by omega, fok.1, fok.2.1, fok.2.2, fun r1 H1 K1 h1 => ?_⟩
 walk_at "v"
 refine ⟨p, r1, f, oftF (-1) g, rfl, hp.1.same K1, h1, ?_, ?_, by omega, by omega, fun r H2 K2 h2 => k r H2 (K1.trans K2) h2⟩
 ·show f.ins.length = (g.ins.map _).length
  rw [List.length_map]
  omega
 ·show f.sts.length = (g.sts.map _).length
  rw [List.length_map]
  omega
theorem ok_Both {f : Addr} {fd : FuncData} (fL : Has P w K mg base 2 "less" ["one", "other"] Zp) (F : Fun K "both_ways" "both_ways" YL f fd) : FnOk P w K mg base CX0 3 f fd ["one", "other"] Z9 := by
 refine F.ok scBoth (fun vs H Q E h => ?_) (fun cdv A outer s H vs Q E hr h => ?_)
 ·obtain ⟨p, q, f, g, n, m, rfl, _⟩ := h
  rfl
 obtain ⟨p, q, f, g, n, m, rfl, hp, hq, n10, m10, k⟩ := h
 refine' ⟨_, ?hb, ?rd⟩
 case hb =>
  refine' zg ?s1
  case' s1 => refine' zl ?p1
  case' p1 => refine' zy ?p2
  case p2 => exact pa_2 (pe_f fL hr (by decide) (pa_2 (pvd ZA 0) (pvd ZA 1))) (pe_f fL hr (by decide) (pa_2 (pvd ZA 1) (pvd ZA 0)))
 walk_at "v"
 refine ⟨p, q, f, g, n, m, rfl, hp, hq, n10, m10, fun r1 H1 K1 h1 => ?_⟩
 walk_at "v"
 refine ⟨q, p, g, f, n, m, rfl, hq.same K1, hp.same K1, n10, m10, fun r2 H2 K2 h2 => ?_⟩
 walk_at "v"
 refine ⟨sz2, fun r hr => ?_⟩
 have K3 : Same H2 (upd H2 r (.tup [.ref r1, .ref r2])) := Same.new (Same.refl H2) hr
 exact k r r1 r2 _ ((K1.trans K2).trans K3) ze (h1.same (K2.trans K3)) (h2.same K3)
theorem ok_Num {f : Addr} {fd : FuncData} (B : Blt3 mg) (fN : Has P w K mg base 1 "noughts" ["things"] Yw) (F : Fun K "form_of_number" "form_of_number" sNum f fd) : FnOk P w K mg base CX0 2 f fd ["pot", "number"] (spFm numF) := by
 refine F.ok scNum (fun vs H Q E h => ?_) (fun cdv A outer s H vs Q E hr h => ?_)
 ·obtain ⟨p, ins, beg, m, i, rfl, _⟩ := h
  rfl
 obtain ⟨p, ins, beg, m, i, rfl, hp, k⟩ := h
 refine' ⟨_, ?hb, ?rd⟩
 case hb =>
  refine' zg ?s1
  case' s1 => refine' zl ?p1
  case' p1 => refine' zy ?q1
  case' q1 => refine' pa_c ?x1 ?y1
  case x1 => exact pe_f fN hr (by decide) (pa_1 (ziq (pvd XT 0) (pe_k B.inK)))
  case' y1 => refine' pa_2 ?x2 (pvd XT 1)
  case x2 => exact pe_f fN hr (by decide) (pa_1 (ziq (pvd XT 0) (pe_k B.soK)))
 obtain ⟨ps, pr, pin, pb, a, xs, h1, h2, h3, h4, h5⟩ := hp.ex
 have m8 := hp.m8
 have i3 := hp.i3
 walk_at "v"
 refine zm h1 rfl ?_
 walk_at "v"
 refine ⟨pin, _, rfl, h4, by rw [List.length_map]; omega, fun q1 H1 K1 e1 => ?_⟩
 rw [List.length_map] at e1
 walk_at "v"
 refine zm (K1 _ _ h1) rfl ?_
 walk_at "v"
 refine ⟨ps, _, rfl, K1 _ _ h2, by omega, fun q2 H2 K2 e2 => ?_⟩
 rw [h3] at e2
 walk_at "v"
 refine ⟨sz3, fun r hr => ?_⟩
 have K3 : Same H2 (upd H2 r (.tup [.ref q1, .ref q2, .int i])) := Same.new (Same.refl H2) hr
 exact k r _ ((K1.trans K2).trans K3) ⟨q1, q2, ze, K3 _ _ (K2 _ _ e1), K3 _ _ e2⟩
theorem ok_LinF {f : Addr} {fd : FuncData} (B : Blt3 mg) (fN : Has P w K mg base 1 "noughts" ["things"] Yw) (F : Fun K "form_of_line" "form_of_line" YH f fd) : FnOk P w K mg base CX0 2 f fd ["pot", "line"] Xv := by
 refine F.ok scLinF (fun vs H Q E h => ?_) (fun cdv A outer s H vs Q E hr h => ?_)
 ·obtain ⟨p, q, ins, beg, m, a, rfl, _⟩ := h
  rfl
 obtain ⟨p, q, ins, beg, m, a, rfl, hp, ⟨b, hq, hb⟩, k⟩ := h
 refine' ⟨_, ?hb, ?rd⟩
 case hb =>
  refine' zg ?s1
  case' s1 => refine' zl ?p1
  case' p1 => refine' zy ?q1
  case' q1 => refine' pa_c (ziq (pvd Yc 1) (pe_k B.byK)) ?y1
  case' y1 => refine' pa_2 ?x2 (ziq (pvd Yc 1) (pe_k B.lpK))
  case x2 => exact pe_f fN hr (by decide) (pa_1 (ziq (pvd Yc 0) (pe_k B.soK)))
 obtain ⟨ps, pr, pin, pb, av, xs, h1, h2, h3, h4, h5⟩ := hp.ex
 have m8 := hp.m8
 walk_at "v"
 refine zm hq rfl ?_
 walk_at "v"
 refine zm h1 rfl ?_
 walk_at "v"
 refine ⟨ps, _, rfl, h2, by omega, fun q2 H2 K2 e2 => ?_⟩
 rw [h3] at e2
 walk_at "v"
 refine zm (K2 _ _ hq) rfl ?_
 walk_at "v"
 refine ⟨sz3, fun r hr => ?_⟩
 have K3 : Same H2 (upd H2 r (.tup [.ref b, .ref q2, .int a.plus])) := Same.new (Same.refl H2) hr
 exact k r _ (K2.trans K3) ⟨b, q2, ze, K3 _ _ (K2 _ _ hb), K3 _ _ e2⟩
abbrev sPof : Stmt := top 35
abbrev sTwo : Stmt := top 36
def Yh : List Sh := [⟨-1, 0, 1, 0⟩, ⟨1, 0, -1, 0⟩]
def Xz : List Sh := [⟨0, -1, 1, 0⟩, ⟨0, 1, -1, 0⟩]
def yesS : List Sh := [⟨0, 0, 1, -1⟩, ⟨0, 0, -1, 1⟩]
def noS : List Sh := [⟨0, 0, 1, 0⟩, ⟨0, 0, -1, 0⟩]
def XO : Sh := ⟨1, -1, 0, 0⟩
def Zl : Sh := ⟨-1, 1, 0, 0⟩
def YC (w : Str) : List (List Sh) := if w = "least" then [Yh ++ [Zl], Xz ++ [XO]] else if w = "most" then [Yh ++ [XO], Xz ++ [Zl]] else if w = "more" then [yesS ++ [⟨1, -1, 0, -1⟩], noS ++ [Zl]] else [yesS ++ [XO, Zl], noS ++ [⟨1, -1, 0, -1⟩], noS ++ [⟨-1, 1, 0, -1⟩]]
def vn : Ak → List (List Sh)
 | .sum _ => [Yh]
 | .part _ c => [[⟨1, 0, -c, 0⟩, ⟨-1, 0, c, c - 1⟩]]
 | .two w _ _ => YC w
def lnA : Ak → Ln
 | .sum a => a
 | .part a _ => a
 | .two _ a _ => a
def lnB (n : Nat) : Ak → Ln
 | .sum _ => ⟨List.replicate n 0, 0⟩
 | .part _ _ => ⟨List.replicate n 0, 0⟩
 | .two _ _ b => b
def pcs (n m : Nat) (ans : Int) (A : Ak) : List (List Fm) := (vn A).map fun l => l.map (shF n m ans (lnA A) (lnB n A))
theorem Yk (n : Nat) : (⟨List.replicate n 0, 0⟩ : Ln).ok n := ⟨List.length_replicate, fun x hx => by rw [List.eq_of_mem_replicate hx]; exact ⟨by decide, by decide⟩, by show -99 ≤ (0 : Int); decide, by show (0 : Int) ≤ 99; decide⟩
theorem smC {c : Int} (h2 : 2 ≤ c) (h9 : c ≤ 9) : Sh.sm ⟨0, 0, c, 0⟩ := ⟨⟨by show -20 ≤ (0 : Int); decide, by show (0 : Int) ≤ 20; decide⟩, ⟨by show -20 ≤ (0 : Int); decide, by show (0 : Int) ≤ 20; decide⟩, ⟨by show -20 ≤ c; omega, by show c ≤ 20; omega⟩, by show -20 ≤ (0 : Int); decide, by show (0 : Int) ≤ 20; decide⟩
def Pcs (H : Hp) : List Addr → List (List Fm) → Prop
 | [], [] => True
 | r :: rs, fs :: fss => (∃ qs : List Addr, H r = some (.tup (qs.map V.ref)) ∧ Fms H qs fs) ∧ Pcs H rs fss
 | _, _ => False
def Z4 (H : Hp) (q : Addr) (fss : List (List Fm)) : Prop := ∃ rs : List Addr, H q = some (.tup (rs.map V.ref)) ∧ Pcs H rs fss
theorem X8 {p X Y : Prop} [Decidable p] (h : p) (k : X) : if decide p = true then X else Y := iteD (fun _ => k) fun z => absurd h z
theorem X9 {p X Y : Prop} [Decidable p] (h : ¬ p) (k : Y) : if decide p = true then X else Y := iteD (fun z => absurd z h) fun _ => k
structure PtA (H : Hp) (q : Addr) (ins beg : List Int) (m : Nat) (ans : Int) : Prop extends Pt H q ins beg m where
 an : ∃ ps pr pin pb : Addr, H q = some (.tup [.ref ps, .ref pr, .ref pin, .ref pb, .int ans])
theorem PotT.pa {H : Hp} {q : Addr} {nm : List Str} {rs : List Addr} {ins beg : List Int} {ans : Int} {m : Nat} (h : PotT H q nm rs ins beg ans m) : PtA H q ins beg m ans :=
 let ⟨ps, pr, pin, pb, h1, _⟩ := h.ex
 ⟨h.pt, ps, pr, pin, pb, h1⟩
def WA : Sp := fun vs H Q _ => ∃ (p : Addr) (w : Str) (dq oq tq : Addr) (ins beg : List Int) (m : Nat) (ans : Int) (a b : Ln), vs = [.ref p, .str w, .ref dq, .ref oq, .ref tq] ∧ Pt H p ins beg m ∧ four w ∧ a.ok ins.length ∧ b.ok ins.length ∧ FmAt H dq (shF ins.length m ans a b ⟨0, 0, 1, 0⟩) ∧ FmAt H oq (shF ins.length m ans a b ⟨1, 0, 0, 0⟩) ∧ FmAt H tq (shF ins.length m ans a b ⟨0, 1, 0, 0⟩) ∧
 ∀ r H', Same H H' → Z4 H' r ((YC w).map fun l => l.map (shF ins.length m ans a b)) → Q (.ref r) H'
def Xs : Sp := fun vs H Q _ => ∃ (p q : Addr) (ins beg : List Int) (m : Nat) (ans : Int) (A : Ak), vs = [.ref p, .ref q] ∧ PtA H p ins beg m ans ∧ AkAt H q A ∧ A.ok ins.length ∧ ∀ r H', Same H H' → Z4 H' r (pcs ins.length m ans A) → Q (.ref r) H'
abbrev nTwo : List Str := ["pot", "word", "drops", "one", "other", "yes", "no", "above", "below"]
theorem zG : Nm nTwo (zc sTwo) := nmk (by decide +kernel)
theorem scTwo : FnScope nTwo ["pot", "word", "drops", "one", "other"] (zc sTwo) := fsk (by decide +kernel)
abbrev nPof : List Str := ["pot", "ask", "drops", "one", "parts"]
theorem yi : Nm nPof (zc sPof) := nmk (by decide +kernel)
theorem scPof : FnScope nPof ["pot", "ask"] (zc sPof) := fsk (by decide +kernel)
theorem ok_Two {f : Addr} {fd : FuncData} (fB : Has P w K mg base 3 "both_ways" ["one", "other"] Z9) (fL : Has P w K mg base 2 "less" ["one", "other"] Zp) (fM : Has P w K mg base 1 "and_more" ["form", "number"] Z8) (fN : Has P w K mg base 2 "form_of_number" ["pot", "number"] (spFm numF)) (F : Fun K "pieces_of_two" "pieces_of_two" sTwo f fd) : FnOk P w K mg base CX0 4 f fd ["pot", "word", "drops", "one", "other"] WA := by
 refine F.ok scTwo (fun vs H Q E h => ?_) (fun cdv A outer s H vs Q E hr h => ?_)
 ·obtain ⟨p, w, dq, oq, tq, ins, beg, m, ans, a, b, rfl, _⟩ := h
  rfl
 obtain ⟨p, w, dq, oq, tq, ins, beg, m, ans, a, b, rfl, hp, hw4, ha, hb, hd, ho, ht, k⟩ := h
 refine' ⟨_, ?hb, ?rd⟩
 case hb =>
  refine' zf ?s1 ?r1
  case' r1 => refine' zf ?s2 ?r2
  case' r2 => refine' zf ?s3 ?r3
  case' r3 => refine' zf ?s4 ?r4
  case' r4 => refine' zf ?s5 ?r5
  case' r5 => refine' zf ?s6 ?r6
  case' r6 => refine' zf ?s7 ?r7
  case' r7 => refine' zg ?s8
  case s1 =>
   refine' zC (zq zV (pvd zG 1) zp (zt _)) ?b1 zw
   case' b1 => refine' zg ?b2
   case' b2 => refine' zl ?b3
   case' b3 => refine' zy ?b4
   case b4 => exact pa_2 (zo yx (pe_f fB hr (by decide) (pa_2 (pvd zG 2) (pvd zG 3))) (zy (pa_1 (pe_f fL hr (by decide) (pa_2 (pvd zG 4) (pvd zG 3)))))) (zo yx (pe_f fB hr (by decide) (pa_2 (pvd zG 2) (pvd zG 4))) (zy (pa_1 (pe_f fL hr (by decide) (pa_2 (pvd zG 3) (pvd zG 4))))))
  case s2 =>
   refine' zC (zq zV (pvd zG 1) zp (zt _)) ?c1 zw
   case' c1 => refine' zg ?c2
   case' c2 => refine' zl ?c3
   case' c3 => refine' zy ?c4
   case c4 => exact pa_2 (zo yx (pe_f fB hr (by decide) (pa_2 (pvd zG 2) (pvd zG 3))) (zy (pa_1 (pe_f fL hr (by decide) (pa_2 (pvd zG 3) (pvd zG 4)))))) (zo yx (pe_f fB hr (by decide) (pa_2 (pvd zG 2) (pvd zG 4))) (zy (pa_1 (pe_f fL hr (by decide) (pa_2 (pvd zG 4) (pvd zG 3))))))
  case s3 => exact zj zG 5 (pe_f fB hr (by decide) (pa_2 (pvd zG 2) (pe_f fN hr (by decide) (pa_2 (pvd zG 0) zd))))
  case s4 => exact zj zG 6 (pe_f fB hr (by decide) (pa_2 (pvd zG 2) (pe_f fN hr (by decide) (pa_2 (pvd zG 0) zd))))
  case s5 => exact zj zG 7 (pe_f fM hr (by decide) (pa_2 (pe_f fL hr (by decide) (pa_2 (pvd zG 3) (pvd zG 4))) (wN xu zd)))
  case s6 =>
   refine' zC (zq zV (pvd zG 1) zp (zt _)) ?d1 zw
   case' d1 => refine' zg ?d2
   case' d2 => refine' zl ?d3
   case' d3 => refine' zy ?d4
   case d4 => exact pa_2 (zo yx (pvd zG 5) (zy (pa_1 (pvd zG 7)))) (zo yx (pvd zG 6) (zy (pa_1 (pe_f fL hr (by decide) (pa_2 (pvd zG 4) (pvd zG 3))))))
  case s7 => exact zj zG 8 (pe_f fM hr (by decide) (pa_2 (pe_f fL hr (by decide) (pa_2 (pvd zG 4) (pvd zG 3))) (wN xu zd)))
  case s8 =>
   refine' zl ?e1
   case' e1 => refine' zy ?e2
   case' e2 => refine' pa_c (zo yx (pvd zG 5) (pe_f fB hr (by decide) (pa_2 (pvd zG 3) (pvd zG 4)))) ?e3
   case e3 => exact pa_2 (zo yx (pvd zG 6) (zy (pa_1 (pvd zG 7)))) (zo yx (pvd zG 6) (zy (pa_1 (pvd zG 8))))
 have m8 := hp.m8
 have i3 := hp.i3
 walk_at "v"
 refine ⟨rfl, ?_⟩
 walk_at "v"
 refine iteD (fun hw => ?_) (fun h1 => ?_)
 ·injection hw with hw
  subst hw
  walk_at "v"
  refine ⟨dq, oq, shF ins.length m ans a b ⟨0, 0, 1, 0⟩, shF ins.length m ans a b ⟨1, 0, 0, 0⟩, ins.length, m, rfl, ⟨hd, zQ (s := ⟨0, 0, 1, 0⟩) (by exact ⟨⟨by decide, by decide⟩, ⟨by decide, by decide⟩, ⟨by decide, by decide⟩, by decide, by decide⟩) ha hb⟩, ⟨ho, zQ (s := ⟨1, 0, 0, 0⟩) (by exact ⟨⟨by decide, by decide⟩, ⟨by decide, by decide⟩, ⟨by decide, by decide⟩, by decide, by decide⟩) ha hb⟩, by omega, by omega, fun r1 r1u r1v H1 K1 er1 hr1u hr1v => ?_⟩
  replace hd := hd.same K1
  replace ho := ho.same K1
  replace ht := ht.same K1
  replace hp := hp.same K1
  have KT := K1
  rw [zH] at hr1u
  replace hr1u : FmAt H1 r1u (shF ins.length m ans a b ⟨-1, 0, 1, 0⟩) := hr1u
  rw [zH] at hr1v
  replace hr1v : FmAt H1 r1v (shF ins.length m ans a b ⟨1, 0, -1, 0⟩) := hr1v
  walk_at "v"
  refine ⟨tq, oq, shF ins.length m ans a b ⟨0, 1, 0, 0⟩, shF ins.length m ans a b ⟨1, 0, 0, 0⟩, ins.length, m, rfl, ⟨ht, zQ (s := ⟨0, 1, 0, 0⟩) (by exact ⟨⟨by decide, by decide⟩, ⟨by decide, by decide⟩, ⟨by decide, by decide⟩, by decide, by decide⟩) ha hb⟩, ⟨ho, zQ (s := ⟨1, 0, 0, 0⟩) (by exact ⟨⟨by decide, by decide⟩, ⟨by decide, by decide⟩, ⟨by decide, by decide⟩, by decide, by decide⟩) ha hb⟩, by omega, by omega, fun f1 H2 K2 hf1 => ?_⟩
  replace hd := hd.same K2
  replace ho := ho.same K2
  replace ht := ht.same K2
  replace hp := hp.same K2
  replace hr1u := hr1u.same K2
  replace hr1v := hr1v.same K2
  replace er1 := K2 _ _ er1
  replace KT := KT.trans K2
  rw [zH] at hf1
  replace hf1 : FmAt H2 f1 (shF ins.length m ans a b ⟨-1, 1, 0, 0⟩) := hf1
  walk_at "v"
  refine ⟨sz1, fun z1 hz1 => ?_⟩
  obtain ⟨H3, q, K3, ez1⟩ := nob (.tup [.ref f1]) hz1; rw [q]; clear q
  replace hd := hd.same K3
  replace ho := ho.same K3
  replace ht := ht.same K3
  replace hp := hp.same K3
  replace hr1u := hr1u.same K3
  replace hr1v := hr1v.same K3
  replace er1 := K3 _ _ er1
  replace hf1 := hf1.same K3
  replace KT := KT.trans K3
  walk_at "v"
  refine ⟨r1, z1, _, _, rfl, rfl, er1, ez1, by simp, fun p1 H4 K4 ep1 => ?_⟩
  replace hd := hd.same K4
  replace ho := ho.same K4
  replace ht := ht.same K4
  replace hp := hp.same K4
  replace hr1u := hr1u.same K4
  replace hr1v := hr1v.same K4
  replace er1 := K4 _ _ er1
  replace hf1 := hf1.same K4
  replace ez1 := K4 _ _ ez1
  replace KT := KT.trans K4
  replace ep1 : H4 p1 = some (.tup [.ref r1u, .ref r1v, .ref f1]) := ep1
  walk_at "v"
  refine ⟨dq, tq, shF ins.length m ans a b ⟨0, 0, 1, 0⟩, shF ins.length m ans a b ⟨0, 1, 0, 0⟩, ins.length, m, rfl, ⟨hd, zQ (s := ⟨0, 0, 1, 0⟩) (by exact ⟨⟨by decide, by decide⟩, ⟨by decide, by decide⟩, ⟨by decide, by decide⟩, by decide, by decide⟩) ha hb⟩, ⟨ht, zQ (s := ⟨0, 1, 0, 0⟩) (by exact ⟨⟨by decide, by decide⟩, ⟨by decide, by decide⟩, ⟨by decide, by decide⟩, by decide, by decide⟩) ha hb⟩, by omega, by omega, fun r2 r2u r2v H5 K5 er2 hr2u hr2v => ?_⟩
  replace hd := hd.same K5
  replace ho := ho.same K5
  replace ht := ht.same K5
  replace hp := hp.same K5
  replace hr1u := hr1u.same K5
  replace hr1v := hr1v.same K5
  replace er1 := K5 _ _ er1
  replace hf1 := hf1.same K5
  obtain ⟨ez1, ep1⟩ := lf2 K5 ez1 ep1
  replace KT := KT.trans K5
  rw [zH] at hr2u
  replace hr2u : FmAt H5 r2u (shF ins.length m ans a b ⟨0, -1, 1, 0⟩) := hr2u
  rw [zH] at hr2v
  replace hr2v : FmAt H5 r2v (shF ins.length m ans a b ⟨0, 1, -1, 0⟩) := hr2v
  walk_at "v"
  refine ⟨oq, tq, shF ins.length m ans a b ⟨1, 0, 0, 0⟩, shF ins.length m ans a b ⟨0, 1, 0, 0⟩, ins.length, m, rfl, ⟨ho, zQ (s := ⟨1, 0, 0, 0⟩) (by exact ⟨⟨by decide, by decide⟩, ⟨by decide, by decide⟩, ⟨by decide, by decide⟩, by decide, by decide⟩) ha hb⟩, ⟨ht, zQ (s := ⟨0, 1, 0, 0⟩) (by exact ⟨⟨by decide, by decide⟩, ⟨by decide, by decide⟩, ⟨by decide, by decide⟩, by decide, by decide⟩) ha hb⟩, by omega, by omega, fun f2 H6 K6 hf2 => ?_⟩
  replace hd := hd.same K6
  replace ho := ho.same K6
  replace ht := ht.same K6
  replace hp := hp.same K6
  replace hr1u := hr1u.same K6
  replace hr1v := hr1v.same K6
  replace er1 := K6 _ _ er1
  replace hf1 := hf1.same K6
  obtain ⟨ez1, ep1⟩ := lf2 K6 ez1 ep1
  replace hr2u := hr2u.same K6
  replace hr2v := hr2v.same K6
  replace er2 := K6 _ _ er2
  replace KT := KT.trans K6
  rw [zH] at hf2
  replace hf2 : FmAt H6 f2 (shF ins.length m ans a b ⟨1, -1, 0, 0⟩) := hf2
  walk_at "v"
  refine ⟨sz1, fun z2 hz2 => ?_⟩
  obtain ⟨H7, q, K7, ez2⟩ := nob (.tup [.ref f2]) hz2; rw [q]; clear q
  replace hd := hd.same K7
  replace ho := ho.same K7
  replace ht := ht.same K7
  replace hp := hp.same K7
  replace hr1u := hr1u.same K7
  replace hr1v := hr1v.same K7
  replace er1 := K7 _ _ er1
  replace hf1 := hf1.same K7
  obtain ⟨ez1, ep1⟩ := lf2 K7 ez1 ep1
  replace hr2u := hr2u.same K7
  replace hr2v := hr2v.same K7
  replace er2 := K7 _ _ er2
  replace hf2 := hf2.same K7
  replace KT := KT.trans K7
  walk_at "v"
  refine ⟨r2, z2, _, _, rfl, rfl, er2, ez2, by simp, fun p2 H8 K8 ep2 => ?_⟩
  replace hd := hd.same K8
  replace ho := ho.same K8
  replace ht := ht.same K8
  replace hp := hp.same K8
  replace hr1u := hr1u.same K8
  replace hr1v := hr1v.same K8
  replace er1 := K8 _ _ er1
  replace hf1 := hf1.same K8
  obtain ⟨ez1, ep1⟩ := lf2 K8 ez1 ep1
  replace hr2u := hr2u.same K8
  replace hr2v := hr2v.same K8
  replace er2 := K8 _ _ er2
  replace hf2 := hf2.same K8
  replace ez2 := K8 _ _ ez2
  replace KT := KT.trans K8
  replace ep2 : H8 p2 = some (.tup [.ref r2u, .ref r2v, .ref f2]) := ep2
  walk_at "v"
  refine ⟨sz2, fun rr hrr => ?_⟩
  obtain ⟨H9, q, K9, err⟩ := nob (.tup [.ref p1, .ref p2]) hrr; rw [q]; clear q
  replace hd := hd.same K9
  replace ho := ho.same K9
  replace ht := ht.same K9
  replace hp := hp.same K9
  replace hr1u := hr1u.same K9
  replace hr1v := hr1v.same K9
  replace er1 := K9 _ _ er1
  replace hf1 := hf1.same K9
  obtain ⟨ez1, ep1⟩ := lf2 K9 ez1 ep1
  replace hr2u := hr2u.same K9
  replace hr2v := hr2v.same K9
  replace er2 := K9 _ _ er2
  replace hf2 := hf2.same K9
  obtain ⟨ez2, ep2⟩ := lf2 K9 ez2 ep2
  replace KT := KT.trans K9
  exact k rr _ KT ⟨[p1, p2], err, ⟨⟨[r1u, r1v, f1], ep1, ⟨hr1u, hr1v, hf1, trivial⟩⟩, ⟨⟨[r2u, r2v, f2], ep2, ⟨hr2u, hr2v, hf2, trivial⟩⟩, trivial⟩⟩⟩
 walk_at "v"
 refine ⟨rfl, ?_⟩
 walk_at "v"
 refine iteD (fun hw => ?_) (fun h2 => ?_)
 ·injection hw with hw
  subst hw
  walk_at "v"
  refine ⟨dq, oq, shF ins.length m ans a b ⟨0, 0, 1, 0⟩, shF ins.length m ans a b ⟨1, 0, 0, 0⟩, ins.length, m, rfl, ⟨hd, zQ (s := ⟨0, 0, 1, 0⟩) (by exact ⟨⟨by decide, by decide⟩, ⟨by decide, by decide⟩, ⟨by decide, by decide⟩, by decide, by decide⟩) ha hb⟩, ⟨ho, zQ (s := ⟨1, 0, 0, 0⟩) (by exact ⟨⟨by decide, by decide⟩, ⟨by decide, by decide⟩, ⟨by decide, by decide⟩, by decide, by decide⟩) ha hb⟩, by omega, by omega, fun r1 r1u r1v H1 K1 er1 hr1u hr1v => ?_⟩
  replace hd := hd.same K1
  replace ho := ho.same K1
  replace ht := ht.same K1
  replace hp := hp.same K1
  have KT := K1
  rw [zH] at hr1u
  replace hr1u : FmAt H1 r1u (shF ins.length m ans a b ⟨-1, 0, 1, 0⟩) := hr1u
  rw [zH] at hr1v
  replace hr1v : FmAt H1 r1v (shF ins.length m ans a b ⟨1, 0, -1, 0⟩) := hr1v
  walk_at "v"
  refine ⟨oq, tq, shF ins.length m ans a b ⟨1, 0, 0, 0⟩, shF ins.length m ans a b ⟨0, 1, 0, 0⟩, ins.length, m, rfl, ⟨ho, zQ (s := ⟨1, 0, 0, 0⟩) (by exact ⟨⟨by decide, by decide⟩, ⟨by decide, by decide⟩, ⟨by decide, by decide⟩, by decide, by decide⟩) ha hb⟩, ⟨ht, zQ (s := ⟨0, 1, 0, 0⟩) (by exact ⟨⟨by decide, by decide⟩, ⟨by decide, by decide⟩, ⟨by decide, by decide⟩, by decide, by decide⟩) ha hb⟩, by omega, by omega, fun f1 H2 K2 hf1 => ?_⟩
  replace hd := hd.same K2
  replace ho := ho.same K2
  replace ht := ht.same K2
  replace hp := hp.same K2
  replace hr1u := hr1u.same K2
  replace hr1v := hr1v.same K2
  replace er1 := K2 _ _ er1
  replace KT := KT.trans K2
  rw [zH] at hf1
  replace hf1 : FmAt H2 f1 (shF ins.length m ans a b ⟨1, -1, 0, 0⟩) := hf1
  walk_at "v"
  refine ⟨sz1, fun z1 hz1 => ?_⟩
  obtain ⟨H3, q, K3, ez1⟩ := nob (.tup [.ref f1]) hz1; rw [q]; clear q
  replace hd := hd.same K3
  replace ho := ho.same K3
  replace ht := ht.same K3
  replace hp := hp.same K3
  replace hr1u := hr1u.same K3
  replace hr1v := hr1v.same K3
  replace er1 := K3 _ _ er1
  replace hf1 := hf1.same K3
  replace KT := KT.trans K3
  walk_at "v"
  refine ⟨r1, z1, _, _, rfl, rfl, er1, ez1, by simp, fun p1 H4 K4 ep1 => ?_⟩
  replace hd := hd.same K4
  replace ho := ho.same K4
  replace ht := ht.same K4
  replace hp := hp.same K4
  replace hr1u := hr1u.same K4
  replace hr1v := hr1v.same K4
  replace er1 := K4 _ _ er1
  replace hf1 := hf1.same K4
  replace ez1 := K4 _ _ ez1
  replace KT := KT.trans K4
  replace ep1 : H4 p1 = some (.tup [.ref r1u, .ref r1v, .ref f1]) := ep1
  walk_at "v"
  refine ⟨dq, tq, shF ins.length m ans a b ⟨0, 0, 1, 0⟩, shF ins.length m ans a b ⟨0, 1, 0, 0⟩, ins.length, m, rfl, ⟨hd, zQ (s := ⟨0, 0, 1, 0⟩) (by exact ⟨⟨by decide, by decide⟩, ⟨by decide, by decide⟩, ⟨by decide, by decide⟩, by decide, by decide⟩) ha hb⟩, ⟨ht, zQ (s := ⟨0, 1, 0, 0⟩) (by exact ⟨⟨by decide, by decide⟩, ⟨by decide, by decide⟩, ⟨by decide, by decide⟩, by decide, by decide⟩) ha hb⟩, by omega, by omega, fun r2 r2u r2v H5 K5 er2 hr2u hr2v => ?_⟩
  replace hd := hd.same K5
  replace ho := ho.same K5
  replace ht := ht.same K5
  replace hp := hp.same K5
  replace hr1u := hr1u.same K5
  replace hr1v := hr1v.same K5
  replace er1 := K5 _ _ er1
  replace hf1 := hf1.same K5
  obtain ⟨ez1, ep1⟩ := lf2 K5 ez1 ep1
  replace KT := KT.trans K5
  rw [zH] at hr2u
  replace hr2u : FmAt H5 r2u (shF ins.length m ans a b ⟨0, -1, 1, 0⟩) := hr2u
  rw [zH] at hr2v
  replace hr2v : FmAt H5 r2v (shF ins.length m ans a b ⟨0, 1, -1, 0⟩) := hr2v
  walk_at "v"
  refine ⟨tq, oq, shF ins.length m ans a b ⟨0, 1, 0, 0⟩, shF ins.length m ans a b ⟨1, 0, 0, 0⟩, ins.length, m, rfl, ⟨ht, zQ (s := ⟨0, 1, 0, 0⟩) (by exact ⟨⟨by decide, by decide⟩, ⟨by decide, by decide⟩, ⟨by decide, by decide⟩, by decide, by decide⟩) ha hb⟩, ⟨ho, zQ (s := ⟨1, 0, 0, 0⟩) (by exact ⟨⟨by decide, by decide⟩, ⟨by decide, by decide⟩, ⟨by decide, by decide⟩, by decide, by decide⟩) ha hb⟩, by omega, by omega, fun f2 H6 K6 hf2 => ?_⟩
  replace hd := hd.same K6
  replace ho := ho.same K6
  replace ht := ht.same K6
  replace hp := hp.same K6
  replace hr1u := hr1u.same K6
  replace hr1v := hr1v.same K6
  replace er1 := K6 _ _ er1
  replace hf1 := hf1.same K6
  obtain ⟨ez1, ep1⟩ := lf2 K6 ez1 ep1
  replace hr2u := hr2u.same K6
  replace hr2v := hr2v.same K6
  replace er2 := K6 _ _ er2
  replace KT := KT.trans K6
  rw [zH] at hf2
  replace hf2 : FmAt H6 f2 (shF ins.length m ans a b ⟨-1, 1, 0, 0⟩) := hf2
  walk_at "v"
  refine ⟨sz1, fun z2 hz2 => ?_⟩
  obtain ⟨H7, q, K7, ez2⟩ := nob (.tup [.ref f2]) hz2; rw [q]; clear q
  replace hd := hd.same K7
  replace ho := ho.same K7
  replace ht := ht.same K7
  replace hp := hp.same K7
  replace hr1u := hr1u.same K7
  replace hr1v := hr1v.same K7
  replace er1 := K7 _ _ er1
  replace hf1 := hf1.same K7
  obtain ⟨ez1, ep1⟩ := lf2 K7 ez1 ep1
  replace hr2u := hr2u.same K7
  replace hr2v := hr2v.same K7
  replace er2 := K7 _ _ er2
  replace hf2 := hf2.same K7
  replace KT := KT.trans K7
  walk_at "v"
  refine ⟨r2, z2, _, _, rfl, rfl, er2, ez2, by simp, fun p2 H8 K8 ep2 => ?_⟩
  replace hd := hd.same K8
  replace ho := ho.same K8
  replace ht := ht.same K8
  replace hp := hp.same K8
  replace hr1u := hr1u.same K8
  replace hr1v := hr1v.same K8
  replace er1 := K8 _ _ er1
  replace hf1 := hf1.same K8
  obtain ⟨ez1, ep1⟩ := lf2 K8 ez1 ep1
  replace hr2u := hr2u.same K8
  replace hr2v := hr2v.same K8
  replace er2 := K8 _ _ er2
  replace hf2 := hf2.same K8
  replace ez2 := K8 _ _ ez2
  replace KT := KT.trans K8
  replace ep2 : H8 p2 = some (.tup [.ref r2u, .ref r2v, .ref f2]) := ep2
  walk_at "v"
  refine ⟨sz2, fun rr hrr => ?_⟩
  obtain ⟨H9, q, K9, err⟩ := nob (.tup [.ref p1, .ref p2]) hrr; rw [q]; clear q
  replace hd := hd.same K9
  replace ho := ho.same K9
  replace ht := ht.same K9
  replace hp := hp.same K9
  replace hr1u := hr1u.same K9
  replace hr1v := hr1v.same K9
  replace er1 := K9 _ _ er1
  replace hf1 := hf1.same K9
  obtain ⟨ez1, ep1⟩ := lf2 K9 ez1 ep1
  replace hr2u := hr2u.same K9
  replace hr2v := hr2v.same K9
  replace er2 := K9 _ _ er2
  replace hf2 := hf2.same K9
  obtain ⟨ez2, ep2⟩ := lf2 K9 ez2 ep2
  replace KT := KT.trans K9
  exact k rr _ KT ⟨[p1, p2], err, ⟨⟨[r1u, r1v, f1], ep1, ⟨hr1u, hr1v, hf1, trivial⟩⟩, ⟨⟨[r2u, r2v, f2], ep2, ⟨hr2u, hr2v, hf2, trivial⟩⟩, trivial⟩⟩⟩
 walk_at "v"
 refine ⟨p, ins, beg, m, 1, rfl, hp, fun n1 H1 K1 hn1 => ?_⟩
 replace hd := hd.same K1
 replace ho := ho.same K1
 replace ht := ht.same K1
 replace hp := hp.same K1
 have KT := K1
 rw [XS (ans := ans) (a := a) (b := b)] at hn1
 walk_at "v"
 refine ⟨dq, n1, shF ins.length m ans a b ⟨0, 0, 1, 0⟩, shF ins.length m ans a b ⟨0, 0, 0, 1⟩, ins.length, m, rfl, ⟨hd, zQ (s := ⟨0, 0, 1, 0⟩) (by exact ⟨⟨by decide, by decide⟩, ⟨by decide, by decide⟩, ⟨by decide, by decide⟩, by decide, by decide⟩) ha hb⟩, ⟨hn1, zQ (s := ⟨0, 0, 0, 1⟩) (by exact ⟨⟨by decide, by decide⟩, ⟨by decide, by decide⟩, ⟨by decide, by decide⟩, by decide, by decide⟩) ha hb⟩, by omega, by omega, fun ry ryu ryv H2 K2 ery hryu hryv => ?_⟩
 replace hd := hd.same K2
 replace ho := ho.same K2
 replace ht := ht.same K2
 replace hp := hp.same K2
 replace hn1 := hn1.same K2
 replace KT := KT.trans K2
 rw [zH] at hryu
 replace hryu : FmAt H2 ryu (shF ins.length m ans a b ⟨0, 0, 1, -1⟩) := hryu
 rw [zH] at hryv
 replace hryv : FmAt H2 ryv (shF ins.length m ans a b ⟨0, 0, -1, 1⟩) := hryv
 walk_at "v"
 refine ⟨p, ins, beg, m, 0, rfl, hp, fun n0 H3 K3 hn0 => ?_⟩
 replace hd := hd.same K3
 replace ho := ho.same K3
 replace ht := ht.same K3
 replace hp := hp.same K3
 replace hn1 := hn1.same K3
 replace hryu := hryu.same K3
 replace hryv := hryv.same K3
 replace ery := K3 _ _ ery
 replace KT := KT.trans K3
 rw [XS (ans := ans) (a := a) (b := b)] at hn0
 walk_at "v"
 refine ⟨dq, n0, shF ins.length m ans a b ⟨0, 0, 1, 0⟩, shF ins.length m ans a b ⟨0, 0, 0, 0⟩, ins.length, m, rfl, ⟨hd, zQ (s := ⟨0, 0, 1, 0⟩) (by exact ⟨⟨by decide, by decide⟩, ⟨by decide, by decide⟩, ⟨by decide, by decide⟩, by decide, by decide⟩) ha hb⟩, ⟨hn0, zQ (s := ⟨0, 0, 0, 0⟩) (by exact ⟨⟨by decide, by decide⟩, ⟨by decide, by decide⟩, ⟨by decide, by decide⟩, by decide, by decide⟩) ha hb⟩, by omega, by omega, fun rn rnu rnv H4 K4 ern hrnu hrnv => ?_⟩
 replace hd := hd.same K4
 replace ho := ho.same K4
 replace ht := ht.same K4
 replace hp := hp.same K4
 replace hn1 := hn1.same K4
 replace hryu := hryu.same K4
 replace hryv := hryv.same K4
 replace ery := K4 _ _ ery
 replace hn0 := hn0.same K4
 replace KT := KT.trans K4
 rw [zH] at hrnu
 replace hrnu : FmAt H4 rnu (shF ins.length m ans a b ⟨0, 0, 1, 0⟩) := hrnu
 rw [zH] at hrnv
 replace hrnv : FmAt H4 rnv (shF ins.length m ans a b ⟨0, 0, -1, 0⟩) := hrnv
 walk_at "v"
 refine ⟨oq, tq, shF ins.length m ans a b ⟨1, 0, 0, 0⟩, shF ins.length m ans a b ⟨0, 1, 0, 0⟩, ins.length, m, rfl, ⟨ho, zQ (s := ⟨1, 0, 0, 0⟩) (by exact ⟨⟨by decide, by decide⟩, ⟨by decide, by decide⟩, ⟨by decide, by decide⟩, by decide, by decide⟩) ha hb⟩, ⟨ht, zQ (s := ⟨0, 1, 0, 0⟩) (by exact ⟨⟨by decide, by decide⟩, ⟨by decide, by decide⟩, ⟨by decide, by decide⟩, by decide, by decide⟩) ha hb⟩, by omega, by omega, fun g1 H5 K5 hg1 => ?_⟩
 replace hd := hd.same K5
 replace ho := ho.same K5
 replace ht := ht.same K5
 replace hp := hp.same K5
 replace hn1 := hn1.same K5
 replace hryu := hryu.same K5
 replace hryv := hryv.same K5
 replace ery := K5 _ _ ery
 replace hn0 := hn0.same K5
 replace hrnu := hrnu.same K5
 replace hrnv := hrnv.same K5
 replace ern := K5 _ _ ern
 replace KT := KT.trans K5
 rw [zH] at hg1
 replace hg1 : FmAt H5 g1 (shF ins.length m ans a b ⟨1, -1, 0, 0⟩) := hg1
 walk_at "v"
 refine ⟨_, rfl, ?_⟩
 refine ⟨g1, shF ins.length m ans a b ⟨1, -1, 0, 0⟩, -1, rfl, hg1, fun ab H6 K6 hab => ?_⟩
 replace hd := hd.same K6
 replace ho := ho.same K6
 replace ht := ht.same K6
 replace hp := hp.same K6
 replace hn1 := hn1.same K6
 replace hryu := hryu.same K6
 replace hryv := hryv.same K6
 replace ery := K6 _ _ ery
 replace hn0 := hn0.same K6
 replace hrnu := hrnu.same K6
 replace hrnv := hrnv.same K6
 replace ern := K6 _ _ ern
 replace hg1 := hg1.same K6
 replace KT := KT.trans K6
 rw [Zr] at hab
 replace hab : FmAt H6 ab (shF ins.length m ans a b ⟨1, -1, 0, -1⟩) := hab
 walk_at "v"
 refine ⟨rfl, ?_⟩
 walk_at "v"
 refine iteD (fun hw => ?_) (fun h3 => ?_)
 ·injection hw with hw
  subst hw
  walk_at "v"
  refine ⟨sz1, fun z1 hz1 => ?_⟩
  obtain ⟨H7, q, K7, ez1⟩ := nob (.tup [.ref ab]) hz1; rw [q]; clear q
  replace hd := hd.same K7
  replace ho := ho.same K7
  replace ht := ht.same K7
  replace hp := hp.same K7
  replace hn1 := hn1.same K7
  replace hryu := hryu.same K7
  replace hryv := hryv.same K7
  replace ery := K7 _ _ ery
  replace hn0 := hn0.same K7
  replace hrnu := hrnu.same K7
  replace hrnv := hrnv.same K7
  replace ern := K7 _ _ ern
  replace hg1 := hg1.same K7
  replace hab := hab.same K7
  replace KT := KT.trans K7
  walk_at "v"
  refine ⟨ry, z1, _, _, rfl, rfl, ery, ez1, by simp, fun p1 H8 K8 ep1 => ?_⟩
  replace hd := hd.same K8
  replace ho := ho.same K8
  replace ht := ht.same K8
  replace hp := hp.same K8
  replace hn1 := hn1.same K8
  replace hryu := hryu.same K8
  replace hryv := hryv.same K8
  replace ery := K8 _ _ ery
  replace hn0 := hn0.same K8
  replace hrnu := hrnu.same K8
  replace hrnv := hrnv.same K8
  replace ern := K8 _ _ ern
  replace hg1 := hg1.same K8
  replace hab := hab.same K8
  replace ez1 := K8 _ _ ez1
  replace KT := KT.trans K8
  replace ep1 : H8 p1 = some (.tup [.ref ryu, .ref ryv, .ref ab]) := ep1
  walk_at "v"
  refine ⟨tq, oq, shF ins.length m ans a b ⟨0, 1, 0, 0⟩, shF ins.length m ans a b ⟨1, 0, 0, 0⟩, ins.length, m, rfl, ⟨ht, zQ (s := ⟨0, 1, 0, 0⟩) (by exact ⟨⟨by decide, by decide⟩, ⟨by decide, by decide⟩, ⟨by decide, by decide⟩, by decide, by decide⟩) ha hb⟩, ⟨ho, zQ (s := ⟨1, 0, 0, 0⟩) (by exact ⟨⟨by decide, by decide⟩, ⟨by decide, by decide⟩, ⟨by decide, by decide⟩, by decide, by decide⟩) ha hb⟩, by omega, by omega, fun f2 H9 K9 hf2 => ?_⟩
  replace hd := hd.same K9
  replace ho := ho.same K9
  replace ht := ht.same K9
  replace hp := hp.same K9
  replace hn1 := hn1.same K9
  replace hryu := hryu.same K9
  replace hryv := hryv.same K9
  replace ery := K9 _ _ ery
  replace hn0 := hn0.same K9
  replace hrnu := hrnu.same K9
  replace hrnv := hrnv.same K9
  replace ern := K9 _ _ ern
  replace hg1 := hg1.same K9
  replace hab := hab.same K9
  obtain ⟨ez1, ep1⟩ := lf2 K9 ez1 ep1
  replace KT := KT.trans K9
  rw [zH] at hf2
  replace hf2 : FmAt H9 f2 (shF ins.length m ans a b ⟨-1, 1, 0, 0⟩) := hf2
  walk_at "v"
  refine ⟨sz1, fun z2 hz2 => ?_⟩
  obtain ⟨H10, q, K10, ez2⟩ := nob (.tup [.ref f2]) hz2; rw [q]; clear q
  replace hd := hd.same K10
  replace ho := ho.same K10
  replace ht := ht.same K10
  replace hp := hp.same K10
  replace hn1 := hn1.same K10
  replace hryu := hryu.same K10
  replace hryv := hryv.same K10
  replace ery := K10 _ _ ery
  replace hn0 := hn0.same K10
  replace hrnu := hrnu.same K10
  replace hrnv := hrnv.same K10
  replace ern := K10 _ _ ern
  replace hg1 := hg1.same K10
  replace hab := hab.same K10
  obtain ⟨ez1, ep1⟩ := lf2 K10 ez1 ep1
  replace hf2 := hf2.same K10
  replace KT := KT.trans K10
  walk_at "v"
  refine ⟨rn, z2, _, _, rfl, rfl, ern, ez2, by simp, fun p2 H11 K11 ep2 => ?_⟩
  replace hd := hd.same K11
  replace ho := ho.same K11
  replace ht := ht.same K11
  replace hp := hp.same K11
  replace hn1 := hn1.same K11
  replace hryu := hryu.same K11
  replace hryv := hryv.same K11
  replace ery := K11 _ _ ery
  replace hn0 := hn0.same K11
  replace hrnu := hrnu.same K11
  replace hrnv := hrnv.same K11
  replace ern := K11 _ _ ern
  replace hg1 := hg1.same K11
  replace hab := hab.same K11
  obtain ⟨ez1, ep1⟩ := lf2 K11 ez1 ep1
  replace hf2 := hf2.same K11
  replace ez2 := K11 _ _ ez2
  replace KT := KT.trans K11
  replace ep2 : H11 p2 = some (.tup [.ref rnu, .ref rnv, .ref f2]) := ep2
  walk_at "v"
  refine ⟨sz2, fun rr hrr => ?_⟩
  obtain ⟨H12, q, K12, err⟩ := nob (.tup [.ref p1, .ref p2]) hrr; rw [q]; clear q
  replace hd := hd.same K12
  replace ho := ho.same K12
  replace ht := ht.same K12
  replace hp := hp.same K12
  replace hn1 := hn1.same K12
  replace hryu := hryu.same K12
  replace hryv := hryv.same K12
  replace ery := K12 _ _ ery
  replace hn0 := hn0.same K12
  replace hrnu := hrnu.same K12
  replace hrnv := hrnv.same K12
  replace ern := K12 _ _ ern
  replace hg1 := hg1.same K12
  replace hab := hab.same K12
  obtain ⟨ez1, ep1⟩ := lf2 K12 ez1 ep1
  replace hf2 := hf2.same K12
  obtain ⟨ez2, ep2⟩ := lf2 K12 ez2 ep2
  replace KT := KT.trans K12
  exact k rr _ KT ⟨[p1, p2], err, ⟨⟨[ryu, ryv, ab], ep1, ⟨hryu, hryv, hab, trivial⟩⟩, ⟨⟨[rnu, rnv, f2], ep2, ⟨hrnu, hrnv, hf2, trivial⟩⟩, trivial⟩⟩⟩
 ·have hws : w = "same" := by
   rcases hw4 with h | h | h | h
   ·exact absurd (congrArg V.str h) h1
   ·exact absurd (congrArg V.str h) h2
   ·exact absurd (congrArg V.str h) h3
   ·exact h
  subst hws
  walk_at "v"
  refine ⟨tq, oq, shF ins.length m ans a b ⟨0, 1, 0, 0⟩, shF ins.length m ans a b ⟨1, 0, 0, 0⟩, ins.length, m, rfl, ⟨ht, zQ (s := ⟨0, 1, 0, 0⟩) (by exact ⟨⟨by decide, by decide⟩, ⟨by decide, by decide⟩, ⟨by decide, by decide⟩, by decide, by decide⟩) ha hb⟩, ⟨ho, zQ (s := ⟨1, 0, 0, 0⟩) (by exact ⟨⟨by decide, by decide⟩, ⟨by decide, by decide⟩, ⟨by decide, by decide⟩, by decide, by decide⟩) ha hb⟩, by omega, by omega, fun g2 H7 K7 hg2 => ?_⟩
  replace hd := hd.same K7
  replace ho := ho.same K7
  replace ht := ht.same K7
  replace hp := hp.same K7
  replace hn1 := hn1.same K7
  replace hryu := hryu.same K7
  replace hryv := hryv.same K7
  replace ery := K7 _ _ ery
  replace hn0 := hn0.same K7
  replace hrnu := hrnu.same K7
  replace hrnv := hrnv.same K7
  replace ern := K7 _ _ ern
  replace hg1 := hg1.same K7
  replace hab := hab.same K7
  replace KT := KT.trans K7
  rw [zH] at hg2
  replace hg2 : FmAt H7 g2 (shF ins.length m ans a b ⟨-1, 1, 0, 0⟩) := hg2
  walk_at "v"
  refine ⟨_, rfl, ?_⟩
  refine ⟨g2, shF ins.length m ans a b ⟨-1, 1, 0, 0⟩, -1, rfl, hg2, fun be H8 K8 hbe => ?_⟩
  replace hd := hd.same K8
  replace ho := ho.same K8
  replace ht := ht.same K8
  replace hp := hp.same K8
  replace hn1 := hn1.same K8
  replace hryu := hryu.same K8
  replace hryv := hryv.same K8
  replace ery := K8 _ _ ery
  replace hn0 := hn0.same K8
  replace hrnu := hrnu.same K8
  replace hrnv := hrnv.same K8
  replace ern := K8 _ _ ern
  replace hg1 := hg1.same K8
  replace hab := hab.same K8
  replace hg2 := hg2.same K8
  replace KT := KT.trans K8
  rw [Zr] at hbe
  replace hbe : FmAt H8 be (shF ins.length m ans a b ⟨-1, 1, 0, -1⟩) := hbe
  walk_at "v"
  refine ⟨oq, tq, shF ins.length m ans a b ⟨1, 0, 0, 0⟩, shF ins.length m ans a b ⟨0, 1, 0, 0⟩, ins.length, m, rfl, ⟨ho, zQ (s := ⟨1, 0, 0, 0⟩) (by exact ⟨⟨by decide, by decide⟩, ⟨by decide, by decide⟩, ⟨by decide, by decide⟩, by decide, by decide⟩) ha hb⟩, ⟨ht, zQ (s := ⟨0, 1, 0, 0⟩) (by exact ⟨⟨by decide, by decide⟩, ⟨by decide, by decide⟩, ⟨by decide, by decide⟩, by decide, by decide⟩) ha hb⟩, by omega, by omega, fun rb rbu rbv H9 K9 erb hrbu hrbv => ?_⟩
  replace hd := hd.same K9
  replace ho := ho.same K9
  replace ht := ht.same K9
  replace hp := hp.same K9
  replace hn1 := hn1.same K9
  replace hryu := hryu.same K9
  replace hryv := hryv.same K9
  replace ery := K9 _ _ ery
  replace hn0 := hn0.same K9
  replace hrnu := hrnu.same K9
  replace hrnv := hrnv.same K9
  replace ern := K9 _ _ ern
  replace hg1 := hg1.same K9
  replace hab := hab.same K9
  replace hg2 := hg2.same K9
  replace hbe := hbe.same K9
  replace KT := KT.trans K9
  rw [zH] at hrbu
  replace hrbu : FmAt H9 rbu (shF ins.length m ans a b ⟨1, -1, 0, 0⟩) := hrbu
  rw [zH] at hrbv
  replace hrbv : FmAt H9 rbv (shF ins.length m ans a b ⟨-1, 1, 0, 0⟩) := hrbv
  walk_at "v"
  refine ⟨ry, rb, _, _, rfl, rfl, ery, erb, by simp, fun p1 H10 K10 ep1 => ?_⟩
  replace hd := hd.same K10
  replace ho := ho.same K10
  replace ht := ht.same K10
  replace hp := hp.same K10
  replace hn1 := hn1.same K10
  replace hryu := hryu.same K10
  replace hryv := hryv.same K10
  replace ery := K10 _ _ ery
  replace hn0 := hn0.same K10
  replace hrnu := hrnu.same K10
  replace hrnv := hrnv.same K10
  replace ern := K10 _ _ ern
  replace hg1 := hg1.same K10
  replace hab := hab.same K10
  replace hg2 := hg2.same K10
  replace hbe := hbe.same K10
  replace hrbu := hrbu.same K10
  replace hrbv := hrbv.same K10
  replace erb := K10 _ _ erb
  replace KT := KT.trans K10
  replace ep1 : H10 p1 = some (.tup [.ref ryu, .ref ryv, .ref rbu, .ref rbv]) := ep1
  walk_at "v"
  refine ⟨sz1, fun z1 hz1 => ?_⟩
  obtain ⟨H11, q, K11, ez1⟩ := nob (.tup [.ref ab]) hz1; rw [q]; clear q
  replace hd := hd.same K11
  replace ho := ho.same K11
  replace ht := ht.same K11
  replace hp := hp.same K11
  replace hn1 := hn1.same K11
  replace hryu := hryu.same K11
  replace hryv := hryv.same K11
  replace ery := K11 _ _ ery
  replace hn0 := hn0.same K11
  replace hrnu := hrnu.same K11
  replace hrnv := hrnv.same K11
  replace ern := K11 _ _ ern
  replace hg1 := hg1.same K11
  replace hab := hab.same K11
  replace hg2 := hg2.same K11
  replace hbe := hbe.same K11
  replace hrbu := hrbu.same K11
  replace hrbv := hrbv.same K11
  obtain ⟨erb, ep1⟩ := lf2 K11 erb ep1
  replace KT := KT.trans K11
  walk_at "v"
  refine ⟨rn, z1, _, _, rfl, rfl, ern, ez1, by simp, fun p2 H12 K12 ep2 => ?_⟩
  replace hd := hd.same K12
  replace ho := ho.same K12
  replace ht := ht.same K12
  replace hp := hp.same K12
  replace hn1 := hn1.same K12
  replace hryu := hryu.same K12
  replace hryv := hryv.same K12
  replace ery := K12 _ _ ery
  replace hn0 := hn0.same K12
  replace hrnu := hrnu.same K12
  replace hrnv := hrnv.same K12
  replace ern := K12 _ _ ern
  replace hg1 := hg1.same K12
  replace hab := hab.same K12
  replace hg2 := hg2.same K12
  replace hbe := hbe.same K12
  replace hrbu := hrbu.same K12
  replace hrbv := hrbv.same K12
  obtain ⟨erb, ep1, ez1⟩ := lf3 K12 erb ep1 ez1
  replace KT := KT.trans K12
  replace ep2 : H12 p2 = some (.tup [.ref rnu, .ref rnv, .ref ab]) := ep2
  walk_at "v"
  refine ⟨sz1, fun z2 hz2 => ?_⟩
  obtain ⟨H13, q, K13, ez2⟩ := nob (.tup [.ref be]) hz2; rw [q]; clear q
  replace hd := hd.same K13
  replace ho := ho.same K13
  replace ht := ht.same K13
  replace hp := hp.same K13
  replace hn1 := hn1.same K13
  replace hryu := hryu.same K13
  replace hryv := hryv.same K13
  replace ery := K13 _ _ ery
  replace hn0 := hn0.same K13
  replace hrnu := hrnu.same K13
  replace hrnv := hrnv.same K13
  replace ern := K13 _ _ ern
  replace hg1 := hg1.same K13
  replace hab := hab.same K13
  replace hg2 := hg2.same K13
  replace hbe := hbe.same K13
  replace hrbu := hrbu.same K13
  replace hrbv := hrbv.same K13
  obtain ⟨erb, ep1, ez1, ep2⟩ := lf4 K13 erb ep1 ez1 ep2
  replace KT := KT.trans K13
  walk_at "v"
  refine ⟨rn, z2, _, _, rfl, rfl, ern, ez2, by simp, fun p3 H14 K14 ep3 => ?_⟩
  replace hd := hd.same K14
  replace ho := ho.same K14
  replace ht := ht.same K14
  replace hp := hp.same K14
  replace hn1 := hn1.same K14
  replace hryu := hryu.same K14
  replace hryv := hryv.same K14
  replace ery := K14 _ _ ery
  replace hn0 := hn0.same K14
  replace hrnu := hrnu.same K14
  replace hrnv := hrnv.same K14
  replace ern := K14 _ _ ern
  replace hg1 := hg1.same K14
  replace hab := hab.same K14
  replace hg2 := hg2.same K14
  replace hbe := hbe.same K14
  replace hrbu := hrbu.same K14
  replace hrbv := hrbv.same K14
  obtain ⟨erb, ep1, ez1, ep2, ez2⟩ := lf5 K14 erb ep1 ez1 ep2 ez2
  replace KT := KT.trans K14
  replace ep3 : H14 p3 = some (.tup [.ref rnu, .ref rnv, .ref be]) := ep3
  walk_at "v"
  refine ⟨sz3, fun rr hrr => ?_⟩
  obtain ⟨H15, q, K15, err⟩ := nob (.tup [.ref p1, .ref p2, .ref p3]) hrr; rw [q]; clear q
  replace hd := hd.same K15
  replace ho := ho.same K15
  replace ht := ht.same K15
  replace hp := hp.same K15
  replace hn1 := hn1.same K15
  replace hryu := hryu.same K15
  replace hryv := hryv.same K15
  replace ery := K15 _ _ ery
  replace hn0 := hn0.same K15
  replace hrnu := hrnu.same K15
  replace hrnv := hrnv.same K15
  replace ern := K15 _ _ ern
  replace hg1 := hg1.same K15
  replace hab := hab.same K15
  replace hg2 := hg2.same K15
  replace hbe := hbe.same K15
  replace hrbu := hrbu.same K15
  replace hrbv := hrbv.same K15
  obtain ⟨erb, ep1, ez1, ep2, ez2, ep3⟩ := lf6 K15 erb ep1 ez1 ep2 ez2 ep3
  replace KT := KT.trans K15
  exact k rr _ KT ⟨[p1, p2, p3], err, ⟨⟨[ryu, ryv, rbu, rbv], ep1, ⟨hryu, hryv, hrbu, hrbv, trivial⟩⟩, ⟨⟨[rnu, rnv, ab], ep2, ⟨hrnu, hrnv, hab, trivial⟩⟩, ⟨⟨[rnu, rnv, be], ep3, ⟨hrnu, hrnv, hbe, trivial⟩⟩, trivial⟩⟩⟩⟩
theorem ok_Pof {f : Addr} {fd : FuncData} (B : Blt3 mg) (fB : Has P w K mg base 3 "both_ways" ["one", "other"] Z9) (fL : Has P w K mg base 2 "less" ["one", "other"] Zp) (fM : Has P w K mg base 1 "and_more" ["form", "number"] Z8) (fD : Has P w K mg base 2 "form_of_drops" ["pot", "sort"] (spFm drpF)) (fI : Has P w K mg base 2 "form_of_line" ["pot", "line"] Xv) (fO : Has P w K mg base 1 "so_often" ["form", "times"] Zo) (fT : Has P w K mg base 4 "pieces_of_two" ["pot", "word", "drops", "one", "other"] WA) (F : Fun K "pieces_of" "pieces_of" sPof f fd) : FnOk P w K mg base CX0 5 f fd ["pot", "ask"] Xs := by
 refine F.ok scPof (fun vs H Q E h => ?_) (fun cdv A outer s H vs Q E hr h => ?_)
 ·obtain ⟨p, q, ins, beg, m, ans, A, rfl, _⟩ := h
  rfl
 obtain ⟨p, q, ins, beg, m, ans, A, rfl, hpA, hq, hok, k⟩ := h
 refine' ⟨_, ?hb, ?rd⟩
 case hb =>
  refine' zf ?s1 ?r1
  case' r1 => refine' zf ?s2 ?r2
  case' r2 => refine' zf ?s3 ?r3
  case' r3 => refine' zf ?s4 ?r4
  case' r4 => refine' zg ?s5
  case s1 => exact zj yi 2 (pe_f fD hr (by decide) (pa_2 (pvd yi 0) (ziq (pvd yi 0) (pe_k B.anK))))
  case s2 => exact zj yi 3 (pe_f fI hr (by decide) (pa_2 (pvd yi 0) (ziq (pvd yi 1) zd)))
  case s3 =>
   refine' zC (zq zV (ziq (pvd yi 1) zd) zp (zt _)) ?b1 zw
   case' b1 => refine' zg ?b2
   case b2 => exact zl (zy (pa_1 (pe_f fB hr (by decide) (pa_2 (pvd yi 2) (pvd yi 3)))))
  case s4 =>
   refine' zC (zq zV (ziq (pvd yi 1) zd) zp (zt _)) ?c1 zw
   case' c1 => refine' zf ?c2 ?c3
   case c2 => exact zj yi 4 (pe_f fO hr (by decide) (pa_2 (pvd yi 2) (ziq (pvd yi 1) zd)))
   case' c3 => refine' zg ?c4
   case' c4 => refine' zl ?c5
   case' c5 => refine' zy ?c6
   case' c6 => refine' pa_1 ?c7
   case' c7 => refine' zy ?c8
   case' c8 => refine' pa_2 (pe_f fL hr (by decide) (pa_2 (pvd yi 3) (pvd yi 4))) ?c9
   case c9 => exact pe_f fM hr (by decide) (pa_2 (pe_f fL hr (by decide) (pa_2 (pvd yi 4) (pvd yi 3))) (zo ww (ziq (pvd yi 1) zd) zd))
  case s5 =>
   refine' zl ?d1
   case' d1 => refine' pe_f fT hr (by decide) ?d2
   case' d2 => refine' pa_c (pvd yi 0) ?d3
   case' d3 => refine' pa_c (ziq (pvd yi 1) zd) ?d4
   case' d4 => refine' pa_c (pvd yi 2) ?d5
   case' d5 => refine' pa_2 (pvd yi 3) ?d6
   case d6 => exact pe_f fI hr (by decide) (pa_2 (pvd yi 0) (ziq (pvd yi 1) zd))
 have hp := hpA.toPt
 obtain ⟨ps, pr, pin, pb, hpa⟩ := hpA.an
 have m8 := hp.m8
 have i3 := hp.i3
 cases A with
 | sum a =>
  obtain ⟨l, h1, h2⟩ := hq
  have ha : a.ok ins.length := hok
  have hb := Yk ins.length
  generalize hbb : (⟨List.replicate ins.length 0, 0⟩ : Ln) = b at hb
  replace k : ∀ r H', Same H H' → Z4 H' r ((vn (.sum a)).map fun l => l.map (shF ins.length m ans a b)) → Q (.ref r) H' := by rw [← hbb]; exact k
  walk_at "v"
  refine zm hpa rfl ?_
  walk_at "v"
  refine ⟨p, ins, beg, m, ans, rfl, hp, fun dq H1 K1 hd => ?_⟩
  replace hp := hp.same K1
  obtain ⟨hpa, h1⟩ := lf2 K1 hpa h1
  replace h2 := h2.tk (TK.same K1)
  have KT := K1
  rw [Yi (a := a) (b := b)] at hd
  walk_at "v"
  refine zm h1 rfl ?_
  walk_at "v"
  refine ⟨p, l, ins, beg, m, a, rfl, hp, h2, fun oq H2 K2 ho => ?_⟩
  replace hp := hp.same K2
  obtain ⟨hpa, h1⟩ := lf2 K2 hpa h1
  replace h2 := h2.tk (TK.same K2)
  replace hd := hd.same K2
  replace KT := KT.trans K2
  rw [ZB (ans := ans) (b := b) ha] at ho
  walk_at "v"
  refine zm h1 rfl ?_
  walk_at "v"
  refine ⟨rfl, ?_⟩
  walk_at "v"
  refine X8 rfl ?_
  walk_at "v"
  refine ⟨dq, oq, shF ins.length m ans a b ⟨0, 0, 1, 0⟩, shF ins.length m ans a b ⟨1, 0, 0, 0⟩, ins.length, m, rfl, ⟨hd, zQ (s := ⟨0, 0, 1, 0⟩) (by exact ⟨⟨by decide, by decide⟩, ⟨by decide, by decide⟩, ⟨by decide, by decide⟩, by decide, by decide⟩) ha hb⟩, ⟨ho, zQ (s := ⟨1, 0, 0, 0⟩) (by exact ⟨⟨by decide, by decide⟩, ⟨by decide, by decide⟩, ⟨by decide, by decide⟩, by decide, by decide⟩) ha hb⟩, by omega, by omega, fun r1 r1u r1v H3 K3 er1 hr1u hr1v => ?_⟩
  replace hp := hp.same K3
  obtain ⟨hpa, h1⟩ := lf2 K3 hpa h1
  replace h2 := h2.tk (TK.same K3)
  replace hd := hd.same K3
  replace ho := ho.same K3
  replace KT := KT.trans K3
  rw [zH] at hr1u
  replace hr1u : FmAt H3 r1u (shF ins.length m ans a b ⟨-1, 0, 1, 0⟩) := hr1u
  rw [zH] at hr1v
  replace hr1v : FmAt H3 r1v (shF ins.length m ans a b ⟨1, 0, -1, 0⟩) := hr1v
  walk_at "v"
  refine ⟨sz1, fun rr hrr => ?_⟩
  obtain ⟨H4, q, K4, err⟩ := nob (.tup [.ref r1]) hrr; rw [q]; clear q
  replace hp := hp.same K4
  obtain ⟨hpa, h1⟩ := lf2 K4 hpa h1
  replace h2 := h2.tk (TK.same K4)
  replace hd := hd.same K4
  replace ho := ho.same K4
  replace hr1u := hr1u.same K4
  replace hr1v := hr1v.same K4
  replace er1 := K4 _ _ er1
  replace KT := KT.trans K4
  exact k rr _ KT ⟨[r1], err, ⟨⟨[r1u, r1v], er1, ⟨hr1u, hr1v, trivial⟩⟩, trivial⟩⟩
 | part a c =>
  obtain ⟨l, h1, h2⟩ := hq
  obtain ⟨ha, c2, c9⟩ := hok
  have hb := Yk ins.length
  generalize hbb : (⟨List.replicate ins.length 0, 0⟩ : Ln) = b at hb
  replace k : ∀ r H', Same H H' → Z4 H' r ((vn (.part a c)).map fun l => l.map (shF ins.length m ans a b)) → Q (.ref r) H' := by rw [← hbb]; exact k
  walk_at "v"
  refine zm hpa rfl ?_
  walk_at "v"
  refine ⟨p, ins, beg, m, ans, rfl, hp, fun dq H1 K1 hd => ?_⟩
  replace hp := hp.same K1
  obtain ⟨hpa, h1⟩ := lf2 K1 hpa h1
  replace h2 := h2.tk (TK.same K1)
  have KT := K1
  rw [Yi (a := a) (b := b)] at hd
  walk_at "v"
  refine zm h1 rfl ?_
  walk_at "v"
  refine ⟨p, l, ins, beg, m, a, rfl, hp, h2, fun oq H2 K2 ho => ?_⟩
  replace hp := hp.same K2
  obtain ⟨hpa, h1⟩ := lf2 K2 hpa h1
  replace h2 := h2.tk (TK.same K2)
  replace hd := hd.same K2
  replace KT := KT.trans K2
  rw [ZB (ans := ans) (b := b) ha] at ho
  walk_at "v"
  refine zm h1 rfl ?_
  walk_at "v"
  refine ⟨rfl, ?_⟩
  walk_at "v"
  refine X9 (by decide) ?_
  walk_at "v"
  refine zm h1 rfl ?_
  walk_at "v"
  refine ⟨rfl, ?_⟩
  walk_at "v"
  refine X8 rfl ?_
  walk_at "v"
  refine zm h1 rfl ?_
  walk_at "v"
  have fok := Wf (c := c) (zQ (ans := ans) (m := m) (s := ⟨0, 0, 1, 0⟩) (by exact ⟨⟨by decide, by decide⟩, ⟨by decide, by decide⟩, ⟨by decide, by decide⟩, by decide, by decide⟩) ha hb) ⟨by omega, by omega⟩
  refine ⟨dq, shF ins.length m ans a b ⟨0, 0, 1, 0⟩, c, rfl, hd, by simp [shF]; omega, by simp [shF]; omega, fok.1, fok.2.1, fok.2.2, fun pq H3 K3 hpq => ?_⟩
  replace hp := hp.same K3
  obtain ⟨hpa, h1⟩ := lf2 K3 hpa h1
  replace h2 := h2.tk (TK.same K3)
  replace hd := hd.same K3
  replace ho := ho.same K3
  replace KT := KT.trans K3
  rw [sh_oft, Int.mul_zero, Int.mul_one] at hpq
  walk_at "v"
  refine ⟨oq, pq, shF ins.length m ans a b ⟨1, 0, 0, 0⟩, shF ins.length m ans a b ⟨0, 0, c, 0⟩, ins.length, m, rfl, ⟨ho, zQ (s := ⟨1, 0, 0, 0⟩) (by exact ⟨⟨by decide, by decide⟩, ⟨by decide, by decide⟩, ⟨by decide, by decide⟩, by decide, by decide⟩) ha hb⟩, ⟨hpq, zQ (s := ⟨0, 0, c, 0⟩) (by exact smC c2 c9) ha hb⟩, by omega, by omega, fun f1 H5 K5 hf1 => ?_⟩
  replace hp := hp.same K5
  obtain ⟨hpa, h1⟩ := lf2 K5 hpa h1
  replace h2 := h2.tk (TK.same K5)
  replace hd := hd.same K5
  replace ho := ho.same K5
  replace hpq := hpq.same K5
  replace KT := KT.trans K5
  rw [zH] at hf1
  replace hf1 : FmAt H5 f1 (shF ins.length m ans a b ⟨1, 0, -c, 0⟩) := by have z := hf1; rw [show (0 : Int) - c = -c by omega] at z; exact z
  walk_at "v"
  refine ⟨pq, oq, shF ins.length m ans a b ⟨0, 0, c, 0⟩, shF ins.length m ans a b ⟨1, 0, 0, 0⟩, ins.length, m, rfl, ⟨hpq, zQ (s := ⟨0, 0, c, 0⟩) (by exact smC c2 c9) ha hb⟩, ⟨ho, zQ (s := ⟨1, 0, 0, 0⟩) (by exact ⟨⟨by decide, by decide⟩, ⟨by decide, by decide⟩, ⟨by decide, by decide⟩, by decide, by decide⟩) ha hb⟩, by omega, by omega, fun f2 H6 K6 hf2 => ?_⟩
  replace hp := hp.same K6
  obtain ⟨hpa, h1⟩ := lf2 K6 hpa h1
  replace h2 := h2.tk (TK.same K6)
  replace hd := hd.same K6
  replace ho := ho.same K6
  replace hpq := hpq.same K6
  replace hf1 := hf1.same K6
  replace KT := KT.trans K6
  rw [zH] at hf2
  replace hf2 : FmAt H6 f2 (shF ins.length m ans a b ⟨-1, 0, c, 0⟩) := by have z := hf2; rw [show c - (0 : Int) = c by omega] at z; exact z
  walk_at "v"
  refine zm h1 rfl ?_
  walk_at "v"
  refine ⟨f2, shF ins.length m ans a b ⟨-1, 0, c, 0⟩, c - 1, rfl, hf2, fun f3 H7 K7 hf3 => ?_⟩
  replace hp := hp.same K7
  obtain ⟨hpa, h1⟩ := lf2 K7 hpa h1
  replace h2 := h2.tk (TK.same K7)
  replace hd := hd.same K7
  replace ho := ho.same K7
  replace hpq := hpq.same K7
  replace hf1 := hf1.same K7
  replace hf2 := hf2.same K7
  replace KT := KT.trans K7
  rw [Zr, Int.zero_add] at hf3
  walk_at "v"
  refine ⟨sz2, fun r1 hr1 => ?_⟩
  obtain ⟨H8, q, K8, er1⟩ := nob (.tup [.ref f1, .ref f3]) hr1; rw [q]; clear q
  replace hp := hp.same K8
  obtain ⟨hpa, h1⟩ := lf2 K8 hpa h1
  replace h2 := h2.tk (TK.same K8)
  replace hd := hd.same K8
  replace ho := ho.same K8
  replace hpq := hpq.same K8
  replace hf1 := hf1.same K8
  replace hf2 := hf2.same K8
  replace hf3 := hf3.same K8
  replace KT := KT.trans K8
  walk_at "v"
  refine ⟨sz1, fun rr hrr => ?_⟩
  obtain ⟨H9, q, K9, err⟩ := nob (.tup [.ref r1]) hrr; rw [q]; clear q
  replace hp := hp.same K9
  obtain ⟨hpa, h1⟩ := lf2 K9 hpa h1
  replace h2 := h2.tk (TK.same K9)
  replace hd := hd.same K9
  replace ho := ho.same K9
  replace hpq := hpq.same K9
  replace hf1 := hf1.same K9
  replace hf2 := hf2.same K9
  replace hf3 := hf3.same K9
  replace er1 := K9 _ _ er1
  replace KT := KT.trans K9
  exact k rr _ KT ⟨[r1], err, ⟨⟨[f1, f3], er1, ⟨hf1, hf3, trivial⟩⟩, trivial⟩⟩
 | two w2 a b =>
  obtain ⟨l, lr, h1, h2, h3⟩ := hq
  obtain ⟨hw4, ha, hb⟩ := hok
  walk_at "v"
  refine zm hpa rfl ?_
  walk_at "v"
  refine ⟨p, ins, beg, m, ans, rfl, hp, fun dq H1 K1 hd => ?_⟩
  replace hp := hp.same K1
  obtain ⟨hpa, h1⟩ := lf2 K1 hpa h1
  replace h2 := h2.tk (TK.same K1)
  replace h3 := h3.tk (TK.same K1)
  have KT := K1
  rw [Yi (a := a) (b := b)] at hd
  walk_at "v"
  refine zm h1 rfl ?_
  walk_at "v"
  refine ⟨p, l, ins, beg, m, a, rfl, hp, h2, fun oq H2 K2 ho => ?_⟩
  replace hp := hp.same K2
  obtain ⟨hpa, h1⟩ := lf2 K2 hpa h1
  replace h2 := h2.tk (TK.same K2)
  replace h3 := h3.tk (TK.same K2)
  replace hd := hd.same K2
  replace KT := KT.trans K2
  rw [ZB (ans := ans) (b := b) ha] at ho
  walk_at "v"
  refine zm h1 rfl ?_
  walk_at "v"
  refine ⟨rfl, ?_⟩
  walk_at "v"
  refine X9 (by rcases hw4 with h | h | h | h <;> subst h <;> decide) ?_
  walk_at "v"
  refine zm h1 rfl ?_
  walk_at "v"
  refine ⟨rfl, ?_⟩
  walk_at "v"
  refine X9 (by rcases hw4 with h | h | h | h <;> subst h <;> decide) ?_
  walk_at "v"
  refine zm h1 rfl ?_
  walk_at "v"
  refine zm h1 rfl ?_
  walk_at "v"
  refine ⟨p, lr, ins, beg, m, b, rfl, hp, h3, fun tq H3 K3 ht => ?_⟩
  replace hp := hp.same K3
  obtain ⟨hpa, h1⟩ := lf2 K3 hpa h1
  replace h2 := h2.tk (TK.same K3)
  replace h3 := h3.tk (TK.same K3)
  replace hd := hd.same K3
  replace ho := ho.same K3
  replace KT := KT.trans K3
  rw [lin_sh2 (ans := ans) (a := a) hb] at ht
  walk_at "v"
  exact ⟨p, w2, dq, oq, tq, ins, beg, m, ans, a, b, rfl, hp, hw4, ha, hb, hd, ho, ht, fun r H' K' h => k r H' (KT.trans K') h⟩
abbrev vU : Stmt := top 68
abbrev sAsk : Stmt := top 69
theorem WV {xs : List Int} {r : Int} (h0 : 0 ≤ r) (h1 : r < xs.length) : ∃ x, x ∈ xs ∧ atI (xs.map V.int) r = some (.int x) := by
 obtain ⟨j, rfl⟩ := ofI h0
 have hj : j < xs.length := by omega
 exact ⟨xs[j], List.getElem_mem hj, zx (by simp [hj])⟩
theorem pickS {xs : List Str} {r : Int} (h0 : 0 ≤ r) (h1 : r < xs.length) : ∃ x, x ∈ xs ∧ atI (xs.map V.str) r = some (.str x) := by
 obtain ⟨j, rfl⟩ := ofI h0
 have hj : j < xs.length := by omega
 exact ⟨xs[j], List.getElem_mem hj, zx (by simp [hj])⟩
def some10 : List Int := [0, 1, 1, 2, -1, 3, -2, 10, 99, -99]
theorem vS : ∀ x ∈ some10, -99 ≤ x ∧ x ≤ 99 := by decide
def pairComp (s : Stmt) : Scope := match s with
 | .Return (some (.Tuple (.Call _ [.ListComp _ _ sc _] _ _ :: _) _ _)) _ => sc
 | _ => nsc
abbrev W3 : List Str := ["_law_tape_here", "_law_many", "_law_some"]
theorem Zz : Nm W3 (zc vU) := ⟨by decide +kernel, by decide +kernel⟩
theorem scLine : FnScope W3 ["_law_tape_here", "_law_many"] (zc vU) := ⟨rfl, rfl, rfl, by decide +kernel, rfl, by decide +kernel, by decide +kernel⟩
abbrev cLine : Scope := pairComp ((zu vU).getD 1 (.Pass ⟨0, 0, 0, 0⟩))
theorem bsLine : BScope (zc vU) cLine ["_law_k"] ["_law_some", "_law_tape_here"] ["_law_draw"] := { okind := by decide +kernel, kind := by decide +kernel, nocell := by decide +kernel, names := by decide +kernel, fr := by decide +kernel, ff := by decide +kernel, nd := by decide +kernel, vis := by decide +kernel, loc := by decide +kernel, gl := by decide +kernel }
def Xu : Sp := fun vs H Q _ => ∃ (p l : Addr) (ns : List Int) (m : Nat), vs = [.ref p, .int m] ∧ Tp H p l ns ∧ m ≤ 3 ∧ ∀ (q : Addr) (a : Ln) (H' : Hp), a.ok m → LnAt H' q a → Tp H' p l ns → TK H H' → Q (.ref q) H'
theorem ok_line {f : Addr} {fd : FuncData} (B : Blt mg) (D : Has P w K mg base 1 "_law_draw" ["_law_tape_here", "_law_many"] xh) (F : Fun K "_law_line" "_law_line" vU f fd) : FnOk P w K mg base CX0 2 f fd ["_law_tape_here", "_law_many"] Xu := by
 refine F.ok scLine (fun vs H Q E h => ?_) (fun cdv A outer s H vs Q E hr h => ?_)
 ·obtain ⟨p, l, ns, m, rfl, _⟩ := h
  rfl
 obtain ⟨p, l, ns, m, rfl, T0, hm3, k⟩ := h
 refine' ⟨_, ?hb, ?rd⟩
 case hb =>
  refine' zf ?s1 ?r1
  case' r1 => refine' zg ?s2
  case s1 =>
   refine' zj Zz 2 ?p1
   case p1 =>
    refine xj (vs := some10.map V.int) ?_
    decide +kernel
  case s2 =>
   refine' zl ?p2
   case' p2 => refine' zy ?q2
   case' q2 => refine' pa_2 ?x2 ?y2
   case y2 =>
    refine' ziq (pvd Zz 2) ?y3
    case y3 => exact pe_f D hr (by decide) (pa_2 (pvd Zz 0) zd)
   case' x2 => refine' zK zA B.tuple PyProof.Rows.boot_tuple ?x3
   case' x3 => refine' pa_1 ?x4
   case x4 =>
    refine' zB (ix := [2, 0]) bsLine.toCScope rfl rfl ?h3 ?h4 ?h5 ?h6
    case h3 => exact yR B.range (pa_1 (pvd Zz 1))
    case h4 => exact fun _ _ _ _ _ _ => pgb bsLine 0
    case h5 => exact fun _ _ _ _ _ _ => zz
    case h6 =>
     intro _ _ _ _ _ _
     refine' ziq (pvb bsLine 1) ?g6
     case g6 => exact pe_f D hr (by decide) (pa_2 (pvb bsLine 2) zd) (bsLine.g 0)
 walk_at "v"
 refine ⟨by show 10 ≤ sizeLine; decide, fun a1 ha1 => ?_⟩
 have T1 := T0.new (o := .lst (some10.map V.int)) ha1
 have np1 := T0.np ha1
 have e1 : upd H a1 (.lst (some10.map V.int)) a1 = some (.lst (some10.map V.int)) := ze
 have TK1 : TK H (upd H a1 (.lst (some10.map V.int))) := TK.new ha1
 generalize upd H a1 (.lst (some10.map V.int)) = H1 at T1 e1 TK1 ⊢
 walk_at "v"
 refine ⟨m, rfl, by omega, by omega, fun db hdb => ?_⟩
 rw [Int.toNat_natCast]
 have npd := T1.np hdb
 have nld := T1.nl hdb
 have nad : a1 ≠ db := zh e1 hdb
 refine yw (ρ := [some (.ref a1), some (.ref p)]) (fun i ys H' => ∃ bs : List Int, ys = bs.map V.int ∧ bs.length = i ∧ (∀ x ∈ bs, -99 ≤ x ∧ x ≤ 99) ∧ Tp H' p l ns ∧ TK H H' ∧ H' a1 = some (.lst (some10.map V.int)))
  ⟨[], rfl, rfl, (fun x h => by cases h), T1.new hdb, TK1.trans (TK.new hdb), by rw [zi nad]; exact e1⟩ ?_ ?_
 ·rintro i ys H' hi ⟨bs, rfl, hbl, hbs, T, TKi, ea⟩ hD R S kR _
  walk_at "v"
  refine ⟨p, l, ns, 10, rfl, T, by decide, by decide, fun r c e r0 r1 => ?_⟩
  obtain ⟨x, hx, hat⟩ := WV (xs := some10) r0 r1
  refine zD (by rw [zi (Ne.symm np1)]; exact ea) hat ?_
  have hD' : upd H' p (.lst [.ref l, .int c, .int e]) db = some (.lst (bs.map V.int)) := by rw [zi (Ne.symm npd)]; exact hD
  refine kR _ _ hD' (by rw [List.length_map]; exact zn (by omega)) ⟨bs ++ [x], by rw [List.map_append]; rfl, by simp [hbl], fun b hb => ?_, T.draw.put npd nld, (TKi.trans T.tk).trans (TK.lst hD'), by rw [zi nad, zi (Ne.symm np1)]; exact ea⟩
  rcases List.mem_append.mp hb with old | new
  ·exact hbs b old
  ·rw [List.mem_singleton.mp new]
   exact vS x hx
 ·rintro ys H' ⟨bs, rfl, hbl, hbs, T, TKi, ea⟩ hD
  walk_at "v"
  refine ⟨db, _, rfl, .inl ⟨SqL.of hD, fun b hb => ?_⟩⟩
  have T2 := T.new (o := .tup (bs.map V.int)) hb
  have TK2 := TKi.trans (TK.new (o := .tup (bs.map V.int)) hb)
  have ea2 : upd H' b (.tup (bs.map V.int)) a1 = some (.lst (some10.map V.int)) := by rw [zi (zh ea hb)]; exact ea
  have eb : upd H' b (.tup (bs.map V.int)) b = some (.tup (bs.map V.int)) := ze
  generalize upd H' b (.tup (bs.map V.int)) = H2 at T2 TK2 ea2 eb ⊢
  walk_at "v"
  refine ⟨p, l, ns, 10, rfl, T2, by decide, by decide, fun r c e r0 r1 => ?_⟩
  obtain ⟨x, hx, hat⟩ := WV (xs := some10) r0 r1
  refine zD (by rw [zi (Ne.symm np1)]; exact ea2) hat ?_
  have T3 := T2.draw (c := c) (e := e)
  have TK3 : TK H2 (upd H2 p (.lst [.ref l, .int c, .int e])) := T2.tk
  generalize upd H2 p (.lst [.ref l, .int c, .int e]) = H3 at T3 TK3 ⊢
  walk_at "v"
  refine ⟨sz2, fun q hq => ?_⟩
  have TK4 : TK H3 (upd H3 q (.tup [.ref b, .int x])) := TK.new hq
  exact k q ⟨bs, x⟩ _ ⟨hbl, hbs, vS x hx⟩ ⟨b, ze, (TK3.trans TK4).t _ _ eb⟩ (T3.new hq) ((TK2.trans TK3).trans TK4)
abbrev nAsk : List Str := ["_law_tape_here", "_law_many", "_law_word", "_law_line_here"]
theorem yD : Nm nAsk (zc sAsk) := nmk (by decide +kernel)
theorem scAsk : FnScope nAsk ["_law_tape_here", "_law_many"] (zc sAsk) := fsk (by decide +kernel)
def words6 : List Str := ["sum", "part", "least", "most", "more", "same"]
def WO : Sp := fun vs H Q _ => ∃ (p l : Addr) (ns : List Int) (m : Nat), vs = [.ref p, .int m] ∧ Tp H p l ns ∧ m ≤ 3 ∧ ∀ (q : Addr) (A : Ak) (H' : Hp), A.ok m → AkAt H' q A → Tp H' p l ns → TK H H' → Q (.ref q) H'
theorem ok_ask {f : Addr} {fd : FuncData} (B : Blt mg) (D : Has P w K mg base 1 "_law_draw" ["_law_tape_here", "_law_many"] xh) (L : Has P w K mg base 2 "_law_line" ["_law_tape_here", "_law_many"] Xu) (F : Fun K "_law_ask" "_law_ask" sAsk f fd) : FnOk P w K mg base CX0 3 f fd ["_law_tape_here", "_law_many"] WO := by
 refine F.ok scAsk (fun vs H Q E h => ?_) (fun cdv A outer s H vs Q E hr h => ?_)
 ·obtain ⟨p, l, ns, m, rfl, _⟩ := h
  rfl
 obtain ⟨p, l, ns, m, rfl, T0, hm3, k⟩ := h
 refine' ⟨_, ?hb, ?rd⟩
 case hb =>
  refine' zf ?s1 ?r1
  case' r1 => refine' zf ?s2 ?r2
  case' r2 => refine' zf ?s3 ?r3
  case' r3 => refine' zf ?s4 ?r4
  case' r4 => refine' zg ?s5
  case s1 =>
   refine' zj yD 2 ?p1
   case' p1 => refine' ziq ?l1 ?d1
   case d1 => exact pe_f D hr (by decide) (pa_2 (pvd yD 0) zd)
   case l1 =>
    refine xj (vs := words6.map V.str) ?_
    decide +kernel
  case s2 => exact zj yD 3 (pe_f L hr (by decide) (pa_2 (pvd yD 0) (pvd yD 1)))
  case s3 => exact zC (zq zV (pvd yD 2) zp (zt _)) (zg (zl (zy (pa_2 (pvd yD 2) (pvd yD 3))))) zw
  case s4 =>
   refine' zC (zq zV (pvd yD 2) zp (zt _)) ?b4 zw
   case' b4 => refine' zg ?c4
   case' c4 => refine' zl ?d4
   case' d4 => refine' zy ?e4
   case' e4 => refine' pa_c (pvd yD 2) ?f4
   case' f4 => refine' pa_2 (pvd yD 3) ?g4
   case' g4 => refine' zo zR zd ?h4
   case h4 => exact pe_f D hr (by decide) (pa_2 (pvd yD 0) zd)
  case s5 =>
   refine' zl ?d5
   case' d5 => refine' zy ?e5
   case' e5 => refine' pa_c (pvd yD 2) ?f5
   case' f5 => refine' pa_2 (pvd yD 3) ?g5
   case g5 => exact pe_f L hr (by decide) (pa_2 (pvd yD 0) (pvd yD 1))
 walk_at "v"
 refine ⟨sz6, fun a1 ha1 => ?_⟩
 have T1 := T0.new (o := .lst (words6.map V.str)) ha1
 have np1 := T0.np ha1
 have TK1 : TK H (upd H a1 (.lst (words6.map V.str))) := TK.new ha1
 walk_at "v"
 refine ⟨p, l, ns, 6, rfl, T1, by decide, by decide, fun r c e r0 r1 => ?_⟩
 obtain ⟨wd, hw, hat⟩ := pickS (xs := words6) r0 r1
 refine zD (by rw [zi (Ne.symm np1), ze]) hat ?_
 have T2 := T1.draw (c := c) (e := e)
 have TK2 := TK1.trans (T1.tk (o := .lst [.ref l, .int c, .int e]))
 generalize upd (upd H a1 (.lst (words6.map V.str))) p (.lst [.ref l, .int c, .int e]) = H2 at T2 TK2 ⊢
 clear T1 TK1 np1 ha1
 walk_at "v"
 refine ⟨p, l, ns, m, rfl, T2, hm3, fun q a H3 hok hq T3 TK3 => ?_⟩
 walk_at "v"
 refine ⟨rfl, ?_⟩
 walk_at "v"
 refine iteD (fun e => ?_) (fun e1 => ?_)
 ·injection e with e
  subst e
  walk_at "v"
  refine ⟨sz2, fun z hz => ?_⟩
  have TK4 : TK H3 (upd H3 z (.tup [.str "sum", .ref q])) := TK.new hz
  exact k z (.sum a) _ hok ⟨q, ze, hq.tk TK4⟩ (T3.new hz) ((TK2.trans TK3).trans TK4)
 walk_at "v"
 refine ⟨rfl, ?_⟩
 walk_at "v"
 refine iteD (fun e => ?_) (fun e2 => ?_)
 ·injection e with e
  subst e
  walk_at "v"
  refine ⟨p, l, ns, 8, rfl, T3, by decide, by decide, fun r c e r0 r1 => ?_⟩
  have T4 := T3.draw (c := c) (e := e)
  have TK4 := (TK2.trans TK3).trans (T3.tk (o := .lst [.ref l, .int c, .int e]))
  have hq4 := hq.tk (T3.tk (o := .lst [.ref l, .int c, .int e]))
  generalize upd H3 p (.lst [.ref l, .int c, .int e]) = H4 at T4 TK4 hq4 ⊢
  walk_at "v"
  refine ⟨sz3, fun z hz => ?_⟩
  have TK5 : TK H4 (upd H4 z (.tup [.str "part", .ref q, .int (2 + r)])) := TK.new hz
  exact k z (.part a (2 + r)) _ ⟨hok, by omega, by omega⟩ ⟨q, ze, hq4.tk TK5⟩ (T4.new hz) (TK4.trans TK5)
 walk_at "v"
 refine ⟨p, l, ns, m, rfl, T3, hm3, fun q' a' H4 hok' hq' T4 TK4 => ?_⟩
 walk_at "v"
 refine ⟨sz3, fun z hz => ?_⟩
 have TK5 : TK H4 (upd H4 z (.tup [.str wd, .ref q, .ref q'])) := TK.new hz
 refine k z (.two wd a a') _ ⟨?_, hok, hok'⟩ ⟨q, q', ze, hq.tk (TK4.trans TK5), hq'.tk TK5⟩ (T4.new hz) (((TK2.trans TK3).trans TK4).trans TK5)
 simp only [words6, List.mem_cons, List.not_mem_nil, or_false] at hw
 rcases hw with h | h | h | h | h | h
 ·exact absurd (congrArg V.str h) e1
 ·exact absurd (congrArg V.str h) e2
 ·exact .inl h
 ·exact .inr (.inl h)
 ·exact .inr (.inr (.inl h))
 ·exact .inr (.inr (.inr h))
end
end K37
namespace L2
open PySem PySem.Spec PyProof.Rows
section
variable {κ : Type} [DecidableEq κ]
def valV (kvs : List (κ × V)) (k : κ) : Option V := (kvs.find? fun kv => decide (kv.1 = k)).map (·.2)
def putK (kvs : List (κ × V)) (k : κ) (v : V) : List (κ × V) :=
 if (kvs.any fun kv => decide (kv.1 = k)) = true then kvs.map (fun kv => if kv.1 = k then (kv.1, v) else kv) else kvs ++ [(k, v)]
theorem ZM {p : κ × V} {r : List (κ × V)} {k : κ} (e : p.1 = k) : valV (p :: r) k = some p.2 := by simp [valV, List.find?_cons, e]
theorem ZN {p : κ × V} {r : List (κ × V)} {k : κ} (e : ¬ p.1 = k) : valV (p :: r) k = valV r k := by simp [valV, List.find?_cons, e]
theorem length_putK (kvs : List (κ × V)) (k : κ) (v : V) : (putK kvs k v).length ≤ kvs.length + 1 := by
 unfold putK
 split
 ·rw [List.length_map]; omega
 ·rw [List.length_append, List.length_cons, List.length_nil]; omega
theorem KV.val {kvs : List (κ × V)} {vs : List (κ × Value)} (r : KV kvs vs) (k : κ) : RelO (valV kvs k) (valueAt vs k) := by
 unfold KV at r
 induction r with
 | nil => exact True.intro
 | @cons p q ps qs h t ih =>
  obtain ⟨h1, h2⟩ := h
  by_cases e : p.1 = k
  ·have e' : q.1 = k := h1.symm.trans e
   have b : valueAt (q :: qs) k = some q.2 := by simp [valueAt, List.find?_cons, e']
   rw [ZM e, b]; exact h2
  ·have e' : ¬ q.1 = k := fun z => e (h1.trans z)
   have b : valueAt (q :: qs) k = valueAt qs k := by simp [valueAt, List.find?_cons, e']
   rw [ZN e, b]; exact ih
theorem KV.any {kvs : List (κ × V)} {vs : List (κ × Value)} (r : KV kvs vs) (k : κ) : (kvs.any fun kv => decide (kv.1 = k)) = vs.any fun kv => decide (kv.1 = k) := by
 unfold KV at r
 induction r with
 | nil => rfl
 | cons h t ih => rw [List.any_cons, List.any_cons, ih, h.1]
theorem KV.repl {kvs : List (κ × V)} {vs : List (κ × Value)} (r : KV kvs vs) (k : κ) {y : V} {u : Value} (ry : RelV y u) :
  KV (kvs.map fun kv => if kv.1 = k then (kv.1, y) else kv) (vs.map fun kv => if kv.1 = k then (kv.1, u) else kv) := by
 unfold KV at r ⊢
 induction r with
 | nil => exact .nil
 | @cons p q ps qs h t ih =>
  rw [List.map_cons, List.map_cons]
  refine .cons ?_ ih
  obtain ⟨h1, h2⟩ := h
  by_cases e : p.1 = k
  ·rw [if_pos e, if_pos (h1.symm.trans e)]; exact ⟨h1, ry⟩
  ·rw [if_neg e, if_neg (fun z => e (h1.trans z))]; exact ⟨h1, h2⟩
theorem KV.put {kvs : List (κ × V)} {vs : List (κ × Value)} (r : KV kvs vs) (k : κ) {y : V} {u : Value} (ry : RelV y u) : KV (putK kvs k y) (stored vs k u) := by
 unfold putK stored
 rw [r.any k]
 by_cases e : (vs.any fun kv => decide (kv.1 = k)) = true
 ·rw [if_pos e, if_pos e]; exact r.repl k ry
 ·rw [if_neg e, if_neg e]; exact Paired.snoc r ⟨rfl, ry⟩
end
theorem X2 {P : Program} {w : World} {k : Key} {u : Value} (r : RelV (kV k) u) : (yj P w).is k u = true := by
 cases k with
 | inl i => obtain ⟨t, e⟩ := (show ∃ t, u = Value.int i t from r); subst e; exact mixKind_int P w i t
 | inr x => obtain ⟨t, e⟩ := (show ∃ t, u = Value.str x t from r); subst e; exact mixKind_str P w x t
theorem Za {P : Program} {w : World} : ∀ {ks : List Key} {us : List Value}, Vals (ks.map kV) us → ItemsAre (yj P w) ks us
 | [], _, r => by rw [List.map_nil] at r; cases r; exact .nil
 | k :: ks, _, r => by
  rw [List.map_cons] at r
  cases r with
  | cons h t => exact .cons (X2 h) (Za t)
abbrev KT (H : Hp) : List (List Key × V) → List (List Key × Addr × Value) → Prop := Paired fun p q => p.1 = q.1 ∧ H q.2.1 = some (.tup (p.1.map kV)) ∧ RelV p.2 q.2.2
theorem KT.val {H : Hp} {kvs : List (List Key × V)} {xs : List (List Key × Addr × Value)} (r : KT H kvs xs) (k : List Key) : RelO (valV kvs k) ((atKey xs k).map (·.2)) := by
 induction r with
 | nil => exact True.intro
 | @cons p q ps qs h t ih =>
  obtain ⟨h1, _, h2⟩ := h
  by_cases e : p.1 = k
  ·have e' : q.1 = k := h1.symm.trans e
   have b : atKey (q :: qs) k = some q.2 := by simp [atKey, List.find?_cons, e']
   rw [ZM e, b]; exact h2
  ·have e' : ¬ q.1 = k := fun z => e (h1.trans z)
   have b : atKey (q :: qs) k = atKey qs k := by simp [atKey, List.find?_cons, e']
   rw [ZN e, b]; exact ih
section
variable {P : Program} {w : World} {H : Hp} {h : Heap} {a : Addr}
theorem WQ {u : HO} (ok : HOk P w H h) (e : Rd H a u) : ObjOk P w H h a u := e.ok ok
theorem Wg {kvs : List (Key × V)} (ok : HOk P w H h) (e : Rd H a (.dK kvs)) : kvs.length ≤ sizeLine ∧ (a == sysModules) = false ∧ ∃ vs, KV kvs vs ∧ h.DictOf (yj P w) a vs :=
 show ObjOk P w H h a (.dK kvs) from WQ ok e
theorem dk_of {kvs : List (Key × V)} (ok : HOk P w H h) (e : H a = some (.dK kvs)) : kvs.length ≤ sizeLine ∧ (a == sysModules) = false ∧ ∃ vs, KV kvs vs ∧ h.DictOf (yj P w) a vs := Wg ok (.inl e)
theorem X1 {ks : List Key} (ok : HOk P w H h) (e : H a = some (.tup (ks.map kV))) : (tupleKind (yj P w)).is h ks a := by
 obtain ⟨_, its, r, o, h1, h2, n, h3⟩ := (show ObjOk P w H h a (.tup (ks.map kV)) from ok a _ e)
 exact ⟨o, its.toArray, n, h1, h2, h3, by simpa using Za r⟩
theorem Vc {kvs : List (List Key × V)} (ok : HOk P w H h) (e : Rd H a (.dT kvs)) : kvs.length ≤ sizeLine ∧ (a == sysModules) = false ∧
  ∃ xs, KT H kvs xs ∧ h.DictOfH (tupleKind (yj P w)) a xs := by
 obtain ⟨z, y, xs, r, o, es, ep, h1, h2, h3, h4, h5⟩ := (show ObjOk P w H h a (.dT kvs) from WQ ok e)
 refine ⟨z, y, xs, r, o, es, ep, h1, h2, h3, h4, fun x hx => ?_, h5⟩
 have all : ∀ {l : List (List Key × V)} {m : List (List Key × Addr × Value)}, KT H l m → ∀ x ∈ m, (tupleKind (yj P w)).is h x.1 x.2.1 := by
  intro l m q
  induction q with
  | nil => intro x hx; exact nomatch hx
  | @cons p q ps qs hq t ih =>
   intro x hx
   rcases List.mem_cons.mp hx with e | hx
   ·subst e
    exact X1 ok (by rw [← hq.1]; exact hq.2.1)
   ·exact ih x hx
 exact all r x hx
end
def DGet (H : Hp) (a : Addr) (y : V) (r : Option V) : Prop :=
 (∃ kvs k, Rd H a (.dK kvs) ∧ y = kV k ∧ r = valV kvs k) ∨ ∃ kvs k b, Rd H a (.dT kvs) ∧ y = .ref b ∧ H b = some (.tup (k.map kV)) ∧ r = valV kvs k
section
variable {X : Cx} {pins : List (Addr × Obj)} {σ : St} {H : Hp} {s : Shared} {a : Addr} {y v : V} {u r : Value} {o : Option V} {A : Around} {E : Value → Shared → Prop}
theorem Inv.big (I : Inv X pins σ H s) : sysModules < s.heap.objs.size := by
 have h : mainGlobals < s.heap.objs.size := (I.mod.glob.keeps I.bk).lt
 exact Nat.lt_trans (by decide) h
theorem d_getItem {Q : Value → Shared → Prop} (hu : A.units + 1 < cLine) (I : Inv X pins σ H s) (g : DGet H a y (some v)) (ry : RelV y u) (h : ∀ w' s', Inv X pins σ H s' → RelV v w' → Q w' s') :
  wpAny (model X.prog X.w) A (getItem (.ref a) u) Q E s := by
 rcases g with ⟨kvs, k, e, ey, l⟩ | ⟨kvs, k, b, e, ey, eb, l⟩
 ·subst ey
  obtain ⟨z, hd, vs, rel, dd⟩ := Wg I.hok e
  obtain ⟨w', hw, rw'⟩ := RelO.some_of (v := v) (o := valueAt vs k) (by rw [l]; exact rel.val k)
  exact wpAny_getItem_of (X2 ry) dd.mapOf hw (h w' _ (I.tok _) rw')
 ·subst ey
  cases (show u = Value.ref b from ry)
  obtain ⟨z, hd, xs, rel, dd⟩ := Vc I.hok e
  obtain ⟨w', hw, rw'⟩ := RelO.some_of (v := v) (o := (atKey xs k).map (·.2)) (by rw [l]; exact rel.val k)
  obtain ⟨p, hp, hp2⟩ := Option.map_eq_some_iff.mp hw
  refine wpAny_getItem_heap (tupleKind_room_in1 hu) (X1 I.hok eb) dd hp ?_
  rw [hp2]
  exact h w' _ (I.tok _) rw'
theorem d_write {h' : Heap} {t' : Nat} {ob : HO} (I : Inv X pins σ H s) (mu : Mut (H a)) (hs : Heap.SameBut a s.heap h') (he : ∃ q, h'.get? a = some q) (new : ObjOk X.prog X.w (upd H a ob) h' a ob) :
  Inv X pins σ (upd H a ob) { s with heap := h', toks := t' } :=
 I.write (x := a) (e := a) mu (.inl rfl) (fun b q hb z => (hs.2 b hb).trans z) he new
theorem dk_new {P : Program} {w : World} {H' : Hp} {h' : Heap} {kvs : List (Key × V)} {vs : List (Key × Value)} (z : kvs.length ≤ sizeLine) (hd : (a == sysModules) = false) (rel : KV kvs vs) (dd : h'.DictOf (yj P w) a vs) :
  ObjOk P w H' h' a (.dK kvs) := ⟨z, hd, vs, rel, dd⟩
end
def NoSl (i : Expr) : Prop := ∀ ov iv, subscripted i false ov iv = operate [ov, iv] (getItem ov iv)
theorem subD_of {prog : Program} {w : World} {A : Around} {E : Value → Shared → Prop} {s : Shared} {env : Env} {value slice : Expr} {pos : Pos} {T id : String} {Q : Value → Shared → Prop}
  (hl : typeLookup (.type T) "__getitem__" = pure (some (.builtin id))) (hs : NoSl slice)
  (h : wpAny (model prog w) A (eval value env) (fun o s₁ => wpAny (model prog w) A (eval slice env) (fun i s₂ => s₂.TypeIs o T ∧ wpAny (model prog w) A (getItem o i) Q E s₂) E s₁) E s) :
  wpAny (model prog w) A (eval (.Subscript value slice pos) env) Q E s := by
 refine Subscript_ (wpAny_mono h (fun o s₁ h₁ => wpAny_mono h₁ (fun i s₂ h₂ => ?_) fun _ _ x => x) fun _ _ x => x)
 obtain ⟨hT, h₂⟩ := h₂
 unfold subscriptTail
 refine wpAny_bind ?_
 rw [getitemInPython_of_ne hT.not_modules]
 refine wpAny_bind (wpAny_specialOf hT hl ?_)
 have fin : wpAny (model prog w) A (subscripted slice false o i) (fun r s₃ => wpAny (model prog w) A (letTemporaryGo value o r >>= fun _ => pure r) Q E s₃) E s₂ := by
  rw [hs o i]
  exact wpAny_operating (wpAny_mono h₂ (fun r s₃ h₃ => wpAny_bind (wpAny_letTemporaryGo (wpAny_pure h₃))) fun _ _ x => x)
 first
  | exact wpAny_pure (wpAny_bind fin)
  | exact wpAny_bind (wpAny_pure (wpAny_bind fin))
  | exact wpAny_bind fin
theorem dict_typeIs {X : Cx} {pins : List (Addr × Obj)} {σ : St} {H : Hp} {s : Shared} {a : Addr} {y : V} {o : Option V} (I : Inv X pins σ H s) (g : DGet H a y o) : s.TypeIs (.ref a) "dict" := by
 rcases g with ⟨kvs, k, e, _, _⟩ | ⟨kvs, k, b, e, _, _, _⟩
 ·obtain ⟨_, _, vs, _, dd⟩ := Wg I.hok e
  exact dd.typeIs
 ·obtain ⟨_, _, xs, _, dd⟩ := Vc I.hok e
  exact dd.typeIs
def Wy (td ty : TE) : TE := fun σ H Q => td σ H fun x H1 => ty σ H1 fun y H2 => ∃ a v, x = .ref a ∧ DGet H2 a y (some v) ∧ Q v H2
section
variable {X : Cx} {o i e value : Expr} {pos pos' tpos : Pos} {td ty tv : TE}
theorem pe_dget (hu : X.A.units + 1 < cLine) (ho : PE X o td) (hi : PE X i ty) (hs : NoSl i) : PE X (.Subscript o i pos) (Wy td ty) := by
 intro pins s σ H Q I h
 refine subD_of PySem.F.slot_dict_getitem.lookup hs (thn (ho pins s σ H _ I h) fun u s1 ⟨x, H1, I1, rx, q1⟩ => thn (hi pins s1 σ H1 _ I1 q1) fun iv s2 ⟨y, H2, I2, ry, a, v, ex, g, q2⟩ => ?_)
 subst ex
 obtain rfl : u = Value.ref a := rx
 exact ⟨dict_typeIs I2 g, d_getItem hu I2 g ry fun w' s3 I3 rw' => ⟨v, H2, I3, rw', q2⟩⟩
end
theorem dk_empty {P : Program} {w : World} {H : Hp} (h : Heap) (hb : sysModules < h.objs.size) : ObjOk P w H (h.push { cls := .type "dict", data := .dict #[] }) h.objs.size (.dK []) :=
 ⟨Nat.zero_le _, beq_eq_false_iff_ne.mpr (Ne.symm (Nat.ne_of_lt hb)), [], .nil, Heap.DictOf.new h⟩
def xX : List (TE × TE) → St → Hp → (List (V × V) → Hp → Prop) → Prop
 | [], _, H, Q => Q [] H
 | (tk, tv) :: r, σ, H, Q => tk σ H fun x H1 => tv σ H1 fun y H2 => xX r σ H2 fun ps H3 => Q ((x, y) :: ps) H3
abbrev VV : List (V × V) → List (Value × Value) → Prop := Paired fun p q => RelV p.1 q.1 ∧ RelV p.2 q.2
def PPs (X : Cx) (pos : Pos) (keys : List (Option Expr)) (values : List Expr) (trs : List (TE × TE)) : Prop :=
 ∀ (pins : List (Addr × Obj)) (s : Shared) (σ : St) (H : Hp) (Q : List (V × V) → Hp → Prop), Inv X pins σ H s → xX trs σ H Q →
  wpAny (model X.prog X.w) X.A (evalPairs (pairTrees keys values X.env pos)) (fun vs s' => ∃ ps H', Inv X pins σ H' s' ∧ VV ps vs ∧ Q ps H') X.xe s
theorem pps_nil {X : Cx} {pos : Pos} : PPs X pos [] [] [] := fun pins s σ H Q I h => pairTrees_nil_walk ⟨[], H, I, .nil, h⟩
theorem y0 {X : Cx} {pos : Pos} {k v : Expr} {ks : List (Option Expr)} {vs : List Expr} {tk tv : TE} {trs : List (TE × TE)} (hk : PE X k tk) (hv : PE X v tv) (hr : PPs X pos ks vs trs) :
  PPs X pos (some k :: ks) (v :: vs) ((tk, tv) :: trs) := fun pins s σ H Q I h =>
 pairTrees_cons_walk (thn (hk pins s σ H _ I h) fun u s1 ⟨x, H1, I1, rx, q1⟩ => thn (hv pins s1 σ H1 _ I1 q1) fun w2 s2 ⟨y, H2, I2, ry, q2⟩ =>
  thn (hr pins s2 σ H2 _ I2 q2) fun ws s3 ⟨ps, H3, I3, rel, q3⟩ => ⟨(x, y) :: ps, H3, I3, .cons ⟨rx, ry⟩ rel, q3⟩)
def wA (kvs more : List (Key × V)) : List (Key × V) := more.foldl (fun acc kv => putK acc kv.1 kv.2) kvs
theorem KV.merge : ∀ {more : List (Key × V)} {rs : List (Key × Value)} {kvs : List (Key × V)} {vs : List (Key × Value)}, KV more rs → KV kvs vs → KV (wA kvs more) (merged vs rs) := by
 intro more rs kvs vs r
 unfold KV at r
 induction r generalizing kvs vs with
 | nil => intro q; exact q
 | @cons p q ps qs h t ih =>
  intro r0
  have e : KV (putK kvs p.1 p.2) (stored vs q.1 q.2) := by
   have := r0.put p.1 h.2
   rw [← h.1]; exact this
  exact ih e
theorem xJ : ∀ (more kvs : List (Key × V)), (wA kvs more).length ≤ kvs.length + more.length
 | [], kvs => by show kvs.length ≤ kvs.length + 0; omega
 | p :: r, kvs => by
  have h1 := xJ r (putK kvs p.1 p.2)
  have h2 := length_putK kvs p.1 p.2
  show (wA (putK kvs p.1 p.2) r).length ≤ _
  rw [List.length_cons]; omega
theorem vM {P : Program} {w : World} : ∀ {kvs : List (Key × V)} {ws : List (Value × Value)}, VV (kvs.map fun kv => (kV kv.1, kv.2)) ws → ∃ rs, Carries (yj P w) ws rs ∧ KV kvs rs
 | [], _, r => by rw [List.map_nil] at r; cases r; exact ⟨[], True.intro, .nil⟩
 | p :: kvs, _, r => by
  rw [List.map_cons] at r
  cases r with
  | @cons a b as bs h t =>
   obtain ⟨rs, c, q⟩ := vM (P := P) (w := w) t
   obtain ⟨b1, b2⟩ := b
   exact ⟨(p.1, b2) :: rs, ⟨X2 h.1, rfl, c⟩, .cons ⟨rfl, h.2⟩ q⟩
def Wx (trs : List (TE × TE)) : TE := fun σ H Q => ∀ p, H p = none → xX trs σ (upd H p (.dK [])) fun ps H2 => H2 p = some (.dK []) ∧ ∃ kvs : List (Key × V), ps = kvs.map (fun kv => (kV kv.1, kv.2)) ∧ kvs.length ≤ 15 ∧ Q (.ref p) (upd H2 p (.dK (wA [] kvs)))
theorem pe_disp {X : Cx} {pos : Pos} {keys : List (Option Expr)} {values : List Expr} {trs : List (TE × TE)} (h : PPs X pos keys values trs) (hall : keys.all (·.isSome) = true) (hl : keys.length = values.length) (h0 : keys ≠ [])
  (h15 : keys.length ≤ 15) : PE X (.Dict keys values pos) (Wx trs) := by
 intro pins s σ H Q I q
 have hn := I.hok.fresh (Nat.le_refl s.heap.objs.size)
 have I1 := I.laid (a := s.heap.objs.size) (o := .dK []) (h' := s.heap.push { cls := .type "dict", data := .dict #[] }) (t' := s.toks) (fun _ _ q => Heap.get?_push_of_some _ q) (Nat.le_refl _) (dk_empty s.heap I.big)
 refine wpAny_Dict_walk (knd := yj X.prog X.w) hall hl h0 h15 (thn (h pins _ σ _ _ I1 (q _ hn)) fun ws s2 ⟨ps, H2, I2, rel, e, kvs, ep, lk, q2⟩ => ?_)
 subst ep
 obtain ⟨rs, c, rk⟩ := vM (P := X.prog) (w := X.w) rel
 obtain ⟨z, hd, vs0, r0, dd⟩ := dk_of I2.hok e
 cases r0
 refine ⟨rs, c, dd, fun h' dd' hs => ⟨.ref s.heap.objs.size, _, ?_, rfl, q2⟩⟩
 have hz : (wA [] kvs).length ≤ sizeLine := by
  have h1 := xJ kvs []
  rw [List.length_nil] at h1
  rw [sizeLine_eq]; omega
 have he : ∃ q, h'.get? s.heap.objs.size = some q := let ⟨q, _, _, hq, _⟩ := dd'; ⟨q, hq⟩
 exact d_write I2 (by rw [e]; exact True.intro) hs he (dk_new hz hd (rk.merge .nil) dd')
structure M1 (X : Cx) (o : Expr) (m : Str) (apos : Pos) (e : Expr) (cpos : Pos) : Prop where
 base : attributeBase o m X.env (eval o X.env) = eval o X.env
 few : ((backTo cpos (starEach [e] X.env)).all (fun x => !x.1) && (backToKw cpos (keywordEach [] X.env)).all (fun x => x.1.isSome)
  && decide (([e] : List Expr).length + ([] : List Keyword).length + (if ([] : List Keyword).isEmpty then 0 else 1) < 30)) = true
 line : (apos.endLine == cpos.line) = true
 trees : backTo cpos (starEach [e] X.env) = [(false, eval e X.env)]
structure M2 (X : Cx) (o : Expr) (m : Str) (apos : Pos) (e f : Expr) (cpos : Pos) : Prop where
 base : attributeBase o m X.env (eval o X.env) = eval o X.env
 few : ((backTo cpos (starEach [e, f] X.env)).all (fun x => !x.1) && (backToKw cpos (keywordEach [] X.env)).all (fun x => x.1.isSome)
  && decide (([e, f] : List Expr).length + ([] : List Keyword).length + (if ([] : List Keyword).isEmpty then 0 else 1) < 30)) = true
 line : (apos.endLine == cpos.line) = true
 trees : backTo cpos (starEach [e, f] X.env) = [(false, eval e X.env), (false, eval f X.env)]
section
variable {X : Cx} {k : Nat}
def rNeE : R2 := fun x y H Q => ∃ (a z : Addr) (xs : List V), x = .ref a ∧ y = .ref z ∧ H a = some (.lst xs) ∧ H z = some (.lst []) ∧ Q (.bl (!xs.isEmpty)) H
end
end L2
namespace PySem.SeqAt
open PySem.MeetsSeq PySem PySem.Spec
end PySem.SeqAt
namespace HT
open PySem PySem.Spec PyProof.Rows
end HT
namespace L2
open PySem PySem.Spec PyProof.Rows
inductive Th where
 | non
 | bl (b : Bool)
 | int (i : Int)
 | str (s : Str)
 | tup (ts : List Th)
 | lst
 | dct
mutual
inductive ThAt (H : Hp) : V → Th → Prop
 | non : ThAt H .non .non
 | bl (b : Bool) : ThAt H (.bl b) (.bl b)
 | int (i : Int) : ThAt H (.int i) (.int i)
 | str (s : Str) : ThAt H (.str s) (.str s)
 | tup {p : Addr} {vs : List V} {ts : List Th} : H p = some (.tup vs) → ThsAt H vs ts → ThAt H (.ref p) (.tup ts)
 | lst {p : Addr} {vs : List V} : H p = some (.lst vs) → ThAt H (.ref p) .lst
 | dct {p : Addr} {kvs : List (Key × V)} : H p = some (.dK kvs) → ThAt H (.ref p) .dct
inductive ThsAt (H : Hp) : List V → List Th → Prop
 | nil : ThsAt H [] []
 | cons {v : V} {t : Th} {vs : List V} {ts : List Th} : ThAt H v t → ThsAt H vs ts → ThsAt H (v :: vs) (t :: ts)
end
structure KS (H H' : Hp) : Prop where
 t : ∀ q xs, H q = some (.tup xs) → H' q = some (.tup xs)
 l : ∀ q xs, H q = some (.lst xs) → ∃ ys, H' q = some (.lst ys)
 d : ∀ q xs, H q = some (.dK xs) → ∃ ys, H' q = some (.dK ys)
section
variable {H H' H'' : Hp} {a : Addr}
mutual
theorem ThAt.ks (k : KS H H') {v : V} {t : Th} : ThAt H v t → ThAt H' v t
 | .non => .non
 | .bl b => .bl b
 | .int i => .int i
 | .str s => .str s
 | .tup h hs => .tup (k.t _ _ h) (ThsAt.ks k hs)
 | .lst h => let ⟨_, h'⟩ := k.l _ _ h; .lst h'
 | .dct h => let ⟨_, h'⟩ := k.d _ _ h; .dct h'
theorem ThsAt.ks (k : KS H H') {vs : List V} {ts : List Th} : ThsAt H vs ts → ThsAt H' vs ts
 | .nil => .nil
 | .cons h hs => .cons (ThAt.ks k h) (ThsAt.ks k hs)
end
end
def Th.tn : Th → String
 | .non => "NoneType"
 | .bl _ => "bool"
 | .int _ => "int"
 | .str _ => "str"
 | .tup _ => "tuple"
 | .lst => "list"
 | .dct => "dict"
theorem ThAt.ty {K : W.Frag} {H : Hp} {v : V} {t : Th} (h : ThAt H v t) : TyOf K H v (.type t.tn) := by
 cases h with
 | non => exact .non
 | bl b => exact .bl b
 | int i => exact .int i
 | str s => exact .str s
 | tup h _ => exact .tup h
 | lst h => exact .lst h
 | dct h => exact .dK h
def Th.isI : Th → Bool
 | .bl _ => true
 | .int _ => true
 | _ => false
def Th.isT : Th → Bool
 | .tup _ => true
 | _ => false
def Th.isL : Th → Bool
 | .lst => true
 | _ => false
def WT (n : String) (f : Th → Bool) : List V → Hp → VK → Prop := fun xs H Q => ∃ v t, xs = [v, .ty n] ∧ ThAt H v t ∧ Q (.bl (f t)) H
section
variable {X : Cx} {k : Nat}
theorem is_th {n : String} {f : Th → Bool} (hk : ∀ t : Th, PySem.W.kitOne X.K (.type t.tn) (.type n) = some (f t)) : yq X (.builtin "isinstance") (WT n f) := fun pins s σ H xs us Q I r h => by
 obtain ⟨v, t, e, ht, q⟩ := h
 exact y4 pins s σ H xs us Q I r ⟨v, n, _, f t, e, ht.ty, hk t, q⟩
theorem is_lst : yq X (.builtin "isinstance") (WT "list" Th.isL) := is_th fun t => by cases t <;> rfl
end
def GTup (K : W.Frag) (mg : Str → Option Value) (x : Str) (vs : List V) : Prop := ∃ (a : Addr) (o : Obj) (its : Array Value) (n : Nat), mg x = some (.ref a) ∧ K.lookup a = some o ∧ o.cls = .type "tuple" ∧ o.data = .seq its n ∧ its.size ≤ sizeLine ∧ Vals vs its.toList
end L2
namespace L2
open PySem PySem.Spec PyProof.Rows Builtin Builtin.Str
theorem vh : ∀ (l : List (Str × Tok)), Vals ((l.map (·.1)).map V.str) (strValues l)
 | [] => .nil
 | p :: l => .cons ⟨p.2, rfl⟩ (vh l)
theorem ZO : ∀ {xs : List Str} {us : List Value}, Vals (xs.map V.str) us → ∃ l : List (Str × Tok), us = strValues l ∧ l.map (·.1) = xs
 | [], _, .nil => ⟨[], rfl, rfl⟩
 | x :: xs, _, .cons r1 r2 => by
  obtain ⟨t, rfl⟩ := r1
  obtain ⟨l, rfl, e⟩ := ZO r2
  exact ⟨(x, t) :: l, rfl, by rw [List.map_cons, e]⟩
section
variable {X : Cx}
def rSplit : V → List V → Hp → VK → Prop := fun x vs H Q => ∃ a b, x = .str a ∧ vs = [.str b] ∧ (b.length == 0) = false ∧ a.length ≤ 1000 ∧ ∀ l, H l = none → Q (.ref l) (upd H l (.lst ((Txt.split a b).map V.str)))
theorem vB : MtM X "str.split" rSplit := by
 intro pins s σ H x vs v us Q I rx rv h
 obtain ⟨a, b, rfl, rfl, hb, ha, q⟩ := h
 obtain ⟨t, rfl⟩ := rx
 obtain ⟨w, rfl, rw⟩ := rv.one
 obtain ⟨u, rfl⟩ := rw
 have hx : a.length ≤ sizeLine := by rw [sizeLine_eq]; omega
 have hl : (Txt.split a b).length ≤ sizeLine := by
  have := PyProof.Rows.split_le a b
  rw [sizeLine_eq]; omega
 have fin : ∀ (l : List (Str × Tok)) (k : Nat), l.map (·.1) = Txt.split a b → EP X pins σ Q (.ref s.heap.objs.size) { s with heap := s.heap.push { cls := .type "list", data := .seq (strValues l).toArray }, toks := k } := fun l k e => by
  have hv := vh l
  rw [e] at hv
  exact ⟨.ref _, _, I.lnew (t' := k) hv (by rw [List.length_map]; exact hl), rfl, q _ I.fresh⟩
 cases h1 : (decide (a.length < b.length) || decide (Builtin.Str.strKind a < Builtin.Str.strKind b))
 ·cases hf : (occurrences a b 0 a.length (a.length + 1)).isEmpty
  ·have e : Txt.split a b = partsBetween a (occurrences a b 0 a.length (a.length + 1)) b.length := (if_neg (ne_true_of_eq_false h1)).trans (if_neg (ne_true_of_eq_false hf))
   refine call_meets F.slot_str_split (typeIs_str _ _ _) F.entry_str_split (F.args_str_split_2 _ _) (meets_str_split_sep a b t u h1 hb hf hx (by rw [← e]; exact hl)) ?_
   rw [strsFrom_eq]
   exact fin _ _ ((numbered_texts _ _).trans e.symm)
  ·refine call_meets F.slot_str_split (typeIs_str _ _ _) F.entry_str_split (F.args_str_split_2 _ _) (meets_str_split_not_found a b t u h1 hb hf) ?_
   exact fin [(a, t)] _ ((if_neg (ne_true_of_eq_false h1)).trans (if_pos hf)).symm
 ·refine call_meets F.slot_str_split (typeIs_str _ _ _) F.entry_str_split (F.args_str_split_2 _ _) (meets_str_split_cannot_occur a b t u h1) ?_
  exact fin [(a, t)] _ (if_pos h1).symm
def rJoin : V → List V → Hp → VK → Prop := fun x vs H Q => ∃ b p xs, x = .str b ∧ vs = [.ref p] ∧ H p = some (.lst (xs.map V.str)) ∧ JoinOk b xs = true ∧ (Txt.join b xs).length ≤ sizeLine ∧ Q (.str (Txt.join b xs)) H
theorem xl : MtM X "str.join" rJoin := by
 intro pins s σ H x vs v us Q I rx rv h
 obtain ⟨b, p, xs, rfl, rfl, hp, hj, hz, q⟩ := h
 obtain ⟨t, rfl⟩ := rx
 obtain ⟨w, rfl, rw⟩ := rv.one
 cases rw
 obtain ⟨its, n, r, e, z⟩ := I.lst hp
 obtain ⟨l, rfl, rfl⟩ := ZO r
 have hj' : tooLong ((l.map (·.1)).toArray.foldl (· + ·.length + b.length) 0) = false := by
  unfold JoinOk at hj
  simpa using hj
 refine call_meets F.slot_str_join (typeIs_str _ _ _) F.entry_str_join (F.args_str_join_2 _ _) (meets_str_join_list b t p l hj') ⟨⟨_, e, rfl, _, rfl⟩, ?_⟩
 match l, hz, q with
 | [], hz, q => exact ⟨hz, ⟨.str _, H, I.tok _, ⟨_, rfl⟩, q⟩⟩
 | [c], hz, q => exact ⟨.str _, H, I, ⟨_, rfl⟩, q⟩
 | c :: d :: l, hz, q => exact ⟨hz, ⟨.str _, H, I.tok _, ⟨_, rfl⟩, q⟩⟩
def rStarts : V → List V → Hp → VK → Prop := fun x vs H Q => ∃ a b, x = .str a ∧ vs = [.str b] ∧ Q (.bl (Txt.startswith a b)) H
theorem v6 : MtM X "str.startswith" rStarts := by
 intro pins s σ H x vs v us Q I rx rv h
 obtain ⟨a, b, rfl, rfl, q⟩ := h
 obtain ⟨t, rfl⟩ := rx
 obtain ⟨w, rfl, rw⟩ := rv.one
 obtain ⟨u, rfl⟩ := rw
 refine call_meets F.slot_str_startswith (typeIs_str _ _ _) F.entry_str_startswith (F.args_str_startswith_2 _ _) (gives_str_startswith a b t u).meets ?_
 refine ⟨.bl _, H, I, rfl, ?_⟩
 have e : (decide (0 + b.length ≤ a.length) && subAt a b 0) = Txt.startswith a b := by simp only [Txt.startswith, Nat.zero_add]
 rw [e]
 exact q
theorem yg : yq X (.type "str") (fun xs H Q => ∃ i : Int, xs = [.int i] ∧ i.natAbs.log2 < 1920 ∧ Q (.str (Str.ofString (toString i))) H) := by
 intro pins s σ H xs us Q I r h
 obtain ⟨i, rfl, hi, q⟩ := h
 obtain ⟨u, rfl, t, rfl⟩ := ZL r
 exact P.str_of_int hi ⟨.str _, H, I.tok _, ⟨_, rfl⟩, q⟩
theorem Zf : yq X (.type "int") (fun xs H Q => ∃ (a : Str) (i : Int), xs = [.str a] ∧ PySem.intText? a = some i ∧ a.length ≤ 640 ∧ Q (.int i) H) := by
 intro pins s σ H xs us Q I r h
 obtain ⟨a, i, rfl, hn, hl, q⟩ := h
 obtain ⟨u, rfl, t, rfl⟩ := ZL r
 exact PySem.W.KIN.call_text hn hl ⟨.int i, H, I.tok _, ⟨_, rfl⟩, q⟩
end
end L2
namespace L2
open PySem
theorem Y8 {c : Nat} : ∀ {a b r s : List Nat}, c ∉ a → c ∉ b → a ++ c :: r = b ++ c :: s → a = b ∧ r = s
 | [], [], r, s, _, _, e => ⟨rfl, (List.cons.inj e).2⟩
 | [], x :: b, r, s, _, hb, e => by
  have := (List.cons.inj e).1
  exact absurd (this ▸ List.mem_cons_self) hb
 | x :: a, [], r, s, ha, _, e => by
  have := (List.cons.inj e).1
  exact absurd (this ▸ List.mem_cons_self) ha
 | x :: a, y :: b, r, s, ha, hb, e => by
  obtain ⟨h1, h2⟩ := List.cons.inj e
  obtain ⟨h3, h4⟩ := Y8 (fun h => ha (List.mem_cons_of_mem _ h)) (fun h => hb (List.mem_cons_of_mem _ h)) h2
  exact ⟨by rw [h1, h3], h4⟩
def jn (c : Nat) : List (List Nat) → List Nat
 | [] => []
 | [w] => w
 | w :: v :: r => w ++ c :: jn c (v :: r)
theorem X5 {c : Nat} : ∀ {as bs : List (List Nat)}, as ≠ [] → bs ≠ [] → (∀ w ∈ as, c ∉ w) → (∀ w ∈ bs, c ∉ w) → jn c as = jn c bs → as = bs
 | [], _, h, _, _, _, _ => absurd rfl h
 | _, [], _, h, _, _, _ => absurd rfl h
 | [a], [b], _, _, _, _, e => by
  have e : a = b := e
  rw [e]
 | [a], b :: b2 :: r, _, _, ha, _, e => by
  have e : a = b ++ c :: jn c (b2 :: r) := e
  exact absurd (by rw [e]; simp) (ha a (by simp))
 | a :: a2 :: r, [b], _, _, _, hb, e => by
  have e : a ++ c :: jn c (a2 :: r) = b := e
  exact absurd (by rw [← e]; simp) (hb b (by simp))
 | a :: a2 :: r, b :: b2 :: r', _, _, ha, hb, e => by
  have e : a ++ c :: jn c (a2 :: r) = b ++ c :: jn c (b2 :: r') := e
  obtain ⟨h1, h2⟩ := Y8 (ha a (by simp)) (hb b (by simp)) e
  have h3 := X5 (as := a2 :: r) (bs := b2 :: r') (by simp) (by simp) (fun w h => ha w (List.mem_cons_of_mem _ h)) (fun w h => hb w (List.mem_cons_of_mem _ h)) h2
  rw [h1, h3]
theorem yl (c : Nat) : ∀ (ws : List Str), (Str.join ⟨#[c]⟩ ws).cps.toList = jn c (ws.map fun w => w.cps.toList)
 | [] => rfl
 | [w] => rfl
 | w :: v :: r => by
  have ih := yl c (v :: r)
  show ((w ++ (⟨#[c]⟩ : Str) ++ Str.join ⟨#[c]⟩ (v :: r)).cps).toList = w.cps.toList ++ c :: jn c ((v :: r).map fun w => w.cps.toList)
  rw [← ih]
  show ((w.cps ++ #[c]) ++ (Str.join ⟨#[c]⟩ (v :: r)).cps).toList = _
  simp
theorem split_ne (x : Str) (c : Nat) : Txt.split x ⟨#[c]⟩ ≠ [] := fun e => by
 have := PyProof.Rows.split_pos x ⟨#[c]⟩
 rw [e] at this
 exact absurd this (by decide)
theorem vk (c : Nat) {ws : List Str} (hne : ws ≠ []) (h : ∀ w ∈ ws, c ∉ w.cps.toList) : Txt.split (Txt.join ⟨#[c]⟩ ws) ⟨#[c]⟩ = ws := by
 have e0 : Txt.join ⟨#[c]⟩ ws = Str.join ⟨#[c]⟩ ws := StrLaws.glued_eq_join _ _
 rw [e0]
 have e1 := congrArg (fun x => x.cps.toList) (StrLaws.join_split (Str.join ⟨#[c]⟩ ws) ⟨#[c]⟩)
 rw [yl, yl] at e1
 have e2 := X5 (by rw [Ne, List.map_eq_nil_iff]; exact split_ne _ c) (by rw [Ne, List.map_eq_nil_iff]; exact hne)
  (fun w hw => by obtain ⟨p, hp, rfl⟩ := List.mem_map.mp hw; exact StrLaws.split_free _ c p hp) (fun w hw => by obtain ⟨p, hp, rfl⟩ := List.mem_map.mp hw; exact h p hp) e1
 have inj : ∀ {as bs : List Str}, (as.map fun w => w.cps.toList) = (bs.map fun w => w.cps.toList) → as = bs := fun {as bs} e => by
  induction as generalizing bs with
  | nil => cases bs with
   | nil => rfl
   | cons b bs => cases e
  | cons a as ih => cases bs with
   | nil => cases e
   | cons b bs =>
    obtain ⟨h1, h2⟩ := List.cons.inj e
    have h3 : a = b := by
     apply Str.ext'
     exact Array.toList_inj.mp h1
    rw [h3, ih h2]
 exact inj e2
end L2
namespace L2
open PySem PyProof.Rows
def sg (x : Str) : List Str := x.cps.toList.map fun c => ⟨#[c]⟩
theorem Xy (x : Str) : (sg x).length = x.cps.size := by unfold sg; rw [List.length_map, Array.length_toList]
theorem WP {x : Str} {i : Nat} {c : Nat} (h : x.cps[i]? = some c) : (sg x)[i]? = some ⟨#[c]⟩ := by
 unfold sg
 rw [List.getElem?_map, Array.getElem?_toList, h]
 rfl
def Its (x : Str) : It := ⟨fun i _ => i < x.cps.size, fun i H v H' => H' = H ∧ ∃ y, (sg x)[i]? = some y ∧ v = .str y, fun i _ => x.cps.size ≤ i⟩
section
variable {P : Program} {w : World} {K : W.Frag} {tg : Expr}
theorem turn_sa (x : Str) (t : Tok) (it : Addr) : Turn P w K tg (Its x) [it] it (fun i h => h.IsStrIter it "str_ascii_iterator" x t i) where
 mem := by simp
 obj := fun i h st b hb => by
  obtain rfl : b = it := by simpa using hb
  obtain ⟨o, e, c, d⟩ := st
  exact ⟨o, e, fun v z => by rw [d] at z; cases z⟩
 keep := fun i h h' st k => let ⟨o, e, c, d⟩ := st; ⟨o, k it (by simp) o e, c, d⟩
 item := by
  intro X hP hw hK hc i pins s σ H E I hf st hg
  subst hP hw hK
  obtain ⟨cp, hx⟩ : ∃ cp, x.cps[i]? = some cp := ⟨x.cps[i]'hg, Array.getElem?_eq_getElem hg⟩
  obtain ⟨f0, f1, f2, f3, f4, f5⟩ := hf it (by simp)
  refine wpAny_pyNext_ascii_item st hx fun h1 st1 sb => ?_
  have I1 : Inv X pins σ H { s with heap := h1, toks := s.toks + 1 } := I.turned (t' := s.toks + 1) (fun b o hb e => (sb.2 b hb).trans e) f0 f1 f3 f4 f5
  obtain ⟨o, e, c, d⟩ := id st1
  exact ⟨_, rfl, Zb (s := { s with heap := h1, toks := s.toks + 1 }) e c d (by decide) ⟨.str ⟨#[cp]⟩, H, I1, ⟨_, rfl⟩, ⟨rfl, _, WP hx, rfl⟩, st1, fun b hb => (hf b hb).1⟩⟩
 done := by
  intro X hP hw hK hc i pins s σ H E I hf st hg
  subst hP hw hK
  obtain ⟨f0, f1, f2, f3, f4, f5⟩ := hf it (by simp)
  exact wpAny_pyNext_ascii_end (I.ok.hd hc) st (by simp; exact hg) fun h1 eb => ⟨rfl, I.turned (t' := s.toks) (fun b o hb e => eb b o hb e) f0 f1 f3 f4 f5⟩
 self := fun _ _ _ _ _ st h => wpAny_pyIter_striter_ascii st h
theorem turn_sw (x : Str) (t : Tok) (it : Addr) : Turn P w K tg (Its x) [it] it (fun i h => h.IsStrIter it "str_iterator" x t i) where
 mem := by simp
 obj := fun i h st b hb => by
  obtain rfl : b = it := by simpa using hb
  obtain ⟨o, e, c, d⟩ := st
  exact ⟨o, e, fun v z => by rw [d] at z; cases z⟩
 keep := fun i h h' st k => let ⟨o, e, c, d⟩ := st; ⟨o, k it (by simp) o e, c, d⟩
 item := by
  intro X hP hw hK hc i pins s σ H E I hf st hg
  subst hP hw hK
  obtain ⟨cp, hx⟩ : ∃ cp, x.cps[i]? = some cp := ⟨x.cps[i]'hg, Array.getElem?_eq_getElem hg⟩
  obtain ⟨f0, f1, f2, f3, f4, f5⟩ := hf it (by simp)
  refine wpAny_pyNext_wide_item st hx fun h1 st1 sb => ?_
  have I1 : Inv X pins σ H { s with heap := h1, toks := s.toks + 1 } := I.turned (t' := s.toks + 1) (fun b o hb e => (sb.2 b hb).trans e) f0 f1 f3 f4 f5
  obtain ⟨o, e, c, d⟩ := id st1
  exact ⟨_, rfl, Zb (s := { s with heap := h1, toks := s.toks + 1 }) e c d (by decide) ⟨.str ⟨#[cp]⟩, H, I1, ⟨_, rfl⟩, ⟨rfl, _, WP hx, rfl⟩, st1, fun b hb => (hf b hb).1⟩⟩
 done := by
  intro X hP hw hK hc i pins s σ H E I hf st hg
  subst hP hw hK
  obtain ⟨f0, f1, f2, f3, f4, f5⟩ := hf it (by simp)
  exact wpAny_pyNext_wide_end (I.ok.hd hc) st (by simp; exact hg) fun h1 eb => ⟨rfl, I.turned (t' := s.toks) (fun b o hb e => eb b o hb e) f0 f1 f3 f4 f5⟩
 self := fun _ _ _ _ _ st h => wpAny_pyIter_striter_wide st h
end
section
variable {X : Cx} {tg : Expr}
def iTx (te : TE) : TI := fun σ H R => te σ H fun v H1 => ∃ x, v = .str x ∧ R (Its x) H1
theorem pi_tx {l : Expr} {tl : TE} (hl : PE X l tl) : PI X tg l (iTx tl) := by
 intro pins s σ H R I h
 refine thn (hl pins s σ H _ I h) fun v s1 ⟨x, H1, I1, r1, q1⟩ => ?_
 obtain ⟨y, rfl, q⟩ := q1
 obtain ⟨t, rfl⟩ := r1
 have new : ∀ b, b ∈ [s1.heap.objs.size] → FpOk X pins H1 b := fun b hb => by
  obtain rfl : b = s1.heap.objs.size := by simpa using hb
  exact I1.fpOk (Nat.le_refl _) (I1.hok.fresh (Nat.le_refl _))
 cases ha : y.cps.all (· < 128) with
 | true =>
  refine wpAny_pyIter_ascii ha ?_
  exact ⟨s1.heap.objs.size, [s1.heap.objs.size], _, _, H1, rfl, I1.kept (t' := s1.toks) fun b o e => Heap.get?_push_of_some _ e, turn_sa y t _, ⟨_, Heap.get?_push_size _ rfl, rfl, rfl⟩, new, q⟩
 | false =>
  refine wpAny_pyIter_wide ha ?_
  exact ⟨s1.heap.objs.size, [s1.heap.objs.size], _, _, H1, rfl, I1.kept (t' := s1.toks) fun b o e => Heap.get?_push_of_some _ e, turn_sw y t _, ⟨_, Heap.get?_push_size _ rfl, rfl, rfl⟩, new, q⟩
end
theorem w_compX {te : TE} {n : Nat} {ix : List Nat} {g : TG} {tc : TT} {te' : TE} {σ : St} {H : Hp} {Q : VK} (h : te σ H fun v H1 => ∃ x, v = .str x ∧ ∀ D, H1 D = none → CGo (Its x) D g tc te' Q (List.replicate n none ++ sub ix σ) H1) : xH (iTx te) n ix g tc te' σ H Q := h
theorem cgo_tx {D : Addr} {tc : TT} {te : TE} {Q : VK} {ρ : St} {H : Hp} {x : Str} (Pv : Nat → List V → Hp → Prop) (h0 : Pv 0 [] (upd H D (.lst [])))
  (hs : ∀ i y ys H', (sg x)[i]? = some y → Pv i ys H' → H' D = some (.lst ys) → ∀ (R : V → Hp → Prop) (S : Hp → Prop), (∀ z H4, H4 D = some (.lst ys) → ys.length < sizeLine → Pv (i + 1) (ys ++ [z]) (upd H4 D (.lst (ys ++ [z]))) → R z H4) → (∀ H3, H3 D = some (.lst ys) → Pv (i + 1) ys H3 → S H3) →
   tc (some (.str y) :: ρ) H' fun b H3 => if b = true then te (some (.str y) :: ρ) H3 R else S H3)
  (hd : ∀ ys H', Pv (sg x).length ys H' → H' D = some (.lst ys) → Q (.ref D) H') : CGo (Its x) D (zU 0) tc te Q (none :: ρ) H := by
 have hl := Xy x
 refine ⟨fun i m τ ys H' => m = x.cps.size - i ∧ i ≤ x.cps.size ∧ (∃ tv, τ = tv :: ρ) ∧ Pv i ys H' ∧ H' D = some (.lst ys), ⟨x.cps.size, by omega, Nat.zero_le _, ⟨_, rfl⟩, h0, ze⟩, ?_⟩
 rintro i m τ ys H' ⟨rfl, hi, ⟨tv, rfl⟩, hp, hD⟩
 refine ⟨hD, ?_⟩
 by_cases hlt : i < x.cps.size
 ·refine .inr ⟨hlt, ?_⟩
  rintro v H2 ⟨rfl, y, hy, rfl⟩
  refine hs i y ys _ hy hp hD _ _ (fun z H4 e4 hz p4 => ?_) (fun H3 e3 p3 => ?_)
  ·exact ⟨e4, hz, x.cps.size - (i + 1), by omega, rfl, by omega, ⟨_, rfl⟩, p4, ze⟩
  ·exact ⟨x.cps.size - (i + 1), by omega, rfl, by omega, ⟨_, rfl⟩, p3, e3⟩
 ·have e : i = (sg x).length := by omega
  subst e
  exact .inl ⟨by show x.cps.size ≤ _; omega, hd ys H' hp hD⟩
end L2
namespace PySem.W
open PySem PySem.Calls PyProof.Rows
def KasT.eval {α : Type} (lt : Nat → Nat → Bool) : KasT α → α
 | .ret a => a
 | .ask i j k => (k (lt i j)).eval lt
inductive Nums : List Value → List Int → Prop
 | nil : Nums [] []
 | cons {i : Int} {t : Tok} {us : List Value} {ns : List Int} : Nums us ns → Nums (.int i t :: us) (i :: ns)
end PySem.W
namespace PySem
open Sem (wp)
open AutoSeq1 (wpAny_loadPart')
end PySem
namespace L2
open PySem PySem.Spec PyProof.Rows
section
variable {X : Cx} {k : Nat}
def RowsAt (H : Hp) : List Addr → List (List Int) → Prop
 | [], [] => True
 | a :: as, ks :: kss => H a = some (.tup (ks.map V.int)) ∧ RowsAt H as kss
 | _, _ => False
theorem RowsAt.tk {H H' : Hp} (k : ∀ q xs, H q = some (.tup xs) → H' q = some (.tup xs)) : ∀ {as : List Addr} {kss : List (List Int)}, RowsAt H as kss → RowsAt H' as kss
 | [], [], _ => trivial
 | a :: as, ks :: kss, h => ⟨k _ _ h.1, RowsAt.tk k h.2⟩
 | [], _ :: _, h => h.elim
 | _ :: _, [], h => h.elim
theorem RowsAt.len {H : Hp} : ∀ {as : List Addr} {kss : List (List Int)}, RowsAt H as kss → as.length = kss.length
 | [], [], _ => rfl
 | a :: as, ks :: kss, h => by rw [List.length_cons, List.length_cons, RowsAt.len h.2]
 | [], _ :: _, h => h.elim
 | _ :: _, [], h => h.elim
theorem RowsAt.at {H : Hp} : ∀ {as : List Addr} {kss : List (List Int)}, RowsAt H as kss → ∀ {i : Nat} {a : Addr}, as[i]? = some a → ∃ ks, kss[i]? = some ks ∧ H a = some (.tup (ks.map V.int))
 | a :: as, ks :: kss, h, 0, b, e => ⟨ks, rfl, by
  have : a = b := by simpa using e
  exact this ▸ h.1⟩
 | a :: as, ks :: kss, h, i + 1, b, e => by
  obtain ⟨k', h1, h2⟩ := RowsAt.at h.2 (i := i) (a := b) (by simpa using e)
  exact ⟨k', by simpa using h1, h2⟩
 | [], [], _, i, b, e => by simp at e
 | [], _ :: _, h, _, _, _ => h.elim
 | _ :: _, [], h, _, _, _ => h.elim
theorem RowsAt.app {H : Hp} : ∀ {as bs : List Addr} {ks ls : List (List Int)}, RowsAt H as ks → RowsAt H bs ls → RowsAt H (as ++ bs) (ks ++ ls)
 | [], _, [], _, _, h => h
 | a :: as, _, k :: ks, _, h, h' => ⟨h.1, RowsAt.app h.2 h'⟩
 | [], _, _ :: _, _, h, _ => h.elim
 | _ :: _, _, [], _, h, _ => h.elim
end
section
variable {X : Cx}
def rSlS : V → Option Int → Option Int → Hp → VK → Prop := fun x lo hi H Q => ∃ z, x = .str z ∧ z.length ≤ 1000 ∧ Q (.str (Txt.slice z lo hi)) H
theorem YS {v : Value} {o : Option Int} (h : IsPart v o) : ∃ p : Option (Int × Tok), v = partValue p ∧ p.map (·.1) = o := by
 cases h with
 | none => exact ⟨none, rfl, rfl⟩
 | int i t => exact ⟨some (i, t), rfl, rfl⟩
theorem Zq : SlR X rSlS := by
 intro pins s σ H x v vl vu lo hi sl Q I rx hs pl pu h
 obtain ⟨z, rfl, hz, q⟩ := h
 obtain ⟨t, rfl⟩ := rx
 obtain ⟨l, rfl, rfl⟩ := YS pl
 obtain ⟨u, rfl, rfl⟩ := YS pu
 refine ⟨"str", _, PySem.F.slot_str_getitem.lookup, typeIs_str s z t, ?_⟩
 refine getItem_meets (typeIs_str s z t) (by decide) PySem.F.slot_str_getitem PySem.F.entry_str_getitem (PySem.F.args_str_getitem_2 _ _) (meets_str_getitem_slice z t sl l u none rfl) ⟨hs, ?_⟩
 have e : sliceMade z t l u none = if ((1 : Int) == 1 && (Builtin.Str.strSliceIndices (l.map (·.1)) (u.map (·.1)) 1 z.length).length == z.length) = true then .val (.str z t) else .str ⟨((Builtin.Str.strSliceIndices (l.map (·.1)) (u.map (·.1)) 1 z.length).filterMap (z.cps[·]?)).toArray⟩ := rfl
 rw [e]
 have hlen := sliceIndices_le (l.map (·.1)) (u.map (·.1)) z.length
 unfold Txt.slice at q
 by_cases hc : ((1 : Int) == 1 && (Builtin.Str.strSliceIndices (l.map (·.1)) (u.map (·.1)) 1 z.length).length == z.length) = true
 ·rw [if_pos hc] at q ⊢
  exact ⟨.str z, H, I, ⟨t, rfl⟩, q⟩
 ·rw [if_neg hc] at q ⊢
  refine ⟨?_, .str _, H, I.tok _, ⟨_, rfl⟩, q⟩
  refine Nat.le_of_lt (zn ?_)
  show ((Builtin.Str.strSliceIndices (l.map (·.1)) (u.map (·.1)) 1 z.length).filterMap (z.cps[·]?)).toArray.size ≤ 1000
  rw [List.size_toArray]
  exact Nat.le_trans (List.length_filterMap_le _ _) (by omega)
end
structure Fly (lo : Nat) (h : Heap) (H : Hp) (a : Addr) (T : Option Addr) (C : Value) (d : Option Addr) (fl : Value) : Prop where
 at_ : ∃ (vs : Array Value) (sl : Array (Option Value)), h.get? a = some ⟨C, d, .fields vs, sl⟩ ∧
  (match T with
   | none => vs[1]? = some .none
   | some t => vs[1]? = some (.ref t) ∧ t ≠ a ∧ ∃ oT ts, h.get? t = some oT ∧ oT.data = .fields ts ∧ ts[3]? = some fl)
 lo : ∀ b ∈ a :: T.toList, lo ≤ b ∧ H b = none
open Builtin Builtin.ObjectAttr
abbrev bmV : List Value := [.type "ValueError", .type "Exception", .type "BaseException", .type "object"]
inductive OverV : List Value → Prop
 | base : OverV bmV
 | own (a : Addr) {l : List Value} : OverV l → OverV (.ref a :: l)
structure XC (K : W.Frag) (C : Addr) (bm : List Value) : Prop where
 at_ : ∃ (nm q : Str) (N : Addr) (bs : List Value) (sn : List Str) (sub : List Value) (ab : Bool) (col : Option Bool) (dd : Option Addr) (k0 k1 k2 k3 k5 : Option Value),
  K.lookup C = some (excClassObj nm q C N bs bm true sn sub ab col dd k0 k1 k2 k3 k5 "ValueError.__new__")
 ov : OverV bm
structure XA (K : W.Frag) (C : Addr) : Prop where
 bm : ∃ bm, XC K C bm
 ga : PySem.W.findIn K (.ref C) "__getattribute__" = some (some (.builtin "BaseException.__getattribute__"))
 gt : PySem.W.findIn K (.ref C) "__getattr__" = some none
 sa : PySem.W.findIn K (.ref C) "__setattr__" = some (some (.builtin "object.__setattr__"))
 cl : PySem.W.findIn K (.ref C) "__class__" = some (some (.builtin "object.__class__"))
 sg : PySem.W.specialIn K (.builtin "object.__class__") "__get__" = some (some (.builtin "getset_descriptor.__get__"))
 tk : PySem.W.takesIn K (.builtin "object.__class__") = some true
end L2
namespace PySem
open Sem (wp)
open Builtin Builtin.ObjectAttr
open L2 (OverV)
section
variable {prog : Program} {w : World} {A : Around} {E : Value → Shared → Prop} {h : Heap} {g : Array GenState} {d : Drawn} {t : Nat} {os : OsState}
variable {nm q : Str} {C N : Addr} {bs bm : List Value} {sn : List Str} {sub : List Value} {ab : Bool} {col : Option Bool} {dd : Option Addr} {k0 k1 k2 k3 k5 : Option Value}
end
end PySem
namespace PySem
open Sem (wp)
open Builtin Builtin.ObjectAttr
open L2 (OverV XC XA bmV)
section
variable {prog : Program} {w : World} {A : Around} {E : Value → Shared → Prop} {h : Heap} {g : Array GenState} {d : Drawn} {t : Nat} {os : OsState}
variable {nm q : Str} {C N x : Addr} {bs bm : List Value} {sn : List Str} {sub : List Value} {ab : Bool} {col : Option Bool} {dd : Option Addr} {k0 k1 k2 k3 k5 : Option Value}
 {mA : Str → Option Value} {name : Str} {v : Value}
end
section
variable {prog : Program} {w : World} {A : Around} {E : Value → Shared → Prop} {h : Heap} {g : Array GenState} {d : Drawn} {t : Nat} {os : OsState} {K : W.Frag}
variable {nm q : Str} {C N x : Addr} {bs bm : List Value} {sn : List Str} {sub : List Value} {ab : Bool} {col : Option Bool} {dd : Option Addr} {k0 k1 k2 k3 k5 : Option Value}
 {name : Str} {v : Value} {ox : Obj} {od : Option Obj}
end
end PySem
namespace L2
open PySem PySem.Spec PyProof.Rows
end L2
namespace PySem
open Sem (wp)
open L2 (OverV)
section
variable {M : Model} {A : Around} {E : Value → Shared → Prop} {env : Env}
variable {nm q : Str} {C N : Addr} {bs bm : List Value} {sn : List Str} {sub : List Value} {ab : Bool} {col : Option Bool} {dd : Option Addr} {k0 k1 k2 k3 k5 : Option Value}
end
end PySem
namespace L2
open PySem PySem.Spec PyProof.Rows
structure XMk (K : W.Frag) (C f : Addr) : Prop where
 init : PySem.W.findIn K (.ref C) "__init__" = some (some (.ref f))
 fn : PySem.W.isFn K (.ref f) = true
 kp : PySem.W.keepIn K (.ref C) = true
 xa : XA K C
end L2
namespace PySem
open Sem (wp)
open L2 (OverV)
end PySem
namespace L2
open PySem PySem.Spec PyProof.Rows
abbrev Cx.tr (X : Cx) (pn : List (Addr × Obj)) (xe : Value → Shared → Prop) : Cx := { X with pn := pn, xe := xe }
abbrev Cx.hdl (X : Cx) (a : Addr) : Cx := { X with A := X.A.mark (some (.ref a)), calm := false, xe := fun _ _ => False }
end L2
namespace PySem
open Sem (wp)
open Builtin Builtin.ObjectAttr
open L2 (OverV XC XA bmV)
section
variable {prog : Program} {w : World} {A : Around} {E : Value → Shared → Prop} {h : Heap} {g : Array GenState} {d : Drawn} {t : Nat} {os : OsState} {K : W.Frag}
variable {nm q : Str} {C N x : Addr} {bs bm : List Value} {sn : List Str} {sub : List Value} {ab : Bool} {col : Option Bool} {dd : Option Addr} {k0 k1 k2 k3 k5 : Option Value}
 {ox : Obj} {od : Option Obj}
end
end PySem
namespace L2
open PySem PySem.Spec PyProof.Rows
structure XUni (K : W.Frag) (mg : Str → Option Value) (D : Addr) (cs : List (Str × Addr)) : Prop where
 base : XC K D bmV
 mD : mg "DropError" = some (.ref D)
 cls : ∀ c ∈ cs, mg c.1 = some (.ref c.2) ∧ XC K c.2 (.ref D :: bmV) ∧ XA K c.2
 nd : (D :: cs.map (·.2)).Nodup
end L2
namespace PySem
open Sem (wp)
open L2 (OverV bmV)
section
variable {prog : Program} {w : World} {A : Around} {E : Value → Shared → Prop} {h : Heap} {g : Array GenState} {d : Drawn} {t : Nat} {os : OsState}
variable {nm q : Str} {C N : Addr} {bs : List Value} {sn : List Str} {sub : List Value} {ab : Bool} {col : Option Bool} {dd : Option Addr} {k0 k1 k2 k3 k5 : Option Value}
end
end PySem
namespace L2
open PySem PySem.Spec PyProof.Rows
structure FnOkH (P : Program) (w : World) (K : W.Frag) (mg : Str → Option Value) (base : Heap) (k : Nat) (f : Addr) (fd : FuncData) (ps : List Str) (sp : Sp) : Prop where
 len : ∀ vs H Q E, sp vs H Q E → vs.length = ps.length
 run : ∀ (A : Around) (a : Addr) (outer : List Env) (s : Shared) (H : Hp) (args : Args) (us : List Value) (vs : List V) (Q : VK), Room k A → Env0 P w K mg base A outer s H → BindsTo s fd args (ps.zip us) → Vals vs us → sp vs H Q E0 →
  codeAny (model P w) (A.mark (some (.ref a))) (.call (.ref f) args) (CR CX0 outer P w H s Q E0) s
structure XBase (K : W.Frag) (C : Addr) : Prop where
 at_ : ∃ (nm q : Str) (N : Addr) (bs : List Value) (sn : List Str) (sub : List Value) (ab : Bool) (col : Option Bool) (dd : Option Addr) (k0 k1 k2 k3 k5 : Option Value),
  K.lookup C = some (excClassObj nm q C N bs bmV true sn sub ab col dd k0 k1 k2 k3 k5 "ValueError.__new__")
 fi : PySem.W.findIn K (.ref C) "__init__" = some (some (.builtin "ValueError.__init__"))
 kp : PySem.W.keepIn K (.ref C) = true
end L2
namespace L2
open PySem
structure Bl (mg : Str → Option Value) : Prop where
 len : mg "len" = none
 range : mg "range" = none
 tuple : mg "tuple" = none
 int : mg "int" = none
 bool : mg "bool" = none
 list : mg "list" = none
 str : mg "str" = none
 all : mg "all" = none
 any : mg "any" = none
 isi : mg "isinstance" = none
 repr : mg "repr" = none
 zip : mg "zip" = none
 min : mg "min" = none
 max : mg "max" = none
 sum : mg "sum" = none
 enu : mg "enumerate" = none
 sorted : mg "sorted" = none
 set : mg "set" = none
 dict : mg "dict" = none
 abs : mg "abs" = none
def Kn (mg : Str → Option Value) (x : Str) (i : Int) : Prop := ∃ t, mg x = some (Value.int i t)
def KnS (mg : Str → Option Value) (x : Str) (a : Str) : Prop := ∃ t, mg x = some (Value.str a t)
end L2
namespace L2
open PySem PySem.Spec PyProof.Rows Builtin Builtin.Str
section
variable {X : Cx}
def isT (b : Str) : Value → Bool
 | .str a _ => decide (a = b)
 | _ => false
end
def Itrs (lo c : Int) (n : Nat) : It := ⟨fun i _ => i < n, fun i H x H' => H' = H ∧ x = .int (lo + i * c), fun i _ => n ≤ i⟩
theorem turn_rangeS {P : Program} {w : World} {K : W.Frag} {tg : Expr} (it : Addr) (lo c : Int) (n : Nat) : Turn P w K tg (Itrs lo c n) [it] it (fun i h => IsRangeIter h it (lo + (i : Nat) * c) ((n : Int) - (i : Nat)) c) where
 mem := by simp
 obj := fun i h st b hb => by
  have e : b = it := by simpa using hb
  subst e
  exact ⟨_, st, fun v z => by
   have z' : Data.fields _ = Data.cell v := z
   cases z'⟩
 keep := fun i h h' st k => k it (by simp) _ st
 item := by
  intro X hP hw hK hc i pins s σ H E I hf st hg
  subst hP hw hK
  obtain ⟨f0, f1, f2, f3, f4, f5⟩ := hf it (by simp)
  have W := Walks.range (prog := X.prog) (w := X.w) (I.ok.hd hc) it lo c n
  refine W.item i s _ _ hg st fun v h' tk hv st' kk => ?_
  obtain ⟨t, rfl⟩ := hv
  have I1 : Inv X pins σ H { s with heap := h', toks := tk } := I.turned (fun b o hb e => kk b o (by simpa using hb) e) f0 f1 f3 f4 f5
  exact ⟨_, rfl, Zb (s := { s with heap := h', toks := tk }) (n := "range_iterator") st' rfl rfl (by decide) ⟨.int (lo + i * c), H, I1, ⟨t, rfl⟩, ⟨rfl, rfl⟩, st', fun b hb => (hf b hb).1⟩⟩
 done := by
  intro X hP hw hK hc i pins s σ H E I hf st hg
  subst hP hw hK
  obtain ⟨f0, f1, f2, f3, f4, f5⟩ := hf it (by simp)
  exact wpAny_pyNext_range_end (I.ok.hd hc) st (by have : n ≤ i := hg; omega) fun h' eb => ⟨rfl, I.turned (t' := s.toks) (fun b o hb e => eb b o hb e) f0 f1 f3 f4 f5⟩
 self := fun _ _ _ _ _ st h => wpAny_pyIter_rangeiter st h
theorem for_rangeS {lo c : Int} {n : Nat} {g : TG} {tb : TS} {D : Ends} {σ : St} {H : Hp} (Pv : Nat → St → Hp → Prop) (h0 : Pv 0 σ H)
  (hs : ∀ i σ H, i < n → Pv i σ H → g (.int (lo + i * c)) σ H fun σ2 H2 => tb { D with nx := Pv (i + 1), ct := Pv (i + 1), bk := D.nx } σ2 H2) (hd : ∀ σ H, Pv n σ H → D.nx σ H) : ForJ (Itrs lo c n) g tb D σ H := by
 refine ⟨fun i m σ H => m = n - i ∧ i ≤ n ∧ Pv i σ H, ⟨n, by simp, Nat.zero_le _, h0⟩, ?_⟩
 rintro i m σ H ⟨rfl, hi, p⟩
 by_cases hlt : i < n
 ·refine .inr ⟨hlt, Pv (i + 1), fun σ' H' p' => ⟨n - (i + 1), by omega, rfl, hlt, p'⟩, fun x H' y => ?_⟩
  obtain ⟨e, y⟩ := y
  subst e y
  exact hs i σ _ hlt p
 ·have e : i = n := by omega
  subst e
  exact .inl ⟨Nat.le_refl _, hd σ H p⟩
theorem YB (a b : Int) : Builtin.Range.rangeSize a b 18 = if a < b then (b - a + 17) / 18 else 0 := by
 unfold Builtin.Range.rangeSize
 simp only [show (18 : Int) > 0 by decide, if_true]
 split <;> omega
theorem small_18 {a b : Int} (ha : 0 ≤ a) (ha' : a < 2 ^ 40) (hb : 0 ≤ b) (hb' : b < 2 ^ 40) : Builtin.Range.small a b 18 = true := by
 unfold Builtin.Range.small
 rw [YB]
 simp only [Builtin.Range.rangeFitsLong, Bool.and_eq_true, Bool.or_eq_true, decide_eq_true_eq, beq_iff_eq, show (18 : Int) > 0 by decide, if_true]
 split <;> omega
def Wb (ta : TA) : TI := fun σ H R => ta σ H fun vs H1 => ∃ i j : Int, vs = [.int i, .int j, .int 18] ∧ (0 ≤ i ∧ i < 2 ^ 40 ∧ 0 ≤ j ∧ j < 2 ^ 40) ∧ R (Itrs i 18 ((j - i + 17) / 18).toNat) H1
section
variable {X : Cx} {tg : Expr}
theorem range_it18 {pins : List (Addr × Obj)} {σ : St} {H : Hp} {s : Shared} {R : It → Hp → Prop} {E : Value → Shared → Prop} {lo hi : Int} {t u v : Tok} {tk : Nat} (I : Inv X pins σ H s) (h1 : 0 ≤ lo) (h2 : lo < 2 ^ 40) (h3 : 0 ≤ hi) (h4 : hi < 2 ^ 40)
  (q : R (Itrs lo 18 ((hi - lo + 17) / 18).toNat) H) : wpAny (model X.prog X.w) X.A (pyIter (.ref s.heap.objs.size)) (PIE X pins σ tg R) E { s with heap := s.heap.push { cls := .type "range", data := .fields #[.int lo t, .int hi u, .int 18 v] }, toks := tk } := by
 refine wpAny_pyIter_range (IsRange.new ..) (small_18 h1 h2 h3 h4) ?_
 have I1 : Inv X pins σ H { s with heap := s.heap.push { cls := .type "range", data := .fields #[.int lo t, .int hi u, .int 18 v] }, toks := tk } := I.kept fun b o e => Heap.get?_push_of_some _ e
 refine ⟨(s.heap.push { cls := .type "range", data := .fields #[.int lo t, .int hi u, .int 18 v] }).objs.size, [(s.heap.push { cls := .type "range", data := .fields #[.int lo t, .int hi u, .int 18 v] }).objs.size], _, _, H, rfl,
  I1.kept (t' := tk) fun b o e => Heap.get?_push_of_some _ e, turn_rangeS _ lo 18 ((hi - lo + 17) / 18).toNat, ?_, fun b hb => ?_, q⟩
 ·have e1 : lo + ((0 : Nat) : Int) * 18 = lo := by simp
  have e2 : (((((hi - lo + 17) / 18).toNat : Nat) : Int)) - ((0 : Nat) : Int) = Builtin.Range.rangeSize lo hi 18 := by rw [YB]; split <;> omega
  show IsRangeIter _ _ (lo + ((0 : Nat) : Int) * 18) (((((hi - lo + 17) / 18).toNat : Nat) : Int) - ((0 : Nat) : Int)) 18
  rw [e1, e2]
  exact Heap.get?_push_size _ rfl
 ·have e : b = (s.heap.push { cls := .type "range", data := .fields #[.int lo t, .int hi u, .int 18 v] }).objs.size := by simpa using hb
  subst e
  exact I1.fpOk (Nat.le_refl _) (I1.hok.fresh (Nat.le_refl _))
theorem pi_r18 {a b c : Expr} {ta : TA} {p pos : Pos} (hm : X.mg "range" = none) (ha : PA X [a, b, c] ta) (hg : Gl X "range" := by rfl) (h : zW a = false := by rfl) (h' : zW b = false := by rfl) (h'' : zW c = false := by rfl) :
  PI X tg (.Call (.Name "range" p) [a, b, c] [] pos) (Wb ta) := by
 intro pins s σ H R I h0
 refine Call_ (xn I hg hm boot_range (PyProof.Rows.callWith_type1 (thn (ha pos pins s σ H _ I h0) fun us s1 ⟨vs, H1, I1, r1, q1⟩ => ?_) (by rw [xp h]) (yL (by simp [h', h'']))))
 obtain ⟨i, j, e, ⟨q1, q2, q3, q4⟩, q⟩ := q1
 subst e
 cases r1 with
 | cons r rr =>
  cases rr with
  | cons r' rr =>
   cases rr with
   | cons r'' rr =>
    cases rr
    obtain ⟨t, rfl⟩ := r
    obtain ⟨t', rfl⟩ := r'
    obtain ⟨t'', rfl⟩ := r''
    exact call_range_3 (by decide) (range_it18 I1 q1 q2 q3 q4 q) (Or.inl (PyProof.noPylong_small (by omega)))
theorem w_forR18 {ta : TA} {g : TG} {tb : TS} {D : Ends} {σ : St} {H : Hp} (h : ta σ H fun vs H1 => ∃ i j : Int, vs = [.int i, .int j, .int 18] ∧ (0 ≤ i ∧ i < 2 ^ 40 ∧ 0 ≤ j ∧ j < 2 ^ 40) ∧ ForJ (Itrs i 18 ((j - i + 17) / 18).toNat) g tb D σ H1) : tFor (Wb ta) g tb D σ H := h
end
section
variable {X : Cx}
def rZfill : V → List V → Hp → VK → Prop := fun x vs H Q => ∃ (a : Str) (i : Int), x = .str a ∧ vs = [.int i] ∧ PySem.PadOk i = true ∧ Q (.str (Txt.zfill a i)) H
theorem mt_zfill : MtM X "str.zfill" rZfill := by
 intro pins s σ H x vs v us Q I rx rv h
 obtain ⟨a, i, rfl, rfl, hp, q⟩ := h
 obtain ⟨t, rfl⟩ := rx
 obtain ⟨w, rfl, rw⟩ := rv.one
 obtain ⟨u, rfl⟩ := rw
 exact SC.zfill hp fun t' k => ⟨.str _, H, I.tok _, ⟨_, rfl⟩, q⟩
end
end L2
namespace K37
open PySem L2 G2
structure Blt4 (mg : Str → Option Value) : Prop extends Blt3 mg where
 all : mg "all" = none
 str : mg "str" = none
 isi : mg "isinstance" = none
 enu : mg "enumerate" = none
 bool : mg "bool" = none
 fig : ∃ t, mg "FIGURES" = some (Value.str "0123456789" t)
 part : Kn mg "PART" 18
 psz : Kn mg "PART_SIZE" 1000000000000000000
 ruK : Kn mg "RULES" 1
 taK : Kn mg "TAKES" 0
 keK : Kn mg "KEPTS" 0
 heK : Kn mg "HEIGHTS" 1
 trK : Kn mg "TREE" 2
 mkK : Kn mg "MOST_KEPTS" 8
 mtK : Kn mg "MOST_TREES" 1000
 mwK : Kn mg "MOST_WITHIN" 40
def fT (i : Int) : Str := Str.ofString (toString i)
def inF (y : Str) : Bool := !(Builtin.Str.occurrences "0123456789" y 0 (Str.length "0123456789") 1).isEmpty
def figB (x : Str) : Bool := decide (x.length ≤ 40) && (sg x).all inF && (match x.cps.toList with | [] => false | c :: _ => decide (x = "0") || !decide ((⟨#[c]⟩ : Str) = "0"))
def sigB (x : Str) : Bool := if Txt.startswith x "-" = true then !decide (x = "-0") && figB (Txt.slice x (some 1) none) else figB x
def nuL : List Int := [-9, -1, 0, 1, 2, 3, 4, 5, 6, 7, 8, 9, 10, 11, 10 ^ 39]
def Nu (i : Int) : Prop := i ∈ nuL
def wofA (x : Str) : Nat := x.length % 18
def itx (x : Str) : Option Int := if x.length ≤ 640 then PySem.intText? x else none
theorem X7 {x : Str} {i : Int} (h : itx x = some i) : PySem.intText? x = some i ∧ x.length ≤ 640 := by
 unfold itx at h
 by_cases z : x.length ≤ 640
 ·rw [if_pos z] at h; exact ⟨h, z⟩
 ·rw [if_neg z] at h; cases h
def wof (x : Str) : Nat → Option Int
 | 0 => if 0 < wofA x then itx (Txt.slice x none (some (wofA x : Int))) else some 0
 | j + 1 => (wof x j).bind fun n => (itx (Txt.slice x (some ((wofA x : Int) + (j : Int) * 18)) (some ((wofA x : Int) + (j : Int) * 18 + 18)))).map fun m => n * 1000000000000000000 + m
def wofN (x : Str) : Nat := (((x.length : Int) - (wofA x : Int) + 17) / 18).toNat
def wofB (x : Str) (i : Int) : Bool := decide (wof x (wofN x) = some i) && (List.range (wofN x + 1)).all fun j => match wof x j with | some n => decide (0 ≤ n) && decide (n ≤ 10 ^ 40) | none => false
def shL (i : Int) : Nat → Int
 | 0 => i
 | k + 1 => shL i k / 1000000000000000000
def shB (i : Int) : Nat → Str
 | 0 => ""
 | k + 1 => Txt.zfill (fT (shL i k % 1000000000000000000)) 18 ++ shB i k
def shN (i : Int) : Nat := if i = 10 ^ 39 then 2 else 0
theorem _root_.L2.op_fdivC {X : Cx} : OpR X (binaryOp .FloorDiv) (rI (fun i j => 0 < j ∧ Builtin.divisionGoesByPylong i j = false) fun i j => .int (i / j)) := opI fun i j _ _ _ _ _ hc q => by
 have h1 : (0 : Int) < j := hc.1
 exact PyProof.Rows.floordiv_int (by omega) (by rw [Int.fdiv_eq_ediv_of_nonneg i (by omega)]; exact q) (.inl hc.2)
def shOk (i : Int) : Bool := (List.range (shN i)).all (fun k => !Builtin.divisionGoesByPylong (shL i k) 1000000000000000000 && decide (1000000000000000000 ≤ shL i k) && decide ((Txt.zfill (fT (shL i k % 1000000000000000000)) 18).length ≤ 100) && decide ((shB i k).length ≤ 100)) && decide (shL i (shN i) < 1000000000000000000) && decide (0 ≤ shL i (shN i)) && decide (fT (shL i (shN i)) ++ shB i (shN i) = fT i) && decide ((fT (shL i (shN i))).length ≤ 100) && decide ((shB i (shN i)).length ≤ 100)
def numB (i : Int) : Bool := sigB (fT i) && (decide (i < 0) || figB (fT i)) && decide ((fT i).length ≤ 40) && !(fT i).cps.toList.contains 32 && !(fT i).cps.toList.contains 58 && decide (i.natAbs.log2 < 1920) && !decide (fT i = "/") && decide (-(10 ^ 40) < i) && decide (i < 10 ^ 40) && decide (0 < (fT i).length)
theorem nums : ∀ i ∈ nuL, numB i = true := by decide +kernel
theorem XG : ∀ i ∈ nuL, 0 ≤ i → shOk i = true ∧ wofB (fT i) i = true ∧ Txt.startswith (fT i) "-" = false := by decide +kernel
theorem XW : ∀ i ∈ nuL, i < 0 → -i ∈ nuL ∧ (("-" : Str) ++ fT (-i) = fT i) ∧ Txt.slice (fT i) (some 1) none = fT (-i) ∧ Txt.startswith (fT i) "-" = true := by decide +kernel
structure Num (i : Int) : Prop where
 sig : sigB (fT i) = true
 fig : i < 0 ∨ figB (fT i) = true
 l40 : (fT i).length ≤ 40
 nb : 32 ∉ (fT i).cps.toList
 nc : 58 ∉ (fT i).cps.toList
 lg : i.natAbs.log2 < 1920
 ns : fT i ≠ "/"
 lo : -(10 ^ 40) < i
 hi : i < 10 ^ 40
 l0 : 0 < (fT i).length
theorem zL {i : Int} (hi : Nu i) : Num i := by
 have h := nums i hi
 unfold numB at h
 simp only [Bool.and_eq_true, Bool.or_eq_true, decide_eq_true_eq, Bool.not_eq_true', decide_eq_false_iff_not] at h
 obtain ⟨⟨⟨⟨⟨⟨⟨⟨⟨a, b⟩, c⟩, d⟩, e⟩, f⟩, g⟩, x⟩, y⟩, z⟩ := h
 exact ⟨a, b, c, (fun z => by rw [List.contains_iff_mem.mpr z] at d; cases d), (fun z => by rw [List.contains_iff_mem.mpr z] at e; cases e), f, g, x, y, z⟩
abbrev sFig : Stmt := top 7
abbrev sSig : Stmt := top 8
abbrev nFig : List Str := ["word"]
theorem YY : Nm nFig (zc sFig) := nmk (by decide +kernel)
theorem scFig : FnScope nFig ["word"] (zc sFig) := fsk (by decide +kernel)
abbrev nSig : List Str := ["word"]
theorem YW : Nm nSig (zc sSig) := nmk (by decide +kernel)
theorem scSig : FnScope nSig ["word"] (zc sSig) := fsk (by decide +kernel)
def figComp (s : Stmt) : Scope := match s with
 | .If (.BoolOp _ [_, .UnaryOp _ (.Call _ [.ListComp _ _ sc _] _ _) _] _) _ _ _ => sc
 | _ => nsc
abbrev cFig : Scope := figComp ((zu sFig).getD 0 (.Pass ⟨0, 0, 0, 0⟩))
theorem bsFig : BScope (zc sFig) cFig ["sign"] [] ["FIGURES"] := { okind := by decide +kernel, kind := by decide +kernel, nocell := by decide +kernel, names := by decide +kernel, fr := by decide +kernel, ff := by decide +kernel, nd := by decide +kernel, vis := by decide +kernel, loc := by decide +kernel, gl := by decide +kernel }
def Xx : Sp := fun vs H Q _ => ∃ x : Str, vs = [.str x] ∧ figB x = true ∧ ∀ H', Same H H' → Q (.bl true) H'
def WB : Sp := fun vs H Q _ => ∃ x : Str, vs = [.str x] ∧ sigB x = true ∧ x.length ≤ 40 ∧ ∀ H', Same H H' → Q (.bl true) H'
theorem w_orV {ta tb : TE} {σ : St} {H : Hp} {Q : VK} (h : ta σ H fun x H1 => ∃ c, x = .bl c ∧ if c = true then Q (.bl true) H1 else tb σ H1 Q) : tOrV ta tb σ H Q := h
theorem xW {ta tb : TE} {σ : St} {H : Hp} {Q : VK} (h : ta σ H fun x H1 => ∃ c, x = .bl c ∧ if c = true then tb σ H1 Q else Q (.bl false) H1) : Wz ta tb σ H Q := h
section
variable {P : Program} {w : World} {K : W.Frag} {mg : Str → Option Value} {base : Heap}
theorem ok_Fig {f : Addr} {fd : FuncData} (B : Blt4 mg) (F : Fun K "is_figures" "is_figures" sFig f fd) : FnOk P w K mg base CX0 1 f fd ["word"] Xx := by
 refine F.ok scFig (fun vs H Q E h => ?_) (fun cdv A outer s H vs Q E hr h => ?_)
 ·obtain ⟨x, rfl, _⟩ := h
  rfl
 obtain ⟨x, rfl, hx, k⟩ := h
 obtain ⟨tl, hle⟩ := B.fig
 refine' ⟨_, ?hb, ?rd⟩
 case hb =>
  refine' zf ?s1 ?r1
  case' r1 => refine' zg ?s2
  case s1 =>
   refine' zC ?o1 (zg (zl vw)) zw
   case' o1 => refine' PW.pt ?o2
   case' o2 => refine' yQ (zq zV (pvd YY 0) zp (zt _)) ?o4
   case' o4 => refine' yB ?o5
   case' o5 => refine' yN ?o6
   case' o6 => refine' yr ?p3
   case' p3 => refine' zF (y6 rfl) B.all PyProof.Rows.boot_all ?p4
   case' p4 => refine' pa_1 ?p5
   case p5 =>
    refine' zB (ix := []) bsFig.toCScope rfl rfl (pi_tx (pvd YY 0)) ?h4 ?h5 ?h6
    case h4 => exact fun _ _ _ _ _ _ => pgb bsFig 0
    case h5 => exact fun _ _ _ _ _ _ => zz
    case h6 => exact fun _ _ _ _ _ _ => yT op_in_str (pvb bsFig 0) (YO (bsFig.g 0) hle (v := .str "0123456789") ⟨tl, rfl⟩) (by with_unfolding_all rfl)
  case s2 =>
   refine' zl ?q0
   case' q0 => refine' pe_or (yT zV (pvd YY 0) zp (zt _)) ?q1
   case' q1 => refine' wv ?q2
   case q2 => exact yT xq (zk X6 (pvd YY 0) zd (fun _ _ => rfl)) zp (zt _)
 unfold figB at hx
 simp only [Bool.and_eq_true, decide_eq_true_eq] at hx
 obtain ⟨⟨hl, hd⟩, h0⟩ := hx
 cases hc : x.cps.toList with
 | nil => rw [hc] at h0; cases h0
 | cons c cs =>
 rw [hc] at h0
 have hne : x ≠ "" := fun z => by rw [z] at hc; cases hc
 walk_at "v"
 refine ⟨rfl, ?_⟩
 walk_at "v"
 refine iteD (fun z => absurd (V.str.inj z) hne) (fun _ => ?_)
 walk_at "v"
 refine w_compX ?_
 walk_at "v"
 refine ⟨x, rfl, fun D hD => ?_⟩
 have hgl : (sg x).length ≤ 1000 := by rw [Xy]; exact Nat.le_trans hl (by decide)
 refine cgo_tx (ρ := []) (fun i ys H' => ys = (((sg x).take i).map inF).map V.bl ∧ Same H H') ⟨rfl, Same.new (Same.refl H) hD⟩ ?_ ?_
 ·rintro i y ys H' hy ⟨rfl, K'⟩ hDy R S kR _
  walk_at "v"
  refine ⟨y, _, rfl, rfl, ?_⟩
  refine kR _ _ hDy (by rw [List.length_map, List.length_map, List.length_take]; exact zn (by omega)) ⟨?_, K'.put hD⟩
  rw [List.take_add_one, hy, List.map_append, List.map_append]
  rfl
 rintro ys H1 ⟨rfl, K1⟩ e1
 rw [List.take_of_length_le (by omega)] at e1
 walk_at "v"
 refine ⟨D, (sg x).map inF, rfl, e1, ?_⟩
 rw [show ((sg x).map inF).all id = true by rw [List.all_map]; exact hd]
 walk_at "v"
 refine iteF ?_
 walk_at "v"
 refine w_orV ?_
 walk_at "v"
 refine ⟨rfl, ?_⟩
 refine ⟨_, rfl, ?_⟩
 refine iteD (fun z => ?_) (fun z => ?_)
 ·exact k _ K1
 ·walk_at "v"
  refine ⟨x, 0, c, rfl, rfl, (by rw [sizeLine_eq]; omega), (by rw [hc]; exact zx (show (c :: cs)[0]? = some c from rfl)), ?_⟩
  walk_at "v"
  refine ⟨rfl, ?_⟩
  have n0 : ¬ (⟨#[c]⟩ : Str) = "0" := by
   have z' : ¬ x = "0" := fun e => z (by rw [e])
   simpa [z'] using h0
  have e0 : (!decide (V.str (⟨#[c]⟩ : Str) = V.str "0")) = true := by rw [decide_eq_false (fun e => n0 (V.str.inj e))]; rfl
  rw [e0]
  exact k _ K1
theorem ok_Sig {f : Addr} {fd : FuncData} (G : Has P w K mg base 1 "is_figures" ["word"] Xx) (F : Fun K "is_signed_figures" "is_signed_figures" sSig f fd) : FnOk P w K mg base CX0 2 f fd ["word"] WB := by
 refine F.ok scSig (fun vs H Q E h => ?_) (fun cdv A outer s H vs Q E hr h => ?_)
 ·obtain ⟨x, rfl, _⟩ := h
  rfl
 obtain ⟨x, rfl, hx, hl, k⟩ := h
 refine' ⟨_, ?hb, ?rd⟩
 case hb =>
  refine' zf ?s1 ?r1
  case' r1 => refine' zg ?s2
  case s1 =>
   refine' zC ?o1 ?o2 zw
   case' o1 => refine' yr ?o3
   case o3 => exact yn PySem.F.plainAttrs_str PySem.F.slot_str_startswith PySem.F.type_str_startswith v6 (pvd YW 0) (pa_1 zp)
   case' o2 => refine' zg ?o4
   case' o4 => refine' zl ?o5
   case' o5 => refine' x6 (yT xq (pvd YW 0) zp (zt _)) ?o6
   case' o6 => refine' wv ?o7
   case' o7 => refine' pe_f G hr (by decide) ?o8
   case' o8 => refine' pa_1 ?o9
   case o9 => exact zO Zq (pvd YW 0) (zM zd) yh
  case s2 =>
   refine' zl ?q0
   case q0 => exact pe_f G hr (by decide) (pa_1 (pvd YW 0))
 unfold sigB at hx
 walk_at "v"
 refine ⟨rfl, ?_⟩
 walk_at "v"
 refine ⟨x, _, rfl, rfl, ?_⟩
 by_cases hs : Txt.startswith x "-" = true
 ·rw [if_pos hs] at hx
  simp only [Bool.and_eq_true, Bool.not_eq_true', decide_eq_false_iff_not] at hx
  obtain ⟨h1, h2⟩ := hx
  rw [hs]
  walk_at "v"
  refine xW ?_
  walk_at "v"
  refine ⟨rfl, ?_⟩
  refine ⟨_, rfl, ?_⟩
  rw [decide_eq_false (fun e => h1 (V.str.inj e))]
  refine iteT ?_
  walk_at "v"
  refine ⟨_, rfl, ?_⟩
  refine ⟨x, rfl, by omega, ?_⟩
  walk_at "v"
  exact ⟨_, rfl, h2, fun H' K' => k H' K'⟩
 ·rw [if_neg hs] at hx
  rw [Bool.not_eq_true] at hs
  rw [hs]
  walk_at "v"
  exact ⟨_, rfl, hx, fun H' K' => k H' K'⟩
theorem W8 {i : Int} (h0 : 0 ≤ i) (h : i < 10 ^ 40) : i.natAbs.log2 < 1920 := by
 by_cases z : i.natAbs = 0
 ·rw [z]; decide
 ·refine (Nat.log2_lt z).mpr (Nat.lt_of_lt_of_le (m := 10 ^ 40) (by omega) ?_)
  exact Nat.le_of_ble_eq_true (by decide +kernel)
theorem w_while {c : TT} {tb : TS} {D : Ends} {σ : St} {H : Hp} (h : ∃ W : Nat → St → Hp → Prop, (∃ m, W m σ H) ∧ ∀ m σ H, W m σ H → c σ H fun b H1 => if b = true then ∃ N : St → Hp → Prop, (∀ σ' H', N σ' H' → ∃ m', m' < m ∧ W m' σ' H') ∧ tb { D with nx := N, ct := N, bk := D.nx } σ H1 else D.nx σ H1) : Xj c tb D σ H := h
def spWh : Nat → Sp
 | 0 => fun _ _ _ _ => False
 | 1 => fun vs H Q _ => ∃ i : Int, vs = [.int i] ∧ Nu i ∧ 0 ≤ i ∧ ∀ H', Same H H' → Q (.str (fT i)) H'
 | _ => fun vs H Q _ => ∃ i : Int, vs = [.int i] ∧ Nu i ∧ ∀ H', Same H H' → Q (.str (fT i)) H'
def spWo : Nat → Sp
 | 0 => fun _ _ _ _ => False
 | 1 => fun vs H Q _ => ∃ i : Int, vs = [.str (fT i)] ∧ Nu i ∧ 0 ≤ i ∧ ∀ H', Same H H' → Q (.int i) H'
 | _ => fun vs H Q _ => ∃ i : Int, vs = [.str (fT i)] ∧ Nu i ∧ ∀ H', Same H H' → Q (.int i) H'
theorem Wo {d : Nat} {vs : List V} {H : Hp} {Q : VK} {E : XK} (hd : d ≤ 1) (h : spWh (d + 1) vs H Q E) : ∃ i : Int, vs = [.int i] ∧ Nu i ∧ (d = 0 → 0 ≤ i) ∧ ∀ H', Same H H' → Q (.str (fT i)) H' := by
 rcases (by omega : d = 0 ∨ d = 1) with rfl | rfl
 ·obtain ⟨i, h1, h2, h3, h4⟩ := h
  exact ⟨i, h1, h2, fun _ => h3, h4⟩
 ·obtain ⟨i, h1, h2, h4⟩ := h
  exact ⟨i, h1, h2, fun z => absurd z (by decide), h4⟩
theorem Wn {d : Nat} {vs : List V} {H : Hp} {Q : VK} {E : XK} (hd : d ≤ 1) (h : spWo (d + 1) vs H Q E) : ∃ i : Int, vs = [.str (fT i)] ∧ Nu i ∧ (d = 0 → 0 ≤ i) ∧ ∀ H', Same H H' → Q (.int i) H' := by
 rcases (by omega : d = 0 ∨ d = 1) with rfl | rfl
 ·obtain ⟨i, h1, h2, h3, h4⟩ := h
  exact ⟨i, h1, h2, fun _ => h3, h4⟩
 ·obtain ⟨i, h1, h2, h4⟩ := h
  exact ⟨i, h1, h2, fun z => absurd z (by decide), h4⟩
abbrev sWh : Stmt := top 10
abbrev nWh : List Str := ["number", "behind", "left"]
theorem nmWh : Nm nWh (zc sWh) := nmk (by decide +kernel)
theorem scWh : FnScope nWh ["number"] (zc sWh) := fsk (by decide +kernel)
abbrev sWo : Stmt := top 9
abbrev nWo : List Str := ["word", "number", "ahead", "start"]
theorem nmWo : Nm nWo (zc sWo) := nmk (by decide +kernel)
theorem scWo : FnScope nWo ["word"] (zc sWo) := fsk (by decide +kernel)
theorem WZ {f : Addr} {fd : FuncData} {d : Nat} (hd : d ≤ 1) (B : Blt4 mg) (fR : Has P w K mg base (d + 1) "shown_whole" ["number"] (spWh d)) (F : Fun K "shown_whole" "shown_whole" sWh f fd) : FnOk P w K mg base CX0 (d + 2) f fd ["number"] (spWh (d + 1)) := by
 refine F.ok scWh (fun vs H Q E h => ?_) (fun cdv A outer s H vs Q E hr h => ?_)
 ·obtain ⟨i, rfl, _⟩ := Wo hd h
  rfl
 ·obtain ⟨i, rfl, hi, hn, k⟩ := Wo hd h
  clear h
  refine' ⟨_, ?hb, ?rd⟩
  case' hb => skip
  case' hb => refine' zf ?g1 ?g2
  case' g2 => refine' zf ?g3 ?g4
  case' g4 => refine' zf ?g5 ?g6
  case' g6 => refine' zf ?g7 ?g8
  case' g8 => refine' zg ?g9
  case' g1 => refine' zC ?g10 ?g11 zw
  case g10 => exact zq YU (pvd nmWh 0) zd (zt _)
  case' g11 => refine' zg ?g13
  case g13 => exact zl (zo zI zp (pe_f fR hr (by omega) (pa_1 (wN xu (pvd nmWh 0)))))
  case g3 => exact zj nmWh 1 zp
  case g5 => exact zj nmWh 2 (pvd nmWh 0)
  case' g7 => refine' ps_while PassesOwn.never ?g14 ?g15
  case g14 => exact zq vX (pvd nmWh 2) (pe_k B.psz) (zt _)
  case' g15 => refine' zf ?g16 ?g17
  case' g17 => refine' zg ?g18
  case g16 => exact zj nmWh 1 (zo zI (yn PySem.F.plainAttrs_str PySem.F.slot_str_zfill PySem.F.type_str_zfill mt_zfill (zK yg B.str PyProof.Rows.boot_str (pa_1 (zo yO (pvd nmWh 2) (pe_k B.psz)))) (pa_1 (pe_k B.part))) (pvd nmWh 1))
  case g18 => exact zj nmWh 2 (zo op_fdivC (pvd nmWh 2) (pe_k B.psz))
  case g9 => exact zl (zo zI (zK yg B.str PyProof.Rows.boot_str (pa_1 (pvd nmWh 2))) (pvd nmWh 1))
  case rd =>
   have hN := zL hi
   walk_at "v"
   refine iteD (fun hneg => ?_) (fun hpos => ?_)
   ·obtain ⟨g1, g2, _, _⟩ := XW i hi hneg
    have d1 : d = 1 := by
     rcases Nat.lt_or_ge d 1 with z | z
     ·have := hn (by omega); omega
     ·omega
    subst d1
    walk_at "v"
    refine ⟨_, rfl, ?_⟩
    walk_at "v"
    refine ⟨-i, rfl, g1, by omega, fun H' K' => ?_⟩
    have hN' := (zL g1).l40
    refine ⟨_, _, rfl, rfl, ?_, ?_⟩
    ·rw [sizeLine_eq]
     show 1 + _ ≤ _
     omega
    rw [g2]
    exact k H' K'
   have i0 : 0 ≤ i := by omega
   obtain ⟨s1, _, _⟩ := XG i hi i0
   unfold shOk at s1
   simp only [Bool.and_eq_true, decide_eq_true_eq, List.all_eq_true, List.mem_range, Bool.not_eq_true'] at s1
   obtain ⟨⟨⟨⟨⟨s2, s3⟩, s4⟩, s5⟩, s6⟩, s7⟩ := s1
   have hpow : ∀ n : Nat, n ≤ shN i → 0 ≤ shL i n ∧ shL i n < 10 ^ 40 := by
    intro n hn'
    induction n with
    | zero => exact ⟨i0, hN.hi⟩
    | succ n ih =>
     have := ih (by omega)
     refine ⟨Int.ediv_nonneg this.1 (by decide), ?_⟩
     show shL i n / 1000000000000000000 < _
     omega
   walk_at "v"
   refine w_while ⟨fun m σ H' => ∃ n, n + m = shN i ∧ σ = [some (.int i), some (.str (shB i n)), some (.int (shL i n))] ∧ Same H H', ⟨shN i, 0, by omega, rfl, Same.refl _⟩, ?_⟩
   rintro m σ H' ⟨n, hnm, rfl, K'⟩
   walk_at "v"
   refine iteD (fun hge => ?_) (fun hlt => ?_)
   ·have hm : n ≠ shN i := fun z => by rw [z] at hge; omega
    obtain ⟨⟨⟨t0, t1⟩, t2⟩, t3⟩ := s2 n (by omega)
    have hp := hpow n (by omega)
    refine ⟨fun σ' H'' => σ' = [some (.int i), some (.str (shB i (n + 1))), some (.int (shL i (n + 1)))] ∧ Same H H'', fun σ' H'' ⟨e1, e2⟩ => ⟨m - 1, by omega, n + 1, by omega, e1, e2⟩, ?_⟩
    walk_at "v"
    refine w_rI (by decide) ?_
    have hmd := md (i := shL i n) (j := 1000000000000000000) (by decide)
    walk_at "v"
    refine ⟨_, rfl, W8 hmd.1 (Int.lt_trans hmd.2 (by decide)), ?_⟩
    refine ⟨rfl, ?_⟩
    walk_at "v"
    refine ⟨_, _, rfl, rfl, by decide, ?_⟩
    walk_at "v"
    refine ⟨_, _, rfl, rfl, by rw [sizeLine_eq]; have t2' : (Txt.zfill (Str.ofString (toString (shL i n % 1000000000000000000))) 18).length ≤ 100 := t2; omega, ?_⟩
    walk_at "v"
    refine w_rI ⟨by decide, t0⟩ ?_
    walk_at "v"
    exact ⟨rfl, K'⟩
   ·have hm : n = shN i := by
     rcases Nat.lt_or_ge n (shN i) with z | z
     ·exact absurd (s2 n z).1.1.2 hlt
     ·omega
    subst hm
    walk_at "v"
    refine ⟨_, rfl, W8 s4 (Int.lt_trans s3 (by decide)), ?_⟩
    walk_at "v"
    refine ⟨_, _, rfl, rfl, by rw [sizeLine_eq]; have s6' : (Str.ofString (toString (shL i (shN i)))).length ≤ 100 := s6; omega, ?_⟩
    have := k H' K'
    rw [← s5] at this
    exact this
theorem WY {f : Addr} {fd : FuncData} {d : Nat} (hd : d ≤ 1) (B : Blt4 mg) (fR : Has P w K mg base (d + 1) "whole_of" ["word"] (spWo d)) (F : Fun K "whole_of" "whole_of" sWo f fd) : FnOk P w K mg base CX0 (d + 2) f fd ["word"] (spWo (d + 1)) := by
 refine F.ok scWo (fun vs H Q E h => ?_) (fun cdv A outer s H vs Q E hr h => ?_)
 ·obtain ⟨i, rfl, _⟩ := Wn hd h
  rfl
 ·obtain ⟨i, rfl, hi, hn, k⟩ := Wn hd h
  clear h
  refine' ⟨_, ?hb, ?rd⟩
  case' hb => skip
  case' hb => refine' zf ?g1 ?g2
  case' g2 => refine' zf ?g3 ?g4
  case' g4 => refine' zf ?g5 ?g6
  case' g6 => refine' zf ?g7 ?g8
  case' g8 => refine' zf ?g9 ?g10
  case' g10 => refine' zg ?g11
  case' g1 => refine' zC ?g12 ?g13 zw
  case g12 => exact yr (yn PySem.F.plainAttrs_str PySem.F.slot_str_startswith PySem.F.type_str_startswith v6 (pvd nmWo 0) (pa_1 zp))
  case' g13 => refine' zg ?g15
  case g15 => exact zl (wN xu (pe_f fR hr (by omega) (pa_1 (zO Zq (pvd nmWo 0) (zM zd) yh))))
  case g3 => exact zj nmWo 1 zd
  case g5 => exact zj nmWo 2 (zo yO (zF wk B.len PySem.boot_len (pa_1 (pvd nmWo 0))) (pe_k B.part))
  case' g7 => refine' zC ?g16 ?g17 zw
  case g16 => exact zq vW (pvd nmWo 2) zd (zt _)
  case' g17 => refine' zg ?g19
  case g19 => exact zj nmWo 1 (zK Zf B.int PyProof.Rows.boot_int (pa_1 (zO Zq (pvd nmWo 0) yh (zM (pvd nmWo 2)))))
  case' g9 => refine' yt PassesOwn.never rfl ?g20 (pgd nmWo 3) ?g21
  case g20 => exact pi_r18 B.range (pa_c (pvd nmWo 2) (pa_2 (zF wk B.len PySem.boot_len (pa_1 (pvd nmWo 0))) (pe_k B.part)))
  case' g21 => refine' zg ?g22
  case g22 => exact zj nmWo 1 (zo zR (zo x8 (pvd nmWo 1) (pe_k B.psz)) (zK Zf B.int PyProof.Rows.boot_int (pa_1 (zO Zq (pvd nmWo 0) (zM (pvd nmWo 3)) (zM (zo zR (pvd nmWo 3) (pe_k B.part)))))))
  case g11 => exact zl (pvd nmWo 1)
  case rd =>
   have hN := zL hi
   walk_at "v"
   refine ⟨rfl, ?_⟩
   walk_at "v"
   refine ⟨_, _, rfl, rfl, ?_⟩
   by_cases hneg : i < 0
   ·obtain ⟨g1, g2, g3, g4⟩ := XW i hi hneg
    have d1 : d = 1 := by
     rcases Nat.lt_or_ge d 1 with z | z
     ·have := hn (by omega); omega
     ·omega
    subst d1
    rw [g4]
    walk_at "v"
    refine ⟨_, rfl, ?_⟩
    refine ⟨fT i, rfl, by have := hN.l40; omega, ?_⟩
    rw [g3]
    walk_at "v"
    refine ⟨-i, rfl, g1, by omega, fun H' K' => ?_⟩
    walk_at "v"
    refine ⟨_, rfl, ?_⟩
    rw [Int.neg_neg]
    exact k H' K'
   have i0 : 0 ≤ i := by omega
   obtain ⟨_, w1, w2⟩ := XG i hi i0
   rw [w2]
   unfold wofB at w1
   simp only [Bool.and_eq_true, decide_eq_true_eq, List.all_eq_true, List.mem_range] at w1
   obtain ⟨w3, w4⟩ := w1
   have hl := hN.l40
   walk_at "v"
   refine ⟨_, rfl, by rw [sizeLine_eq]; omega, ?_⟩
   walk_at "v"
   refine w_rI (by decide) ?_
   have hA : (((fT i).length : Int) % 18) = ((wofA (fT i) : Nat) : Int) := by unfold wofA; omega
   rw [hA]
   refine yk ?_
   have hA18 : wofA (fT i) < 18 := Nat.mod_lt _ (by decide)
   obtain ⟨n0, hn0⟩ : ∃ n0, wof (fT i) 0 = some n0 := by
    have := w4 0 (by omega)
    cases h0 : wof (fT i) 0 with
    | none => rw [h0] at this; cases this
    | some n0 => exact ⟨n0, rfl⟩
   have hW : ∀ j, j ≤ wofN (fT i) → ∃ n, wof (fT i) j = some n ∧ 0 ≤ n ∧ n ≤ 10 ^ 40 := fun j hj => by
    have := w4 j (by omega)
    cases h0 : wof (fT i) j with
    | none => rw [h0] at this; cases this
    | some n =>
     rw [h0] at this
     simp only [Bool.and_eq_true, decide_eq_true_eq] at this
     exact ⟨n, rfl, this⟩
   with_reducible refine yM (fun σ H' => σ = [some (.str (fT i)), some (.int n0), some (.int (wofA (fT i) : Int)), none] ∧ Same H H') ?_ ?_
   ·rintro σ H1 ⟨rfl, K1⟩
    walk_at "v"
    refine w_forR18 ?_
    walk_at "v"
    refine ⟨_, rfl, by rw [sizeLine_eq]; omega, ?_⟩
    walk_at "v"
    refine ⟨_, _, rfl, ⟨by omega, by omega, by omega, by omega⟩, ?_⟩
    refine for_rangeS (fun j σ H' => ∃ n u, wof (fT i) j = some n ∧ σ = [some (.str (fT i)), some (.int n), some (.int (wofA (fT i) : Int)), u] ∧ Same H H') ⟨n0, _, hn0, rfl, K1⟩ ?_ ?_
    ·rintro j σ H2 hj ⟨n, u, e1, rfl, K2⟩
     obtain ⟨n', e2, _, _⟩ := hW (j + 1) (by unfold wofN; omega)
     obtain ⟨n'', e3, b1, b2⟩ := hW j (by unfold wofN; omega)
     rw [e1] at e3
     cases e3
     unfold wof at e2
     rw [e1] at e2
     cases e4 : itx (Txt.slice (fT i) (some ((wofA (fT i) : Int) + (j : Int) * 18)) (some ((wofA (fT i) : Int) + (j : Int) * 18 + 18))) with
     | none => rw [e4] at e2; cases e2
     | some m =>
      rw [e4] at e2
      walk_at "v"
      refine w_rI (.inr ⟨by decide, by decide⟩) ?_
      walk_at "v"
      refine ⟨_, rfl, ?_⟩
      walk_at "v"
      refine ⟨_, rfl, ?_⟩
      refine ⟨fT i, rfl, by omega, ?_⟩
      walk_at "v"
      obtain ⟨f1, f2⟩ := X7 e4
      refine ⟨_, m, rfl, f1, f2, ?_⟩
      walk_at "v"
      have e5 : wof (fT i) (j + 1) = some (n * 1000000000000000000 + m) := by
       unfold wof
       rw [e1, Option.bind_some, e4]
       rfl
      exact ⟨_, _, e5, rfl, K2⟩
    ·rintro σ H2 ⟨n, u, e1, rfl, K2⟩
     walk_at "v"
     have e2 : wof (fT i) (wofN (fT i)) = some n := e1
     rw [w3] at e2
     cases e2
     exact k H2 K2
   ·intro hp
    unfold wof at hn0
    refine wc ?_
    walk_at "v"
    refine iteD (fun hA0 => ?_) (fun hA0 => ?_)
    ·rw [if_pos (by omega)] at hn0
     obtain ⟨f1, f2⟩ := X7 hn0
     refine xG ?_
     walk_at "v"
     refine ⟨_, rfl, ?_⟩
     refine ⟨fT i, rfl, by omega, ?_⟩
     walk_at "v"
     refine ⟨_, n0, rfl, f1, f2, ?_⟩
     refine yk ?_
     exact hp _ _ ⟨rfl, Same.refl _⟩
    ·rw [if_neg (by omega)] at hn0
     cases hn0
     exact hp _ _ ⟨rfl, Same.refl _⟩
end
end K37
namespace L2
open PySem PySem.Spec PyProof.Rows G2
structure Kp (S : Hp → Hp → Prop) (D : Addr) (H : Hp) : Prop where
 refl : S H (upd H D (.lst []))
 tr : ∀ {H1 H2}, S H H1 → S H1 H2 → S H H2
 at' : ∀ {H1 H2 o}, S H H1 → S H1 H2 → H1 D = some o → H2 D = some o
 put : ∀ {H1 o}, S H H1 → S H (upd H1 D o)
theorem Kp.same {D : Addr} {H : Hp} (hD : H D = none) : Kp Same D H := ⟨Same.new (Same.refl _) hD, fun a b => a.trans b, fun _ b e => b _ _ e, fun a => a.put hD⟩
section
variable {S : Hp → Hp → Prop} {D : Addr} {te : TE} {Q : VK} {ρ : St} {H : Hp} {K : W.Frag} {a : Addr} {xs : List V}
abbrev GP (S : Hp → Hp → Prop) (Ok : Nat → V → Hp → Prop) (H : Hp) (i : Nat) (ys : List V) (H' : Hp) : Prop := S H H' ∧ ys.length = i ∧ ∀ (j : Nat) (y : V), ys[j]? = some y → Ok j y H'
theorem wj {Ok : Nat → V → Hp → Prop} (kp : Kp S D H) (mono : ∀ {j y H1 H2}, TK H1 H2 → Ok j y H1 → Ok j y H2) (tk : ∀ {H1 H2}, S H H1 → S H1 H2 → TK H1 H2) {i : Nat} {ys : List V} {H' H4 : Hp} {y : V} (g : GP S Ok H i ys H') (k : S H' H4) (hD : H4 D = some (.lst ys)) (hy : Ok i y H4) : GP S Ok H (i + 1) (ys ++ [y]) (upd H4 D (.lst (ys ++ [y]))) := by
 obtain ⟨g1, g2, g3⟩ := g
 have t2 : TK H4 (upd H4 D (.lst (ys ++ [y]))) := TK.lst hD
 refine ⟨kp.put (kp.tr g1 k), by rw [List.length_append, g2]; rfl, fun j z hz => ?_⟩
 by_cases hj : j < ys.length
 ·rw [List.getElem?_append_left hj] at hz
  exact mono t2 (mono (tk g1 k) (g3 j z hz))
 ·have hj' : j < (ys ++ [y]).length := (List.getElem?_eq_some_iff.mp hz).1
  rw [List.length_append, List.length_singleton] at hj'
  obtain rfl : j = ys.length := by omega
  rw [List.getElem?_append_right (Nat.le_refl _), Nat.sub_self] at hz
  cases hz
  rw [g2]
  exact mono t2 hy
theorem yY (Ok : Nat → V → Hp → Prop) (kp : Kp S D H) (mono : ∀ {j y H1 H2}, TK H1 H2 → Ok j y H1 → Ok j y H2) (tk : ∀ {H1 H2}, S H H1 → S H1 H2 → TK H1 H2) (hn : xs.length ≤ 1000) (src : ∀ H', S H H' → SqT K H' a xs)
  (step : ∀ i x H' (R : V → Hp → Prop), xs[i]? = some x → S H H' → (∀ y H4, S H' H4 → Ok i y H4 → R y H4) → te (some x :: ρ) H' R)
  (q : ∀ ys H', GP S Ok H xs.length ys H' → H' D = some (.lst ys) → Q (.ref D) H') : CGo (Itt K a) D (zU 0) tAll te Q (none :: ρ) H := by
 refine ZH (xs := xs) (fun i ys H' => GP S Ok H i ys H') ⟨kp.refl, rfl, fun j y h => by simp at h⟩ (fun i ys H' _ g => src H' g.1) ?_ q
 rintro i x ys H' hx g hDz R S' kR _
 have hi := (List.getElem?_eq_some_iff.mp hx).1
 refine yz (iteT (step i x H' R hx g.1 fun y H4 k hy => kR y H4 (kp.at' g.1 k hDz) (zn (by have := g.2.1; omega)) (wj (Ok := Ok) kp mono tk g k (kp.at' g.1 k hDz) hy)))
theorem wD (Ok : Nat → V → Hp → Prop) (kp : Kp S D H) (mono : ∀ {j y H1 H2}, TK H1 H2 → Ok j y H1 → Ok j y H2) (tk : ∀ {H1 H2}, S H H1 → S H1 H2 → TK H1 H2) (hn : xs.length ≤ 1000) (src : ∀ H', S H H' → SqL K H' a xs)
  (step : ∀ i x H' (R : V → Hp → Prop), xs[i]? = some x → S H H' → (∀ y H4, S H' H4 → Ok i y H4 → R y H4) → te (some x :: ρ) H' R)
  (q : ∀ ys H', GP S Ok H xs.length ys H' → H' D = some (.lst ys) → Q (.ref D) H') : CGo (Itl K a) D (zU 0) tAll te Q (none :: ρ) H := by
 refine ZZ (xs := xs) (fun i ys H' => GP S Ok H i ys H') ⟨kp.refl, rfl, fun j y h => by simp at h⟩ (fun i ys H' _ g => src H' g.1) ?_ q
 rintro i x ys H' hx g hDz R S' kR _
 have hi := (List.getElem?_eq_some_iff.mp hx).1
 refine yz (iteT (step i x H' R hx g.1 fun y H4 k hy => kR y H4 (kp.at' g.1 k hDz) (zn (by have := g.2.1; omega)) (wj (Ok := Ok) kp mono tk g k (kp.at' g.1 k hDz) hy)))
theorem gm_rng (Ok : Nat → V → Hp → Prop) {lo : Int} {n : Nat} (kp : Kp S D H) (mono : ∀ {j y H1 H2}, TK H1 H2 → Ok j y H1 → Ok j y H2) (tk : ∀ {H1 H2}, S H H1 → S H1 H2 → TK H1 H2) (hn : n ≤ 1000)
  (step : ∀ i H' (R : V → Hp → Prop), i < n → S H H' → (∀ y H4, S H' H4 → Ok i y H4 → R y H4) → te (some (.int (lo + i)) :: ρ) H' R)
  (q : ∀ ys H', GP S Ok H n ys H' → H' D = some (.lst ys) → Q (.ref D) H') : CGo (Itr lo n) D (zU 0) tAll te Q (none :: ρ) H := by
 refine yw (fun i ys H' => GP S Ok H i ys H') ⟨kp.refl, rfl, fun j y h => by simp at h⟩ ?_ q
 rintro i ys H' hi g hDz R S' kR _
 refine yz (iteT (step i H' R hi g.1 fun y H4 k hy => kR y H4 (kp.at' g.1 k hDz) (zn (by have := g.2.1; omega)) (wj (Ok := Ok) kp mono tk g k (kp.at' g.1 k hDz) hy)))
theorem yy {α : Type} {f : α → V} {zs : List α} {ys : List V} (hl : ys.length = zs.length) (h : ∀ (j : Nat) (y : V), ys[j]? = some y → ∃ z, zs[j]? = some z ∧ y = f z) : ys = zs.map f := by
 refine List.ext_getElem (by simp [hl]) fun i h1 h2 => ?_
 obtain ⟨z, e1, e2⟩ := h i ys[i] (by simp [h1])
 have h3 : i < zs.length := by omega
 rw [List.getElem?_eq_getElem h3] at e1
 cases e1
 simpa using e2
end
end L2
namespace K37
open PySem L2 G2
theorem X4 {c B : Nat} : ∀ (ls : List (List Nat)), (∀ l ∈ ls, l.length ≤ B) → (jn c ls).length ≤ ls.length * (B + 1)
 | [], _ => Nat.zero_le _
 | [w], h => by
  have := h w (by simp)
  show w.length ≤ 1 * (B + 1)
  omega
 | w :: v :: r, h => by
  have h1 := h w (by simp)
  have ih := X4 (c := c) (v :: r) fun l hl => h l (List.mem_cons_of_mem _ hl)
  show (w ++ c :: jn c (v :: r)).length ≤ _
  rw [List.length_append, List.length_cons, List.length_cons, Nat.succ_mul]
  omega
theorem y8 : (" " : Str) = ⟨#[32]⟩ := by decide
theorem ZY : (":" : Str) = ⟨#[58]⟩ := by decide
def ln (ws : List Str) : Str := Txt.join " " ws
structure Wd (w : Str) : Prop where
 l : w.length ≤ 50
 nb : 32 ∉ w.cps.toList
theorem xy {ws : List Str} (h : ∀ w ∈ ws, Wd w) (hl : ws.length ≤ 19) : (ln ws).length ≤ 1000 := by
 unfold ln
 rw [y8, show Txt.join ⟨#[32]⟩ ws = Str.join ⟨#[32]⟩ ws from StrLaws.glued_eq_join _ _]
 show (Str.join ⟨#[32]⟩ ws).cps.size ≤ _
 rw [← Array.length_toList, yl]
 refine Nat.le_trans (X4 (B := 50) _ fun l hl => ?_) ?_
 ·obtain ⟨p, hp, rfl⟩ := List.mem_map.mp hl
  rw [Array.length_toList]
  exact (h p hp).l
 ·rw [List.length_map]
  omega
theorem wb {ws : List Str} (h : ∀ w ∈ ws, Wd w) (hl : ws.length ≤ 19) : JoinOk " " ws = true ∧ (Txt.join " " ws).length ≤ sizeLine := by
 refine ⟨?_, Nat.le_trans (xy h hl) (by decide)⟩
 rw [y8]
 unfold JoinOk
 have z := StrLaws.joinFits (sep := ⟨#[32]⟩) (fun w hw => (h w hw).l) (by show ws.length * 50 + ws.length * 1 ≤ 16777216; omega)
 rw [z]
 rfl
theorem vC {ws : List Str} (hne : ws ≠ []) (h : ∀ w ∈ ws, Wd w) : Txt.split (ln ws) " " = ws := by
 unfold ln
 rw [y8]
 exact vk 32 hne fun w hw => (h w hw).nb
theorem xt {i : Int} (h : Nu i) : Wd (fT i) := ⟨Nat.le_trans (zL h).l40 (by decide), (zL h).nb⟩
abbrev sSws : Stmt := top 11
abbrev nSws : List Str := ["numbers"]
theorem nmSws : Nm nSws (zc sSws) := nmk (by decide +kernel)
theorem scSws : FnScope nSws ["numbers"] (zc sSws) := fsk (by decide +kernel)
def qSwsa (s : Stmt) : Scope := match s with
 | .Return (some (.Call _ [(.ListComp _ _ sc _)] _ _)) _ => sc
 | _ => nsc
abbrev cSwsa : Scope := qSwsa ((zu sSws).getD 0 (.Pass ⟨0, 0, 0, 0⟩))
theorem bsSwsa : BScope (zc sSws) cSwsa ["number"] [] ["shown_whole"] := { okind := by decide +kernel, kind := by decide +kernel, nocell := by decide +kernel, names := by decide +kernel, fr := by decide +kernel, ff := by decide +kernel, nd := by decide +kernel, vis := by decide +kernel, loc := by decide +kernel, gl := by decide +kernel }
def Xq : Sp := fun vs H Q _ => ∃ (p : Addr) (ns : List Int), vs = [.ref p] ∧ H p = some (.tup (ns.map V.int)) ∧ ns.length ≤ 19 ∧ (∀ i ∈ ns, Nu i) ∧ ∀ H', Same H H' → Q (.str (ln (ns.map fT))) H'
section
variable {P : Program} {w : World} {K : W.Frag} {mg : Str → Option Value} {base : Heap}
theorem ok_Sws {f : Addr} {fd : FuncData} (B : Blt4 mg) (fW : Has P w K mg base 3 "shown_whole" ["number"] (spWh 2)) (F : Fun K "shown_wholes" "shown_wholes" sSws f fd) : FnOk P w K mg base CX0 4 f fd ["numbers"] Xq := by
 refine F.ok scSws (fun vs H Q E h => ?_) (fun cdv A outer s H vs Q E hr h => ?_)
 ·obtain ⟨p, ns, rfl, _⟩ := h
  rfl
 obtain ⟨p, ns, rfl, hp, hn, hN, k⟩ := h
 refine' ⟨_, ?hb, ?rd⟩
 case' hb => skip
 case' hb => refine' zg ?g1
 case' g1 => refine' zl ?g2
 case' g2 => refine' yn PySem.F.plainAttrs_str PySem.F.slot_str_join PySem.F.type_str_join xl zp ?g3
 case' g3 => refine' pa_1 ?g4
 case' g4 => refine' zB (ix := []) bsSwsa.toCScope rfl rfl ?g5 ?g6 ?g7 ?g8
 case g5 => exact yd (pvd nmSws 0)
 case g6 => exact fun _ _ _ _ _ _ => pgb bsSwsa 0
 case g7 => exact fun _ _ _ _ _ _ => zz
 case g8 => exact fun _ _ _ _ _ _ => pe_f fW hr (by decide) (pa_1 (pvb bsSwsa 0)) (bsSwsa.g 0)
 walk_at "v"
 refine ⟨rfl, ?_⟩
 walk_at "v"
 refine ⟨p, rfl, ⟨_, SqT.of hp⟩, fun D hD => ?_⟩
 refine yY (S := Same) (xs := ns.map V.int) (ρ := []) (fun j y _ => ∃ i, ns[j]? = some i ∧ y = .str (fT i)) (Kp.same hD) (fun _ h => h) (fun _ b => TK.same b) (by rw [List.length_map]; omega) (fun H' k' => SqT.of (k' _ _ hp)) ?_ ?_
 ·rintro i x H' R hx K' kR
  rw [List.getElem?_map] at hx
  cases hi : ns[i]? with
  | none => rw [hi] at hx; cases hx
  | some z =>
   rw [hi] at hx
   cases hx
   walk_at "v"
   exact ⟨z, rfl, hN z (List.mem_of_getElem? hi), fun H4 K4 => kR _ _ K4 ⟨z, hi, rfl⟩⟩
 ·rintro ys H1 ⟨K1, hl, hY⟩ e1
  rw [List.length_map] at hl
  have e := yy (f := fun i => V.str (fT i)) hl hY
  subst e
  have e2 : H1 D = some (.lst ((ns.map fT).map V.str)) := by rw [List.map_map]; exact e1
  have hw : ∀ w ∈ ns.map fT, Wd w := fun w hw => by
   obtain ⟨i, hi, rfl⟩ := List.mem_map.mp hw
   exact xt (hN i hi)
  obtain ⟨j1, j2⟩ := wb hw (by rw [List.length_map]; exact hn)
  refine ⟨_, D, _, rfl, rfl, e2, j1, j2, ?_⟩
  exact k H1 K1
end
end K37
namespace L2
open PySem PySem.Spec PyProof.Rows G2
section
variable {S : Hp → Hp → Prop} {D : Addr} {te : TE} {Q : VK} {ρ : St} {H : Hp} {K : W.Frag} {a : Addr} {rs : List Addr}
theorem Y2 (Ok : Nat → V → Hp → Prop) (kp : Kp S D H) (mono : ∀ {j y H1 H2}, TK H1 H2 → Ok j y H1 → Ok j y H2) (tk : ∀ {H1 H2}, S H H1 → S H1 H2 → TK H1 H2) (hn : rs.length ≤ 1000) (src : ∀ H', S H H' → SqT K H' a (rs.map V.ref))
  (step : ∀ i r H', rs[i]? = some r → S H H' → ∃ u v, H' r = some (.tup [u, v]) ∧ ∀ (R : V → Hp → Prop), (∀ y H4, S H' H4 → Ok i y H4 → R y H4) → te (some u :: some v :: ρ) H' R)
  (q : ∀ ys H', GP S Ok H rs.length ys H' → H' D = some (.lst ys) → Q (.ref D) H') : CGo (Itt K a) D (gTup K 2 (yP (zU 0) (yP (zU 1) gNil))) tAll te Q (none :: none :: ρ) H := by
 refine ⟨fun i m τ ys H' => m = rs.length - i ∧ i ≤ rs.length ∧ (∃ tv tw, τ = tv :: tw :: ρ) ∧ GP S Ok H i ys H' ∧ H' D = some (.lst ys), ⟨rs.length, by omega, Nat.zero_le _, ⟨_, _, rfl⟩, ⟨kp.refl, rfl, fun j y h => by simp at h⟩, ze⟩, ?_⟩
 rintro i m τ ys H' ⟨rfl, hi, ⟨tv, tw, rfl⟩, g, hD⟩
 refine ⟨hD, ?_⟩
 have sq := src H' g.1
 by_cases hlt : i < rs.length
 ·refine .inr ⟨⟨_, .ref rs[i], sq, by simp [hlt]⟩, ?_⟩
  rintro v H'' ⟨rfl, hv⟩
  have hv' := hv _ sq
  rw [List.getElem?_map, List.getElem?_eq_getElem hlt] at hv'
  cases hv'
  obtain ⟨u, v, e, h⟩ := step i rs[i] _ (List.getElem?_eq_getElem hlt) g.1
  refine ⟨rs[i], [u, v], rfl, SqT.of e, rfl, u, [v], rfl, v, [], rfl, rfl, ?_⟩
  refine yz (iteT (h _ fun y H4 k hy => ⟨kp.at' g.1 k hD, zn (by have := g.2.1; omega), rs.length - (i + 1), by omega, rfl, hlt, ⟨_, _, rfl⟩, wj (Ok := Ok) kp mono tk g k (kp.at' g.1 k hD) hy, ze⟩))
 ·have e : i = rs.length := by omega
  subst e
  exact .inl ⟨⟨_, sq, by simp⟩, q ys _ g hD⟩
end
end L2
namespace K37
open PySem L2 G2
abbrev Wt := Int × Int
structure WOk (w : List Wt) : Prop where
 l3 : w.length ≤ 3
 nu : ∀ x ∈ w, Nu x.1 ∧ 0 ≤ x.1 ∧ x.1 ≤ 11 ∧ Nu x.2 ∧ 1 ≤ x.2
 up : (w.map (·.1)).Pairwise (· < ·)
def wW (x : Wt) : Str := fT x.1 ++ ":" ++ fT x.2
def PrsA (H : Hp) : List Addr → List Wt → Prop
 | [], [] => True
 | a :: as, x :: xs => H a = some (.tup [.int x.1, .int x.2]) ∧ PrsA H as xs
 | _, _ => False
theorem PrsA.tk {H H' : Hp} (k : TK H H') : ∀ {as : List Addr} {w : List Wt}, PrsA H as w → PrsA H' as w
 | [], [], _ => trivial
 | _ :: _, _ :: _, h => ⟨k.t _ _ h.1, PrsA.tk k h.2⟩
 | [], _ :: _, h => h.elim
 | _ :: _, [], h => h.elim
theorem PrsA.len {H : Hp} : ∀ {as : List Addr} {w : List Wt}, PrsA H as w → as.length = w.length
 | [], [], _ => rfl
 | _ :: _, _ :: _, h => by rw [List.length_cons, List.length_cons, PrsA.len h.2]
 | [], _ :: _, h => h.elim
 | _ :: _, [], h => h.elim
theorem PrsA.at {H : Hp} : ∀ {as : List Addr} {w : List Wt}, PrsA H as w → ∀ {i : Nat} {a : Addr}, as[i]? = some a → ∃ x, w[i]? = some x ∧ H a = some (.tup [.int x.1, .int x.2])
 | _ :: _, x :: _, h, 0, _, e => ⟨x, rfl, by cases e; exact h.1⟩
 | _ :: _, _ :: _, h, i + 1, _, e => PrsA.at h.2 (i := i) e
 | [], [], _, _, _, e => by cases e
 | [], _ :: _, h, _, _, _ => h.elim
 | _ :: _, [], h, _, _, _ => h.elim
def WsAt (H : Hp) (q : Addr) (w : List Wt) : Prop := ∃ as : List Addr, H q = some (.tup (as.map V.ref)) ∧ PrsA H as w
theorem WsAt.tk {H H' : Hp} (k : TK H H') {q : Addr} {w : List Wt} : WsAt H q w → WsAt H' q w := fun ⟨as, h1, h2⟩ => ⟨as, k.t _ _ h1, h2.tk k⟩
def All2 {α β : Type} (R : α → β → Prop) : List α → List β → Prop
 | [], [] => True
 | a :: as, b :: bs => R a b ∧ All2 R as bs
 | _, _ => False
theorem All2.mono {α β : Type} {R R' : α → β → Prop} (k : ∀ a b, R a b → R' a b) : ∀ {as : List α} {bs : List β}, All2 R as bs → All2 R' as bs
 | [], [], _ => trivial
 | _ :: _, _ :: _, h => ⟨k _ _ h.1, All2.mono k h.2⟩
 | [], _ :: _, h => h.elim
 | _ :: _, [], h => h.elim
theorem All2.len {α β : Type} {R : α → β → Prop} : ∀ {as : List α} {bs : List β}, All2 R as bs → as.length = bs.length
 | [], [], _ => rfl
 | _ :: _, _ :: _, h => by rw [List.length_cons, List.length_cons, All2.len h.2]
 | [], _ :: _, h => h.elim
 | _ :: _, [], h => h.elim
theorem All2.at {α β : Type} {R : α → β → Prop} : ∀ {as : List α} {bs : List β}, All2 R as bs → ∀ {i : Nat} {b : β}, bs[i]? = some b → ∃ a, as[i]? = some a ∧ R a b
 | a :: _, _ :: _, h, 0, _, e => ⟨a, rfl, by cases e; exact h.1⟩
 | _ :: _, _ :: _, h, i + 1, _, e => All2.at h.2 (i := i) e
 | [], [], _, _, _, e => by cases e
 | [], _ :: _, h, _, _, _ => h.elim
 | _ :: _, [], h, _, _, _ => h.elim
theorem All2.of {α β : Type} {R : α → β → Prop} : ∀ {as : List α} {bs : List β}, as.length = bs.length → (∀ (i : Nat) (a : α) (b : β), as[i]? = some a → bs[i]? = some b → R a b) → All2 R as bs
 | [], [], _, _ => trivial
 | a :: as, b :: bs, hl, h => ⟨h 0 a b rfl rfl, All2.of (by simpa using hl) fun i x y e1 e2 => h (i + 1) x y e1 e2⟩
 | [], _ :: _, hl, _ => by cases hl
 | _ :: _, [], hl, _ => by cases hl
inductive Tx (α : Type) where
 | lacks (r : Nat) (ts : List α)
 | cut (s : Nat) (x : Int) (a b : α)
 | shut (w : List Wt)
 | right (p : Nat) (gs : List (List Wt))
@[reducible] def Tr : Nat → Type
 | 0 => Empty
 | d + 1 => Tx (Tr d)
def Tx.kids {α : Type} : Tx α → List α
 | .lacks _ ts => ts
 | .cut _ _ a b => [a, b]
 | _ => []
def Tx.hdW {α : Type} : Tx α → List Str
 | .lacks r _ => ["lacks", fT r]
 | .cut s x _ _ => ["cut", fT s, fT x]
 | .shut w => "shut" :: w.map wW
 | .right p gs => "right" :: fT p :: gs.flatMap fun g => "/" :: g.map wW
def Tx.At {α : Type} (R : Hp → α → V → Prop) (H : Hp) : Tx α → V → Prop
 | .lacks r ts, v => ∃ p q vs, v = .ref p ∧ H p = some (.tup [.str "lacks", .int (r : Int), .ref q]) ∧ H q = some (.tup vs) ∧ All2 (R H) ts vs
 | .cut s x a b, v => ∃ p u w, v = .ref p ∧ H p = some (.tup [.str "cut", .int (s : Int), .int x, u, w]) ∧ R H a u ∧ R H b w
 | .shut w, v => ∃ p q, v = .ref p ∧ H p = some (.tup [.str "shut", .ref q]) ∧ WsAt H q w
 | .right c gs, v => ∃ p q as, v = .ref p ∧ H p = some (.tup [.str "right", .int (c : Int), .ref q]) ∧ H q = some (.tup (as.map V.ref)) ∧ All2 (WsAt H) as gs
def TrAt : (d : Nat) → Hp → Tr d → V → Prop
 | 0, _, t, _ => nomatch t
 | d + 1, H, t, v => Tx.At (TrAt d) H t v
theorem Tx.At.tk {α : Type} {R : Hp → α → V → Prop} {H H' : Hp} (k : TK H H') (kR : ∀ t v, R H t v → R H' t v) : ∀ {t : Tx α} {v : V}, Tx.At R H t v → Tx.At R H' t v
 | .lacks _ _, _, ⟨p, q, vs, e, h1, h2, h3⟩ => ⟨p, q, vs, e, k.t _ _ h1, k.t _ _ h2, h3.mono kR⟩
 | .cut _ _ _ _, _, ⟨p, u, w, e, h1, h2, h3⟩ => ⟨p, u, w, e, k.t _ _ h1, kR _ _ h2, kR _ _ h3⟩
 | .shut _, _, ⟨p, q, e, h1, h2⟩ => ⟨p, q, e, k.t _ _ h1, h2.tk k⟩
 | .right _ _, _, ⟨p, q, as, e, h1, h2, h3⟩ => ⟨p, q, as, e, k.t _ _ h1, k.t _ _ h2, h3.mono fun _ _ h => h.tk k⟩
theorem TrAt.tk {H H' : Hp} (k : TK H H') : ∀ (d : Nat) {t : Tr d} {v : V}, TrAt d H t v → TrAt d H' t v
 | 0, t, _, _ => nomatch t
 | d + 1, _, _, h => Tx.At.tk k (fun _ _ => TrAt.tk k d) h
def trW : (d : Nat) → Tr d → List (List Str)
 | 0, t => nomatch t
 | d + 1, t => Tx.hdW t :: (Tx.kids t).flatMap (trW d)
def tkn (tk : List Int) : Nat := (tk.filter fun x => decide (0 < x)).length
def Tx.Ok {α : Type} (m : Nat) (tks : List (List Int)) (sz : List Nat) (R : α → Prop) : Tx α → Prop
 | .lacks r ts => r ≤ 7 ∧ ∃ tk, tks[r]? = some tk ∧ ts.length = tkn tk ∧ tkn tk ≤ 8 ∧ ∀ t ∈ ts, R t
 | .cut s x a b => s < m ∧ s ≤ 7 ∧ Nu x ∧ 0 ≤ x ∧ R a ∧ R b
 | .shut w => WOk w
 | .right p gs => p ≤ 2 ∧ ∃ n, sz[p]? = some n ∧ gs.length = n ∧ 1 ≤ n ∧ n ≤ 4 ∧ ∀ g ∈ gs, WOk g
def OkT (m : Nat) (tks : List (List Int)) (sz : List Nat) : (d : Nat) → Tr d → Prop
 | 0, t => nomatch t
 | d + 1, t => Tx.Ok m tks sz (OkT m tks sz d) t
def szB : Nat → Nat
 | 0 => 0
 | d + 1 => 1 + 8 * szB d
theorem vH {α : Type} {f : α → List (List Str)} {b : Nat} : ∀ {l : List α}, (∀ x ∈ l, (f x).length ≤ b) → (l.flatMap f).length ≤ l.length * b
 | [], _ => by simp
 | x :: l, h => by
  rw [List.flatMap_cons, List.length_append, List.length_cons, Nat.succ_mul]
  have h1 := h x List.mem_cons_self
  have h2 := vH (l := l) fun y hy => h y (List.mem_cons_of_mem _ hy)
  omega
section
variable {m : Nat} {tks : List (List Int)} {sz : List Nat}
theorem wV {d : Nat} {t : Tr (d + 1)} (h : OkT m tks sz (d + 1) t) : (Tx.kids t).length ≤ 8 ∧ ∀ u ∈ Tx.kids t, OkT m tks sz d u := by
 cases t with
 | lacks r ts =>
  obtain ⟨_, tk, _, h1, h2, h3⟩ := h
  exact ⟨by show ts.length ≤ 8; omega, h3⟩
 | cut s x a b =>
  obtain ⟨_, _, _, _, h1, h2⟩ := h
  refine ⟨by show 2 ≤ 8; decide, fun u hu => ?_⟩
  rcases List.mem_cons.mp hu with rfl | hu
  ·exact h1
  ·rcases List.mem_cons.mp hu with rfl | hu
   ·exact h2
   ·cases hu
 | shut w => exact ⟨Nat.zero_le _, fun u hu => nomatch hu⟩
 | right p gs => exact ⟨Nat.zero_le _, fun u hu => nomatch hu⟩
theorem yo : ∀ (d : Nat) {t : Tr d}, OkT m tks sz d t → (trW d t).length ≤ szB d
 | 0, t, _ => nomatch t
 | d + 1, t, h => by
  obtain ⟨h1, h2⟩ := wV h
  show ((Tx.kids t).flatMap (trW d)).length + 1 ≤ 1 + 8 * szB d
  have := vH (f := trW d) (b := szB d) fun x hx => yo d (h2 x hx)
  have h3 : (Tx.kids t).length * szB d ≤ 8 * szB d := Nat.mul_le_mul_right _ h1
  omega
end
theorem ye {n : Nat} (h : n ≤ 11) : Nu (n : Int) := by
 have : ∀ k < 12, ((k : Nat) : Int) ∈ nuL := by decide +kernel
 exact this n (by omega)
theorem len2 : ∀ i ∈ nuL, 0 ≤ i → i ≤ 11 → (fT i).length ≤ 2 := by decide +kernel
theorem yG (x y : Str) : (x ++ y).length = x.length + y.length := by
 show (x.cps ++ y.cps).size = _
 rw [Array.size_append]
 rfl
theorem yH (x y : Str) : (x ++ y).cps.toList = x.cps.toList ++ y.cps.toList := by
 show (x.cps ++ y.cps).toList = _
 rw [Array.toList_append]
theorem wT {x y : Str} (h : x.cps.toList = y.cps.toList) : x = y := by
 cases x with | mk a =>
 cases y with | mk b =>
 exact congrArg Str.mk (Array.toList_inj.mp h)
theorem wd_w {x : Wt} (h : Nu x.1 ∧ 0 ≤ x.1 ∧ x.1 ≤ 11 ∧ Nu x.2 ∧ 1 ≤ x.2) : Wd (wW x) := by
 obtain ⟨h1, h2, h3, h4, _⟩ := h
 have a1 := len2 _ h1 h2 h3
 have a2 := (zL h4).l40
 refine ⟨?_, ?_⟩
 ·unfold wW
  rw [yG, yG]
  show _ + 1 + _ ≤ _
  omega
 ·unfold wW
  rw [yH, yH]
  intro z
  rcases List.mem_append.mp z with z | z
  ·rcases List.mem_append.mp z with z | z
   ·exact (zL h1).nb z
   ·revert z; decide
  ·exact (zL h4).nb z
theorem xF (a b : Str) (r : List Str) : ln (a :: b :: r) = a ++ " " ++ ln (b :: r) := by
 unfold ln
 rw [y8]
 refine wT ?_
 rw [show ∀ ws, Txt.join ⟨#[32]⟩ ws = Str.join ⟨#[32]⟩ ws from fun ws => StrLaws.glued_eq_join _ _, show ∀ ws, Txt.join ⟨#[32]⟩ ws = Str.join ⟨#[32]⟩ ws from fun ws => StrLaws.glued_eq_join _ _, yl, yH, yH, yl]
 show a.cps.toList ++ 32 :: jn 32 _ = a.cps.toList ++ [32] ++ jn 32 _
 rw [List.append_assoc]
 rfl
theorem Yd (a : Str) : ln [a] = a := by
 unfold ln
 rw [y8]
 refine wT ?_
 rw [show ∀ ws, Txt.join ⟨#[32]⟩ ws = Str.join ⟨#[32]⟩ ws from fun ws => StrLaws.glued_eq_join _ _, yl]
 rfl
abbrev sSwg : Stmt := top 56
abbrev nSwg : List Str := ["weights"]
theorem nmSwg : Nm nSwg (zc sSwg) := nmk (by decide +kernel)
theorem scSwg : FnScope nSwg ["weights"] (zc sSwg) := fsk (by decide +kernel)
def qSwga (s : Stmt) : Scope := match s with
 | .Return (some (.ListComp _ _ sc _)) _ => sc
 | _ => nsc
abbrev cSwga : Scope := qSwga ((zu sSwg).getD 0 (.Pass ⟨0, 0, 0, 0⟩))
theorem bsSwga : BScope (zc sSwg) cSwga ["number", "times"] [] ["shown_whole"] := { okind := by decide +kernel, kind := by decide +kernel, nocell := by decide +kernel, names := by decide +kernel, fr := by decide +kernel, ff := by decide +kernel, nd := by decide +kernel, vis := by decide +kernel, loc := by decide +kernel, gl := by decide +kernel }
def Yu : Sp := fun vs H Q _ => ∃ (q : Addr) (w : List Wt), vs = [.ref q] ∧ WsAt H q w ∧ WOk w ∧ ∀ l H', Same H H' → H l = none → H' l = some (.lst ((w.map wW).map V.str)) → Q (.ref l) H'
section
variable {P : Program} {w : World} {K : W.Frag} {mg : Str → Option Value} {base : Heap}
theorem ok_Swg {f : Addr} {fd : FuncData} (B : Blt4 mg) (fW : Has P w K mg base 3 "shown_whole" ["number"] (spWh 2)) (F : Fun K "shown_weights" "shown_weights" sSwg f fd) : FnOk P w K mg base CX0 4 f fd ["weights"] Yu := by
 refine F.ok scSwg (fun vs H Q E h => ?_) (fun cdv A outer s H vs Q E hr h => ?_)
 ·obtain ⟨q, w, rfl, _⟩ := h
  rfl
 obtain ⟨q, w, rfl, hw, ok, k⟩ := h
 refine' ⟨_, ?hb, ?rd⟩
 case' hb => skip
 case' hb => refine' zg ?g1
 case' g1 => refine' zl ?g2
 case' g2 => refine' zB (ix := []) bsSwga.toCScope rfl rfl ?g3 ?g4 ?g5 ?g6
 case g3 => exact yd (pvd nmSwg 0)
 case g4 =>
  intro _ _ _ _ _ _
  refine' yS (n := 2) rfl ?g7
  case' g7 => refine' zN ?g11 ?g10
  case g11 => exact pgb bsSwga 0
  case' g10 => refine' zN ?g13 yF
  case g13 => exact pgb bsSwga 1
 case g5 => exact fun _ _ _ _ _ _ => zz
 case g6 => exact fun _ _ _ _ _ _ => zo zI (zo zI (pe_f fW hr (by decide) (pa_1 (pvb bsSwga 0)) (bsSwga.g 0)) zp) (pe_f fW hr (by decide) (pa_1 (pvb bsSwga 1)) (bsSwga.g 0))
 obtain ⟨as, h1, h2⟩ := hw
 have hl := h2.len
 have l3 := ok.l3
 walk_at "v"
 refine ⟨q, rfl, ⟨_, SqT.of h1⟩, fun D hD => ?_⟩
 refine Y2 (S := Same) (rs := as) (ρ := []) (fun j y _ => ∃ x, w[j]? = some x ∧ y = .str (wW x)) (Kp.same hD) (fun _ h => h) (fun _ b => TK.same b) (by omega) (fun H' k' => SqT.of (k' _ _ h1)) ?_ ?_
 ·rintro i r H' hr' K'
  obtain ⟨x, hx, e⟩ := h2.at hr'
  have hnu := ok.nu x (List.mem_of_getElem? hx)
  refine ⟨_, _, K' _ _ e, fun R kR => ?_⟩
  walk_at "v"
  refine ⟨_, rfl, hnu.1, fun H2 K2 => ?_⟩
  have a1 := (zL hnu.1).l40
  have a2 := (zL hnu.2.2.2.1).l40
  walk_at "v"
  refine ⟨_, _, rfl, rfl, by rw [sizeLine_eq]; show _ + 1 ≤ _; omega, ?_⟩
  walk_at "v"
  refine ⟨_, rfl, hnu.2.2.2.1, fun H3 K3 => ?_⟩
  refine ⟨_, _, rfl, rfl, by rw [sizeLine_eq, yG]; show _ + 1 + _ ≤ _; omega, ?_⟩
  exact kR _ _ (K2.trans K3) ⟨x, hx, rfl⟩
 ·rintro ys H1 ⟨K1, hl', hY⟩ e1
  have e := yy (f := fun x => V.str (wW x)) (hl'.trans hl) hY
  subst e
  exact k D H1 K1 hD (by rw [e1, List.map_map]; rfl)
abbrev sTw : Stmt := top 50
abbrev nTw : List Str := ["tree"]
theorem nmTw : Nm nTw (zc sTw) := nmk (by decide +kernel)
theorem scTw : FnScope nTw ["tree"] (zc sTw) := fsk (by decide +kernel)
def spTw : Sp := fun vs H Q _ => ∃ (d : Nat) (t : Tr (d + 1)) (v : V), vs = [v] ∧ TrAt (d + 1) H t v ∧ ∀ q us H', Same H H' → H' q = some (.tup us) → All2 (TrAt d H') (Tx.kids t) us → Q (.ref q) H'
theorem ok_Tw {f : Addr} {fd : FuncData} (B : Blt4 mg) (F : Fun K "trees_within" "trees_within" sTw f fd) : FnOk P w K mg base CX0 1 f fd ["tree"] spTw := by
 refine F.ok scTw (fun vs H Q E h => ?_) (fun cdv A outer s H vs Q E hr h => ?_)
 ·obtain ⟨d, t, v, rfl, _⟩ := h
  rfl
 obtain ⟨d, t, v, rfl, hv, k⟩ := h
 refine' ⟨_, ?hb, ?rd⟩
 case' hb => skip
 case' hb => refine' zf ?g1 ?g2
 case' g2 => refine' zf ?g3 ?g4
 case' g4 => refine' zg ?g5
 case' g1 => refine' zC ?g6 ?g7 zw
 case g6 => exact zq zV (ziq (pvd nmTw 0) zd) zp (zt _)
 case' g7 => refine' zg ?g9
 case g9 => exact zl (ziq (pvd nmTw 0) zd)
 case' g3 => refine' zC ?g10 ?g11 zw
 case g10 => exact zq zV (ziq (pvd nmTw 0) zd) zp (zt _)
 case' g11 => refine' zg ?g13
 case g13 => exact zl (zO YA (pvd nmTw 0) (zM zd) yh)
 case g5 => exact zl (zy xx)
 cases t with
 | lacks r ts =>
  obtain ⟨p, q, us, rfl, h1, h2, h3⟩ := hv
  walk_at "v"
  refine zm h1 rfl ?_
  walk_at "v"
  refine ⟨rfl, ?_⟩
  walk_at "v"
  refine iteD (fun _ => ?_) (fun z => absurd rfl z)
  walk_at "v"
  refine zm h1 rfl ?_
  exact k q us H (Same.refl _) h2 h3
 | cut s x a b =>
  obtain ⟨p, u, w', rfl, h1, h2, h3⟩ := hv
  walk_at "v"
  refine zm h1 rfl ?_
  walk_at "v"
  refine ⟨rfl, ?_⟩
  walk_at "v"
  refine iteD (fun z => absurd (V.str.inj z) (by decide)) (fun _ => ?_)
  walk_at "v"
  refine zm h1 rfl ?_
  walk_at "v"
  refine ⟨rfl, ?_⟩
  walk_at "v"
  refine iteD (fun _ => ?_) (fun z => absurd rfl z)
  walk_at "v"
  refine ⟨_, rfl, ?_⟩
  refine ⟨p, _, rfl, h1, fun q H' K' e => ?_⟩
  exact k q _ H' K' e ⟨TrAt.tk (TK.same K') d h2, TrAt.tk (TK.same K') d h3, trivial⟩
 | shut w' =>
  obtain ⟨p, q, rfl, h1, h2⟩ := hv
  walk_at "v"
  refine zm h1 rfl ?_
  walk_at "v"
  refine ⟨rfl, ?_⟩
  walk_at "v"
  refine iteD (fun z => absurd (V.str.inj z) (by decide)) (fun _ => ?_)
  walk_at "v"
  refine zm h1 rfl ?_
  walk_at "v"
  refine ⟨rfl, ?_⟩
  walk_at "v"
  refine iteD (fun z => absurd (V.str.inj z) (by decide)) (fun _ => ?_)
  walk_at "v"
  refine ⟨Nat.zero_le _, fun z hz => ?_⟩
  exact k z [] _ (Same.new (Same.refl _) hz) ze trivial
 | right c gs =>
  obtain ⟨p, q, as, rfl, h1, h2, h3⟩ := hv
  walk_at "v"
  refine zm h1 rfl ?_
  walk_at "v"
  refine ⟨rfl, ?_⟩
  walk_at "v"
  refine iteD (fun z => absurd (V.str.inj z) (by decide)) (fun _ => ?_)
  walk_at "v"
  refine zm h1 rfl ?_
  walk_at "v"
  refine ⟨rfl, ?_⟩
  walk_at "v"
  refine iteD (fun z => absurd (V.str.inj z) (by decide)) (fun _ => ?_)
  walk_at "v"
  refine ⟨Nat.zero_le _, fun z hz => ?_⟩
  exact k z [] _ (Same.new (Same.refl _) hz) ze trivial
end
theorem yJ {α β : Type} (f : α → List β) (xs : List α) {i : Nat} {x : α} (h : xs[i]? = some x) : (xs.take (i + 1)).flatMap f = (xs.take i).flatMap f ++ f x := by
 rw [List.take_add_one, h, List.flatMap_append]
 simp
theorem wm {p : Addr} {H H3 H' : Hp} (k : Same H H3) (h : H p = none) (b : Bp p H3 H') : Same H H' := fun q o e => b q o (zh e h) (k q o e)
section
variable {m : Nat} {tks : List (List Int)} {sz : List Nat}
theorem gs_wd {gs : List (List Wt)} (h : ∀ g ∈ gs, WOk g) : ∀ w ∈ gs.flatMap (fun g => ("/" : Str) :: g.map wW), Wd w := fun w hw => by
 obtain ⟨g, hg, hw⟩ := List.mem_flatMap.mp hw
 rcases List.mem_cons.mp hw with rfl | hw
 ·exact ⟨by decide, by decide⟩
 ·obtain ⟨x, hx, rfl⟩ := List.mem_map.mp hw
  exact wd_w ((h g hg).nu x hx)
theorem vF {gs : List (List Wt)} (h : ∀ g ∈ gs, WOk g) : (gs.flatMap fun g => ("/" : Str) :: g.map wW).length ≤ 4 * gs.length := by
 induction gs with
 | nil => exact Nat.le_refl _
 | cons g gs ih =>
  rw [List.flatMap_cons, List.length_append, List.length_cons, List.length_cons, List.length_map]
  have := (h g List.mem_cons_self).l3
  have := ih fun g' hg => h g' (List.mem_cons_of_mem _ hg)
  omega
theorem Yg {d : Nat} {t : Tr (d + 1)} (h : OkT m tks sz (d + 1) t) : (∀ w ∈ Tx.hdW t, Wd w) ∧ (Tx.hdW t).length ≤ 19 ∧ Tx.hdW t ≠ [] := by
 cases t with
 | lacks r ts =>
  obtain ⟨h0, _⟩ := h
  refine ⟨fun w hw => ?_, by show 2 ≤ 19; decide, fun z => by cases z⟩
  rcases List.mem_cons.mp hw with rfl | hw
  ·exact ⟨by decide, by decide⟩
  ·rcases List.mem_cons.mp hw with rfl | hw
   ·exact xt (ye (by omega))
   ·cases hw
 | cut s x a b =>
  obtain ⟨h0, h1, h2, _⟩ := h
  refine ⟨fun w hw => ?_, by show 3 ≤ 19; decide, fun z => by cases z⟩
  rcases List.mem_cons.mp hw with rfl | hw
  ·exact ⟨by decide, by decide⟩
  ·rcases List.mem_cons.mp hw with rfl | hw
   ·exact xt (ye (by omega))
   ·rcases List.mem_cons.mp hw with rfl | hw
    ·exact xt h2
    ·cases hw
 | shut w' =>
  have h : WOk w' := h
  have := h.l3
  refine ⟨fun w hw => ?_, by show (w'.map wW).length + 1 ≤ 19; rw [List.length_map]; omega, fun z => by cases z⟩
  rcases List.mem_cons.mp hw with rfl | hw
  ·exact ⟨by decide, by decide⟩
  ·obtain ⟨x, hx, rfl⟩ := List.mem_map.mp hw
   exact wd_w (h.nu x hx)
 | right c gs =>
  obtain ⟨h0, n, _, h1, _, h2, h3⟩ := h
  have := vF h3
  refine ⟨fun w hw => ?_, by show (gs.flatMap _).length + 1 + 1 ≤ 19; omega, fun z => by cases z⟩
  rcases List.mem_cons.mp hw with rfl | hw
  ·exact ⟨by decide, by decide⟩
  ·rcases List.mem_cons.mp hw with rfl | hw
   ·exact xt (ye (by omega))
   ·exact gs_wd h3 w hw
end
abbrev sHd : Stmt := top 55
abbrev nHd : List Str := ["tree", "words", "ground"]
theorem nmHd : Nm nHd (zc sHd) := nmk (by decide +kernel)
theorem scHd : FnScope nHd ["tree"] (zc sHd) := fsk (by decide +kernel)
def spHd : Sp := fun vs H Q _ => ∃ (m : Nat) (tks : List (List Int)) (sz : List Nat) (d : Nat) (t : Tr (d + 1)) (v : V), vs = [v] ∧ TrAt (d + 1) H t v ∧ OkT m tks sz (d + 1) t ∧ ∀ H', Same H H' → Q (.str (ln (Tx.hdW t))) H'
section
variable {P : Program} {w : World} {K : W.Frag} {mg : Str → Option Value} {base : Heap}
theorem ok_Hd {f : Addr} {fd : FuncData} (B : Blt4 mg) (fW : Has P w K mg base 3 "shown_whole" ["number"] (spWh 2)) (fWs : Has P w K mg base 4 "shown_wholes" ["numbers"] Xq) (fWg : Has P w K mg base 4 "shown_weights" ["weights"] Yu) (F : Fun K "shown_head" "shown_head" sHd f fd) : FnOk P w K mg base CX0 5 f fd ["tree"] spHd := by
 refine F.ok scHd (fun vs H Q E h => ?_) (fun cdv A outer s H vs Q E hr h => ?_)
 ·obtain ⟨m, tks, sz, d, t, v, rfl, _⟩ := h
  rfl
 obtain ⟨m, tks, sz, d, t, v, rfl, hv, ok, k⟩ := h
 refine' ⟨_, ?hb, ?rd⟩
 case' hb => skip
 case' hb => refine' zf ?g1 ?g2
 case' g2 => refine' zf ?g3 ?g4
 case' g4 => refine' zf ?g5 ?g6
 case' g6 => refine' zf ?g7 ?g8
 case' g8 => refine' zf ?g9 ?g10
 case' g10 => refine' zg ?g11
 case' g1 => refine' zC ?g12 ?g13 zw
 case g12 => exact zq zV (ziq (pvd nmHd 0) zd) zp (zt _)
 case' g13 => refine' zg ?g15
 case g15 => exact zl (zo zI zp (pe_f fW hr (by decide) (pa_1 (ziq (pvd nmHd 0) zd))))
 case' g3 => refine' zC ?g16 ?g17 zw
 case g16 => exact zq zV (ziq (pvd nmHd 0) zd) zp (zt _)
 case' g17 => refine' zg ?g19
 case g19 => exact zl (zo zI zp (pe_f fWs hr (by decide) (pa_1 (zO YA (pvd nmHd 0) (zM zd) (zM zd)))))
 case' g5 => refine' zC ?g20 ?g21 zw
 case g20 => exact zq zV (ziq (pvd nmHd 0) zd) zp (zt _)
 case' g21 => refine' zg ?g23
 case g23 => exact zl (yn PySem.F.plainAttrs_str PySem.F.slot_str_join PySem.F.type_str_join xl zp (pa_1 (zo yp (zE (pa_1 zp)) (pe_f fWg hr (by decide) (pa_1 (ziq (pvd nmHd 0) zd))))))
 case g7 => exact zj nmHd 1 (zE (pa_2 zp (pe_f fW hr (by decide) (pa_1 (ziq (pvd nmHd 0) zd)))))
 case' g9 => refine' yt PassesOwn.never rfl ?g24 (pgd nmHd 2) ?g25
 case g24 => exact yd (ziq (pvd nmHd 0) zd)
 case' g25 => refine' zg ?g26
 case g26 => exact yE (yn PySem.F.plainAttrs_list PySem.F.slot_list_extend PySem.F.type_list_extend v7 (pvd nmHd 1) (pa_1 (zo yp (zE (pa_1 zp)) (pe_f fWg hr (by decide) (pa_1 (pvd nmHd 2))))))
 case g11 => exact zl (yn PySem.F.plainAttrs_str PySem.F.slot_str_join PySem.F.type_str_join xl zp (pa_1 (pvd nmHd 1)))
 obtain ⟨hwd, hwl, _⟩ := Yg ok
 cases t with
 | lacks r ts =>
  obtain ⟨p, q, us, rfl, h1, h2, h3⟩ := hv
  have h0 : Nu (r : Int) := ye (by have := ok.1; omega)
  walk_at "v"
  refine zm h1 rfl ?_
  walk_at "v"
  refine ⟨rfl, ?_⟩
  walk_at "v"
  refine iteD (fun _ => ?_) (fun z => absurd rfl z)
  walk_at "v"
  refine zm h1 rfl ?_
  walk_at "v"
  refine ⟨_, rfl, h0, fun H' K' => ?_⟩
  have := (zL h0).l40
  refine ⟨_, _, rfl, rfl, by rw [sizeLine_eq]; show 6 + _ ≤ _; omega, ?_⟩
  have e : ln (Tx.hdW (Tx.lacks r ts)) = ("lacks " : Str) ++ fT r := by
   show ln ["lacks", fT r] = _
   rw [xF, Yd, show ("lacks" : Str) ++ " " = "lacks " by decide]
  have kk := k H' K'
  rw [e] at kk
  exact kk
 | cut s x a b =>
  obtain ⟨p, u, w', rfl, h1, h2, h3⟩ := hv
  obtain ⟨_, s7, nx, _⟩ := ok
  have h0 : Nu (s : Int) := ye (by omega)
  walk_at "v"
  refine zm h1 rfl ?_
  walk_at "v"
  refine ⟨rfl, ?_⟩
  walk_at "v"
  refine iteD (fun z => absurd (V.str.inj z) (by decide)) (fun _ => ?_)
  walk_at "v"
  refine zm h1 rfl ?_
  walk_at "v"
  refine ⟨rfl, ?_⟩
  walk_at "v"
  refine iteD (fun _ => ?_) (fun z => absurd rfl z)
  walk_at "v"
  refine ⟨_, rfl, ?_⟩
  walk_at "v"
  refine ⟨_, rfl, ?_⟩
  refine ⟨p, _, rfl, h1, fun q H1 K1 e1 => ?_⟩
  walk_at "v"
  refine ⟨q, [(s : Int), x], rfl, e1, by show 2 ≤ 19; decide, fun i hi => ?_, fun H' K' => ?_⟩
  ·rcases List.mem_cons.mp hi with rfl | hi
   ·exact h0
   ·rcases List.mem_cons.mp hi with rfl | hi
    ·exact nx
    ·cases hi
  have hl2 := xy (ws := [fT s, fT x]) (fun w hw => hwd w (List.mem_cons_of_mem _ hw)) (by show 2 ≤ 19; decide)
  refine ⟨_, _, rfl, rfl, by rw [sizeLine_eq]; show 4 + (ln [fT s, fT x]).length ≤ _; omega, ?_⟩
  have e : ln (Tx.hdW (Tx.cut s x a b)) = ("cut " : Str) ++ ln ([(s : Int), x].map fT) := by
   show ln ["cut", fT s, fT x] = _
   rw [xF, show ("cut" : Str) ++ " " = "cut " by decide]
   rfl
  have kk := k H' (K1.trans K')
  rw [e] at kk
  exact kk
 | shut w' =>
  obtain ⟨p, q, rfl, h1, h2⟩ := hv
  walk_at "v"
  refine zm h1 rfl ?_
  walk_at "v"
  refine ⟨rfl, ?_⟩
  walk_at "v"
  refine iteD (fun z => absurd (V.str.inj z) (by decide)) (fun _ => ?_)
  walk_at "v"
  refine zm h1 rfl ?_
  walk_at "v"
  refine ⟨rfl, ?_⟩
  walk_at "v"
  refine iteD (fun z => absurd (V.str.inj z) (by decide)) (fun _ => ?_)
  walk_at "v"
  refine zm h1 rfl ?_
  walk_at "v"
  refine ⟨rfl, ?_⟩
  walk_at "v"
  refine iteD (fun _ => ?_) (fun z => absurd rfl z)
  walk_at "v"
  refine ⟨rfl, ?_⟩
  walk_at "v"
  refine ⟨sz1, fun l1 hl1 => ?_⟩
  obtain ⟨H1, q, K1, e1⟩ := nob (.lst [.str "shut"]) hl1; rw [q]; clear q
  walk_at "v"
  refine zm (K1 _ _ h1) rfl ?_
  walk_at "v"
  refine ⟨q, w', rfl, h2.tk (TK.same K1), ok, fun l2 H2 K2 hl2 e2 => ?_⟩
  have l3 : w'.length ≤ 3 := WOk.l3 ok
  refine ⟨l1, l2, _, _, rfl, rfl, K2 _ _ e1, e2, Nat.le_of_lt (zn (by simp; omega)), fun l hl => ?_⟩
  have K3 : Same H2 (upd H2 l (.lst ([V.str "shut"] ++ (w'.map wW).map V.str))) := Same.new (Same.refl _) hl
  have e3 : upd H2 l (.lst ([V.str "shut"] ++ (w'.map wW).map V.str)) l = some (.lst ((Tx.hdW (Tx.shut w' : Tx (Tr d))).map V.str)) := ze
  generalize upd H2 l (.lst ([V.str "shut"] ++ (w'.map wW).map V.str)) = HX at K3 e3 ⊢
  obtain ⟨j1, j2⟩ := wb hwd hwl
  refine ⟨_, l, _, rfl, rfl, e3, j1, j2, ?_⟩
  exact k HX ((K1.trans K2).trans K3)
 | right c gs =>
  obtain ⟨p, q, as, rfl, h1, h2, h3⟩ := hv
  obtain ⟨c2, n, _, hgl, n1, n4, hgs⟩ := ok
  have h0 : Nu (c : Int) := ye (by omega)
  have hal := h3.len
  walk_at "v"
  refine zm h1 rfl ?_
  walk_at "v"
  refine ⟨rfl, ?_⟩
  walk_at "v"
  refine iteD (fun z => absurd (V.str.inj z) (by decide)) (fun _ => ?_)
  walk_at "v"
  refine zm h1 rfl ?_
  walk_at "v"
  refine ⟨rfl, ?_⟩
  walk_at "v"
  refine iteD (fun z => absurd (V.str.inj z) (by decide)) (fun _ => ?_)
  walk_at "v"
  refine zm h1 rfl ?_
  walk_at "v"
  refine ⟨rfl, ?_⟩
  walk_at "v"
  refine iteD (fun z => absurd (V.str.inj z) (by decide)) (fun _ => ?_)
  walk_at "v"
  refine zm h1 rfl ?_
  walk_at "v"
  refine ⟨_, rfl, h0, fun H1 K1 => ?_⟩
  walk_at "v"
  refine ⟨sz2, fun wl hwl' => ?_⟩
  have hwl0 : H wl = none := Same.free K1 hwl'
  have K2 : Same H (upd H1 wl (.lst [.str "right", .str (fT c)])) := K1.new hwl'
  have e2 : upd H1 wl (.lst [.str "right", .str (fT c)]) wl = some (.lst [.str "right", .str (fT c)]) := ze
  generalize upd H1 wl (.lst [.str "right", .str (fT c)]) = H2 at K2 e2 ⊢
  walk_at "v"
  refine zm (K2 _ _ h1) rfl ?_
  refine ⟨q, rfl, ⟨_, SqT.of (K2 _ _ h2)⟩, ?_⟩
  have nq : q ≠ wl := zh h2 hwl0
  refine wY (xs := as.map V.ref) (fun j σ H' => ∃ u2, σ = [some (.ref p), some (.ref wl), u2] ∧ H' wl = some (.lst ((("right" : Str) :: fT c :: (gs.take j).flatMap fun g => ("/" : Str) :: g.map wW).map V.str)) ∧ Bp wl H2 H') ⟨_, rfl, e2, Bp.refl⟩ (fun j σ H' _ ⟨_, _, _, b⟩ => SqT.of (b _ _ nq (K2 _ _ h2))) ?_ ?_
  ·rintro j x σ H3 hx ⟨u2, rfl, e3, b3⟩
   rw [List.getElem?_map] at hx
   cases hj : as[j]? with
   | none => rw [hj] at hx; cases hx
   | some g' =>
    rw [hj] at hx
    cases hx
    have hjl : j < gs.length := by have := (List.getElem?_eq_some_iff.mp hj).1; omega
    have TK23 : TK H H3 := TK.same (wm K2 hwl0 b3)
    have hw3 : WsAt H3 g' gs[j] := by
     have hh : ∀ {as : List Addr} {gs : List (List Wt)}, All2 (WsAt H) as gs → ∀ {j : Nat} {a : Addr} {g : List Wt}, as[j]? = some a → gs[j]? = some g → WsAt H a g := fun {as gs} h => by
      induction as generalizing gs with
      | nil => intro j a g e; simp at e
      | cons a as ih =>
       cases gs with
       | nil => exact h.elim
       | cons g gs =>
        intro j a' g' e1 e2
        cases j with
        | zero => cases e1; cases e2; exact h.1
        | succ j => exact ih h.2 (by simpa using e1) (by simpa using e2)
     exact (hh h3 hj (List.getElem?_eq_getElem hjl)).tk TK23
    have hgj := hgs _ (List.getElem_mem hjl)
    walk_at "v"
    refine ⟨.inl ⟨rfl, _, SqL.of e3⟩, ?_⟩
    walk_at "v"
    refine ⟨sz1, fun l1 hl1 => ?_⟩
    have n1' : wl ≠ l1 := zh e3 hl1
    obtain ⟨H4, q, K4, e4⟩ := nob (.lst [.str "/"]) hl1; rw [q]; clear q
    walk_at "v"
    refine ⟨g', _, rfl, hw3.tk (TK.same K4), hgj, fun l2 H5 K5 hl2 e5 => ?_⟩
    have l3 := hgj.l3
    refine ⟨l1, l2, _, _, rfl, rfl, K5 _ _ e4, e5, Nat.le_of_lt (zn (by simp; omega)), fun l hl => ?_⟩
    have K6 : Same H5 (upd H5 l (.lst ([V.str "/"] ++ (gs[j].map wW).map V.str))) := Same.new (Same.refl _) hl
    have e6 : upd H5 l (.lst ([V.str "/"] ++ (gs[j].map wW).map V.str)) l = some (.lst ((("/" : Str) :: gs[j].map wW).map V.str)) := ze
    generalize upd H5 l (.lst ([V.str "/"] ++ (gs[j].map wW).map V.str)) = H6 at K6 e6 ⊢
    have e36 := K6 _ _ (K5 _ _ (K4 _ _ e3))
    have hfl := vF (gs := gs.take j) fun g hg => hgs g (List.mem_of_mem_take hg)
    rw [List.length_take] at hfl
    walk_at "v"
    refine ⟨wl, l, _, _, rfl, rfl, e36, e6, Nat.le_of_lt (zn (by simp only [List.length_map, List.length_cons]; omega)), ?_⟩
    refine ⟨_, rfl, ?_, (b3.trans (Bp.same ((K4.trans K5).trans K6))).at⟩
    rw [ze, ← List.map_append, yJ _ _ (List.getElem?_eq_getElem hjl)]
    rfl
  ·rintro σ H3 ⟨u2, rfl, e3, b3⟩
   rw [List.length_map, hal, List.take_of_length_le (Nat.le_refl _)] at e3
   obtain ⟨j1, j2⟩ := wb hwd hwl
   walk_at "v"
   refine ⟨rfl, ?_⟩
   walk_at "v"
   refine ⟨_, wl, _, rfl, rfl, e3, j1, j2, ?_⟩
   exact k H3 (wm K2 hwl0 b3)
abbrev sSt : Stmt := top 54
abbrev nSt : List Str := ["tree", "lines", "inner"]
theorem nmSt : Nm nSt (zc sSt) := nmk (by decide +kernel)
theorem scSt : FnScope nSt ["tree"] (zc sSt) := fsk (by decide +kernel)
abbrev txs (ls : List (List Str)) : List V := (ls.map ln).map V.str
def spSt : Nat → Sp
 | 0 => fun _ _ _ _ => False
 | d + 1 => fun vs H Q _ => ∃ (m : Nat) (tks : List (List Int)) (sz : List Nat) (t : Tr (d + 1)) (v : V), vs = [v] ∧ TrAt (d + 1) H t v ∧ OkT m tks sz (d + 1) t ∧ d ≤ 3 ∧ ∀ l H', Same H H' → H l = none → H' l = some (.lst (txs (trW (d + 1) t))) → Q (.ref l) H'
theorem wn {d : Nat} (h : d ≤ 3) : szB (d + 1) ≤ 585 := by
 have : ∀ k < 4, szB (k + 1) ≤ 585 := by decide
 exact this d (by omega)
theorem Y4 {α : Type} {f : α → List (List Str)} {b : Nat} {l : List α} (h : ∀ x ∈ l, (f x).length ≤ b) (hl : l.length ≤ 8) (j : Nat) : ((l.take j).flatMap f).length ≤ 8 * b := by
 refine Nat.le_trans (vH (l := l.take j) fun x hx => h x (List.mem_of_mem_take hx)) ?_
 refine Nat.mul_le_mul_right _ ?_
 rw [List.length_take]
 omega
theorem vy {f : Addr} {fd : FuncData} {d : Nat} (B : Blt4 mg) (fR : Has P w K mg base (d + 6) "shown_tree" ["tree"] (spSt d)) (fH : Has P w K mg base 5 "shown_head" ["tree"] spHd) (fT : Has P w K mg base 1 "trees_within" ["tree"] spTw) (F : Fun K "shown_tree" "shown_tree" sSt f fd) : FnOk P w K mg base CX0 (d + 7) f fd ["tree"] (spSt (d + 1)) := by
 refine F.ok scSt (fun vs H Q E h => ?_) (fun cdv A outer s H vs Q E hr h => ?_)
 ·obtain ⟨m, tks, sz, t, v, rfl, _⟩ := h
  rfl
 obtain ⟨m, tks, sz, t, v, rfl, hv, ok, d3, k⟩ := h
 refine' ⟨_, ?hb, ?rd⟩
 case' hb => skip
 case' hb => refine' zf ?g1 ?g2
 case' g2 => refine' zf ?g3 ?g4
 case' g4 => refine' zg ?g5
 case g1 => exact zj nmSt 1 (zE (pa_1 (pe_f fH hr (by omega) (pa_1 (pvd nmSt 0)))))
 case' g3 => refine' yt PassesOwn.never rfl ?g6 (pgd nmSt 2) ?g7
 case g6 => exact yd (pe_f fT hr (by omega) (pa_1 (pvd nmSt 0)))
 case' g7 => refine' zg ?g8
 case g8 => exact yE (yn PySem.F.plainAttrs_list PySem.F.slot_list_extend PySem.F.type_list_extend v7 (pvd nmSt 1) (pa_1 (pe_f fR hr (by omega) (pa_1 (pvd nmSt 2)))))
 case g5 => exact zl (pvd nmSt 1)
 obtain ⟨k8, kok⟩ := wV ok
 have hb585 := wn d3
 have hbd : szB (d + 1) = 1 + 8 * szB d := rfl
 walk_at "v"
 refine ⟨m, tks, sz, d, t, v, rfl, hv, ok, fun H1 K1 => ?_⟩
 walk_at "v"
 refine ⟨sz1, fun ll hll => ?_⟩
 have hll0 : H ll = none := Same.free K1 hll
 have K2 : Same H (upd H1 ll (.lst [.str (ln (Tx.hdW t))])) := K1.new hll
 have e2 : upd H1 ll (.lst [.str (ln (Tx.hdW t))]) ll = some (.lst [.str (ln (Tx.hdW t))]) := ze
 generalize upd H1 ll (.lst [.str (ln (Tx.hdW t))]) = H2 at K2 e2 ⊢
 walk_at "v"
 refine ⟨d, t, v, rfl, TrAt.tk (TK.same K2) (d + 1) hv, fun q us H3 K3 hq hus => ?_⟩
 have K03 := K2.trans K3
 have e3 := K3 _ _ e2
 have nq : q ≠ ll := fun z => by rw [z, e3] at hq; cases hq
 have hul := hus.len
 refine ⟨q, rfl, ⟨_, SqT.of hq⟩, ?_⟩
 refine wY (xs := us) (fun j σ H' => ∃ u2, σ = [some v, some (.ref ll), u2] ∧ H' ll = some (.lst (txs (Tx.hdW t :: ((Tx.kids t).take j).flatMap (trW d)))) ∧ Bp ll H3 H') ⟨_, rfl, e3, Bp.refl⟩ (fun j σ H' _ ⟨_, _, _, b⟩ => SqT.of (b _ _ nq hq)) ?_ ?_
 ·rintro j x σ H4 hx ⟨u2, rfl, e4, b4⟩
  obtain ⟨u, hu, hxu⟩ := hus.at hx
  have TK34 : TK H3 H4 := ⟨fun q xs e => b4 _ _ (xI e e3 (by intro z; cases z)) e, fun q o u e => b4 _ _ (xI e e3 (by intro z; cases z)) e⟩
  have hx4 := TrAt.tk TK34 d hxu
  have hok := kok u (List.mem_of_getElem? hu)
  have hfl := Y4 (f := trW d) (b := szB d) (fun y hy => yo d (kok y hy)) k8 j
  have hul' := yo d hok
  walk_at "v"
  refine ⟨.inl ⟨rfl, _, SqL.of e4⟩, ?_⟩
  walk_at "v"
  cases d with
  | zero => exact nomatch u
  | succ d =>
  refine ⟨m, tks, sz, u, x, rfl, hx4, hok, by omega, fun l H5 K5 hl e5 => ?_⟩
  have e45 := K5 _ _ e4
  refine ⟨ll, l, _, _, rfl, rfl, e45, e5, Nat.le_of_lt (zn (by simp only [txs, List.length_map, List.length_cons]; omega)), ?_⟩
  refine ⟨_, rfl, ?_, (b4.trans (Bp.same K5)).at⟩
  rw [ze, yJ _ _ hu]
  simp only [txs, List.map_append, List.map_cons, List.cons_append]
 ·rintro σ H4 ⟨u2, rfl, e4, b4⟩
  rw [List.take_of_length_le (by omega)] at e4
  walk_at "v"
  exact k ll H4 (wm K03 hll0 b4) hll0 e4
structure Pap where
 kep : List (List Int)
 hei : List Int
 d : Nat
 t : Tr (d + 1)
structure Pap.Ok (x : Pap) (m : Nat) (tks : List (List Int)) (sz : List Nat) : Prop where
 k8 : x.kep.length ≤ 8
 kl : ∀ r ∈ x.kep, r.length = m ∧ ∀ i ∈ r, Nu i
 hl : x.hei.length = m
 hn : ∀ i ∈ x.hei, Nu i ∧ 0 ≤ i
 d3 : x.d ≤ 3
 tr : OkT m tks sz (x.d + 1) x.t
 m1 : 1 ≤ m
 m8 : m ≤ 8
def PapAt (H : Hp) (v : V) (x : Pap) : Prop := ∃ (p ks hq : Addr) (tv : V) (kas : List Addr), v = .ref p ∧ H p = some (.tup [.ref ks, .ref hq, tv]) ∧ H ks = some (.tup (kas.map V.ref)) ∧ RowsAt H kas x.kep ∧ H hq = some (.tup (x.hei.map V.int)) ∧ TrAt (x.d + 1) H x.t tv
theorem PapAt.tk {H H' : Hp} (k : TK H H') {v : V} {x : Pap} : PapAt H v x → PapAt H' v x := fun ⟨p, ks, hq, tv, kas, e, h1, h2, h3, h4, h5⟩ => ⟨p, ks, hq, tv, kas, e, k.t _ _ h1, k.t _ _ h2, RowsAt.tk k.t h3, k.t _ _ h4, TrAt.tk k _ h5⟩
def Pap.W (x : Pap) : List (List Str) := x.kep.map (fun r => ("kept" : Str) :: r.map fT) ++ ((("height" : Str) :: x.hei.map fT) :: trW (x.d + 1) x.t)
theorem rowW {c : Str} {r : List Int} (h : r ≠ []) : ln (c :: r.map fT) = c ++ " " ++ ln (r.map fT) := by
 cases r with
 | nil => exact absurd rfl h
 | cons i r => exact xF _ _ _
abbrev sSp : Stmt := top 53
abbrev nSp : List Str := ["paper", "lines"]
theorem nmSp : Nm nSp (zc sSp) := nmk (by decide +kernel)
theorem scSp : FnScope nSp ["paper"] (zc sSp) := fsk (by decide +kernel)
def qSpa (s : Stmt) : Scope := match s with
 | .Assign _ (.ListComp _ _ sc _) _ => sc
 | _ => nsc
abbrev cSpa : Scope := qSpa ((zu sSp).getD 0 (.Pass ⟨0, 0, 0, 0⟩))
theorem bsSpa : BScope (zc sSp) cSpa ["kept"] [] ["shown_wholes"] := { okind := by decide +kernel, kind := by decide +kernel, nocell := by decide +kernel, names := by decide +kernel, fr := by decide +kernel, ff := by decide +kernel, nd := by decide +kernel, vis := by decide +kernel, loc := by decide +kernel, gl := by decide +kernel }
theorem loSp_1 : (zc sSp).names.lookup ("lines" : Str) = some .local := by decide +kernel
def spSp : Sp := fun vs H Q _ => ∃ (m : Nat) (tks : List (List Int)) (sz : List Nat) (x : Pap) (v : V), vs = [v] ∧ PapAt H v x ∧ x.Ok m tks sz ∧ ∀ l H', Same H H' → H l = none → H' l = some (.lst (txs x.W)) → Q (.ref l) H'
def Yv : Sp := fun vs H Q E => ∃ d, d ≤ 3 ∧ spSt (d + 1) vs H Q E
theorem ok_Sp {f : Addr} {fd : FuncData} (B : Blt4 mg) (fWs : Has P w K mg base 4 "shown_wholes" ["numbers"] Xq) (fR : Has P w K mg base 10 "shown_tree" ["tree"] Yv) (F : Fun K "shown_paper" "shown_paper" sSp f fd) : FnOk P w K mg base CX0 11 f fd ["paper"] spSp := by
 refine F.ok scSp (fun vs H Q E h => ?_) (fun cdv A outer s H vs Q E hr h => ?_)
 ·obtain ⟨m, tks, sz, x, v, rfl, _⟩ := h
  rfl
 obtain ⟨m, tks, sz, x, v, rfl, hv, ok, k⟩ := h
 refine' ⟨_, ?hb, ?rd⟩
 case' hb => skip
 case' hb => refine' zf ?g1 ?g2
 case' g2 => refine' zf ?g3 ?g4
 case' g4 => refine' zg ?g5
 case' g1 => refine' xB (i := 1) (ix := []) nmSp.nd rfl loSp_1 bsSpa.toCScope rfl rfl ?g6 ?g7 ?g8 ?g9
 case g6 => exact yd (ziq (pvd nmSp 0) (pe_k B.keK))
 case g7 => exact fun _ _ _ _ _ _ => pgb bsSpa 0
 case g8 => exact fun _ _ _ _ _ _ => zz
 case g9 => exact fun _ _ _ _ _ _ => zo zI zp (pe_f fWs hr (by decide) (pa_1 (pvb bsSpa 0)) (bsSpa.g 0))
 case g3 => exact yE (yn PySem.F.plainAttrs_list PySem.F.slot_list_append PySem.F.type_list_append yI (pvd nmSp 1) (pa_1 (zo zI zp (pe_f fWs hr (by decide) (pa_1 (ziq (pvd nmSp 0) (pe_k B.heK)))))))
 case g5 => exact zl (zo yp (pvd nmSp 1) (pe_f fR hr (by decide) (pa_1 (ziq (pvd nmSp 0) (pe_k B.trK)))))
 obtain ⟨p, ks, hq, tv, kas, rfl, h1, h2, h3, h4, h5⟩ := hv
 have k8 := ok.k8
 have hkl := h3.len
 have m1 := ok.m1
 have m8 := ok.m8
 walk_at "v"
 refine zm h1 rfl ?_
 refine ⟨ks, rfl, ⟨_, SqT.of h2⟩, fun D hD => ?_⟩
 refine yY (S := Same) (xs := kas.map V.ref) (ρ := []) (fun j y _ => ∃ r, x.kep[j]? = some r ∧ y = .str (ln (("kept" : Str) :: r.map fT))) (Kp.same hD) (fun _ h => h) (fun _ b => TK.same b) (by rw [List.length_map]; omega) (fun H' k' => SqT.of (k' _ _ h2)) ?_ ?_
 ·rintro i y H' R hy K' kR
  rw [List.getElem?_map] at hy
  cases hi : kas[i]? with
  | none => rw [hi] at hy; cases hy
  | some a =>
   rw [hi] at hy
   cases hy
   obtain ⟨r, hr1, hr2⟩ := h3.at hi
   obtain ⟨q1, q2⟩ := ok.kl r (List.mem_of_getElem? hr1)
   walk_at "v"
   refine ⟨a, r, rfl, K' _ _ hr2, by omega, q2, fun H2 K2 => ?_⟩
   have hwd : ∀ w ∈ r.map fT, Wd w := fun w hw => by
    obtain ⟨i, hi, rfl⟩ := List.mem_map.mp hw
    exact xt (q2 i hi)
   have hll := xy hwd (by rw [List.length_map]; omega)
   refine ⟨_, _, rfl, rfl, by rw [sizeLine_eq]; show 5 + _ ≤ _; omega, ?_⟩
   refine kR _ _ K2 ⟨r, hr1, ?_⟩
   rw [rowW (fun z => by rw [z] at q1; simp at q1; omega), show ("kept" : Str) ++ " " = "kept " by decide]
 ·rintro ys H1 ⟨K1, hl', hY⟩ e1
  rw [List.length_map] at hl'
  have e := yy (f := fun r => V.str (ln (("kept" : Str) :: r.map fT))) (hl'.trans hkl) hY
  subst e
  have hhl := ok.hl
  have hwd : ∀ w ∈ x.hei.map fT, Wd w := fun w hw => by
   obtain ⟨i, hi, rfl⟩ := List.mem_map.mp hw
   exact xt (ok.hn i hi).1
  have hll := xy hwd (by rw [List.length_map]; omega)
  walk_at "v"
  refine ⟨.inl ⟨rfl, _, SqL.of e1⟩, ?_⟩
  walk_at "v"
  refine zm (K1 _ _ h1) rfl ?_
  walk_at "v"
  refine ⟨hq, x.hei, rfl, K1 _ _ h4, by omega, fun i hi => (ok.hn i hi).1, fun H2 K2 => ?_⟩
  refine ⟨_, _, rfl, rfl, by rw [sizeLine_eq]; show 7 + _ ≤ _; omega, ?_⟩
  rw [show ("height " : Str) ++ ln (x.hei.map fT) = ln (("height" : Str) :: x.hei.map fT) by rw [rowW (fun z => by rw [z] at hhl; simp at hhl; omega), show ("height" : Str) ++ " " = "height " by decide]]
  have e2 := K2 _ _ e1
  have K02 := K1.trans K2
  walk_at "v"
  refine ⟨D, _, _, rfl, rfl, e2, by rw [List.length_map]; exact zn (by omega), ?_⟩
  obtain ⟨H3, q, K3, e3⟩ := nop (.lst (x.kep.map (fun r => V.str (ln (("kept" : Str) :: r.map fT))) ++ [.str (ln (("height" : Str) :: x.hei.map fT))])) K02 hD; rw [q]; clear q
  walk_at "v"
  refine zm (K3 _ _ h1) rfl ?_
  walk_at "v"
  refine ⟨x.d, ok.d3, m, tks, sz, x.t, tv, rfl, TrAt.tk (TK.same K3) _ h5, ok.tr, ok.d3, fun l H4 K4 hl e4 => ?_⟩
  have htl := yo _ ok.tr
  have h585 := wn ok.d3
  refine ⟨D, l, _, _, rfl, rfl, K4 _ _ e3, e4, Nat.le_of_lt (zn (by simp only [txs, List.length_map, List.length_append, List.length_cons, List.length_nil]; omega)), fun z hz => ?_⟩
  refine k z _ ((K3.trans K4).new hz) (Same.free (K3.trans K4) hz) ?_
  rw [ze]
  unfold Pap.W txs
  simp only [List.map_append, List.map_map, List.map_cons, List.append_assoc, List.cons_append, List.nil_append]
  rfl
end
end K37
namespace PT
open PySem L2 G2
def fT (i : Int) : Str := Str.ofString (toString i)
def inF (y : Str) : Bool := !(Builtin.Str.occurrences "0123456789" y 0 (Str.length "0123456789") 1).isEmpty
def figB (x : Str) : Bool := decide (x.length ≤ 10) && (sg x).all inF && (match x.cps.toList with | [] => false | c :: _ => decide (x = "0") || !decide ((⟨#[c]⟩ : Str) = "0"))
def inL (y : Str) : Bool := !(Builtin.Str.occurrences "abcdefghijklmnopqrstuvwxyz" y 0 (Str.length "abcdefghijklmnopqrstuvwxyz") 1).isEmpty
def noNames : List Str := ["sorts", "begin", "in", "out", "rule", "to"]
def W0 (x : Str) : Bool := decide (1 ≤ x.length) && decide (x.length ≤ 8) && !decide (x ∈ noNames) && (sg x).all inL && x.cps.toList.all fun c => decide (97 ≤ c) && decide (c ≤ 122)
structure Cnt (i : Int) : Prop where
 fig : figB (fT i) = true
 l2 : (fT i).length ≤ 2
 rd : PySem.intText? (fT i) = some i
 ch : ∀ c ∈ (fT i).cps.toList, 48 ≤ c ∧ c ≤ 57
 lg : i.natAbs.log2 < 1920
structure Wd (w : Str) : Prop where
 l : w.length ≤ 8
 ch : ∀ c ∈ w.cps.toList, 33 ≤ c ∧ c ≤ 127
structure Nme (x : Str) : Prop where
 b : W0 x = true
 l1 : 1 ≤ x.length
 l8 : x.length ≤ 8
 no : x ∉ noNames
 al : (sg x).all inL = true
 ch : ∀ c ∈ x.cps.toList, 97 ≤ c ∧ c ≤ 122
def ln (ws : List Str) : Str := Txt.join ⟨#[32]⟩ ws
structure Sd (m : Nat) (cs : List Int) : Prop where
 l : cs.length = m
 b : ∀ c ∈ cs, 0 ≤ c ∧ c ≤ 9
structure PD where
 nm : List Str
 rl : List (List Int × List Int)
 ins : List Int
 beg : List Int
 ans : Int
structure PD.ok (d : PD) (m : Nat) : Prop where
 nl : d.nm.length = m
 nd : d.nm.Nodup
 nb : ∀ x ∈ d.nm, W0 x = true
 m0 : 0 < m
 m8 : m ≤ 8
 r8 : d.rl.length ≤ 8
 rs : ∀ r ∈ d.rl, Sd m r.1 ∧ Sd m r.2 ∧ (∃ x ∈ r.1, 0 < x) ∧ r.1 ≠ r.2
 hi : ∀ i ∈ d.ins, 0 ≤ i ∧ i < m
 i3 : d.ins.length ≤ 3
 inn : d.ins.Nodup
 bl : d.beg.length = m
 hb : ∀ b ∈ d.beg, 0 ≤ b ∧ b ≤ 99
 ha : 0 ≤ d.ans ∧ d.ans < m
end PT
namespace L2
open PySem PySem.Spec PyProof.Rows
def TupF (H : Hp) (l : Addr) (ys : List V) : Prop := ∃ o, H l = some (.frz o (.tup ys)) ∧ o.dict = none ∧ o.cls = .type "tuple"
end L2
namespace L2
open PySem
end L2
namespace PT
open PySem L2 G2
structure KP (mg : Str → Option Value) : Prop where
 sorts : Kn mg "SORTS" 0
 rules : Kn mg "RULES" 1
 inputs : Kn mg "INPUTS" 2
 begin : Kn mg "BEGIN" 3
 answer : Kn mg "ANSWER" 4
 takes : Kn mg "TAKES" 0
 gives : Kn mg "GIVES" 1
structure KR (K : W.Frag) (mg : Str → Option Value) : Prop where
 fig : KnS mg "FIGURES" "0123456789"
 lets : KnS mg "LETTERS" "abcdefghijklmnopqrstuvwxyz"
 no : GTup K mg "NO_NAMES" (noNames.map V.str)
 mlet : Kn mg "MOST_LETTERS" 8
 msor : Kn mg "MOST_SORTS" 8
 mbeg : Kn mg "MOST_BEGIN" 99
 minp : Kn mg "MOST_INPUTS" 3
 mrul : Kn mg "MOST_RULES" 8
 mdro : Kn mg "MOST_DROPS" 9
 mfig : Kn mg "MOST_FIGURES" 2
 l0 : Kn mg "SORTS_LINE" 0
 l1 : Kn mg "BEGIN_LINE" 1
 l2 : Kn mg "IN_LINE" 2
 l3 : Kn mg "OUT_LINE" 3
 l4 : Kn mg "FIRST_RULE" 4
def RlD (H : Hp) (r : Addr) (x : List Int × List Int) : Prop := ∃ a b, H r = some (.tup [.ref a, .ref b]) ∧ H a = some (.tup (x.1.map V.int)) ∧ H b = some (.tup (x.2.map V.int))
def RlsD (H : Hp) : List Addr → List (List Int × List Int) → Prop
 | [], [] => True
 | r :: rs, x :: xs => RlD H r x ∧ RlsD H rs xs
 | _, _ => False
structure PotF (fz : Bool) (H : Hp) (p : Addr) (d : PD) : Prop where
 ex : ∃ (ps pr pin pb : Addr) (rs : List Addr), H p = some (.tup [.ref ps, .ref pr, .ref pin, .ref pb, .int d.ans]) ∧ (if fz = true then TupF H ps (d.nm.map V.str) else H ps = some (.tup (d.nm.map V.str))) ∧ H pr = some (.tup (rs.map V.ref)) ∧ RlsD H rs d.rl ∧
  H pin = some (.tup (d.ins.map V.int)) ∧ H pb = some (.tup (d.beg.map V.int))
end PT
namespace L2
open PySem PySem.Spec PyProof.Rows
end L2
namespace L2
open PySem PySem.Spec PyProof.Rows Builtin Builtin.Str
end L2
namespace PT
open PySem L2 G2
abbrev Bad := Nat × Nat
def nameP (x : Str) : Bool := decide (1 ≤ x.length) && (decide (x.length ≤ 8) && (!decide (x ∈ noNames) && (sg x).all inL))
def val (x : Str) : Int := (PySem.intText? x).getD 0
def plc (x : Str) : List Str → Option Nat
 | [] => none
 | y :: r => if y = x then some 0 else (plc x r).map (· + 1)
def rSort (ws : List Str) (z i : Nat) (nm : List Str) : Except Bad Nat := match plc (ws.getD i "") nm with
 | some q => .ok q
 | none => .error (z, i)
def rIn (ws nm : List Str) : Nat → Nat → List Int → Except Bad (List Int)
 | 0, _, acc => .ok acc
 | n + 1, i, acc => match rSort ws 2 i nm with
  | .error b => .error b
  | .ok q => if acc.length = 3 ∨ (q : Int) ∈ acc then .error (2, i) else rIn ws nm n (i + 1) (acc ++ [(q : Int)])
def nums (lo n : Nat) : List Str := (List.range n).map fun k => fT ((lo + k : Nat) : Int)
def gdW (h : Nat) (sorts : List Str) (x : Str) : Bool := if h = 0 then nameP x else if h = 1 then decide (x ∈ nums 0 100) else decide (x ∈ sorts)
def hfB (h most : Nat) (ws sorts : List Str) (i : Nat) : Prop := most < i ∨ gdW h sorts (ws.getD i "") = false ∨ ((h = 0 ∨ h = 2) ∧ ws.getD i "" ∈ (ws.take i).drop 1)
instance {h most : Nat} {ws sorts : List Str} {i : Nat} : Decidable (hfB h most ws sorts i) := by unfold hfB; infer_instance
def hfGo (h most : Nat) (ws sorts : List Str) : Nat → Nat → Option Nat
 | 0, _ => none
 | n + 1, i => if hfB h most ws sorts i then some i else hfGo h most ws sorts n (i + 1)
def hf (h least most : Nat) (ws sorts : List Str) : Option Nat := match hfGo h most ws sorts (ws.length - 1) 1 with
 | some i => some i
 | none => if ws.length ≤ least then some ws.length else none
def sfT (ws : List Str) (to : Bool) (m i : Nat) (cs : List Int) : Prop := i < ws.length ∧ (¬ (to = true ∧ ws.getD i "" = "to") ∨ cs = List.replicate m 0)
instance {ws : List Str} {to : Bool} {m i : Nat} {cs : List Int} : Decidable (sfT ws to m i cs) := by unfold sfT; infer_instance
def hdW (z : Nat) : Str := (["sorts", "begin", "in", "out"] : List Str).getD z ""
def eo {α : Type} (r : Except Bad α) (k : Option Bad) : Option Bad := match r with
 | .error b => some b
 | .ok _ => k
end PT
namespace L2
open PySem PySem.Spec PyProof.Rows Builtin Builtin.Str
end L2
namespace PT
open PySem L2 G2
def wl (ws : List Str) : Nat := (ws.map fun w => w.length + 1).sum
end PT
namespace L2
open PySem PySem.Spec PyProof.Rows
theorem sqL0 {K : W.Frag} {H : Hp} {a : Addr} {xs : List V} (h : SqL [] H a xs) : SqL K H a xs := h.elim .inl fun ⟨_, _, _, e, _⟩ => nomatch e
theorem tyV0 {K : W.Frag} {T : String} {x : V} {H : Hp} (h : tyV [] T x H) : tyV K T x H := by
 cases x with
 | ref p =>
  rcases h with ⟨a, xs, h⟩ | ⟨_, o, e, _⟩ | h | h
  ·exact .inl ⟨a, xs, sqL0 h⟩
  ·cases e
  ·exact .inr (.inr (.inl h))
  ·exact .inr (.inr (.inr h))
 | _ => exact h
section
variable {X : Cx}
theorem sl_list0 : SlR X (rSlL []) := fun pins s σ H x v vl vu lo hi sl Q I rx hs h1 h2 h => ym pins s σ H x v vl vu lo hi sl Q I rx hs h1 h2 (let ⟨a, xs, e, ha, q⟩ := h; ⟨a, xs, e, sqL0 ha, q⟩)
theorem YQ {o e : Expr} {es : List Expr} {to : TE} {t : TA} {name : Str} {apos cpos : Pos} {T id : String} {r : V → List V → Hp → VK → Prop} (pa : PlainAttrs T) (slot : Slot T name id) (hty : typeOf (.builtin id) = pure (.type "method_descriptor")) (hm : MtR X id r) (ho : PE X o to) (ha : PA X (e :: es) t)
  (hbase : attributeBase o name X.env (eval o X.env) = eval o X.env := by rfl)
  (hfew : ((backTo cpos (starEach (e :: es) X.env)).all (fun x => !x.1) && (backToKw cpos (keywordEach [] X.env)).all (fun x => x.1.isSome)
   && decide ((e :: es).length + ([] : List Keyword).length + (if ([] : List Keyword).isEmpty then 0 else 1) < 30)) = true := by rfl)
  (hline : (apos.endLine == cpos.line) = true := by rfl) (hs : starEach (e :: es) X.env = (false, eval e X.env) :: starEach es X.env := by rfl) (hplain : (backTo cpos (starEach es X.env)).any (·.1) = false := by rfl) :
  PE X (.Call (.Attribute o name apos) (e :: es) [] cpos) (tBM [] T r to t) := by
 intro pins s σ H Q I h
 refine wpAny_Call_method_late hbase hfew hline rfl (thn (ho pins s σ H _ I h) fun v s1 ⟨x, H1, I1, r1, ty, q1⟩ => ?_)
 obtain ⟨h1, h2⟩ := Z6 I1 r1 (tyV0 ty)
 refine ⟨T, id, pa, slot, hty, h1, h2, ?_⟩
 have hA := ha cpos pins s1 σ H1 _ I1 q1
 rw [hs] at hA ⊢
 refine Calls.callWith_builtin (by show (false || (backTo cpos (starEach es X.env)).any (·.1)) = false; rw [hplain] <;> rfl) (Calls.evalArgs_plain ?_)
 exact thn hA fun us s2 ⟨vs, H2, I2, r2, q2⟩ => hm pins s2 σ H2 x vs v us Q I2 r1 r2 q2
end
end L2
namespace L2
open PySem PySem.Spec PyProof.Rows G2
section
variable {D : Addr} {te : TE} {tc : TT} {Q : VK} {ρ : St} {H : Hp}
theorem cgo_enl {K : W.Frag} {a : Addr} {xs : List V} (Pv : Nat → List V → Hp → Prop) (h0 : Pv 0 [] (upd H D (.lst []))) (hl : ∀ i ys H', i ≤ xs.length → Pv i ys H' → SqL K H' a xs)
  (hs : ∀ (i : Nat) x ys H' p, xs[i]? = some x → Pv i ys H' → H' D = some (.lst ys) → H' p = none → ∀ (R : V → Hp → Prop) (S : Hp → Prop), (∀ y H4, H4 D = some (.lst ys) → ys.length < sizeLine → Pv (i + 1) (ys ++ [y]) (upd H4 D (.lst (ys ++ [y]))) → R y H4) → (∀ H3, H3 D = some (.lst ys) → Pv (i + 1) ys H3 → S H3) →
   tc (some (.int (i : Int)) :: some x :: ρ) (upd H' p (.tup [.int (i : Int), x])) fun b H3 => if b = true then te (some (.int (i : Int)) :: some x :: ρ) H3 R else S H3)
  (hd : ∀ ys H', Pv xs.length ys H' → H' D = some (.lst ys) → Q (.ref D) H') : CGo (Itel K a) D (gTup K 2 (yP (zU 0) (yP (zU 1) gNil))) tc te Q (none :: none :: ρ) H := by
 refine ⟨fun i m τ ys H' => m = xs.length - i ∧ i ≤ xs.length ∧ (∃ tv tw, τ = tv :: tw :: ρ) ∧ Pv i ys H' ∧ H' D = some (.lst ys), ⟨xs.length, by omega, Nat.zero_le _, ⟨_, _, rfl⟩, h0, ze⟩, ?_⟩
 rintro i m τ ys H' ⟨rfl, hi, ⟨tv, tw, rfl⟩, hp, hD⟩
 refine ⟨hD, ?_⟩
 have sq := hl i ys H' hi hp
 by_cases hlt : i < xs.length
 ·refine .inr ⟨⟨xs, xs[i], sq, by simp [hlt]⟩, ?_⟩
  rintro v H'' ⟨p, x, rfl, hpn, rfl, hx⟩
  have hx' := hx xs sq
  refine ⟨p, [.int (i : Int), x], rfl, SqT.of ze, rfl, .int (i : Int), [x], rfl, x, [], rfl, rfl, ?_⟩
  exact hs i x ys _ p hx' hp hD hpn _ _ (fun y H4 a b c => ⟨a, b, xs.length - (i + 1), by omega, rfl, hlt, ⟨_, _, rfl⟩, c, ze⟩) fun H3 a c => ⟨xs.length - (i + 1), by omega, rfl, hlt, ⟨_, _, rfl⟩, c, a⟩
 ·have e : i = xs.length := by omega
  subst e
  exact .inl ⟨⟨xs, sq, by first | exact Nat.le_refl _ | rfl⟩, hd ys _ hp hD⟩
end
theorem w_compEl {K : W.Frag} {ta : TA} {n : Nat} {ix : List Nat} {g : TG} {tc : TT} {te : TE} {σ : St} {H : Hp} {Q : VK} (h : ta σ H fun vs H1 => ∃ a, vs = [.ref a] ∧ (∃ xs, SqL K H1 a xs) ∧ ∀ D, H1 D = none → CGo (Itel K a) D g tc te Q (List.replicate n none ++ sub ix σ) H1) : xH (iEnl K ta) n ix g tc te σ H Q := h
section
variable {S : Hp → Hp → Prop} {D : Addr} {te : TE} {Q : VK} {ρ : St} {H : Hp} {K : W.Frag} {a b : Addr} {xs zs : List V} {n : Nat}
theorem We (Ok : Nat → V → Hp → Prop) (n1 : n ≤ xs.length) (n2 : n ≤ zs.length) (n3 : xs.length ≤ n ∨ zs.length ≤ n) (hD : H D = none) (mono : ∀ {j y H1 H2}, TK H1 H2 → Ok j y H1 → Ok j y H2) (hn : n ≤ 1000) (ha : H a = some (.lst xs)) (hb : H b = some (.lst zs))
  (step : ∀ i x z H' (R : V → Hp → Prop), i < n → xs[i]? = some x → zs[i]? = some z → Same H H' → (∀ y H4, Same H' H4 → Ok i y H4 → R y H4) → te (some x :: some z :: ρ) H' R)
  (q : ∀ ys H', GP Same Ok H n ys H' → H' D = some (.lst ys) → Q (.ref D) H') : CGo (Itzl K a b) D (gTup K 2 (yP (zU 0) (yP (zU 1) gNil))) tAll te Q (none :: none :: ρ) H := by
 have kp := Kp.same hD
 refine cgo_zpl n1 n2 n3 (fun i ys H' => GP Same Ok H i ys H') ⟨kp.refl, rfl, fun j y h => by simp at h⟩ (fun i ys H' _ g => ⟨SqL.of (g.1 _ _ ha), SqL.of (g.1 _ _ hb)⟩) ?_ q
 rintro i x z ys H' p hi hx hz g hDz hp R S' kR _
 have kn : Same H' (upd H' p (.tup [x, z])) := Same.new (Same.refl _) hp
 refine yz (iteT (step i x z _ R hi hx hz (g.1.trans kn) fun y H4 k hy => ?_))
 have k' := kn.trans k
 exact kR y H4 (k' _ _ hDz) (zn (by have := g.2.1; omega)) (wj (Ok := Ok) kp mono (fun _ b => TK.same b) g k' (k' _ _ hDz) hy)
end
end L2
namespace K37
open PySem L2 G2
theorem w_notV {ta : TE} {σ : St} {H : Hp} {Q : VK} (h : ta σ H fun x H1 => ∃ c, x = .bl c ∧ Q (.bl (!c)) H1) : Wu ta σ H Q := h
abbrev sIw : Stmt := top 13
abbrev nIw : List Str := ["thing"]
theorem nmIw : Nm nIw (zc sIw) := nmk (by decide +kernel)
theorem scIw : FnScope nIw ["thing"] (zc sIw) := fsk (by decide +kernel)
def spIw : Sp := fun vs H Q _ => ∃ i : Int, vs = [.int i] ∧ Q (.bl true) H
section
variable {P : Program} {w : World} {K : W.Frag} {mg : Str → Option Value} {base : Heap}
theorem ok_Iw {f : Addr} {fd : FuncData} (B : Blt4 mg) (F : Fun K "is_whole" "is_whole" sIw f fd) : FnOk P w K mg base CX0 1 f fd ["thing"] spIw := by
 refine F.ok scIw (fun vs H Q E h => ?_) (fun cdv A outer s H vs Q E hr h => ?_)
 ·obtain ⟨i, rfl, _⟩ := h
  rfl
 obtain ⟨i, rfl, k⟩ := h
 refine' ⟨_, ?hb, ?rd⟩
 case' hb => skip
 case' hb => refine' zg ?g1
 case g1 => exact zl (x6 (zF y4 B.isi PyProof.Rows.boot_isinstance (pa_2 (pvd nmIw 0) (xC (v := .ty "int") rfl B.int PyProof.Rows.boot_int rfl))) (wv (pe_not (zF y4 B.isi PyProof.Rows.boot_isinstance (pa_2 (pvd nmIw 0) (xC (v := .ty "bool") rfl B.bool PyProof.Rows.boot_bool rfl))))))
 walk_at "v"
 refine xW ?_
 walk_at "v"
 refine ⟨_, _, _, _, rfl, .int i, kit_ii _, ?_⟩
 refine ⟨_, rfl, ?_⟩
 refine iteT ?_
 walk_at "v"
 refine w_notV ?_
 walk_at "v"
 refine ⟨_, _, _, _, rfl, .int i, kit_ib _, ?_⟩
 refine ⟨_, rfl, ?_⟩
 exact k
abbrev sIww : Stmt := top 14
abbrev nIww : List Str := ["thing", "low", "high"]
theorem YX : Nm nIww (zc sIww) := nmk (by decide +kernel)
theorem scIww : FnScope nIww ["thing", "low", "high"] (zc sIww) := fsk (by decide +kernel)
def WM : Sp := fun vs H Q _ => ∃ i lo hi : Int, vs = [.int i, .int lo, .int hi] ∧ lo ≤ i ∧ i ≤ hi ∧ Q (.bl true) H
theorem ok_Iww {f : Addr} {fd : FuncData} (B : Blt4 mg) (fI : Has P w K mg base 1 "is_whole" ["thing"] spIw) (F : Fun K "is_whole_within" "is_whole_within" sIww f fd) : FnOk P w K mg base CX0 2 f fd ["thing", "low", "high"] WM := by
 refine F.ok scIww (fun vs H Q E h => ?_) (fun cdv A outer s H vs Q E hr h => ?_)
 ·obtain ⟨i, lo, hi, rfl, _⟩ := h
  rfl
 obtain ⟨i, lo, hi, rfl, h1, h2, k⟩ := h
 refine' ⟨_, ?hb, ?rd⟩
 case' hb => skip
 case' hb => refine' zg ?g1
 case g1 => exact zl (x6 (pe_f fI hr (by decide) (pa_1 (pvd YX 0))) (wv (pe_chain WX WX (pvd YX 1) (pvd YX 0) (pvd YX 2))))
 walk_at "v"
 refine xW ?_
 walk_at "v"
 refine ⟨i, rfl, ?_⟩
 refine ⟨_, rfl, ?_⟩
 refine iteT ?_
 walk_at "v"
 rw [decide_eq_true h1]
 first
  | refine iteT ?_
  | skip
 walk_at "v"
 rw [decide_eq_true h2]
 exact k
abbrev sIwt : Stmt := top 41
abbrev nIwt : List Str := ["thing"]
theorem vZ : Nm nIwt (zc sIwt) := nmk (by decide +kernel)
theorem scIwt : FnScope nIwt ["thing"] (zc sIwt) := fsk (by decide +kernel)
def WN : Sp := fun vs H Q _ => ∃ (a : Addr) (x y : Int), vs = [.ref a] ∧ H a = some (.tup [.int x, .int y]) ∧ 0 ≤ x ∧ 1 ≤ y ∧ Q (.bl true) H
theorem ok_Iwt {f : Addr} {fd : FuncData} (B : Blt4 mg) (fI : Has P w K mg base 1 "is_whole" ["thing"] spIw) (F : Fun K "is_weight" "is_weight" sIwt f fd) : FnOk P w K mg base CX0 2 f fd ["thing"] WN := by
 refine F.ok scIwt (fun vs H Q E h => ?_) (fun cdv A outer s H vs Q E hr h => ?_)
 ·obtain ⟨a, x, y, rfl, _⟩ := h
  rfl
 obtain ⟨a, x, y, rfl, ha, x0, y1, k⟩ := h
 refine' ⟨_, ?hb, ?rd⟩
 case' hb => skip
 case' hb => refine' zf ?g1 ?g2
 case' g2 => refine' zg ?g3
 case' g1 => refine' zC ?g4 ?g5 zw
 case g4 => exact PW.pt (yQ (yN (yr (zF y4 B.isi PyProof.Rows.boot_isinstance (pa_2 (pvd vZ 0) (xC (v := .ty "tuple") rfl B.tuple PyProof.Rows.boot_tuple rfl))))) (yB (zq xq (zF zr B.len PySem.boot_len (pa_1 (pvd vZ 0))) zd (zt _))))
 case' g5 => refine' zg ?g7
 case g7 => exact zl vw
 case g3 => exact zl (x6 (pe_f fI hr (by decide) (pa_1 (ziq (pvd vZ 0) zd))) (x6 (yT vX (ziq (pvd vZ 0) zd) zd (zt _)) (x6 (pe_f fI hr (by decide) (pa_1 (ziq (pvd vZ 0) zd))) (wv (yT vX (ziq (pvd vZ 0) zd) zd (zt _))))))
 walk_at "v"
 refine ⟨_, _, _, _, rfl, .tup ha, Ye _, ?_⟩
 walk_at "v"
 refine iteF ?_
 walk_at "v"
 refine ⟨a, _, rfl, .inr (SqT.of ha), ?_⟩
 walk_at "v"
 refine ⟨rfl, ?_⟩
 walk_at "v"
 refine xK rfl ?_
 walk_at "v"
 refine xW ?_
 walk_at "v"
 refine zm ha rfl ?_
 refine ⟨x, rfl, ?_⟩
 refine ⟨_, rfl, ?_⟩
 refine iteT ?_
 refine xW ?_
 walk_at "v"
 refine zm ha rfl ?_
 walk_at "v"
 rw [decide_eq_true x0]
 refine iteT ?_
 refine xW ?_
 walk_at "v"
 refine zm ha rfl ?_
 refine ⟨y, rfl, ?_⟩
 refine ⟨_, rfl, ?_⟩
 refine iteT ?_
 walk_at "v"
 refine zm ha rfl ?_
 walk_at "v"
 rw [decide_eq_true y1]
 exact k
abbrev sIws : Stmt := top 40
abbrev nIws : List Str := ["thing", "numbers"]
theorem nmIws : Nm nIws (zc sIws) := nmk (by decide +kernel)
theorem scIws : FnScope nIws ["thing"] (zc sIws) := fsk (by decide +kernel)
def qIwsa (s : Stmt) : Scope := match s with
 | .If (.BoolOp _ [_, (.UnaryOp _ (.Call _ [(.ListComp _ _ sc _)] _ _) _)] _) _ _ _ => sc
 | _ => nsc
abbrev cIwsa : Scope := qIwsa ((zu sIws).getD 0 (.Pass ⟨0, 0, 0, 0⟩))
theorem bsIwsa : BScope (zc sIws) cIwsa ["pair"] [] ["is_weight"] := { okind := by decide +kernel, kind := by decide +kernel, nocell := by decide +kernel, names := by decide +kernel, fr := by decide +kernel, ff := by decide +kernel, nd := by decide +kernel, vis := by decide +kernel, loc := by decide +kernel, gl := by decide +kernel }
def qIwsb (s : Stmt) : Scope := match s with
 | .Assign _ (.ListComp _ _ sc _) _ => sc
 | _ => nsc
abbrev cIwsb : Scope := qIwsb ((zu sIws).getD 1 (.Pass ⟨0, 0, 0, 0⟩))
theorem bsIwsb : BScope (zc sIws) cIwsb ["pair"] [] [] := { okind := by decide +kernel, kind := by decide +kernel, nocell := by decide +kernel, names := by decide +kernel, fr := by decide +kernel, ff := by decide +kernel, nd := by decide +kernel, vis := by decide +kernel, loc := by decide +kernel, gl := by decide +kernel }
def qIwsc (s : Stmt) : Scope := match s with
 | .Return (some (.Call _ [(.ListComp _ _ sc _)] _ _)) _ => sc
 | _ => nsc
abbrev cIwsc : Scope := qIwsc ((zu sIws).getD 2 (.Pass ⟨0, 0, 0, 0⟩))
theorem bsIwsc : BScope (zc sIws) cIwsc ["one", "other"] [] [] := { okind := by decide +kernel, kind := by decide +kernel, nocell := by decide +kernel, names := by decide +kernel, fr := by decide +kernel, ff := by decide +kernel, nd := by decide +kernel, vis := by decide +kernel, loc := by decide +kernel, gl := by decide +kernel }
theorem loIws_1 : (zc sIws).names.lookup ("numbers" : Str) = some .local := by decide +kernel
def Xw : Sp := fun vs H Q _ => ∃ (q : Addr) (w : List Wt), vs = [.ref q] ∧ WsAt H q w ∧ WOk w ∧ ∀ H', Same H H' → Q (.bl true) H'
theorem vN : ∀ {bs : List Bool}, (∀ b ∈ bs, b = true) → bs.all id = true := fun {bs} h => by
 rw [List.all_eq_true]
 exact fun b hb => h b hb
theorem Vd {α : Type} (f : α → V) (xs : List α) : cutV (xs.map f) (some 1) none = (xs.drop 1).map f := by
 unfold cutV HT.sIx
 dsimp only
 rw [if_neg (by decide : ¬ (1 : Int) < 0)]
 show List.take ((xs.map f).length - min 1 (xs.map f).length) (List.drop (min 1 (xs.map f).length) (xs.map f)) = _
 cases xs with
 | nil => rfl
 | cons x xs =>
  have e : min 1 ((x :: xs).map f).length = 1 := by simp
  rw [e, List.take_of_length_le (by rw [List.length_drop]; exact Nat.le_refl _), List.map_drop]
theorem ok_Iws {f : Addr} {fd : FuncData} (B : Blt4 mg) (fI : Has P w K mg base 2 "is_weight" ["thing"] WN) (F : Fun K "is_weights" "is_weights" sIws f fd) : FnOk P w K mg base CX0 3 f fd ["thing"] Xw := by
 refine F.ok scIws (fun vs H Q E h => ?_) (fun cdv A outer s H vs Q E hr h => ?_)
 ·obtain ⟨q, w, rfl, _⟩ := h
  rfl
 obtain ⟨q, w, rfl, hw, ok, k⟩ := h
 refine' ⟨_, ?hb, ?rd⟩
 case' hb => skip
 case' hb => refine' zf ?g1 ?g2
 case' g2 => refine' zf ?g3 ?g4
 case' g4 => refine' zg ?g5
 case' g1 => refine' zC ?g6 ?g7 zw
 case' g6 => refine' PW.pt ?g9
 case' g9 => refine' yQ (yN (yr (zF y4 B.isi PyProof.Rows.boot_isinstance (pa_2 (pvd nmIws 0) (xC (v := .ty "tuple") rfl B.tuple PyProof.Rows.boot_tuple rfl))))) ?g10
 case' g10 => refine' yB ?g11
 case' g11 => refine' yN ?g12
 case' g12 => refine' yr ?g13
 case' g13 => refine' zF (y6 rfl) B.all PyProof.Rows.boot_all ?g14
 case' g14 => refine' pa_1 ?g15
 case' g15 => refine' zB (ix := []) bsIwsa.toCScope rfl rfl ?g16 ?g17 ?g18 ?g19
 case g16 => exact yd (pvd nmIws 0)
 case g17 => exact fun _ _ _ _ _ _ => pgb bsIwsa 0
 case g18 => exact fun _ _ _ _ _ _ => zz
 case g19 => exact fun _ _ _ _ _ _ => pe_f fI hr (by decide) (pa_1 (pvb bsIwsa 0)) (bsIwsa.g 0)
 case' g7 => refine' zg ?g20
 case g20 => exact zl vw
 case' g3 => refine' xB (i := 1) (ix := []) nmIws.nd rfl loIws_1 bsIwsb.toCScope rfl rfl ?g21 ?g22 ?g23 ?g24
 case g21 => exact yd (pvd nmIws 0)
 case g22 => exact fun _ _ _ _ _ _ => pgb bsIwsb 0
 case g23 => exact fun _ _ _ _ _ _ => zz
 case g24 => exact fun _ _ _ _ _ _ => ziq (pvb bsIwsb 0) zd
 case' g5 => refine' zl ?g25
 case' g25 => refine' zF (y6 rfl) B.all PyProof.Rows.boot_all ?g26
 case' g26 => refine' pa_1 ?g27
 case' g27 => refine' zB (ix := []) bsIwsc.toCScope rfl rfl ?g28 ?g29 ?g30 ?g31
 case g28 => exact XH B.zip (pa_2 (pvd nmIws 1) (zO ym (pvd nmIws 1) (zM zd) yh))
 case g29 =>
  intro _ _ _ _ _ _
  refine' yS (n := 2) rfl ?g32
  case' g32 => refine' zN ?g36 ?g35
  case g36 => exact pgb bsIwsc 0
  case' g35 => refine' zN ?g38 yF
  case g38 => exact pgb bsIwsc 1
 case g30 => exact fun _ _ _ _ _ _ => zz
 case g31 => exact fun _ _ _ _ _ _ => yT YU (pvb bsIwsc 0) (pvb bsIwsc 1) (zt _)
 obtain ⟨as, h1, h2⟩ := hw
 have hl := h2.len
 have l3 := ok.l3
 walk_at "v"
 refine ⟨_, _, _, _, rfl, .tup h1, Ye _, ?_⟩
 walk_at "v"
 refine iteF ?_
 walk_at "v"
 refine ⟨q, rfl, ⟨_, SqT.of h1⟩, fun D hD => ?_⟩
 refine yY (S := Same) (xs := as.map V.ref) (ρ := []) (fun j y _ => y = .bl true) (Kp.same hD) (fun _ h => h) (fun _ b => TK.same b) (by rw [List.length_map]; omega) (fun H' k' => SqT.of (k' _ _ h1)) ?_ ?_
 ·rintro i x H' R hx K' kR
  rw [List.getElem?_map] at hx
  cases hi : as[i]? with
  | none => rw [hi] at hx; cases hx
  | some a =>
   rw [hi] at hx
   cases hx
   obtain ⟨y, hy, e⟩ := h2.at hi
   have hnu := ok.nu y (List.mem_of_getElem? hy)
   walk_at "v"
   exact ⟨a, _, _, rfl, K' _ _ e, hnu.2.1, hnu.2.2.2.2, kR _ _ (Same.refl _) rfl⟩
 rintro ys H1 ⟨K1, hl', hY⟩ e1
 have eb : ys = (List.replicate ys.length true).map V.bl := by
  refine List.ext_getElem (by simp) fun i g1 g2 => ?_
  have := hY i ys[i] (by simp [g1])
  rw [this]
  simp
 rw [eb] at e1
 walk_at "v"
 refine ⟨D, _, rfl, e1, ?_⟩
 rw [vN (fun b hb => (List.mem_replicate.mp hb).2)]
 walk_at "v"
 refine iteF ?_
 walk_at "v"
 refine ⟨q, rfl, ⟨_, SqT.of (K1 _ _ h1)⟩, fun D2 hD2 => ?_⟩
 refine yY (S := Same) (xs := as.map V.ref) (ρ := []) (fun j y _ => ∃ x, w[j]? = some x ∧ y = .int x.1) (Kp.same hD2) (fun _ h => h) (fun _ b => TK.same b) (by rw [List.length_map]; omega) (fun H' k' => SqT.of (k' _ _ (K1 _ _ h1))) ?_ ?_
 ·rintro i x H' R hx K' kR
  rw [List.getElem?_map] at hx
  cases hi : as[i]? with
  | none => rw [hi] at hx; cases hx
  | some a =>
   rw [hi] at hx
   cases hx
   obtain ⟨y, hy, e⟩ := h2.at hi
   walk_at "v"
   refine zm (K' _ _ (K1 _ _ e)) rfl ?_
   exact kR _ _ (Same.refl _) ⟨y, hy, rfl⟩
 rintro zs H2 ⟨K2, hl2, hZ⟩ e2
 rw [List.length_map] at hl2
 have ez := yy (f := fun x : Wt => V.int x.1) (hl2.trans hl) hZ
 subst ez
 have e2' : H2 D2 = some (.lst ((w.map (·.1)).map V.int)) := by rw [List.map_map]; exact e2
 have K02 := K1.trans K2
 walk_at "v"
 refine ZK ?_
 walk_at "v"
 refine ⟨_, rfl, ?_⟩
 refine ⟨D2, _, rfl, SqL.of e2', fun D3 hD3 => ?_⟩
 rw [Vd]
 obtain ⟨H3, q, K3, e3⟩ := nob (.lst (((w.map (·.1)).drop 1).map V.int)) hD3; rw [q]; clear q
 refine ⟨D2, D3, rfl, ⟨_, SqL.of (K3 _ _ e2')⟩, ⟨_, SqL.of e3⟩, fun D4 hD4 => ?_⟩
 refine We (n := w.length - 1) (ρ := []) (fun j y _ => y = .bl true) (by simp) (by simp) (.inr (by simp)) hD4 (fun _ h => h) (by omega) (K3 _ _ e2') e3 ?_ ?_
 ·rintro i x z H' R hi hx hz K' kR
  have hi1 : i + 1 < (w.map (·.1)).length := by rw [List.length_map]; omega
  rw [List.getElem?_map, List.getElem?_eq_getElem (by omega)] at hx
  rw [List.getElem?_map, List.getElem?_drop, Nat.add_comm, List.getElem?_eq_getElem hi1] at hz
  cases hx
  cases hz
  have hlt := List.pairwise_iff_getElem.mp ok.up i (i + 1) (by omega) hi1 (by omega)
  walk_at "v"
  rw [decide_eq_true hlt]
  exact kR _ _ (Same.refl _) rfl
 rintro us H4 ⟨K4, hl4, hU⟩ e4
 have eu : us = (List.replicate us.length true).map V.bl := by
  refine List.ext_getElem (by simp) fun i g1 g2 => ?_
  have := hU i us[i] (by simp [g1])
  rw [this]
  simp
 rw [eu] at e4
 refine ⟨D4, _, rfl, e4, ?_⟩
 rw [vN (fun b hb => (List.mem_replicate.mp hb).2)]
 exact k H4 ((K02.trans K3).trans K4)
structure LOk (ws : List Str) : Prop where
 w : ∀ x ∈ ws, Wd x
 l : ws.length ≤ 19
 n : ws ≠ []
theorem wW_join (x : Wt) : wW x = Txt.join ⟨#[58]⟩ [fT x.1, fT x.2] := by
 refine wT ?_
 rw [show ∀ ws, Txt.join ⟨#[58]⟩ ws = Str.join ⟨#[58]⟩ ws from fun ws => StrLaws.glued_eq_join _ _, yl]
 unfold wW
 rw [yH, yH, ZY]
 show _ ++ [58] ++ _ = _ ++ 58 :: _
 rw [List.append_assoc]
 rfl
theorem wW_split {x : Wt} (h1 : Nu x.1) (h2 : Nu x.2) : Txt.split (wW x) ":" = [fT x.1, fT x.2] := by
 rw [wW_join, ZY]
 refine vk 58 (by intro z; cases z) fun w hw => ?_
 rcases List.mem_cons.mp hw with rfl | hw
 ·exact (zL h1).nc
 ·rcases List.mem_cons.mp hw with rfl | hw
  ·exact (zL h2).nc
  ·cases hw
abbrev sWat : Stmt := top 60
abbrev nWat : List Str := ["lines", "line"]
theorem YV : Nm nWat (zc sWat) := nmk (by decide +kernel)
theorem scWat : FnScope nWat ["lines", "line"] (zc sWat) := fsk (by decide +kernel)
def Xo : Sp := fun vs H Q _ => ∃ (l : Addr) (ls : List (List Str)) (n : Nat) (ws : List Str), vs = [.ref l, .int (n : Int)] ∧ H l = some (.lst (txs ls)) ∧ ls[n]? = some ws ∧ LOk ws ∧ ∀ r, H r = none → Q (.ref r) (upd H r (.lst (ws.map V.str)))
theorem ok_Wat {f : Addr} {fd : FuncData} (B : Blt4 mg) (F : Fun K "words_at" "words_at" sWat f fd) : FnOk P w K mg base CX0 1 f fd ["lines", "line"] Xo := by
 refine F.ok scWat (fun vs H Q E h => ?_) (fun cdv A outer s H vs Q E hr h => ?_)
 ·obtain ⟨l, ls, n, ws, rfl, _⟩ := h
  rfl
 obtain ⟨l, ls, n, ws, rfl, hl, hn, ok, k⟩ := h
 refine' ⟨_, ?hb, ?rd⟩
 case' hb => skip
 case' hb => refine' zf ?g1 ?g2
 case' g2 => refine' zg ?g3
 case' g1 => refine' zC ?g4 ?g5 zw
 case g4 => exact zq vX (pvd YV 1) (zF zr B.len PySem.boot_len (pa_1 (pvd YV 0))) (zt _)
 case g5 => exact zZ
 case g3 => exact zl (yn PySem.F.plainAttrs_str PySem.F.slot_str_split PySem.F.type_str_split vB (ziq (pvd YV 0) (pvd YV 1)) (pa_1 zp))
 have hlt : n < ls.length := (List.getElem?_eq_some_iff.mp hn).1
 walk_at "v"
 refine ⟨l, _, rfl, .inl (SqL.of hl), ?_⟩
 walk_at "v"
 refine iteD (fun z => absurd z ?_) (fun _ => ?_)
 ·simp only [txs, List.length_map]
  omega
 walk_at "v"
 refine zD (v := .str (ln ws)) hl (zx (by simp [txs, hn])) ?_
 refine ⟨rfl, ?_⟩
 walk_at "v"
 refine ⟨_, _, rfl, rfl, by decide, xy ok.w ok.l, fun r hr' => ?_⟩
 rw [vC ok.n ok.w]
 exact k r hr'
abbrev sRc : Stmt := top 61
abbrev nRc : List Str := ["words", "line"]
theorem nmRc : Nm nRc (zc sRc) := nmk (by decide +kernel)
theorem scRc : FnScope nRc ["words", "line"] (zc sRc) := fsk (by decide +kernel)
def qRca (s : Stmt) : Scope := match s with
 | .If (.UnaryOp _ (.Call _ [(.ListComp _ _ sc _)] _ _) _) _ _ _ => sc
 | _ => nsc
abbrev cRca : Scope := qRca ((zu sRc).getD 0 (.Pass ⟨0, 0, 0, 0⟩))
theorem bsRca : BScope (zc sRc) cRca ["word"] [] ["is_figures"] := { okind := by decide +kernel, kind := by decide +kernel, nocell := by decide +kernel, names := by decide +kernel, fr := by decide +kernel, ff := by decide +kernel, nd := by decide +kernel, vis := by decide +kernel, loc := by decide +kernel, gl := by decide +kernel }
def qRcb (s : Stmt) : Scope := match s with
 | .Return (some (.ListComp _ _ sc _)) _ => sc
 | _ => nsc
abbrev cRcb : Scope := qRcb ((zu sRc).getD 1 (.Pass ⟨0, 0, 0, 0⟩))
theorem bsRcb : BScope (zc sRc) cRcb ["word"] [] ["whole_of"] := { okind := by decide +kernel, kind := by decide +kernel, nocell := by decide +kernel, names := by decide +kernel, fr := by decide +kernel, ff := by decide +kernel, nd := by decide +kernel, vis := by decide +kernel, loc := by decide +kernel, gl := by decide +kernel }
def spRc : Sp := fun vs H Q _ => ∃ (l : Addr) (is : List Int) (n : Int), vs = [.ref l, .int n] ∧ H l = some (.lst ((is.map fT).map V.str)) ∧ is.length ≤ 19 ∧ (∀ i ∈ is, Nu i ∧ 0 ≤ i) ∧ ∀ r H', Same H H' → H r = none → H' r = some (.lst (is.map V.int)) → Q (.ref r) H'
theorem ok_Rc {f : Addr} {fd : FuncData} (B : Blt4 mg) (fF : Has P w K mg base 1 "is_figures" ["word"] Xx) (fW : Has P w K mg base 3 "whole_of" ["word"] (spWo 2)) (F : Fun K "read_counts" "read_counts" sRc f fd) : FnOk P w K mg base CX0 4 f fd ["words", "line"] spRc := by
 refine F.ok scRc (fun vs H Q E h => ?_) (fun cdv A outer s H vs Q E hr h => ?_)
 ·obtain ⟨l, is, n, rfl, _⟩ := h
  rfl
 obtain ⟨l, is, n, rfl, hl, h19, hN, k⟩ := h
 refine' ⟨_, ?hb, ?rd⟩
 case' hb => skip
 case' hb => refine' zf ?g1 ?g2
 case' g2 => refine' zg ?g3
 case' g1 => refine' zC ?g4 ?g5 zw
 case' g4 => refine' yN ?g7
 case' g7 => refine' yr ?g8
 case' g8 => refine' zF (y6 rfl) B.all PyProof.Rows.boot_all ?g9
 case' g9 => refine' pa_1 ?g10
 case' g10 => refine' zB (ix := []) bsRca.toCScope rfl rfl ?g11 ?g12 ?g13 ?g14
 case g11 => exact xi (pvd nmRc 0)
 case g12 => exact fun _ _ _ _ _ _ => pgb bsRca 0
 case g13 => exact fun _ _ _ _ _ _ => zz
 case g14 => exact fun _ _ _ _ _ _ => pe_f fF hr (by decide) (pa_1 (pvb bsRca 0)) (bsRca.g 0)
 case g5 => exact zZ
 case' g3 => refine' zl ?g15
 case' g15 => refine' zB (ix := []) bsRcb.toCScope rfl rfl ?g16 ?g17 ?g18 ?g19
 case g16 => exact xi (pvd nmRc 0)
 case g17 => exact fun _ _ _ _ _ _ => pgb bsRcb 0
 case g18 => exact fun _ _ _ _ _ _ => zz
 case g19 => exact fun _ _ _ _ _ _ => pe_f fW hr (by decide) (pa_1 (pvb bsRcb 0)) (bsRcb.g 0)
 have at' : ∀ (i : Nat) (x : V), ((is.map fT).map V.str)[i]? = some x → ∃ z, is[i]? = some z ∧ x = .str (fT z) := fun i x hx => by
  rw [List.getElem?_map, List.getElem?_map] at hx
  cases hi : is[i]? with
  | none => rw [hi] at hx; cases hx
  | some z => rw [hi] at hx; cases hx; exact ⟨z, rfl, rfl⟩
 walk_at "v"
 refine ⟨l, rfl, ⟨_, SqL.of hl⟩, fun D hD => ?_⟩
 refine wD (S := Same) (xs := (is.map fT).map V.str) (ρ := []) (fun j y _ => y = .bl true) (Kp.same hD) (fun _ h => h) (fun _ b => TK.same b) (by simp; omega) (fun H' k' => SqL.of (k' _ _ hl)) ?_ ?_
 ·rintro i x H' R hx K' kR
  obtain ⟨z, hz, rfl⟩ := at' i x hx
  have hnz := hN z (List.mem_of_getElem? hz)
  walk_at "v"
  exact ⟨_, rfl, (zL hnz.1).fig.resolve_left (by omega), fun H4 K4 => kR _ _ K4 rfl⟩
 rintro ys H1 ⟨K1, hl1, hY⟩ e1
 have eb : ys = (List.replicate ys.length true).map V.bl := by
  refine List.ext_getElem (by simp) fun i g1 g2 => ?_
  have := hY i ys[i] (by simp [g1])
  rw [this]
  simp
 rw [eb] at e1
 walk_at "v"
 refine ⟨D, _, rfl, e1, ?_⟩
 rw [vN (fun b hb => (List.mem_replicate.mp hb).2)]
 walk_at "v"
 refine iteF ?_
 walk_at "v"
 refine ⟨l, rfl, ⟨_, SqL.of (K1 _ _ hl)⟩, fun D2 hD2 => ?_⟩
 refine wD (S := Same) (xs := (is.map fT).map V.str) (ρ := []) (fun j y _ => ∃ z, is[j]? = some z ∧ y = .int z) (Kp.same hD2) (fun _ h => h) (fun _ b => TK.same b) (by simp; omega) (fun H' k' => SqL.of (k' _ _ (K1 _ _ hl))) ?_ ?_
 ·rintro i x H' R hx K' kR
  obtain ⟨z, hz, rfl⟩ := at' i x hx
  have hnz := hN z (List.mem_of_getElem? hz)
  walk_at "v"
  exact ⟨z, rfl, hnz.1, fun H4 K4 => kR _ _ K4 ⟨z, hz, rfl⟩⟩
 rintro zs H2 ⟨K2, hl2, hZ⟩ e2
 have ez := yy (f := V.int) (hl2.trans (by simp)) hZ
 subst ez
 exact k D2 H2 (K1.trans K2) (Same.free K1 hD2) e2
abbrev sRw : Stmt := top 62
abbrev nRw : List Str := ["words", "line", "pairs"]
theorem nmRw : Nm nRw (zc sRw) := nmk (by decide +kernel)
theorem scRw : FnScope nRw ["words", "line"] (zc sRw) := fsk (by decide +kernel)
def qRwa (s : Stmt) : Scope := match s with
 | .Assign _ (.ListComp _ _ sc _) _ => sc
 | _ => nsc
abbrev cRwa : Scope := qRwa ((zu sRw).getD 0 (.Pass ⟨0, 0, 0, 0⟩))
theorem bsRwa : BScope (zc sRw) cRwa ["word"] ["line"] ["tuple", "read_counts"] := { okind := by decide +kernel, kind := by decide +kernel, nocell := by decide +kernel, names := by decide +kernel, fr := by decide +kernel, ff := by decide +kernel, nd := by decide +kernel, vis := by decide +kernel, loc := by decide +kernel, gl := by decide +kernel }
theorem loRw_2 : (zc sRw).names.lookup ("pairs" : Str) = some .local := by decide +kernel
def spRw : Sp := fun vs H Q _ => ∃ (l : Addr) (w : List Wt) (n : Int), vs = [.ref l, .int n] ∧ H l = some (.lst ((w.map wW).map V.str)) ∧ WOk w ∧ ∀ q H', Same H H' → WsAt H' q w → Q (.ref q) H'
theorem prsA_of {H : Hp} {as : List Addr} {w : List Wt} (hl : as.length = w.length) (h : ∀ (i : Nat) (a : Addr) (x : Wt), as[i]? = some a → w[i]? = some x → H a = some (.tup [.int x.1, .int x.2])) : PrsA H as w := by
 induction as generalizing w with
 | nil => cases w with
  | nil => trivial
  | cons x w => cases hl
 | cons a as ih => cases w with
  | nil => cases hl
  | cons x w => exact ⟨h 0 a x rfl rfl, ih (by simpa using hl) fun i b y e1 e2 => h (i + 1) b y e1 e2⟩
theorem Y1 {ys : List V} {n : Nat} {R : Nat → Addr → Prop} (hl : ys.length = n) (h : ∀ (j : Nat) (y : V), ys[j]? = some y → ∃ a, y = .ref a ∧ R j a) : ∃ as : List Addr, ys = as.map V.ref ∧ as.length = n ∧ ∀ (j : Nat) (a : Addr), as[j]? = some a → R j a := by
 induction ys generalizing n R with
 | nil => exact ⟨[], rfl, hl, fun j a e => by simp at e⟩
 | cons y ys ih =>
  obtain ⟨a, rfl, ha⟩ := h 0 y rfl
  obtain ⟨as, rfl, e2, e3⟩ := ih (n := ys.length) (R := fun j b => R (j + 1) b) rfl fun j z e => h (j + 1) z e
  refine ⟨a :: as, rfl, by rw [← hl]; simp, fun j b e => ?_⟩
  cases j with
  | zero => cases e; exact ha
  | succ j => exact e3 j b (by simpa using e)
theorem ok_Rw {f : Addr} {fd : FuncData} (B : Blt4 mg) (fR : Has P w K mg base 4 "read_counts" ["words", "line"] spRc) (fI : Has P w K mg base 3 "is_weights" ["thing"] Xw) (F : Fun K "read_weights" "read_weights" sRw f fd) : FnOk P w K mg base CX0 5 f fd ["words", "line"] spRw := by
 refine F.ok scRw (fun vs H Q E h => ?_) (fun cdv A outer s H vs Q E hr h => ?_)
 ·obtain ⟨l, w, n, rfl, _⟩ := h
  rfl
 obtain ⟨l, w, n, rfl, hl, ok, k⟩ := h
 refine' ⟨_, ?hb, ?rd⟩
 case' hb => skip
 case' hb => refine' zf ?g1 ?g2
 case' g2 => refine' zf ?g3 ?g4
 case' g4 => refine' zg ?g5
 case' g1 => refine' xB (i := 2) (ix := [1]) nmRw.nd rfl loRw_2 bsRwa.toCScope rfl rfl ?g6 ?g7 ?g8 ?g9
 case g6 => exact xi (pvd nmRw 0)
 case g7 => exact fun _ _ _ _ _ _ => pgb bsRwa 0
 case g8 => exact fun _ _ _ _ _ _ => zz
 case g9 => exact fun _ _ _ _ _ _ => zK zS B.tuple PyProof.Rows.boot_tuple (pa_1 (pe_f fR hr (by decide) (pa_2 (YQ PySem.F.plainAttrs_str PySem.F.slot_str_split PySem.F.type_str_split vB (pvb bsRwa 0) (pa_1 zp)) (pvb bsRwa 1)) (bsRwa.g 1))) (bsRwa.g 0)
 case' g3 => refine' zC ?g10 ?g11 zw
 case g10 => exact yN (yr (pe_f fI hr (by decide) (pa_1 (zK zS B.tuple PyProof.Rows.boot_tuple (pa_1 (pvd nmRw 2))))))
 case g11 => exact zZ
 case g5 => exact zl (zK zS B.tuple PyProof.Rows.boot_tuple (pa_1 (pvd nmRw 2)))
 have l3 := ok.l3
 walk_at "v"
 refine ⟨l, rfl, ⟨_, SqL.of hl⟩, fun D hD => ?_⟩
 refine wD (S := Same) (xs := (w.map wW).map V.str) (ρ := [some (.int n)]) (fun j y H' => ∃ a, y = .ref a ∧ ∀ x, w[j]? = some x → H' a = some (.tup [.int x.1, .int x.2])) (Kp.same hD) (fun t h => by
  obtain ⟨a, e, ha⟩ := h
  exact ⟨a, e, fun x hx => t.t _ _ (ha x hx)⟩) (fun _ b => TK.same b) (by simp; omega) (fun H' k' => SqL.of (k' _ _ hl)) ?_ ?_
 ·rintro i y H' R hy K' kR
  rw [List.getElem?_map, List.getElem?_map] at hy
  cases hi : w[i]? with
  | none => rw [hi] at hy; cases hy
  | some x =>
   rw [hi] at hy
   cases hy
   have hnu := ok.nu x (List.mem_of_getElem? hi)
   walk_at "v"
   refine ⟨rfl, ?_⟩
   walk_at "v"
   have hwl := (wd_w hnu).l
   refine ⟨_, _, rfl, rfl, by decide, by omega, fun r hr' => ?_⟩
   rw [wW_split hnu.1 hnu.2.2.2.1]
   have K2 : Same H' (upd H' r (.lst ([fT x.1, fT x.2].map V.str))) := Same.new (Same.refl _) hr'
   have e2 : upd H' r (.lst ([fT x.1, fT x.2].map V.str)) r = some (.lst (([x.1, x.2].map fT).map V.str)) := ze
   generalize upd H' r (.lst ([fT x.1, fT x.2].map V.str)) = H2 at K2 e2 ⊢
   walk_at "v"
   refine ⟨r, [x.1, x.2], n, rfl, e2, by show 2 ≤ 19; decide, fun i hi' => ?_, fun r2 H3 K3 hr2 e3 => ?_⟩
   ·rcases List.mem_cons.mp hi' with rfl | hi'
    ·exact ⟨hnu.1, hnu.2.1⟩
    ·rcases List.mem_cons.mp hi' with rfl | hi'
     ·exact ⟨hnu.2.2.2.1, by omega⟩
     ·cases hi'
   refine ⟨r2, _, rfl, e3, fun q H4 K4 e4 => ?_⟩
   refine kR _ _ ((K2.trans K3).trans K4) ⟨q, rfl, fun x' hx' => ?_⟩
   rw [hi] at hx'
   cases hx'
   exact e4
 rintro ys H1 ⟨K1, hl1, hY⟩ e1
 obtain ⟨as, rfl, hal, hA⟩ := Y1 (R := fun j a => ∀ x, w[j]? = some x → H1 a = some (.tup [.int x.1, .int x.2])) hl1 hY
 have hP : PrsA H1 as w := prsA_of (by rw [hal]; simp) fun i a x h1 h2 => hA i a h1 x h2
 walk_at "v"
 refine ⟨D, _, rfl, e1, fun q H2 K2 e2 => ?_⟩
 refine ⟨q, w, rfl, ⟨as, e2, hP.tk (TK.same K2)⟩, ok, fun H3 K3 => ?_⟩
 walk_at "v"
 refine iteF ?_
 walk_at "v"
 refine ⟨D, _, rfl, K3 _ _ (K2 _ _ e1), fun q' H4 K4 e4 => ?_⟩
 exact k q' _ (((K1.trans K2).trans K3).trans K4) ⟨as, e4, hP.tk (TK.same ((K2.trans K3).trans K4))⟩
end
end K37
namespace L2
open PySem PySem.Spec PyProof.Rows
section
variable {D : Addr} {te : TE} {tc : TT} {Q : VK} {ρ : St} {H : Hp}
theorem cgo_enu {K : W.Frag} {a : Addr} {xs : List V} (Pv : Nat → List V → Hp → Prop) (h0 : Pv 0 [] (upd H D (.lst []))) (hl : ∀ i ys H', i ≤ xs.length → Pv i ys H' → SqT K H' a xs)
  (hs : ∀ (i : Nat) x ys H' p, xs[i]? = some x → Pv i ys H' → H' D = some (.lst ys) → H' p = none → ∀ (R : V → Hp → Prop) (S : Hp → Prop), (∀ y H4, H4 D = some (.lst ys) → ys.length < sizeLine → Pv (i + 1) (ys ++ [y]) (upd H4 D (.lst (ys ++ [y]))) → R y H4) → (∀ H3, H3 D = some (.lst ys) → Pv (i + 1) ys H3 → S H3) →
   tc (some (.int (i : Int)) :: some x :: ρ) (upd H' p (.tup [.int (i : Int), x])) fun b H3 => if b = true then te (some (.int (i : Int)) :: some x :: ρ) H3 R else S H3)
  (hd : ∀ ys H', Pv xs.length ys H' → H' D = some (.lst ys) → Q (.ref D) H') : CGo (Ite K a) D (gTup K 2 (yP (zU 0) (yP (zU 1) gNil))) tc te Q (none :: none :: ρ) H := by
 refine ⟨fun i m τ ys H' => m = xs.length - i ∧ i ≤ xs.length ∧ (∃ tv tw, τ = tv :: tw :: ρ) ∧ Pv i ys H' ∧ H' D = some (.lst ys), ⟨xs.length, by omega, Nat.zero_le _, ⟨_, _, rfl⟩, h0, ze⟩, ?_⟩
 rintro i m τ ys H' ⟨rfl, hi, ⟨tv, tw, rfl⟩, hp, hD⟩
 refine ⟨hD, ?_⟩
 have sq := hl i ys H' hi hp
 by_cases hlt : i < xs.length
 ·refine .inr ⟨⟨xs, xs[i], sq, by simp [hlt]⟩, ?_⟩
  rintro v H'' ⟨p, x, rfl, hpn, rfl, hx⟩
  have hx' := hx xs sq
  refine ⟨p, [.int (i : Int), x], rfl, SqT.of ze, rfl, .int (i : Int), [x], rfl, x, [], rfl, rfl, ?_⟩
  exact hs i x ys _ p hx' hp hD hpn _ _ (fun y H4 a b c => ⟨a, b, xs.length - (i + 1), by omega, rfl, hlt, ⟨_, _, rfl⟩, c, ze⟩) fun H3 a c => ⟨xs.length - (i + 1), by omega, rfl, hlt, ⟨_, _, rfl⟩, c, a⟩
 ·have e : i = xs.length := by omega
  subst e
  exact .inl ⟨⟨xs, sq, rfl⟩, hd ys _ hp hD⟩
end
theorem w_compE {K : W.Frag} {ta : TA} {n : Nat} {ix : List Nat} {g : TG} {tc : TT} {te : TE} {σ : St} {H : Hp} {Q : VK} (h : ta σ H fun vs H1 => ∃ a, vs = [.ref a] ∧ (∃ xs, SqT K H1 a xs) ∧ ∀ D, H1 D = none → CGo (Ite K a) D g tc te Q (List.replicate n none ++ sub ix σ) H1) : xH (iEnu K ta) n ix g tc te σ H Q := h
end L2
namespace K37
open PySem L2 G2
abbrev gW (g : List Wt) : List Str := ("/" : Str) :: g.map wW
def pl : Nat → List Str → List Nat
 | _, [] => []
 | o, w :: ws => if w = ("/" : Str) then o :: pl (o + 1) ws else pl (o + 1) ws
theorem Zt : ∀ (a b : List Str) (o : Nat), pl o (a ++ b) = pl o a ++ pl (o + a.length) b
 | [], b, o => rfl
 | w :: a, b, o => by
  have ih := Zt a b (o + 1)
  have e : o + 1 + a.length = o + (w :: a).length := by simp; omega
  rw [e] at ih
  show (if w = ("/" : Str) then o :: pl (o + 1) (a ++ b) else pl (o + 1) (a ++ b)) = (if w = ("/" : Str) then o :: pl (o + 1) a else pl (o + 1) a) ++ _
  by_cases h : w = ("/" : Str)
  ·rw [if_pos h, if_pos h, ih]; rfl
  ·rw [if_neg h, if_neg h, ih]
theorem wW_ns {x : Wt} (h1 : Nu x.1) : wW x ≠ ("/" : Str) := fun z => by
 have h := congrArg Str.length z
 unfold wW at h
 rw [yG, yG] at h
 have := (zL h1).l0
 have e1 : (":" : Str).length = 1 := rfl
 have e2 : ("/" : Str).length = 1 := rfl
 omega
theorem pl_w {g : List Wt} (h : ∀ x ∈ g, Nu x.1) : ∀ o, pl o (g.map wW) = [] := by
 induction g with
 | nil => exact fun _ => rfl
 | cons x g ih =>
  intro o
  rw [List.map_cons]
  unfold pl
  rw [if_neg (wW_ns (h x List.mem_cons_self))]
  exact ih (fun y hy => h y (List.mem_cons_of_mem _ hy)) _
def offs (gs : List (List Wt)) (i : Nat) : Nat := ((gs.take i).flatMap gW).length
theorem WU : ∀ {gs : List (List Wt)}, (∀ g ∈ gs, WOk g) → ∀ o, pl o (gs.flatMap gW) = (List.range gs.length).map fun i => o + offs gs i
 | [], _, o => rfl
 | g :: gs, h, o => by
  have hg := h g List.mem_cons_self
  rw [List.flatMap_cons, Zt]
  have e1 : pl o (gW g) = [o] := by
   show (if ("/" : Str) = ("/" : Str) then o :: pl (o + 1) (g.map wW) else _) = _
   rw [if_pos rfl, pl_w fun x hx => (hg.nu x hx).1]
  rw [e1, WU (fun g' hg' => h g' (List.mem_cons_of_mem _ hg')) _, show (g :: gs).length = gs.length + 1 from rfl, List.range_succ_eq_map, List.map_cons, List.map_map]
  have e0 : o + offs (g :: gs) 0 = o := by simp [offs]
  rw [e0]
  refine congrArg (List.cons o) (List.map_congr_left fun i _ => ?_)
  show o + (gW g).length + offs gs i = o + offs (g :: gs) (i + 1)
  unfold offs
  rw [List.take_succ_cons, List.flatMap_cons, List.length_append]
  omega
theorem Y9 {xs : List V} {A B C : List V} (h : xs = A ++ B ++ C) {lo hi : Int} (h1 : lo = (A.length : Int)) (h2 : hi = ((A.length + B.length : Nat) : Int)) : cutV xs (some lo) (some hi) = B := by
 subst h h1 h2
 unfold cutV
 rw [HT.sIx_nat, HT.sIx_nat]
 have e1 : min A.length (A ++ B ++ C).length = A.length := by simp
 have e2 : min (A.length + B.length) (A ++ B ++ C).length = A.length + B.length := by simp
 rw [e1, e2, List.append_assoc, List.drop_left, Nat.add_sub_cancel_left, List.take_left]
theorem gs_split {gs : List (List Wt)} {i : Nat} (hi : i < gs.length) : gs.flatMap gW = ((gs.take i).flatMap gW ++ [("/" : Str)]) ++ gs[i].map wW ++ (gs.drop (i + 1)).flatMap gW := by
 have e : gs = gs.take i ++ gs[i] :: gs.drop (i + 1) := by rw [List.getElem_cons_drop, List.take_append_drop]
 conv => lhs; rw [e]
 rw [List.flatMap_append, List.flatMap_cons]
 simp
theorem offs_succ {gs : List (List Wt)} {i : Nat} (hi : i < gs.length) : offs gs (i + 1) = offs gs i + 1 + (gs[i].map wW).length := by
 unfold offs
 rw [yJ _ _ (List.getElem?_eq_getElem hi), List.length_append]
 show _ + ((gs[i].map wW).length + 1) = _
 omega
theorem offs_all (gs : List (List Wt)) : offs gs gs.length = (gs.flatMap gW).length := by
 unfold offs
 rw [List.take_of_length_le (Nat.le_refl _)]
abbrev sRg : Stmt := top 63
abbrev nRg : List Str := ["words", "line", "starts", "ends"]
theorem nmRg : Nm nRg (zc sRg) := nmk (by decide +kernel)
theorem scRg : FnScope nRg ["words", "line"] (zc sRg) := fsk (by decide +kernel)
def qRga (s : Stmt) : Scope := match s with
 | .Assign _ (.ListComp _ _ sc _) _ => sc
 | _ => nsc
abbrev cRga : Scope := qRga ((zu sRg).getD 1 (.Pass ⟨0, 0, 0, 0⟩))
theorem bsRga : BScope (zc sRg) cRga ["place", "word"] [] [] := { okind := by decide +kernel, kind := by decide +kernel, nocell := by decide +kernel, names := by decide +kernel, fr := by decide +kernel, ff := by decide +kernel, nd := by decide +kernel, vis := by decide +kernel, loc := by decide +kernel, gl := by decide +kernel }
def qRgb (s : Stmt) : Scope := match s with
 | .Return (some (.Call _ [(.ListComp _ _ sc _)] _ _)) _ => sc
 | _ => nsc
abbrev cRgb : Scope := qRgb ((zu sRg).getD 3 (.Pass ⟨0, 0, 0, 0⟩))
theorem bsRgb : BScope (zc sRg) cRgb ["start", "end"] ["line", "words"] ["read_weights"] := { okind := by decide +kernel, kind := by decide +kernel, nocell := by decide +kernel, names := by decide +kernel, fr := by decide +kernel, ff := by decide +kernel, nd := by decide +kernel, vis := by decide +kernel, loc := by decide +kernel, gl := by decide +kernel }
theorem loRg_2 : (zc sRg).names.lookup ("starts" : Str) = some .local := by decide +kernel
def spRg : Sp := fun vs H Q _ => ∃ (l : Addr) (gs : List (List Wt)) (n : Int), vs = [.ref l, .int n] ∧ H l = some (.lst ((gs.flatMap gW).map V.str)) ∧ 1 ≤ gs.length ∧ gs.length ≤ 4 ∧ (∀ g ∈ gs, WOk g) ∧ ∀ q as H', Same H H' → H' q = some (.tup (as.map V.ref)) → All2 (WsAt H') as gs → Q (.ref q) H'
section
variable {P : Program} {w : World} {K : W.Frag} {mg : Str → Option Value} {base : Heap}
theorem ok_Rg {f : Addr} {fd : FuncData} (B : Blt4 mg) (fR : Has P w K mg base 5 "read_weights" ["words", "line"] spRw) (F : Fun K "read_grounds" "read_grounds" sRg f fd) : FnOk P w K mg base CX0 6 f fd ["words", "line"] spRg := by
 refine F.ok scRg (fun vs H Q E h => ?_) (fun cdv A outer s H vs Q E hr h => ?_)
 ·obtain ⟨l, gs, n, rfl, _⟩ := h
  rfl
 obtain ⟨l, gs, n, rfl, hl, g1, g4, hok, k⟩ := h
 refine' ⟨_, ?hb, ?rd⟩
 case' hb => skip
 case' hb => refine' zf ?g1 ?g2
 case' g2 => refine' zf ?g3 ?g4
 case' g4 => refine' zf ?g5 ?g6
 case' g6 => refine' zg ?g7
 case' g1 => refine' zC ?g8 ?g9 zw
 case g8 => exact PW.pt (yQ (zq zV (zF zr B.len PySem.boot_len (pa_1 (pvd nmRg 0))) zd (zt _)) (yB (zq xq (ziq (pvd nmRg 0) zd) zp (zt _))))
 case g9 => exact zZ
 case' g3 => refine' xB (i := 2) (ix := []) nmRg.nd rfl loRg_2 bsRga.toCScope rfl rfl ?g11 ?g12 ?g13 ?g14
 case g11 => exact XI B.enu (pa_1 (pvd nmRg 0))
 case g12 =>
  intro _ _ _ _ _ _
  refine' yS (n := 2) rfl ?g15
  case' g15 => refine' zN ?g19 ?g18
  case g19 => exact pgb bsRga 0
  case' g18 => refine' zN ?g21 yF
  case g21 => exact pgb bsRga 1
 case g13 => exact fun _ _ _ _ _ _ => Zs (zq zV (pvb bsRga 1) zp (zt _))
 case g14 => exact fun _ _ _ _ _ _ => pvb bsRga 0
 case g5 => exact zj nmRg 3 (zo yp (zO ym (pvd nmRg 2) (zM zd) yh) (zE (pa_1 (zF zr B.len PySem.boot_len (pa_1 (pvd nmRg 0))))))
 case' g7 => refine' zl ?g22
 case' g22 => refine' zK zS B.tuple PyProof.Rows.boot_tuple ?g23
 case' g23 => refine' pa_1 ?g24
 case' g24 => refine' zB (ix := [1, 0]) bsRgb.toCScope rfl rfl ?g25 ?g26 ?g27 ?g28
 case g25 => exact XH B.zip (pa_2 (pvd nmRg 2) (pvd nmRg 3))
 case g26 =>
  intro _ _ _ _ _ _
  refine' yS (n := 2) rfl ?g29
  case' g29 => refine' zN ?g33 ?g32
  case g33 => exact pgb bsRgb 0
  case' g32 => refine' zN ?g35 yF
  case g35 => exact pgb bsRgb 1
 case g27 => exact fun _ _ _ _ _ _ => zz
 case g28 => exact fun _ _ _ _ _ _ => pe_f fR hr (by decide) (pa_2 (zO sl_list0 (pvb bsRgb 3) (zM (zo zR (pvb bsRgb 0) zd)) (zM (pvb bsRgb 1))) (pvb bsRgb 2)) (bsRgb.g 0)
 have hlen := vF hok
 have hlen' : (gs.flatMap gW).length ≤ 16 := by have : (gs.flatMap gW).length ≤ 4 * gs.length := hlen; omega
 obtain ⟨g0, gr, hg0⟩ : ∃ g gr, gs = g :: gr := by
  cases gs with
  | nil => simp at g1
  | cons g gr => exact ⟨g, gr, rfl⟩
 have hw0 : (gs.flatMap gW)[0]? = some ("/" : Str) := by rw [hg0]; rfl
 have hpos : 0 < (gs.flatMap gW).length := (List.getElem?_eq_some_iff.mp hw0).1
 walk_at "v"
 refine ⟨l, _, rfl, .inl (SqL.of hl), ?_⟩
 rw [List.length_map]
 walk_at "v"
 refine ⟨rfl, ?_⟩
 walk_at "v"
 refine iteD (fun z => absurd (V.int.inj z) (by omega)) (fun _ => ?_)
 walk_at "v"
 refine zD (v := .str "/") hl (show atI _ ((0 : Nat) : Int) = _ from zx (by rw [List.getElem?_map, hw0]; rfl)) ?_
 walk_at "v"
 refine ⟨rfl, ?_⟩
 walk_at "v"
 refine xK rfl ?_
 walk_at "v"
 refine w_compEl ?_
 walk_at "v"
 refine ⟨l, rfl, ⟨_, SqL.of hl⟩, fun D hD => ?_⟩
 refine cgo_enl (xs := (gs.flatMap gW).map V.str) (ρ := []) (fun i ys H' => ys = (pl 0 ((gs.flatMap gW).take i)).map (fun (j : Nat) => V.int (j : Int)) ∧ ys.length ≤ i ∧ Same H H') ⟨rfl, Nat.zero_le _, Same.new (Same.refl _) hD⟩ (fun i ys H' _ ⟨_, _, k'⟩ => SqL.of (k' _ _ hl)) ?_ ?_
 ·rintro i x ys H' p hx ⟨rfl, hyl, K'⟩ hDz hp R S kR kS
  rw [List.getElem?_map] at hx
  cases hi : (gs.flatMap gW)[i]? with
  | none => rw [hi] at hx; cases hx
  | some wd =>
   rw [hi] at hx
   cases hx
   have hil := (List.getElem?_eq_some_iff.mp hi).1
   have K2 : Same H' (upd H' p (.tup [.int (i : Int), .str wd])) := Same.new (Same.refl _) hp
   generalize upd H' p (.tup [.int (i : Int), .str wd]) = H2 at K2 ⊢
   have ht : (gs.flatMap gW).take (i + 1) = (gs.flatMap gW).take i ++ [wd] := by rw [List.take_add_one, hi]; rfl
   have ho : 0 + ((gs.flatMap gW).take i).length = i := by rw [List.length_take]; omega
   walk_at "v"
   refine ⟨rfl, ?_⟩
   walk_at "v"
   refine iteD (fun e => ?_) (fun e => ?_)
   ·have e' : wd = "/" := V.str.inj e
    walk_at "v"
    refine kR _ _ (K2 _ _ hDz) (zn (by omega)) ⟨?_, by rw [List.length_append]; simp at hyl ⊢; omega, (K'.trans K2).put hD⟩
    rw [ht, Zt, ho, e', List.map_append]
    rfl
   ·have e' : ¬ wd = "/" := fun z => e (by rw [z])
    refine kS _ (K2 _ _ hDz) ⟨?_, by omega, K'.trans K2⟩
    rw [ht, Zt, ho]
    show _ = List.map _ (_ ++ (if wd = ("/" : Str) then _ else _))
    rw [if_neg e']
    simp [pl]
 rintro ys H1 ⟨rfl, _, K1⟩ e1
 rw [List.length_map, List.take_of_length_le (Nat.le_refl _), WU hok, List.map_map] at e1
 have e1' : H1 D = some (.lst ((List.range gs.length).map fun i => V.int (offs gs i : Int))) := by
  rw [e1]
  refine congrArg (fun z => some (HO.lst z)) (List.map_congr_left fun i _ => ?_)
  show V.int ((0 + offs gs i : Nat) : Int) = _
  rw [Nat.zero_add]
 walk_at "v"
 refine ⟨_, rfl, ?_⟩
 refine ⟨D, _, rfl, SqL.of e1', fun D2 hD2 => ?_⟩
 rw [Vd]
 obtain ⟨H2, q, K2, e2⟩ := nob (.lst (((List.range gs.length).drop 1).map fun i => V.int (offs gs i : Int))) hD2; rw [q]; clear q
 walk_at "v"
 refine ⟨l, _, rfl, .inl (SqL.of (K2 _ _ (K1 _ _ hl))), ?_⟩
 rw [List.length_map]
 walk_at "v"
 refine ⟨sz1, fun D3 hD3 => ?_⟩
 obtain ⟨H3, q, K3, e3⟩ := nob (.lst [.int ((gs.flatMap gW).length : Int)]) hD3; rw [q]; clear q
 refine ⟨D2, D3, _, _, rfl, rfl, K3 _ _ e2, e3, Nat.le_of_lt (zn (by simp; omega)), fun D4 hD4 => ?_⟩
 have eE : (((List.range gs.length).drop 1).map fun i => V.int (offs gs i : Int)) ++ [V.int ((gs.flatMap gW).length : Int)] = (List.range gs.length).map fun i => V.int (offs gs (i + 1) : Int) := by
  refine List.ext_getElem (by simp; omega) fun i b1 b2 => ?_
  have hi : i < gs.length := by simpa using b2
  rw [List.getElem_append]
  by_cases hh : i < gs.length - 1
  ·rw [dif_pos (by simpa using hh)]
   simp [Nat.add_comm]
  ·rw [dif_neg (by simpa using hh)]
   have : i + 1 = gs.length := by omega
   simp [this, offs_all]
 rw [eE]
 obtain ⟨H4, q, K4, e4⟩ := nob (.lst ((List.range gs.length).map fun i => V.int (offs gs (i + 1) : Int))) hD4; rw [q]; clear q
 have K24 := (K2.trans K3).trans K4
 have K04 := K1.trans K24
 walk_at "v"
 refine ZK ?_
 walk_at "v"
 refine ⟨D, D4, rfl, ⟨_, SqL.of (K24 _ _ e1')⟩, ⟨_, SqL.of e4⟩, fun D5 hD5 => ?_⟩
 refine We (n := gs.length) (ρ := [some (.int n), some (.ref l)]) (fun j y H' => ∃ a, y = .ref a ∧ ∀ g, gs[j]? = some g → WsAt H' a g) (by simp) (by simp) (.inl (by simp)) hD5 (fun t h => by
  obtain ⟨a, e, ha⟩ := h
  exact ⟨a, e, fun g hg => (ha g hg).tk t⟩) (by omega) (K24 _ _ e1') e4 ?_ ?_
 ·rintro i x z H' R hi hx hz K' kR
  rw [List.getElem?_map, List.getElem?_range hi] at hx hz
  cases hx
  cases hz
  have hL := K' _ _ (K04 _ _ hl)
  walk_at "v"
  refine ⟨_, rfl, ?_⟩
  walk_at "v"
  refine ⟨_, rfl, ?_⟩
  refine ⟨l, _, rfl, SqL.of hL, fun c hc => ?_⟩
  have ec : cutV ((gs.flatMap gW).map V.str) (some ((offs gs i : Int) + 1)) (some (offs gs (i + 1) : Int)) = (gs[i].map wW).map V.str := by
   refine Y9 (A := ((gs.take i).flatMap gW ++ [("/" : Str)]).map V.str) (C := ((gs.drop (i + 1)).flatMap gW).map V.str) ?_ ?_ ?_
   ·rw [gs_split hi]
    simp only [List.map_append]
   ·simp [offs]
   ·rw [offs_succ hi]
    simp [offs]
  rw [ec]
  have K5 : Same H' (upd H' c (.lst ((gs[i].map wW).map V.str))) := Same.new (Same.refl _) hc
  have e5 : upd H' c (.lst ((gs[i].map wW).map V.str)) c = some (.lst ((gs[i].map wW).map V.str)) := ze
  generalize upd H' c (.lst ((gs[i].map wW).map V.str)) = H5 at K5 e5 ⊢
  walk_at "v"
  refine ⟨c, gs[i], n, rfl, e5, hok _ (List.getElem_mem hi), fun q H6 K6 hq => ?_⟩
  refine kR _ _ (K5.trans K6) ⟨q, rfl, fun g hg => ?_⟩
  rw [List.getElem?_eq_getElem hi] at hg
  cases hg
  exact hq
 rintro us H5 ⟨K5, hl5, hU⟩ e5
 obtain ⟨as, rfl, hal, hA⟩ := Y1 (R := fun j a => ∀ g, gs[j]? = some g → WsAt H5 a g) hl5 hU
 walk_at "v"
 refine ⟨D5, _, rfl, e5, fun q H6 K6 e6 => ?_⟩
 exact k q as H6 ((K04.trans K5).trans K6) e6 (All2.of hal fun i a g h1 h2 => (hA i a h1 g h2).tk (TK.same K6))
def PcA (H : Hp) (p : Addr) (sz : List Nat) : Prop := ∃ rs : List Addr, H p = some (.tup (rs.map V.ref)) ∧ All2 (fun r n => ∃ us, H r = some (.tup us) ∧ us.length = n) rs sz
theorem PcA.tk {H H' : Hp} (k : TK H H') {p : Addr} {sz : List Nat} : PcA H p sz → PcA H' p sz := fun ⟨rs, h1, h2⟩ => ⟨rs, k.t _ _ h1, h2.mono fun _ _ ⟨us, e, l⟩ => ⟨us, k.t _ _ e, l⟩⟩
def PoA (H : Hp) (p : Addr) (m : Nat) (tks : List (List Int)) : Prop := ∃ (ps pr : Addr) (us : List V) (xs : List V) (ras : List Addr), H p = some (.tup (.ref ps :: .ref pr :: us)) ∧ H ps = some (.tup xs) ∧ xs.length = m ∧ H pr = some (.tup (ras.map V.ref)) ∧ All2 (fun ra tk => ∃ ta gb, H ra = some (.tup [.ref ta, .ref gb]) ∧ H ta = some (.tup (tk.map V.int)) ∧ tk.length ≤ 8) ras tks
theorem PoA.tk {H H' : Hp} (k : TK H H') {p : Addr} {m : Nat} {tks : List (List Int)} : PoA H p m tks → PoA H' p m tks := fun ⟨ps, pr, us, xs, ras, h1, h2, h3, h4, h5⟩ => ⟨ps, pr, us, xs, ras, k.t _ _ h1, k.t _ _ h2, h3, k.t _ _ h4, h5.mono fun _ _ ⟨ta, gb, e1, e2, e3⟩ => ⟨ta, gb, k.t _ _ e1, k.t _ _ e2, e3⟩⟩
abbrev sIr : Stmt := top 49
abbrev nIr : List Str := ["pieces", "piece", "grounds"]
theorem nmIr : Nm nIr (zc sIr) := nmk (by decide +kernel)
theorem scIr : FnScope nIr ["pieces", "piece", "grounds"] (zc sIr) := fsk (by decide +kernel)
def qIra (s : Stmt) : Scope := match s with
 | .Return (some (.BoolOp _ [_, (.Call _ [(.ListComp _ _ sc _)] _ _)] _)) _ => sc
 | _ => nsc
abbrev cIra : Scope := qIra ((zu sIr).getD 1 (.Pass ⟨0, 0, 0, 0⟩))
theorem bsIra : BScope (zc sIr) cIra ["ground"] [] ["is_weights"] := { okind := by decide +kernel, kind := by decide +kernel, nocell := by decide +kernel, names := by decide +kernel, fr := by decide +kernel, ff := by decide +kernel, nd := by decide +kernel, vis := by decide +kernel, loc := by decide +kernel, gl := by decide +kernel }
def spIr : Sp := fun vs H Q _ => ∃ (pp q : Addr) (c : Nat) (sz : List Nat) (as : List Addr) (gs : List (List Wt)), vs = [.ref pp, .int (c : Int), .ref q] ∧ PcA H pp sz ∧ sz[c]? = some gs.length ∧ sz.length ≤ 8 ∧ H q = some (.tup (as.map V.ref)) ∧ All2 (WsAt H) as gs ∧ gs.length ≤ 4 ∧ (∀ g ∈ gs, WOk g) ∧ ∀ H', Same H H' → Q (.bl true) H'
theorem ok_Ir {f : Addr} {fd : FuncData} (B : Blt4 mg) (fI : Has P w K mg base 2 "is_whole_within" ["thing", "low", "high"] WM) (fW : Has P w K mg base 3 "is_weights" ["thing"] Xw) (F : Fun K "is_right" "is_right" sIr f fd) : FnOk P w K mg base CX0 4 f fd ["pieces", "piece", "grounds"] spIr := by
 refine F.ok scIr (fun vs H Q E h => ?_) (fun cdv A outer s H vs Q E hr h => ?_)
 ·obtain ⟨pp, q, c, sz, as, gs, rfl, _⟩ := h
  rfl
 obtain ⟨pp, q, c, sz, as, gs, rfl, hp, hc, hz8, hq, hA, g4, hok, k⟩ := h
 refine' ⟨_, ?hb, ?rd⟩
 case' hb => skip
 case' hb => refine' zf ?g1 ?g2
 case' g2 => refine' zg ?g3
 case' g1 => refine' zC ?g4 ?g5 zw
 case g4 => exact PW.pt (yQ (yN (yr (pe_f fI hr (by decide) (pa_c (pvd nmIr 1) (pa_2 zd (zo ww (zF zr B.len PySem.boot_len (pa_1 (pvd nmIr 0))) zd)))))) (yB (yN (yr (zF y4 B.isi PyProof.Rows.boot_isinstance (pa_2 (pvd nmIr 2) (xC (v := .ty "tuple") rfl B.tuple PyProof.Rows.boot_tuple rfl)))))))
 case' g5 => refine' zg ?g7
 case g7 => exact zl vw
 case' g3 => refine' zl ?g8
 case' g8 => refine' x6 (yT zV (zF zr B.len PySem.boot_len (pa_1 (pvd nmIr 2))) (zF zr B.len PySem.boot_len (pa_1 (ziq (pvd nmIr 0) (pvd nmIr 1)))) (zt _)) ?g9
 case' g9 => refine' wv ?g10
 case' g10 => refine' zF (y6 rfl) B.all PyProof.Rows.boot_all ?g11
 case' g11 => refine' pa_1 ?g12
 case' g12 => refine' zB (ix := []) bsIra.toCScope rfl rfl ?g13 ?g14 ?g15 ?g16
 case g13 => exact yd (pvd nmIr 2)
 case g14 => exact fun _ _ _ _ _ _ => pgb bsIra 0
 case g15 => exact fun _ _ _ _ _ _ => zz
 case g16 => exact fun _ _ _ _ _ _ => pe_f fW hr (by decide) (pa_1 (pvb bsIra 0)) (bsIra.g 0)
 obtain ⟨rs, h1, h2⟩ := hp
 obtain ⟨r, hr1, us, hr2, hul⟩ := h2.at hc
 have hcl := (List.getElem?_eq_some_iff.mp hc).1
 have hrl := h2.len
 have hal := hA.len
 walk_at "v"
 refine ⟨pp, _, rfl, .inr (SqT.of h1), ?_⟩
 rw [List.length_map]
 walk_at "v"
 refine ⟨_, _, _, rfl, by omega, by omega, ?_⟩
 walk_at "v"
 refine iteF ?_
 walk_at "v"
 refine ⟨_, _, _, _, rfl, .tup hq, Ye _, ?_⟩
 walk_at "v"
 refine iteF ?_
 walk_at "v"
 refine xW ?_
 walk_at "v"
 refine ⟨q, _, rfl, .inr (SqT.of hq), ?_⟩
 walk_at "v"
 refine zm (v := .ref r) h1 (zx (by rw [List.getElem?_map, hr1]; rfl)) ?_
 walk_at "v"
 refine ⟨r, _, rfl, .inr (SqT.of hr2), ?_⟩
 rw [List.length_map, hul, hal]
 walk_at "v"
 refine ⟨rfl, ?_⟩
 walk_at "v"
 refine X8 rfl ?_
 walk_at "v"
 refine ⟨q, rfl, ⟨_, SqT.of hq⟩, fun D hD => ?_⟩
 refine yY (S := Same) (xs := as.map V.ref) (ρ := []) (fun j y _ => y = .bl true) (Kp.same hD) (fun _ h => h) (fun _ b => TK.same b) (by rw [List.length_map]; omega) (fun H' k' => SqT.of (k' _ _ hq)) ?_ ?_
 ·rintro i x H' R hx K' kR
  rw [List.getElem?_map] at hx
  cases hi : as[i]? with
  | none => rw [hi] at hx; cases hx
  | some a =>
   rw [hi] at hx
   cases hx
   have hil := (List.getElem?_eq_some_iff.mp hi).1
   have hig : i < gs.length := by omega
   obtain ⟨a', e1, e2⟩ := hA.at (List.getElem?_eq_getElem hig)
   rw [hi] at e1
   cases e1
   walk_at "v"
   exact ⟨a, _, rfl, e2.tk (TK.same K'), hok _ (List.getElem_mem hig), fun H4 K4 => kR _ _ K4 rfl⟩
 rintro ys H1 ⟨K1, hl1, hY⟩ e1
 have eb : ys = (List.replicate ys.length true).map V.bl := by
  refine List.ext_getElem (by simp) fun i g1 g2 => ?_
  have := hY i ys[i] (by simp [g1])
  rw [this]
  simp
 rw [eb] at e1
 walk_at "v"
 refine ⟨D, _, rfl, e1, ?_⟩
 rw [vN (fun b hb => (List.mem_replicate.mp hb).2)]
 exact k H1 K1
abbrev sSk : Stmt := top 51
abbrev nSk : List Str := ["pot", "rule"]
theorem nmSk : Nm nSk (zc sSk) := nmk (by decide +kernel)
theorem scSk : FnScope nSk ["pot", "rule"] (zc sSk) := fsk (by decide +kernel)
def qSka (s : Stmt) : Scope := match s with
 | .Return (some (.ListComp _ _ sc _)) _ => sc
 | _ => nsc
abbrev cSka : Scope := qSka ((zu sSk).getD 0 (.Pass ⟨0, 0, 0, 0⟩))
theorem bsSka : BScope (zc sSk) cSka ["sort", "taken"] [] [] := { okind := by decide +kernel, kind := by decide +kernel, nocell := by decide +kernel, names := by decide +kernel, fr := by decide +kernel, ff := by decide +kernel, nd := by decide +kernel, vis := by decide +kernel, loc := by decide +kernel, gl := by decide +kernel }
def spSk : Sp := fun vs H Q _ => ∃ (p : Addr) (r m : Nat) (tks : List (List Int)) (tk : List Int), vs = [.ref p, .int (r : Int)] ∧ PoA H p m tks ∧ tks[r]? = some tk ∧ ∀ l xs H', Same H H' → H l = none → H' l = some (.lst xs) → xs.length = tkn tk → tkn tk ≤ 8 → Q (.ref l) H'
theorem ok_Sk {f : Addr} {fd : FuncData} (B : Blt4 mg) (F : Fun K "sorts_taken" "sorts_taken" sSk f fd) : FnOk P w K mg base CX0 1 f fd ["pot", "rule"] spSk := by
 refine F.ok scSk (fun vs H Q E h => ?_) (fun cdv A outer s H vs Q E hr h => ?_)
 ·obtain ⟨p, r, m, tks, tk, rfl, _⟩ := h
  rfl
 obtain ⟨p, r, m, tks, tk, rfl, hp, ht, k⟩ := h
 refine' ⟨_, ?hb, ?rd⟩
 case' hb => skip
 case' hb => refine' zg ?g1
 case' g1 => refine' zl ?g2
 case' g2 => refine' zB (ix := []) bsSka.toCScope rfl rfl ?g3 ?g4 ?g5 ?g6
 case g3 => exact pi_enu B.enu (pa_1 (ziq (ziq (ziq (pvd nmSk 0) (pe_k B.ruK)) (pvd nmSk 1)) (pe_k B.taK)))
 case g4 =>
  intro _ _ _ _ _ _
  refine' yS (n := 2) rfl ?g7
  case' g7 => refine' zN ?g11 ?g10
  case g11 => exact pgb bsSka 0
  case' g10 => refine' zN ?g13 yF
  case g13 => exact pgb bsSka 1
 case g5 => exact fun _ _ _ _ _ _ => Zs (zq vW (pvb bsSka 1) zd (zt _))
 case g6 => exact fun _ _ _ _ _ _ => pvb bsSka 0
 obtain ⟨ps, pr, us, xs, ras, h1, h2, h3, h4, h5⟩ := hp
 obtain ⟨ra, e1, ta, gb, e2, e3, e4⟩ := h5.at ht
 walk_at "v"
 refine w_compE ?_
 walk_at "v"
 refine zm (v := .ref pr) h1 (show atI _ ((1 : Nat) : Int) = _ from zx rfl) ?_
 walk_at "v"
 refine zm (v := .ref ra) h4 (zx (by rw [List.getElem?_map, e1]; rfl)) ?_
 walk_at "v"
 refine zm e2 rfl ?_
 walk_at "v"
 refine ⟨ta, rfl, ⟨_, SqT.of e3⟩, fun D hD => ?_⟩
 refine cgo_enu (xs := tk.map V.int) (ρ := []) (fun i ys H' => ys.length = tkn (tk.take i) ∧ ys.length ≤ i ∧ Same H H') ⟨rfl, Nat.zero_le _, Same.new (Same.refl _) hD⟩ (fun i ys H' _ ⟨_, _, k'⟩ => SqT.of (k' _ _ e3)) ?_ ?_
 ·rintro i x ys H' q hx ⟨hy1, hy2, K'⟩ hDz hq R S kR kS
  rw [List.getElem?_map] at hx
  cases hi : tk[i]? with
  | none => rw [hi] at hx; cases hx
  | some z =>
   rw [hi] at hx
   cases hx
   have hil := (List.getElem?_eq_some_iff.mp hi).1
   have K2 : Same H' (upd H' q (.tup [.int (i : Int), .int z])) := Same.new (Same.refl _) hq
   generalize upd H' q (.tup [.int (i : Int), .int z]) = H2 at K2 ⊢
   have et : tkn (tk.take (i + 1)) = tkn (tk.take i) + (if 0 < z then 1 else 0) := by
    unfold tkn
    rw [List.take_add_one, hi, List.filter_append, List.length_append]
    refine congrArg (_ + ·) ?_
    by_cases hz : 0 < z
    ·simp [hz]
    ·simp [hz]
   walk_at "v"
   refine iteD (fun hz => ?_) (fun hz => ?_)
   ·walk_at "v"
    refine kR _ _ (K2 _ _ hDz) (zn (by omega)) ⟨by rw [et, if_pos hz, List.length_append, hy1]; rfl, by rw [List.length_append]; show _ + 1 ≤ _; omega, (K'.trans K2).put hD⟩
   ·exact kS _ (K2 _ _ hDz) ⟨by rw [et, if_neg hz]; exact hy1, by omega, K'.trans K2⟩
 rintro ys H1 ⟨hy1, hy2, K1⟩ e5
 rw [List.length_map] at hy2
 rw [List.length_map, List.take_of_length_le (Nat.le_refl _)] at hy1
 exact k D ys H1 K1 hD e5 hy1 (by omega)
def ZV (s : Stmt) (i : Nat) : Stmt := match s with
 | .ClassDef _ _ _ body _ _ _ _ _ _ _ => body.getD i (.Pass ⟨0, 0, 0, 0⟩)
 | _ => .Pass ⟨0, 0, 0, 0⟩
def HasM (P : Program) (w : World) (K : W.Frag) (mg : Str → Option Value) (base : Heap) (k : Nat) (C : Addr) (m : Str) (ps : List Str) (sp : Sp) : Prop :=
 ∃ f fd, FnOk P w K mg base CX0 k f fd ps sp ∧ Cls K C ∧ Meth K C m f ∧ Binds K fd ps []
theorem pe_m {X : Cx} {k j : Nat} {C : Addr} {m : Str} {ps : List Str} {sp : Sp} {o e : Expr} {es : List Expr} {ta : TE} {t : TA} {apos pos : Pos} {pl : Sem Bool} (h : HasM X.prog X.w X.K X.mg X.base k C m ps sp) (hr : Room j X.A) (hkj : k ≤ j) (he : PE X o ta) (ha : PA X (e :: es) t)
  (hst : starEach (e :: es) X.env = (false, eval e X.env) :: starEach es X.env := by rfl) (hpl : (backTo pos (starEach es X.env)).any (·.1) = false := by rfl)
  (ht : eval (.Call (.Attribute o m apos) (e :: es) [] pos) X.env = (do
   let ov ← eval o X.env
   standAt apos.atName
   let (f, first) ← holding [ov] (getMethod ov m pl)
   callWith pos f first (backTo pos (starEach (e :: es) X.env)) (backToKw pos (keywordEach [] X.env))) := by rfl) : PE X (.Call (.Attribute o m apos) (e :: es) [] pos) (Xl C m sp [] E0 ta t) := by
 obtain ⟨f, fd, F, c, hm, hb⟩ := h
 exact pe_meth he c hm F (hr.mono hkj) hb .nil XN ha hst hpl ht
theorem wK {K : W.Frag} {ta : TE} {f : Str} {σ : St} {H : Hp} {Q : VK} (h : ta σ H fun x H1 => ∃ a C dx fs v, x = .ref a ∧ H1 a = some (.ins C dx fs) ∧ Cls K C ∧ NoAttr K C f ∧ fs.lookup f = some v ∧ Q v H1) : tFld K ta f σ H Q := h
theorem vc {K : W.Frag} {ta tv : TE} {f : Str} {D : Ends} {σ : St} {H : Hp} (h : tv σ H fun y H1 => ta σ H1 fun x H2 => ∃ a C dx fs, x = .ref a ∧ H2 a = some (.ins C dx fs) ∧ Cls K C ∧ NoAttr K C f ∧ fs.length < 1000 ∧ D.nx σ (upd H2 a (.ins C dx (putF f y fs)))) : sFld K ta tv f D σ H := h
theorem Xh {K : W.Frag} {ta tv : TE} {rd : V → V → Hp → VK → Prop} {f : Str} {D : Ends} {σ : St} {H : Hp} (h : ta σ H fun x H1 => ∃ a C dx fs v, x = .ref a ∧ H1 a = some (.ins C dx fs) ∧ Cls K C ∧ NoAttr K C f ∧ fs.lookup f = some v ∧
 tv σ H1 fun y H2 => rd v y H2 fun z H3 => ∃ dx' fs', H3 a = some (.ins C dx' fs') ∧ fs'.length < 1000 ∧ D.nx σ (upd H3 a (.ins C dx' (putF f z fs')))) : YJ K ta tv rd f D σ H := h
theorem xP {C : Addr} {m : Str} {sp : Sp} {dvs : List V} {E : XK} {ta : TE} {t : TA} {σ : St} {H : Hp} {Q : VK} (h : ta σ H fun x H1 => ∃ a dx fs, x = .ref a ∧ H1 a = some (.ins C dx fs) ∧ fs.lookup m = none ∧ t σ H1 fun vs H2 => sp (x :: (vs ++ dvs)) H2 Q E) : Xl C m sp dvs E ta t σ H Q := h
structure RC (K : W.Frag) (C : Addr) : Prop where
 c : Cls K C
 n1 : NoAttr K C "pot"
 n2 : NoAttr K C "pieces"
 n3 : NoAttr K C "lines"
 n4 : NoAttr K C "line"
 n5 : NoAttr K C "trees_read"
abbrev rFs (pot pcs lin : Addr) (n tr : Nat) : List (Str × V) := [("pot", .ref pot), ("pieces", .ref pcs), ("lines", .ref lin), ("line", .int (n : Int)), ("trees_read", .int (tr : Int))]
theorem put4 {pot pcs lin : Addr} {n tr n' : Nat} : putF "line" (.int (n' : Int)) (rFs pot pcs lin n tr) = rFs pot pcs lin n' tr := rfl
theorem put5 {pot pcs lin : Addr} {n tr n' : Nat} : putF "trees_read" (.int (n' : Int)) (rFs pot pcs lin n tr) = rFs pot pcs lin n n' := rfl
abbrev sTi : Stmt := ZV (top 64) 0
abbrev nTi : List Str := ["self", "pot", "pieces", "lines", "line"]
theorem nmTi : Nm nTi (zc sTi) := nmk (by decide +kernel)
theorem scTi : FnScope nTi ["self", "pot", "pieces", "lines", "line"] (zc sTi) := fsk (by decide +kernel)
def spTi (C : Addr) : Sp := fun vs H Q _ => ∃ (x dx pot pcs lin : Addr) (n : Nat), vs = [.ref x, .ref pot, .ref pcs, .ref lin, .int (n : Int)] ∧ H x = some (.ins C dx []) ∧ Q .non (upd H x (.ins C dx (rFs pot pcs lin n 0)))
theorem ok_Ti {f : Addr} {fd : FuncData} {C : Addr} (R : RC K C) (F : Fun K "__init__" "TreeReader.__init__" sTi f fd) : FnOk P w K mg base CX0 1 f fd ["self", "pot", "pieces", "lines", "line"] (spTi C) := by
 refine F.ok scTi (fun vs H Q E h => ?_) (fun cdv A outer s H vs Q E hr h => ?_)
 ·obtain ⟨x, dx, pot, pcs, lin, n, rfl, _⟩ := h
  rfl
 obtain ⟨x, dx, pot, pcs, lin, n, rfl, hx, k⟩ := h
 refine' ⟨_, ?hb, ?rd⟩
 case' hb => skip
 case' hb => refine' zf ?g1 ?g2
 case' g2 => refine' zf ?g3 ?g4
 case' g4 => refine' zf ?g5 ?g6
 case' g6 => refine' zf ?g7 ?g8
 case' g8 => refine' zg ?g9
 case g1 => exact vt (pvd nmTi 0) (pvd nmTi 1) rfl
 case g3 => exact vt (pvd nmTi 0) (pvd nmTi 2) rfl
 case g5 => exact vt (pvd nmTi 0) (pvd nmTi 3) rfl
 case g7 => exact vt (pvd nmTi 0) (pvd nmTi 4) rfl
 case g9 => exact vt (pvd nmTi 0) zd rfl
 walk_at "v"
 refine vc ?_
 walk_at "v"
 refine ⟨x, C, dx, _, rfl, hx, R.c, R.n1, by show 0 < 1000; decide, ?_⟩
 walk_at "v"
 refine vc ?_
 walk_at "v"
 refine ⟨x, C, dx, _, rfl, ze, R.c, R.n2, by show 1 < 1000; decide, ?_⟩
 walk_at "v"
 refine vc ?_
 walk_at "v"
 refine ⟨x, C, dx, _, rfl, ze, R.c, R.n3, by show 2 < 1000; decide, ?_⟩
 walk_at "v"
 refine vc ?_
 walk_at "v"
 refine ⟨x, C, dx, _, rfl, ze, R.c, R.n4, by show 3 < 1000; decide, ?_⟩
 walk_at "v"
 dsimp only
 refine vc ?_
 walk_at "v"
 refine ⟨x, C, dx, _, rfl, ze, R.c, R.n5, by show 4 < 1000; decide, ?_⟩
 rw [xA, xA, xA, xA]
 exact k
abbrev sTr : Stmt := ZV (top 64) 4
abbrev nTr : List Str := ["self", "words", "line", "numbers", "grounds"]
theorem nmTr : Nm nTr (zc sTr) := nmk (by decide +kernel)
theorem scTr : FnScope nTr ["self", "words", "line"] (zc sTr) := fsk (by decide +kernel)
structure RdA (H : Hp) (C o lin : Addr) (m : Nat) (tks : List (List Int)) (sz : List Nat) (ls : List (List Str)) (n tr : Nat) : Prop where
 ex : ∃ dx pot pcs, H o = some (.ins C dx (rFs pot pcs lin n tr)) ∧ PoA H pot m tks ∧ PcA H pcs sz ∧ H lin = some (.lst (txs ls))
 z8 : sz.length ≤ 8
 t8 : tks.length ≤ 8
def spTr (C : Addr) : Sp := fun vs H Q _ => ∃ (o wl lin : Addr) (n : Int) (m : Nat) (tks : List (List Int)) (sz : List Nat) (ls : List (List Str)) (ln' tr d c : Nat) (gs : List (List Wt)), vs = [.ref o, .ref wl, .int n] ∧ RdA H C o lin m tks sz ls ln' tr ∧ H wl = some (.lst ((Tx.hdW (.right c gs : Tx (Tr d))).map V.str)) ∧ Tx.Ok m tks sz (OkT m tks sz d) (.right c gs) ∧ ∀ v H', Same H H' → Tx.At (TrAt d) H' (.right c gs) v → Q v H'
theorem Ze {α : Type} (f : α → V) (a : α) (xs : List α) {j : Nat} (h : j ≤ (a :: xs).length) : cutV ((a :: xs).map f) (some (j : Int)) none = ((a :: xs).drop j).map f := by
 unfold cutV
 rw [HT.sIx_nat, HT.sIx_none]
 have e : min j ((a :: xs).map f).length = j := by rw [List.length_map]; omega
 rw [e, List.take_of_length_le (by rw [List.length_drop]; exact Nat.le_refl _), List.map_drop]
theorem ok_Tr {f : Addr} {fd : FuncData} {C : Addr} (R : RC K C) (B : Blt4 mg) (fC : Has P w K mg base 4 "read_counts" ["words", "line"] spRc) (fG : Has P w K mg base 6 "read_grounds" ["words", "line"] spRg) (fI : Has P w K mg base 4 "is_right" ["pieces", "piece", "grounds"] spIr) (F : Fun K "read_right" "TreeReader.read_right" sTr f fd) : FnOk P w K mg base CX0 7 f fd ["self", "words", "line"] (spTr C) := by
 refine F.ok scTr (fun vs H Q E h => ?_) (fun cdv A outer s H vs Q E hr h => ?_)
 ·obtain ⟨o, wl, lin, n, m, tks, sz, ls, ln', tr, d, c, gs, rfl, _⟩ := h
  rfl
 obtain ⟨o, wl, lin, n, m, tks, sz, ls, ln', tr, d, c, gs, rfl, hR, hw, ok, k⟩ := h
 refine' ⟨_, ?hb, ?rd⟩
 case' hb => skip
 case' hb => refine' zf ?g1 ?g2
 case' g2 => refine' zf ?g3 ?g4
 case' g4 => refine' zf ?g5 ?g6
 case' g6 => refine' zg ?g7
 case g1 => exact zj nmTr 3 (pe_f fC hr (by decide) (pa_2 (zO ym (pvd nmTr 1) (zM zd) (zM zd)) (pvd nmTr 2)))
 case g3 => exact zj nmTr 4 (pe_f fG hr (by decide) (pa_2 (zO ym (pvd nmTr 1) (zM zd) yh) (pvd nmTr 2)))
 case' g5 => refine' zC ?g8 ?g9 zw
 case g8 => exact yN (yr (pe_f fI hr (by decide) (pa_c (xw (pvd nmTr 0) rfl) (pa_2 (ziq (pvd nmTr 3) zd) (pvd nmTr 4)))))
 case g9 => exact zZ
 case g7 => exact zl (zy (pa_c zp (pa_2 (ziq (pvd nmTr 3) zd) (pvd nmTr 4))))
 obtain ⟨⟨dx, pot, pcs, h1, h2, h3, h4⟩, z8, t8⟩ := hR
 obtain ⟨c2, sn, hsn, hgl, n1, n4, hok⟩ := ok
 have hc : Nu (c : Int) := ye (by omega)
 have ew : (Tx.hdW (.right c gs : Tx (Tr d))) = ("right" : Str) :: fT c :: gs.flatMap gW := rfl
 rw [ew] at hw
 have hgln := vF hok
 have hgl2 : (gs.flatMap gW).length ≤ 16 := by have : (gs.flatMap gW).length ≤ 4 * gs.length := hgln; omega
 walk_at "v"
 refine ⟨_, rfl, ?_⟩
 walk_at "v"
 refine ⟨_, rfl, ?_⟩
 refine ⟨wl, _, rfl, SqL.of hw, fun D1 hD1 => ?_⟩
 have ec : cutV (((("right" : Str) :: fT c :: gs.flatMap gW)).map V.str) (some 1) (some 2) = ([(c : Int)].map fT).map V.str := Y9 (A := [V.str "right"]) (B := [V.str (fT c)]) (C := (gs.flatMap gW).map V.str) rfl rfl rfl
 rw [ec]
 obtain ⟨H1, q, K1, e1⟩ := nob (.lst (([(c : Int)].map fT).map V.str)) hD1; rw [q]; clear q
 walk_at "v"
 refine ⟨D1, [(c : Int)], n, rfl, e1, by show 1 ≤ 19; decide, fun i hi => ?_, fun r H2 K2 hr2 e2 => ?_⟩
 ·rcases List.mem_cons.mp hi with rfl | hi
  ·exact ⟨hc, by omega⟩
  ·cases hi
 walk_at "v"
 refine ⟨_, rfl, ?_⟩
 have K02 := K1.trans K2
 refine ⟨wl, _, rfl, SqL.of (K02 _ _ hw), fun D2 hD2 => ?_⟩
 have ec2 : cutV (((("right" : Str) :: fT c :: gs.flatMap gW)).map V.str) (some 2) none = (gs.flatMap gW).map V.str := Ze V.str _ _ (j := 2) (by simp)
 rw [ec2]
 obtain ⟨H3, q, K3, e3⟩ := nob (.lst ((gs.flatMap gW).map V.str)) hD2; rw [q]; clear q
 walk_at "v"
 refine ⟨D2, gs, n, rfl, e3, by omega, by omega, hok, fun q as H4 K4 hq hA => ?_⟩
 have K04 := (K02.trans K3).trans K4
 walk_at "v"
 refine wK ?_
 walk_at "v"
 refine ⟨o, C, dx, _, _, rfl, K04 _ _ h1, R.c, R.n2, rfl, ?_⟩
 walk_at "v"
 have e24 := K4 _ _ (K3 _ _ e2)
 refine zD (v := .int (c : Int)) e24 rfl ?_
 walk_at "v"
 refine ⟨pcs, q, c, sz, as, gs, rfl, h3.tk (TK.same K04), by rw [hgl]; exact hsn, z8, hq, hA, by omega, hok, fun H5 K5 => ?_⟩
 walk_at "v"
 refine iteF ?_
 walk_at "v"
 refine zD (v := .int (c : Int)) (K5 _ _ e24) rfl ?_
 walk_at "v"
 refine ⟨sz3, fun z hz => ?_⟩
 have K6 : Same H5 (upd H5 z (.tup [.str "right", .int (c : Int), .ref q])) := Same.new (Same.refl _) hz
 refine k _ _ ((K04.trans K5).trans K6) ⟨z, q, as, rfl, ze, K6 _ _ (K5 _ _ hq), hA.mono fun _ _ h => h.tk (TK.same (K5.trans K6))⟩
theorem yW {o r C dx : Addr} {fs : List (Str × V)} {xs : List V} {H : Hp} (h : H o = some (.ins C dx fs)) (e : H r = some (.lst xs)) : r ≠ o := fun z => by rw [z, h] at e; cases e
theorem Wl {o C dx : Addr} {fs : List (Str × V)} {H H' : Hp} (h : H o = some (.ins C dx fs)) (b : Bp o H H') : TK H H' := ⟨fun q xs e => b _ _ (xI e h (by intro z; cases z)) e, fun q u v e => b _ _ (xI e h (by intro z; cases z)) e⟩
theorem RdA.same {H H' : Hp} {C o lin : Addr} {m : Nat} {tks : List (List Int)} {sz : List Nat} {ls : List (List Str)} {n tr : Nat} (h : RdA H C o lin m tks sz ls n tr) (k : Same H H') : RdA H' C o lin m tks sz ls n tr := by
 obtain ⟨⟨dx, pot, pcs, h1, h2, h3, h4⟩, z8, t8⟩ := h
 exact ⟨⟨dx, pot, pcs, k _ _ h1, h2.tk (TK.same k), h3.tk (TK.same k), k _ _ h4⟩, z8, t8⟩
def spRt (C : Addr) : Nat → Sp
 | 0 => fun _ _ _ _ => False
 | d + 1 => fun vs H Q _ => ∃ (o lin : Addr) (wi : Int) (m : Nat) (tks : List (List Int)) (sz : List Nat) (ls : List (List Str)) (n tr : Nat) (t : Tr (d + 1)) (rest : List (List Str)), vs = [.ref o, .int wi] ∧ RdA H C o lin m tks sz ls n tr ∧ ls.drop n = trW (d + 1) t ++ rest ∧ OkT m tks sz (d + 1) t ∧ tr + (trW (d + 1) t).length ≤ 1000 ∧ 0 ≤ wi ∧ wi + (d : Int) ≤ 40 ∧ d ≤ 3 ∧ ls.length ≤ 1000 ∧
  ∀ v H', Bp o H H' → RdA H' C o lin m tks sz ls (n + (trW (d + 1) t).length) (tr + (trW (d + 1) t).length) → TrAt (d + 1) H' t v → Q v H'
def spRk (C : Addr) (d : Nat) (is : Tx (Tr d) → Prop) : Sp := fun vs H Q _ => ∃ (o wl lin : Addr) (nl wi : Int) (m : Nat) (tks : List (List Int)) (sz : List Nat) (ls : List (List Str)) (n tr : Nat) (t : Tx (Tr d)) (rest : List (List Str)), vs = [.ref o, .ref wl, .int nl, .int wi] ∧ is t ∧ RdA H C o lin m tks sz ls n tr ∧ H wl = some (.lst ((Tx.hdW t).map V.str)) ∧ ls.drop n = (Tx.kids t).flatMap (trW d) ++ rest ∧ OkT m tks sz (d + 1) t ∧ tr + ((Tx.kids t).flatMap (trW d)).length ≤ 1000 ∧ 0 ≤ wi ∧ wi + (d : Int) ≤ 40 ∧ d ≤ 3 ∧ ls.length ≤ 1000 ∧
  ∀ v H', Bp o H H' → RdA H' C o lin m tks sz ls (n + ((Tx.kids t).flatMap (trW d)).length) (tr + ((Tx.kids t).flatMap (trW d)).length) → TrAt (d + 1) H' t v → Q v H'
def isL {α : Type} : Tx α → Prop | .lacks _ _ => True | _ => False
def isC {α : Type} : Tx α → Prop | .cut _ _ _ _ => True | _ => False
theorem wE {α : Type} {ls a b : List α} {n : Nat} (h : ls.drop n = a ++ b) : ls.drop (n + a.length) = b := by
 rw [← List.drop_drop, h, List.drop_left]
abbrev sRcu : Stmt := ZV (top 64) 3
abbrev nRcu : List Str := ["self", "words", "line", "within", "numbers", "low", "high"]
theorem yC : Nm nRcu (zc sRcu) := nmk (by decide +kernel)
theorem scRcu : FnScope nRcu ["self", "words", "line", "within"] (zc sRcu) := fsk (by decide +kernel)
theorem Zx {f : Addr} {fd : FuncData} {C : Addr} {d : Nat} (R : RC K C) (B : Blt4 mg) (fC : Has P w K mg base 4 "read_counts" ["words", "line"] spRc) (hT : HasM P w K mg base (2 * d + 7) C "read_tree" ["self", "within"] (spRt C d)) (F : Fun K "read_cut" "TreeReader.read_cut" sRcu f fd) : FnOk P w K mg base CX0 (2 * d + 8) f fd ["self", "words", "line", "within"] (spRk C d isC) := by
 refine F.ok scRcu (fun vs H Q E h => ?_) (fun cdv A outer s H vs Q E hr h => ?_)
 ·obtain ⟨o, wl, lin, nl, wi, m, tks, sz, ls, n, tr, t, rest, rfl, _⟩ := h
  rfl
 obtain ⟨o, wl, lin, nl, wi, m, tks, sz, ls, n, tr, t, rest, rfl, his, hR, hw, hdr, ok, htr, w0, wd, d3, hll, k⟩ := h
 refine' ⟨_, ?hb, ?rd⟩
 case' hb => skip
 case' hb => refine' zf ?g1 ?g2
 case' g2 => refine' zf ?g3 ?g4
 case' g4 => refine' zf ?g5 ?g6
 case' g6 => refine' zf ?g7 ?g8
 case' g8 => refine' zg ?g9
 case g1 => exact zj yC 4 (pe_f fC hr (by omega) (pa_2 (zO ym (pvd yC 1) (zM zd) yh) (pvd yC 2)))
 case' g3 => refine' zC ?g10 ?g11 zw
 case g10 => exact PW.pt (yQ (zq xq (zF zr B.len PySem.boot_len (pa_1 (pvd yC 4))) zd (zt _)) (yB (zq vX (ziq (pvd yC 4) zd) (zF zr B.len PySem.boot_len (pa_1 (ziq (xw (pvd yC 0) rfl) (pe_k B.soK)))) (zt _))))
 case g11 => exact zZ
 case g5 => exact zj yC 5 (pe_m hT hr (by omega) (pvd yC 0) (pa_1 (zo zR (pvd yC 3) zd)))
 case g7 => exact zj yC 6 (pe_m hT hr (by omega) (pvd yC 0) (pa_1 (zo zR (pvd yC 3) zd)))
 case g9 => exact zl (zy (pa_c zp (pa_c (ziq (pvd yC 4) zd) (pa_c (ziq (pvd yC 4) zd) (pa_2 (pvd yC 5) (pvd yC 6))))))
 cases t with
 | lacks r ts => exact his.elim
 | shut w' => exact his.elim
 | right c gs => exact his.elim
 | cut sx x a b =>
 obtain ⟨sm', s7, nx, x0, oka, okb⟩ := ok
 have hs : Nu (sx : Int) := ye (by omega)
 have hR0 := hR
 obtain ⟨⟨dx, pot, pcs, h1, h2, h3, h4⟩, z8, t8⟩ := hR
 have ew : (Tx.hdW (.cut sx x a b : Tx (Tr d))) = ("cut" : Str) :: [(sx : Int), x].map fT := rfl
 rw [ew] at hw
 walk_at "v"
 refine ⟨_, rfl, ?_⟩
 refine ⟨wl, _, rfl, SqL.of hw, fun D1 hD1 => ?_⟩
 have ec : cutV ((("cut" : Str) :: [(sx : Int), x].map fT).map V.str) (some 1) none = ([(sx : Int), x].map fT).map V.str := Ze V.str _ _ (j := 1) (by simp)
 rw [ec]
 obtain ⟨H1, q, K1, e1⟩ := nob (.lst (([(sx : Int), x].map fT).map V.str)) hD1; rw [q]; clear q
 walk_at "v"
 refine ⟨D1, [(sx : Int), x], nl, rfl, e1, by show 2 ≤ 19; decide, fun i hi => ?_, fun r H2 K2 hr2 e2 => ?_⟩
 ·rcases List.mem_cons.mp hi with rfl | hi
  ·exact ⟨hs, by omega⟩
  ·rcases List.mem_cons.mp hi with rfl | hi
   ·exact ⟨nx, x0⟩
   ·cases hi
 have K02 := K1.trans K2
 walk_at "v"
 refine ⟨r, _, rfl, .inl (SqL.of e2), ?_⟩
 walk_at "v"
 refine ⟨rfl, ?_⟩
 walk_at "v"
 refine xK rfl ?_
 walk_at "v"
 refine zD (v := .int (sx : Int)) e2 rfl ?_
 walk_at "v"
 refine wK ?_
 walk_at "v"
 refine ⟨o, C, dx, _, _, rfl, K02 _ _ h1, R.c, R.n1, rfl, ?_⟩
 obtain ⟨ps, pr, us, xs, ras, p1, p2, p3, p4, p5⟩ := h2.tk (TK.same K02)
 walk_at "v"
 refine zm (v := .ref ps) p1 (show atI _ ((0 : Nat) : Int) = _ from zx rfl) ?_
 walk_at "v"
 refine ⟨ps, _, rfl, .inr (SqT.of p2), ?_⟩
 rw [p3]
 walk_at "v"
 refine iteD (fun z => absurd z (by omega)) (fun _ => ?_)
 cases d with
 | zero => exact nomatch a
 | succ d =>
 have hdr' : ls.drop n = trW (d + 1) a ++ (trW (d + 1) b ++ rest) := by
  rw [hdr]
  show ([a, b].flatMap (trW (d + 1))) ++ rest = _
  simp
 have hfl : ([a, b].flatMap (trW (d + 1))).length = (trW (d + 1) a).length + (trW (d + 1) b).length := by simp
 have htr' : tr + ((trW (d + 1) a).length + (trW (d + 1) b).length) ≤ 1000 := by rw [← hfl]; exact htr
 walk_at "v"
 refine xP ?_
 walk_at "v"
 refine ⟨o, dx, _, rfl, K02 _ _ h1, rfl, ?_⟩
 walk_at "v"
 refine ⟨o, lin, wi + 1, m, tks, sz, ls, n, tr, a, _, rfl, hR0.same K02, hdr', oka, by omega, by omega, by omega, by omega, hll, fun va H3 b3 R3 hva => ?_⟩
 obtain ⟨dx3, pot3, pcs3, g1, _⟩ := R3.ex
 walk_at "v"
 refine xP ?_
 walk_at "v"
 refine ⟨o, dx3, _, rfl, g1, rfl, ?_⟩
 walk_at "v"
 refine ⟨o, lin, wi + 1, m, tks, sz, ls, _, _, b, rest, rfl, R3, wE hdr', okb, by omega, by omega, by omega, by omega, hll, fun vb H4 b4 R4 hvb => ?_⟩
 have b24 := b3.trans b4
 have e4 := b24 _ _ (yW (K02 _ _ h1) e2) e2
 walk_at "v"
 refine zD (v := .int (sx : Int)) e4 rfl ?_
 walk_at "v"
 refine zD (v := .int x) e4 rfl ?_
 walk_at "v"
 refine ⟨sz5, fun z hz => ?_⟩
 have K5 : Same H4 (upd H4 z (.tup [.str "cut", .int (sx : Int), .int x, va, vb])) := Same.new (Same.refl _) hz
 refine k _ _ ((Bp.same K02).trans (b24.trans (Bp.same K5))) ?_ ?_
 ·have := R4.same K5
  rw [Nat.add_assoc, Nat.add_assoc] at this
  show RdA _ C o lin m tks sz ls (n + ([a, b].flatMap (trW (d + 1))).length) (tr + ([a, b].flatMap (trW (d + 1))).length)
  rw [hfl]
  exact this
 ·exact ⟨z, va, vb, rfl, ze, TrAt.tk ((Wl g1 b4).trans (TK.same K5)) _ hva, TrAt.tk (TK.same K5) _ hvb⟩
abbrev sRla : Stmt := ZV (top 64) 2
abbrev nRla : List Str := ["self", "words", "line", "within", "numbers", "trees"]
theorem nmRla : Nm nRla (zc sRla) := nmk (by decide +kernel)
theorem scRla : FnScope nRla ["self", "words", "line", "within"] (zc sRla) := fsk (by decide +kernel)
def qRlaa (s : Stmt) : Scope := match s with
 | .Assign _ (.ListComp _ _ sc _) _ => sc
 | _ => nsc
abbrev cRlaa : Scope := qRlaa ((zu sRla).getD 2 (.Pass ⟨0, 0, 0, 0⟩))
theorem bsRlaa : BScope (zc sRla) cRlaa ["sort"] ["self", "within"] [] := { okind := by decide +kernel, kind := by decide +kernel, nocell := by decide +kernel, names := by decide +kernel, fr := by decide +kernel, ff := by decide +kernel, nd := by decide +kernel, vis := by decide +kernel, loc := by decide +kernel, gl := by decide +kernel }
theorem loRla_5 : (zc sRla).names.lookup ("trees" : Str) = some .local := by decide +kernel
theorem Zw {f : Addr} {fd : FuncData} {C : Addr} {d : Nat} (R : RC K C) (B : Blt4 mg) (fC : Has P w K mg base 4 "read_counts" ["words", "line"] spRc) (fS : Has P w K mg base 1 "sorts_taken" ["pot", "rule"] spSk) (hT : HasM P w K mg base (2 * d + 7) C "read_tree" ["self", "within"] (spRt C d)) (F : Fun K "read_lacks" "TreeReader.read_lacks" sRla f fd) : FnOk P w K mg base CX0 (2 * d + 8) f fd ["self", "words", "line", "within"] (spRk C d isL) := by
 refine F.ok scRla (fun vs H Q E h => ?_) (fun cdv A outer s H vs Q E hr h => ?_)
 ·obtain ⟨o, wl, lin, nl, wi, m, tks, sz, ls, n, tr, t, rest, rfl, _⟩ := h
  rfl
 obtain ⟨o, wl, lin, nl, wi, m, tks, sz, ls, n, tr, t, rest, rfl, his, hR, hw, hdr, ok, htr, w0, wd, d3, hll, k⟩ := h
 refine' ⟨_, ?hb, ?rd⟩
 case' hb => skip
 case' hb => refine' zf ?g1 ?g2
 case' g2 => refine' zf ?g3 ?g4
 case' g4 => refine' zf ?g5 ?g6
 case' g6 => refine' zg ?g7
 case g1 => exact zj nmRla 4 (pe_f fC hr (by omega) (pa_2 (zO ym (pvd nmRla 1) (zM zd) yh) (pvd nmRla 2)))
 case' g3 => refine' zC ?g8 ?g9 zw
 case g8 => exact PW.pt (yQ (zq xq (zF zr B.len PySem.boot_len (pa_1 (pvd nmRla 4))) zd (zt _)) (yB (zq vX (ziq (pvd nmRla 4) zd) (zF zr B.len PySem.boot_len (pa_1 (ziq (xw (pvd nmRla 0) rfl) (pe_k B.ruK)))) (zt _))))
 case g9 => exact zZ
 case' g5 => refine' xB (i := 5) (ix := [0, 3]) nmRla.nd rfl loRla_5 bsRlaa.toCScope rfl rfl ?g11 ?g12 ?g13 ?g14
 case g11 => exact xi (pe_f fS hr (by omega) (pa_2 (xw (pvd nmRla 0) rfl) (ziq (pvd nmRla 4) zd)))
 case g12 => exact fun _ _ _ _ _ _ => pgb bsRlaa 0
 case g13 => exact fun _ _ _ _ _ _ => zz
 case g14 => exact fun _ _ _ _ _ _ => pe_m hT hr (by omega) (pvb bsRlaa 1) (pa_1 (zo zR (pvb bsRlaa 2) zd))
 case g7 => exact zl (zy (pa_c zp (pa_2 (ziq (pvd nmRla 4) zd) (zK zS B.tuple PyProof.Rows.boot_tuple (pa_1 (pvd nmRla 5))))))
 cases t with
 | cut sx x a b => exact his.elim
 | shut w' => exact his.elim
 | right c gs => exact his.elim
 | lacks r ts =>
 obtain ⟨r7, tk, htk, htl, ht8, oks⟩ := ok
 have hs : Nu (r : Int) := ye (by omega)
 have hR0 := hR
 obtain ⟨⟨dx, pot, pcs, h1, h2, h3, h4⟩, z8, t8⟩ := hR
 have hrl := (List.getElem?_eq_some_iff.mp htk).1
 have ew : (Tx.hdW (.lacks r ts : Tx (Tr d))) = ("lacks" : Str) :: [(r : Int)].map fT := rfl
 rw [ew] at hw
 walk_at "v"
 refine ⟨_, rfl, ?_⟩
 refine ⟨wl, _, rfl, SqL.of hw, fun D1 hD1 => ?_⟩
 have ec : cutV ((("lacks" : Str) :: [(r : Int)].map fT).map V.str) (some 1) none = ([(r : Int)].map fT).map V.str := Ze V.str _ _ (j := 1) (by simp)
 rw [ec]
 obtain ⟨H1, q, K1, e1⟩ := nob (.lst (([(r : Int)].map fT).map V.str)) hD1; rw [q]; clear q
 walk_at "v"
 refine ⟨D1, [(r : Int)], nl, rfl, e1, by show 1 ≤ 19; decide, fun i hi => ?_, fun rl H2 K2 hr2 e2 => ?_⟩
 ·rcases List.mem_cons.mp hi with rfl | hi
  ·exact ⟨hs, by omega⟩
  ·cases hi
 have K02 := K1.trans K2
 walk_at "v"
 refine ⟨rl, _, rfl, .inl (SqL.of e2), ?_⟩
 walk_at "v"
 refine ⟨rfl, ?_⟩
 walk_at "v"
 refine xK rfl ?_
 walk_at "v"
 refine zD (v := .int (r : Int)) e2 rfl ?_
 walk_at "v"
 refine wK ?_
 walk_at "v"
 refine ⟨o, C, dx, _, _, rfl, K02 _ _ h1, R.c, R.n1, rfl, ?_⟩
 have hP2 := h2.tk (TK.same K02)
 obtain ⟨ps, pr, us, xs, ras, p1, p2, p3, p4, p5⟩ := hP2
 have hral := p5.len
 walk_at "v"
 refine zm (v := .ref pr) p1 (show atI _ ((1 : Nat) : Int) = _ from zx rfl) ?_
 walk_at "v"
 refine ⟨pr, _, rfl, .inr (SqT.of p4), ?_⟩
 rw [List.length_map, hral]
 walk_at "v"
 refine iteD (fun z => absurd z (by omega)) (fun _ => ?_)
 walk_at "v"
 refine wK ?_
 walk_at "v"
 refine ⟨o, C, dx, _, _, rfl, K02 _ _ h1, R.c, R.n1, rfl, ?_⟩
 walk_at "v"
 refine zD (v := .int (r : Int)) e2 rfl ?_
 walk_at "v"
 refine ⟨pot, r, m, tks, tk, rfl, h2.tk (TK.same K02), htk, fun sl ss H3 K3 hsl e3 hsl' hsl8 => ?_⟩
 have K03 := K02.trans K3
 have ho3 := K03 _ _ h1
 have nso : sl ≠ o := yW ho3 e3
 refine ⟨sl, rfl, ⟨_, SqL.of e3⟩, fun D hD => ?_⟩
 have nDo : D ≠ o := fun z => by rw [z, ho3] at hD; cases hD
 have nlD : lin ≠ D := zh (K03 _ _ h4) hD
 have bD : Bp o H3 (upd H3 D (.lst [])) := Bp.new Bp.refl hD
 refine ZZ (xs := ss) (ρ := [some (.ref o), some (.int wi)]) (fun i ys H' => ys.length = i ∧ (∀ (j : Nat) (y : V), ys[j]? = some y → ∃ u, ts[j]? = some u ∧ TrAt d H' u y) ∧ Bp o H3 H' ∧ RdA H' C o lin m tks sz ls (n + ((ts.take i).flatMap (trW d)).length) (tr + ((ts.take i).flatMap (trW d)).length)) ⟨rfl, fun j y h => by simp at h, bD, (hR0.same K03).same (Same.new (Same.refl _) hD)⟩ (fun i ys H' _ ⟨_, _, b, _⟩ => SqL.of (b _ _ nso e3)) ?_ ?_
 ·rintro i x ys H' hx ⟨hyl, hY, b', R'⟩ hDz R1 S1 kR _
  have hi : i < ss.length := (List.getElem?_eq_some_iff.mp hx).1
  have hit : i < ts.length := by omega
  obtain ⟨dx', pot', pcs', g1, g2, g3, g4⟩ := R'.ex
  cases d with
  | zero => exact nomatch ts[i]
  | succ d =>
  have hu : ts[i]? = some ts[i] := List.getElem?_eq_getElem hit
  have hft := yJ (trW (d + 1)) ts hu
  have hsp : ts.flatMap (trW (d + 1)) = (ts.take i).flatMap (trW (d + 1)) ++ (trW (d + 1) ts[i] ++ (ts.drop (i + 1)).flatMap (trW (d + 1))) := by
   have e : ts = ts.take i ++ ts[i] :: ts.drop (i + 1) := by rw [List.getElem_cons_drop, List.take_append_drop]
   conv => lhs; rw [e]
   rw [List.flatMap_append, List.flatMap_cons]
  have hdr' : ls.drop (n + ((ts.take i).flatMap (trW (d + 1))).length) = trW (d + 1) ts[i] ++ ((ts.drop (i + 1)).flatMap (trW (d + 1)) ++ rest) := by
   refine wE ?_
   rw [hdr]
   show ts.flatMap (trW (d + 1)) ++ rest = _
   rw [hsp]
   simp only [List.append_assoc]
  have htr' : tr + (ts.flatMap (trW (d + 1))).length ≤ 1000 := htr
  rw [hsp, List.length_append, List.length_append] at htr'
  walk_at "v"
  refine xP ?_
  walk_at "v"
  refine ⟨o, dx', _, rfl, g1, rfl, ?_⟩
  walk_at "v"
  refine ⟨o, lin, wi + 1, m, tks, sz, ls, _, _, ts[i], _, rfl, R', hdr', oks _ (List.getElem_mem hit), by omega, by omega, by omega, by omega, hll, fun v H4 b4 R4 hv => ?_⟩
  have hD4 := b4 _ _ nDo hDz
  have T4 := Wl g1 b4
  have hno : H4 o ≠ none := fun z => by obtain ⟨_, _, _, q, _⟩ := R4.ex; rw [z] at q; cases q
  have T5 : TK H4 (upd H4 D (.lst (ys ++ [v]))) := TK.lst hD4
  refine kR _ _ hD4 (zn (by omega)) ⟨by rw [List.length_append, hyl]; rfl, fun j y hy => ?_, ?_, ?_⟩
  ·by_cases hj : j < ys.length
   ·rw [List.getElem?_append_left hj] at hy
    obtain ⟨u, q1, q2⟩ := hY j y hy
    exact ⟨u, q1, TrAt.tk (T4.trans T5) _ q2⟩
   ·have hj' : j < (ys ++ [v]).length := (List.getElem?_eq_some_iff.mp hy).1
    rw [List.length_append, List.length_singleton] at hj'
    obtain rfl : j = ys.length := by omega
    rw [List.getElem?_append_right (Nat.le_refl _), Nat.sub_self] at hy
    cases hy
    exact ⟨ts[i], by rw [hyl]; exact hu, TrAt.tk T5 _ hv⟩
  ·exact (b'.trans b4).put hD
  ·obtain ⟨⟨dx4, pot4, pcs4, q1, q2, q3, q4⟩, z8', t8'⟩ := R4
   rw [hft, List.length_append, ← Nat.add_assoc, ← Nat.add_assoc]
   exact ⟨⟨dx4, pot4, pcs4, by rw [zi (Ne.symm nDo)]; exact q1, q2.tk T5, q3.tk T5, by rw [zi nlD]; exact q4⟩, z8', t8'⟩
 ·rintro ys H4 ⟨hyl, hY, b', R'⟩ e4
  rw [List.take_of_length_le (by omega)] at R'
  have e4n := b' _ _ (yW ho3 (K3 _ _ e2)) (K3 _ _ e2)
  walk_at "v"
  refine zD (v := .int (r : Int)) e4n rfl ?_
  walk_at "v"
  refine ⟨D, _, rfl, e4, fun q H5 K5 e5 => ?_⟩
  walk_at "v"
  refine ⟨sz3, fun z hz => ?_⟩
  have K6 : Same H5 (upd H5 z (.tup [.str "lacks", .int (r : Int), .ref q])) := Same.new (Same.refl _) hz
  refine k _ _ ((Bp.same K03).trans (b'.trans (Bp.same (K5.trans K6)))) (R'.same (K5.trans K6)) ?_
  refine ⟨z, q, ys, rfl, ze, K6 _ _ e5, All2.of (by omega) fun i u y h1' h2' => ?_⟩
  obtain ⟨u', q1, q2⟩ := hY i y h2'
  rw [h1'] at q1
  cases q1
  exact TrAt.tk (TK.same (K5.trans K6)) _ q2
abbrev sRtr : Stmt := ZV (top 64) 1
abbrev nRtr : List Str := ["self", "within", "line", "words"]
theorem yb : Nm nRtr (zc sRtr) := nmk (by decide +kernel)
theorem scRtr : FnScope nRtr ["self", "within"] (zc sRtr) := fsk (by decide +kernel)
theorem x9 {f : Addr} {fd : FuncData} {C : Addr} {d : Nat} (R : RC K C) (B : Blt4 mg) (fA : Has P w K mg base 1 "words_at" ["lines", "line"] Xo) (fW : Has P w K mg base 5 "read_weights" ["words", "line"] spRw) (hL : HasM P w K mg base (2 * d + 8) C "read_lacks" ["self", "words", "line", "within"] (spRk C d isL)) (hC : HasM P w K mg base (2 * d + 8) C "read_cut" ["self", "words", "line", "within"] (spRk C d isC)) (hG : HasM P w K mg base 7 C "read_right" ["self", "words", "line"] (spTr C)) (F : Fun K "read_tree" "TreeReader.read_tree" sRtr f fd) : FnOk P w K mg base CX0 (2 * d + 9) f fd ["self", "within"] (spRt C (d + 1)) := by
 refine F.ok scRtr (fun vs H Q E h => ?_) (fun cdv A outer s H vs Q E hr h => ?_)
 ·obtain ⟨o, lin, wi, m, tks, sz, ls, n, tr, t, rest, rfl, _⟩ := h
  rfl
 obtain ⟨o, lin, wi, m, tks, sz, ls, n, tr, t, rest, rfl, hR, hdr, ok, htr, w0, wd, d3, hll, k⟩ := h
 refine' ⟨_, ?hb, ?rd⟩
 case' hb => skip
 case' hb => refine' zf ?g1 ?g2
 case' g2 => refine' zf ?g3 ?g4
 case' g4 => refine' zf ?g5 ?g6
 case' g6 => refine' zf ?g7 ?g8
 case' g8 => refine' zf ?g9 ?g10
 case' g10 => refine' zf ?g11 ?g12
 case' g12 => refine' zf ?g13 ?g14
 case' g14 => refine' zf ?g15 ?g16
 case' g16 => refine' zf ?g17 ?g18
 case' g18 => refine' zg ?g19
 case g1 => exact zj yb 2 (xw (pvd yb 0) rfl)
 case g3 => exact zj yb 3 (pe_f fA hr (by omega) (pa_2 (xw (pvd yb 0) rfl) (pvd yb 2)))
 case' g5 => refine' zC ?g20 ?g21 zw
 case g20 => exact PW.pt (yQ (zq zV (xw (pvd yb 0) rfl) (pe_k B.mtK) (zt _)) (yB (zq vW (pvd yb 1) (pe_k B.mwK) (zt _))))
 case g21 => exact zZ
 case g7 => exact vV (pvd yb 0) zd Wa
 case g9 => exact vV (pvd yb 0) zd Wa
 case' g11 => refine' zC ?g23 ?g24 zw
 case g23 => exact zq zV (ziq (pvd yb 3) zd) zp (zt _)
 case' g24 => refine' zg ?g26
 case g26 => exact zl (pe_m hL hr (by omega) (pvd yb 0) (pa_c (pvd yb 3) (pa_2 (pvd yb 2) (pvd yb 1))))
 case' g13 => refine' zC ?g27 ?g28 zw
 case g27 => exact zq zV (ziq (pvd yb 3) zd) zp (zt _)
 case' g28 => refine' zg ?g30
 case g30 => exact zl (pe_m hC hr (by omega) (pvd yb 0) (pa_c (pvd yb 3) (pa_2 (pvd yb 2) (pvd yb 1))))
 case' g15 => refine' zC ?g31 ?g32 zw
 case g31 => exact zq zV (ziq (pvd yb 3) zd) zp (zt _)
 case' g32 => refine' zg ?g34
 case g34 => exact zl (zy (pa_2 zp (pe_f fW hr (by omega) (pa_2 (zO ym (pvd yb 3) (zM zd) yh) (pvd yb 2)))))
 case' g17 => refine' zC ?g35 ?g36 zw
 case g35 => exact zq zV (ziq (pvd yb 3) zd) zp (zt _)
 case' g36 => refine' zg ?g38
 case g38 => exact zl (pe_m hG hr (by omega) (pvd yb 0) (pa_2 (pvd yb 3) (pvd yb 2)))
 case g19 => exact ps_never
 obtain ⟨⟨dx, pot, pcs, h1, h2, h3, h4⟩, z8, t8⟩ := hR
 obtain ⟨hwd, hwl, hwn⟩ := Yg ok
 have eT : trW (d + 1) t = Tx.hdW t :: (Tx.kids t).flatMap (trW d) := rfl
 rw [eT] at hdr htr
 rw [List.length_cons] at htr
 have hget : ls[n]? = some (Tx.hdW t) := by
  have := congrArg (fun l => l[0]?) hdr
  simpa [List.getElem?_drop] using this
 have hdr2 : ls.drop (n + 1) = (Tx.kids t).flatMap (trW d) ++ rest := wE (a := [Tx.hdW t]) hdr
 walk_at "v"
 refine wK ?_
 walk_at "v"
 refine ⟨o, C, dx, _, _, rfl, h1, R.c, R.n4, rfl, ?_⟩
 walk_at "v"
 refine wK ?_
 walk_at "v"
 refine ⟨o, C, dx, _, _, rfl, h1, R.c, R.n3, rfl, ?_⟩
 walk_at "v"
 refine ⟨lin, ls, n, _, rfl, h4, hget, ⟨hwd, hwl, hwn⟩, fun wl hwl' => ?_⟩
 have now : o ≠ wl := zh h1 hwl'
 have nlw : lin ≠ wl := zh h4 hwl'
 have nlo : lin ≠ o := yW h1 h4
 have K1 : Same H (upd H wl (.lst ((Tx.hdW t).map V.str))) := Same.new (Same.refl _) hwl'
 have e1 : upd H wl (.lst ((Tx.hdW t).map V.str)) wl = some (.lst ((Tx.hdW t).map V.str)) := ze
 generalize upd H wl (.lst ((Tx.hdW t).map V.str)) = H1 at K1 e1 ⊢
 have h11 := K1 _ _ h1
 walk_at "v"
 refine wK ?_
 walk_at "v"
 refine ⟨o, C, dx, _, _, rfl, h11, R.c, R.n5, rfl, ?_⟩
 walk_at "v"
 refine ⟨rfl, ?_⟩
 walk_at "v"
 refine iteD (fun z => absurd (V.int.inj z) (by omega)) (fun _ => ?_)
 walk_at "v"
 refine iteD (fun z => absurd z (by omega)) (fun _ => ?_)
 walk_at "v"
 refine Xh ?_
 walk_at "v"
 refine ⟨o, C, dx, _, _, rfl, h11, R.c, R.n5, rfl, ?_⟩
 walk_at "v"
 refine ⟨_, _, rfl, rfl, ?_⟩
 refine ⟨dx, _, h11, by show 5 < 1000; decide, ?_⟩
 rw [show V.int ((tr : Int) + 1) = V.int ((tr + 1 : Nat) : Int) from rfl, put5]
 have b2 : Bp o H1 (upd H1 o (.ins C dx (rFs pot pcs lin n (tr + 1)))) := Bp.at Bp.refl
 have e2 : upd H1 o (.ins C dx (rFs pot pcs lin n (tr + 1))) o = some (.ins C dx (rFs pot pcs lin n (tr + 1))) := ze
 generalize upd H1 o (.ins C dx (rFs pot pcs lin n (tr + 1))) = H2 at b2 e2 ⊢
 walk_at "v"
 refine Xh ?_
 walk_at "v"
 refine ⟨o, C, dx, _, _, rfl, e2, R.c, R.n4, rfl, ?_⟩
 walk_at "v"
 refine ⟨_, _, rfl, rfl, ?_⟩
 refine ⟨dx, _, e2, by show 5 < 1000; decide, ?_⟩
 rw [show V.int ((n : Int) + 1) = V.int ((n + 1 : Nat) : Int) from rfl, put4]
 have b5 : Bp o H1 (upd H2 o (.ins C dx (rFs pot pcs lin (n + 1) (tr + 1)))) := b2.at
 have e5 : upd H2 o (.ins C dx (rFs pot pcs lin (n + 1) (tr + 1))) o = some (.ins C dx (rFs pot pcs lin (n + 1) (tr + 1))) := ze
 generalize upd H2 o (.ins C dx (rFs pot pcs lin (n + 1) (tr + 1))) = H5 at b5 e5 ⊢
 have T5 : TK H1 H5 := Wl h11 b5
 have T05 := (TK.same K1).trans T5
 have b05 : Bp o H H5 := (Bp.same K1).trans b5
 have R5 : RdA H5 C o lin m tks sz ls (n + 1) (tr + 1) := ⟨⟨dx, pot, pcs, e5, h2.tk T05, h3.tk T05, b05 _ _ nlo h4⟩, z8, t8⟩
 have eW := b5 _ _ (Ne.symm now) e1
 have fin : ∀ (v : V) (H' : Hp), Bp o H5 H' → RdA H' C o lin m tks sz ls (n + 1 + ((Tx.kids t).flatMap (trW d)).length) (tr + 1 + ((Tx.kids t).flatMap (trW d)).length) → TrAt (d + 1) H' t v → Q v H' := fun v H' b r h => by
  refine k v H' (b05.trans b) ?_ h
  rw [eT, List.length_cons]
  rw [show n + (((Tx.kids t).flatMap (trW d)).length + 1) = n + 1 + ((Tx.kids t).flatMap (trW d)).length by omega, show tr + (((Tx.kids t).flatMap (trW d)).length + 1) = tr + 1 + ((Tx.kids t).flatMap (trW d)).length by omega]
  exact r
 clear hdr k
 walk_at "v"
 cases t with
 | lacks r ts =>
  refine zD (v := .str "lacks") eW (show atI _ ((0 : Nat) : Int) = _ from zx rfl) ?_
  walk_at "v"
  refine ⟨rfl, ?_⟩
  walk_at "v"
  refine iteD (fun _ => ?_) (fun z => absurd rfl z)
  walk_at "v"
  refine xP ?_
  walk_at "v"
  refine ⟨o, dx, _, rfl, e5, rfl, ?_⟩
  walk_at "v"
  exact ⟨o, wl, lin, _, wi, m, tks, sz, ls, n + 1, tr + 1, .lacks r ts, rest, rfl, trivial, R5, eW, hdr2, ok, by omega, w0, wd, d3, hll, fin⟩
 | cut sx x a b =>
  refine zD (v := .str "cut") eW (show atI _ ((0 : Nat) : Int) = _ from zx rfl) ?_
  walk_at "v"
  refine ⟨rfl, ?_⟩
  walk_at "v"
  refine iteD (fun z => absurd (V.str.inj z) (by decide)) (fun _ => ?_)
  walk_at "v"
  refine zD (v := .str "cut") eW (show atI _ ((0 : Nat) : Int) = _ from zx rfl) ?_
  walk_at "v"
  refine ⟨rfl, ?_⟩
  walk_at "v"
  refine iteD (fun _ => ?_) (fun z => absurd rfl z)
  walk_at "v"
  refine xP ?_
  walk_at "v"
  refine ⟨o, dx, _, rfl, e5, rfl, ?_⟩
  walk_at "v"
  exact ⟨o, wl, lin, _, wi, m, tks, sz, ls, n + 1, tr + 1, .cut sx x a b, rest, rfl, trivial, R5, eW, hdr2, ok, by omega, w0, wd, d3, hll, fin⟩
 | shut w' =>
  refine zD (v := .str "shut") eW (show atI _ ((0 : Nat) : Int) = _ from zx rfl) ?_
  walk_at "v"
  refine ⟨rfl, ?_⟩
  walk_at "v"
  refine iteD (fun z => absurd (V.str.inj z) (by decide)) (fun _ => ?_)
  walk_at "v"
  refine zD (v := .str "shut") eW (show atI _ ((0 : Nat) : Int) = _ from zx rfl) ?_
  walk_at "v"
  refine ⟨rfl, ?_⟩
  walk_at "v"
  refine iteD (fun z => absurd (V.str.inj z) (by decide)) (fun _ => ?_)
  walk_at "v"
  refine zD (v := .str "shut") eW (show atI _ ((0 : Nat) : Int) = _ from zx rfl) ?_
  walk_at "v"
  refine ⟨rfl, ?_⟩
  walk_at "v"
  refine iteD (fun _ => ?_) (fun z => absurd rfl z)
  walk_at "v"
  refine ⟨_, rfl, ?_⟩
  refine ⟨wl, _, rfl, SqL.of eW, fun D1 hD1 => ?_⟩
  have ec : cutV ((Tx.hdW (.shut w' : Tx (Tr d))).map V.str) (some 1) none = (w'.map wW).map V.str := Ze V.str ("shut" : Str) (w'.map wW) (j := 1) (by simp)
  rw [ec]
  obtain ⟨H6, q, K6, e6⟩ := nob (.lst ((w'.map wW).map V.str)) hD1; rw [q]; clear q
  walk_at "v"
  refine ⟨D1, w', _, rfl, e6, ok, fun q H7 K7 hq => ?_⟩
  walk_at "v"
  refine ⟨sz2, fun z hz => ?_⟩
  have K8 : Same H7 (upd H7 z (.tup [.str "shut", .ref q])) := Same.new (Same.refl _) hz
  have K58 := (K6.trans K7).trans K8
  exact fin _ _ (Bp.same K58) (R5.same K58) ⟨z, q, rfl, ze, hq.tk (TK.same K8)⟩
 | right c gs =>
  refine zD (v := .str "right") eW (show atI _ ((0 : Nat) : Int) = _ from zx rfl) ?_
  walk_at "v"
  refine ⟨rfl, ?_⟩
  walk_at "v"
  refine iteD (fun z => absurd (V.str.inj z) (by decide)) (fun _ => ?_)
  walk_at "v"
  refine zD (v := .str "right") eW (show atI _ ((0 : Nat) : Int) = _ from zx rfl) ?_
  walk_at "v"
  refine ⟨rfl, ?_⟩
  walk_at "v"
  refine iteD (fun z => absurd (V.str.inj z) (by decide)) (fun _ => ?_)
  walk_at "v"
  refine zD (v := .str "right") eW (show atI _ ((0 : Nat) : Int) = _ from zx rfl) ?_
  walk_at "v"
  refine ⟨rfl, ?_⟩
  walk_at "v"
  refine iteD (fun z => absurd (V.str.inj z) (by decide)) (fun _ => ?_)
  walk_at "v"
  refine zD (v := .str "right") eW (show atI _ ((0 : Nat) : Int) = _ from zx rfl) ?_
  walk_at "v"
  refine ⟨rfl, ?_⟩
  walk_at "v"
  refine iteD (fun _ => ?_) (fun z => absurd rfl z)
  walk_at "v"
  refine xP ?_
  walk_at "v"
  refine ⟨o, dx, _, rfl, e5, rfl, ?_⟩
  walk_at "v"
  exact ⟨o, wl, lin, _, m, tks, sz, ls, n + 1, tr + 1, d, c, gs, rfl, R5, eW, ok, fun v H' K' hv => fin v H' (Bp.same K') (R5.same K') hv⟩
theorem w_forEl {K : W.Frag} {ta : TA} {g : TG} {tb : TS} {D : Ends} {σ : St} {H : Hp} (h : ta σ H fun vs H1 => ∃ a, vs = [.ref a] ∧ (∃ xs, SqL K H1 a xs) ∧ ForJ (Itel K a) g tb D σ H1) : tFor (iEnl K ta) g tb D σ H := h
abbrev kW (r : List Int) : List Str := ("kept" : Str) :: r.map fT
theorem vp {c : Str} {r : List Int} (hc : Wd c) (h : ∀ i ∈ r, Nu i) (hl : r.length ≤ 8) : LOk (c :: r.map fT) := ⟨fun w hw => by
 rcases List.mem_cons.mp hw with rfl | hw
 ·exact hc
 ·obtain ⟨i, hi, rfl⟩ := List.mem_map.mp hw
  exact xt (h i hi), by rw [List.length_cons, List.length_map]; omega, fun z => by cases z⟩
theorem XE {r : List Int} {i : Nat} {x : V} (hx : ((r.map fT).map V.str)[i]? = some x) : ∃ z, r[i]? = some z ∧ x = .str (fT z) := by
 rw [List.getElem?_map, List.getElem?_map] at hx
 cases hi : r[i]? with
 | none => rw [hi] at hx; cases hx
 | some z => rw [hi] at hx; cases hx; exact ⟨z, rfl, rfl⟩
abbrev sRks : Stmt := top 58
abbrev nRks : List Str := ["many", "lines", "kepts", "line", "text", "words"]
theorem yU : Nm nRks (zc sRks) := nmk (by decide +kernel)
theorem scRks : FnScope nRks ["many", "lines"] (zc sRks) := fsk (by decide +kernel)
def qRksa (s : Stmt) : Scope := match s with
 | .For _ _ [_, _, (.If (.BoolOp _ [_, _, (.UnaryOp _ (.Call _ [(.ListComp _ _ sc _)] _ _) _)] _) _ _ _), _] _ _ => sc
 | _ => nsc
abbrev cRksa : Scope := qRksa ((zu sRks).getD 1 (.Pass ⟨0, 0, 0, 0⟩))
theorem bsRksa : BScope (zc sRks) cRksa ["word"] [] ["is_signed_figures"] := { okind := by decide +kernel, kind := by decide +kernel, nocell := by decide +kernel, names := by decide +kernel, fr := by decide +kernel, ff := by decide +kernel, nd := by decide +kernel, vis := by decide +kernel, loc := by decide +kernel, gl := by decide +kernel }
def qRksb (s : Stmt) : Scope := match s with
 | .For _ _ [_, _, _, (.Expr (.Call _ [(.Call _ [(.ListComp _ _ sc _)] _ _)] _ _) _)] _ _ => sc
 | _ => nsc
abbrev cRksb : Scope := qRksb ((zu sRks).getD 1 (.Pass ⟨0, 0, 0, 0⟩))
theorem bsRksb : BScope (zc sRks) cRksb ["word"] [] ["whole_of"] := { okind := by decide +kernel, kind := by decide +kernel, nocell := by decide +kernel, names := by decide +kernel, fr := by decide +kernel, ff := by decide +kernel, nd := by decide +kernel, vis := by decide +kernel, loc := by decide +kernel, gl := by decide +kernel }
def WD : Sp := fun vs H Q _ => ∃ (l : Addr) (m : Nat) (ls rest : List (List Str)) (hw : List Str) (kep : List (List Int)), vs = [.int (m : Int), .ref l] ∧ H l = some (.lst (txs ls)) ∧ ls = kep.map kW ++ (("height" : Str) :: hw) :: rest ∧ LOk (("height" : Str) :: hw) ∧ kep.length ≤ 8 ∧ (∀ r ∈ kep, r.length = m ∧ ∀ i ∈ r, Nu i) ∧ m ≤ 8 ∧ ls.length ≤ 1000 ∧ ∀ q as H', Same H H' → H' q = some (.tup (as.map V.ref)) → RowsAt H' as kep → Q (.ref q) H'
theorem ok_Rks {f : Addr} {fd : FuncData} (B : Blt4 mg) (fS : Has P w K mg base 2 "is_signed_figures" ["word"] WB) (fW : Has P w K mg base 3 "whole_of" ["word"] (spWo 2)) (F : Fun K "read_kepts" "read_kepts" sRks f fd) : FnOk P w K mg base CX0 4 f fd ["many", "lines"] WD := by
 refine F.ok scRks (fun vs H Q E h => ?_) (fun cdv A outer s H vs Q E hr h => ?_)
 ·obtain ⟨l, m, ls, rest, hw, kep, rfl, _⟩ := h
  rfl
 obtain ⟨l, m, ls, rest, hw, kep, rfl, hl, els, hok, k8, hk, m8, hll, k⟩ := h
 refine' ⟨_, ?hb, ?rd⟩
 case' hb => skip
 case' hb => refine' zf ?g1 ?g2
 case' g2 => refine' zf ?g3 ?g4
 case' g4 => refine' zg ?g5
 case g1 => exact zj yU 2 (zE xx)
 case' g3 => refine' yt PassesOwn.never rfl ?g6 (XJ rfl (zN (pgd yU 3) (zN (pgd yU 4) yF))) ?g7
 case g6 => exact XI B.enu (pa_1 (pvd yU 1))
 case' g7 => refine' zf ?g8 ?g9
 case' g9 => refine' zf ?g10 ?g11
 case' g11 => refine' zf ?g12 ?g13
 case' g13 => refine' zg ?g14
 case g8 => exact zj yU 5 (yn PySem.F.plainAttrs_str PySem.F.slot_str_split PySem.F.type_str_split vB (pvd yU 4) (pa_1 zp))
 case' g10 => refine' zC ?g15 ?g16 zw
 case g15 => exact zq xq (ziq (pvd yU 5) zd) zp (zt _)
 case' g16 => refine' zg ?g18
 case g18 => exact ps_break
 case' g12 => refine' zC ?g19 ?g20 zw
 case' g19 => refine' PW.pt ?g22
 case' g22 => refine' yQ (zq zV (pvd yU 3) (pe_k B.mkK) (zt _)) ?g23
 case' g23 => refine' yQ (zq xq (zF zr B.len PySem.boot_len (pa_1 (pvd yU 5))) (zo zR (pvd yU 0) zd) (zt _)) ?g24
 case' g24 => refine' yB ?g25
 case' g25 => refine' yN ?g26
 case' g26 => refine' yr ?g27
 case' g27 => refine' zF (y6 rfl) B.all PyProof.Rows.boot_all ?g28
 case' g28 => refine' pa_1 ?g29
 case' g29 => refine' zB (ix := []) bsRksa.toCScope rfl rfl ?g30 ?g31 ?g32 ?g33
 case g30 => exact xi (zO ym (pvd yU 5) (zM zd) yh)
 case g31 => exact fun _ _ _ _ _ _ => pgb bsRksa 0
 case g32 => exact fun _ _ _ _ _ _ => zz
 case g33 => exact fun _ _ _ _ _ _ => pe_f fS hr (by decide) (pa_1 (pvb bsRksa 0)) (bsRksa.g 0)
 case g20 => exact zZ
 case' g14 => refine' yE ?g34
 case' g34 => refine' yn PySem.F.plainAttrs_list PySem.F.slot_list_append PySem.F.type_list_append yI (pvd yU 2) ?g35
 case' g35 => refine' pa_1 ?g36
 case' g36 => refine' zK zS B.tuple PyProof.Rows.boot_tuple ?g37
 case' g37 => refine' pa_1 ?g38
 case' g38 => refine' zB (ix := []) bsRksb.toCScope rfl rfl ?g39 ?g40 ?g41 ?g42
 case g39 => exact xi (zO ym (pvd yU 5) (zM zd) yh)
 case g40 => exact fun _ _ _ _ _ _ => pgb bsRksb 0
 case g41 => exact fun _ _ _ _ _ _ => zz
 case g42 => exact fun _ _ _ _ _ _ => pe_f fW hr (by decide) (pa_1 (pvb bsRksb 0)) (bsRksb.g 0)
 case g5 => exact zl (zK zS B.tuple PyProof.Rows.boot_tuple (pa_1 (pvd yU 2)))
 have hlk : kep.length < ls.length := by rw [els]; simp
 walk_at "v"
 refine ⟨Nat.zero_le _, fun kl hkl => ?_⟩
 have nlk : l ≠ kl := zh hl hkl
 obtain ⟨H1, q, K1, e1⟩ := nob (.lst []) hkl; rw [q]; clear q
 refine yk ?_
 with_reducible refine yM (fun σ H' => ∃ (u3 u4 u5 : Option V) (as : List Addr), σ = [some (.int (m : Int)), some (.ref l), some (.ref kl), u3, u4, u5] ∧ H' kl = some (.lst (as.map V.ref)) ∧ RowsAt H' as kep ∧ Bp kl H1 H') ?_ ?_
 ·rintro σ H2 ⟨u3, u4, u5, as, rfl, e2, hA, b2⟩
  have hal := hA.len
  walk_at "v"
  refine ⟨kl, _, rfl, e2, fun q H3 K3 e3 => ?_⟩
  exact k q as H3 ((wm K1 hkl b2).trans K3) e3 (RowsAt.tk (TK.same K3).t hA)
 intro hp
 refine w_forEl ?_
 walk_at "v"
 refine ⟨l, rfl, ⟨_, SqL.of (K1 _ _ hl)⟩, ?_⟩
 refine for_enl (xs := txs ls) (fun i σ H' => i ≤ kep.length ∧ ∃ (u3 u4 u5 : Option V) (as : List Addr), σ = [some (.int (m : Int)), some (.ref l), some (.ref kl), u3, u4, u5] ∧ H' kl = some (.lst (as.map V.ref)) ∧ RowsAt H' as (kep.take i) ∧ Bp kl H1 H') ⟨Nat.zero_le _, _, _, _, [], rfl, e1, trivial, Bp.refl⟩ (fun i σ H' ⟨_, _, _, _, _, _, _, _, b⟩ => SqL.of (b _ _ nlk (K1 _ _ hl))) ?_ ?_
 ·rintro i x σ H2 p hx ⟨hi, u3, u4, u5, as, rfl, e2, hA, b2⟩ hpn
  have nkp : kl ≠ p := zh e2 hpn
  obtain ⟨H3, q, K3, e3⟩ := nob (.tup [.int (i : Int), x]) hpn; rw [q]; clear q
  have hal := hA.len
  rw [List.length_take] at hal
  refine ⟨p, _, rfl, SqT.of e3, rfl, _, _, rfl, _, _, rfl, rfl, ?_⟩
  rcases Nat.lt_or_ge i kep.length with hik | hik
  ·have hlx : ls[i]? = some (kW kep[i]) := by rw [els, List.getElem?_append_left (by simpa using hik)]; simp [hik]
   have ex : x = .str (ln (kW kep[i])) := by
    have : (txs ls)[i]? = some (.str (ln (kW kep[i]))) := by simp [txs, hlx]
    rw [this] at hx
    exact (Option.some.inj hx).symm
   subst ex
   obtain ⟨q1, q2⟩ := hk _ (List.getElem_mem hik)
   generalize hr0 : kep[i] = r at q1 q2 ⊢
   have LO : LOk (kW r) := vp ⟨by decide, by decide⟩ q2 (by omega)
   walk_at "v"
   refine ⟨rfl, ?_⟩
   walk_at "v"
   refine ⟨_, _, rfl, rfl, by decide, xy LO.w LO.l, fun wl hwl => ?_⟩
   rw [vC LO.n LO.w]
   obtain ⟨H4, q, K4, e4⟩ := nob (.lst ((kW r).map V.str)) hwl; rw [q]; clear q
   walk_at "v"
   refine zD (v := .str "kept") e4 (show atI _ ((0 : Nat) : Int) = _ from zx rfl) ?_
   walk_at "v"
   refine ⟨rfl, ?_⟩
   walk_at "v"
   refine xK rfl ?_
   walk_at "v"
   refine ⟨rfl, ?_⟩
   walk_at "v"
   refine iteD (fun z => absurd (V.int.inj z) (by omega)) (fun _ => ?_)
   walk_at "v"
   refine ⟨wl, _, rfl, .inl (SqL.of e4), ?_⟩
   walk_at "v"
   refine ⟨rfl, ?_⟩
   walk_at "v"
   refine xK (by show V.int (((kW r).map V.str).length : Int) = V.int ((m : Int) + 1); simp [q1]) ?_
   walk_at "v"
   refine ⟨_, rfl, ?_⟩
   refine ⟨wl, _, rfl, SqL.of e4, fun D1 hD1 => ?_⟩
   have ec : cutV ((kW r).map V.str) (some 1) none = (r.map fT).map V.str := Ze V.str ("kept" : Str) (r.map fT) (j := 1) (by simp)
   rw [ec]
   obtain ⟨H5, q, K5, e5⟩ := nob (.lst ((r.map fT).map V.str)) hD1; rw [q]; clear q
   refine ⟨D1, rfl, ⟨_, SqL.of e5⟩, fun D hD => ?_⟩
   refine wD (S := Same) (xs := (r.map fT).map V.str) (ρ := []) (fun j y _ => y = .bl true) (Kp.same hD) (fun _ h => h) (fun _ b => TK.same b) (by simp; omega) (fun H' k' => SqL.of (k' _ _ e5)) ?_ ?_
   ·rintro j y H' R hy K' kR
    obtain ⟨z, hz, rfl⟩ := XE hy
    have hnz := q2 z (List.mem_of_getElem? hz)
    walk_at "v"
    exact ⟨_, rfl, (zL hnz).sig, (zL hnz).l40, fun H4 K4 => kR _ _ K4 rfl⟩
   rintro ys H6 ⟨K6, hl6, hY⟩ e6
   have eb : ys = (List.replicate ys.length true).map V.bl := by
    refine List.ext_getElem (by simp) fun i g1 g2 => ?_
    have := hY i ys[i] (by simp [g1])
    rw [this]
    simp
   rw [eb] at e6
   walk_at "v"
   refine ⟨D, _, rfl, e6, ?_⟩
   rw [vN (fun b hb => (List.mem_replicate.mp hb).2)]
   walk_at "v"
   refine iteF ?_
   walk_at "v"
   have K26 := ((K3.trans K4).trans K5).trans K6
   refine ⟨.inl ⟨rfl, _, SqL.of (K26 _ _ e2)⟩, ?_⟩
   walk_at "v"
   refine ⟨_, rfl, ?_⟩
   refine ⟨wl, _, rfl, SqL.of (K6 _ _ (K5 _ _ e4)), fun D2 hD2 => ?_⟩
   rw [ec]
   obtain ⟨H7, q, K7, e7⟩ := nob (.lst ((r.map fT).map V.str)) hD2; rw [q]; clear q
   refine ⟨D2, rfl, ⟨_, SqL.of e7⟩, fun D3 hD3 => ?_⟩
   refine wD (S := Same) (xs := (r.map fT).map V.str) (ρ := []) (fun j y _ => ∃ z, r[j]? = some z ∧ y = .int z) (Kp.same hD3) (fun _ h => h) (fun _ b => TK.same b) (by simp; omega) (fun H' k' => SqL.of (k' _ _ e7)) ?_ ?_
   ·rintro j y H' R hy K' kR
    obtain ⟨z, hz, rfl⟩ := XE hy
    walk_at "v"
    exact ⟨z, rfl, q2 z (List.mem_of_getElem? hz), fun H4 K4 => kR _ _ K4 ⟨z, hz, rfl⟩⟩
   rintro zs H8 ⟨K8, hl8, hZ⟩ e8
   have ez := yy (f := V.int) (hl8.trans (by simp)) hZ
   subst ez
   refine ⟨D3, _, rfl, e8, fun q H9 K9 e9 => ?_⟩
   have K29 := ((K26.trans K7).trans K8).trans K9
   have e29 := K29 _ _ e2
   walk_at "v"
   refine ⟨kl, _, _, rfl, rfl, e29, by rw [List.length_map]; exact zn (by omega), ?_⟩
   have T10 : TK H9 (upd H9 kl (.lst (as.map V.ref ++ [.ref q]))) := TK.lst e29
   refine ⟨by omega, _, _, _, as ++ [q], rfl, by rw [ze, List.map_append]; rfl, ?_, (b2.trans (Bp.same K29)).at⟩
   rw [List.take_add_one, List.getElem?_eq_getElem hik, hr0]
   exact RowsAt.app (RowsAt.tk ((TK.same K29).trans T10).t hA) ⟨T10.t _ _ e9, trivial⟩
  ·obtain rfl : i = kep.length := by omega
   have hlx : ls[kep.length]? = some (("height" : Str) :: hw) := by rw [els, List.getElem?_append_right (by simp)]; simp
   have ex : x = .str (ln (("height" : Str) :: hw)) := by
    have : (txs ls)[kep.length]? = some (.str (ln (("height" : Str) :: hw))) := by simp [txs, hlx]
    rw [this] at hx
    exact (Option.some.inj hx).symm
   subst ex
   walk_at "v"
   refine ⟨rfl, ?_⟩
   walk_at "v"
   refine ⟨_, _, rfl, rfl, by decide, xy hok.w hok.l, fun wl hwl => ?_⟩
   rw [vC hok.n hok.w]
   obtain ⟨H4, q, K4, e4⟩ := nob (.lst ((("height" : Str) :: hw).map V.str)) hwl; rw [q]; clear q
   walk_at "v"
   refine zD (v := .str "height") e4 (show atI _ ((0 : Nat) : Int) = _ from zx rfl) ?_
   walk_at "v"
   refine ⟨rfl, ?_⟩
   walk_at "v"
   refine iteNF (fun z => absurd (V.str.inj z) (by decide)) ?_
   have K34 := K3.trans K4
   rw [List.take_of_length_le (Nat.le_refl _)] at hA
   exact hp _ _ ⟨_, _, _, as, rfl, K34 _ _ e2, RowsAt.tk (TK.same K34).t hA, b2.trans (Bp.same K34)⟩
 ·rintro σ H2 ⟨hi, _⟩
  exfalso
  simp only [txs, List.length_map] at hi
  omega
abbrev sRhe : Stmt := top 59
abbrev nRhe : List Str := ["many", "lines", "line", "words"]
theorem wO : Nm nRhe (zc sRhe) := nmk (by decide +kernel)
theorem scRhe : FnScope nRhe ["many", "lines", "line"] (zc sRhe) := fsk (by decide +kernel)
def WE : Sp := fun vs H Q _ => ∃ (l : Addr) (m n : Nat) (ls : List (List Str)) (hei : List Int), vs = [.int (m : Int), .ref l, .int (n : Int)] ∧ H l = some (.lst (txs ls)) ∧ ls[n]? = some (("height" : Str) :: hei.map fT) ∧ hei.length = m ∧ m ≤ 8 ∧ (∀ i ∈ hei, Nu i ∧ 0 ≤ i) ∧ ∀ q H', Same H H' → H' q = some (.tup (hei.map V.int)) → Q (.ref q) H'
theorem ok_Rhe {f : Addr} {fd : FuncData} (B : Blt4 mg) (fA : Has P w K mg base 1 "words_at" ["lines", "line"] Xo) (fC : Has P w K mg base 4 "read_counts" ["words", "line"] spRc) (F : Fun K "read_heights" "read_heights" sRhe f fd) : FnOk P w K mg base CX0 5 f fd ["many", "lines", "line"] WE := by
 refine F.ok scRhe (fun vs H Q E h => ?_) (fun cdv A outer s H vs Q E hr h => ?_)
 ·obtain ⟨l, m, n, ls, hei, rfl, _⟩ := h
  rfl
 obtain ⟨l, m, n, ls, hei, rfl, hl, hn, hm, m8, hN, k⟩ := h
 refine' ⟨_, ?hb, ?rd⟩
 case' hb => skip
 case' hb => refine' zf ?g1 ?g2
 case' g2 => refine' zf ?g3 ?g4
 case' g4 => refine' zg ?g5
 case g1 => exact zj wO 3 (pe_f fA hr (by decide) (pa_2 (pvd wO 1) (pvd wO 2)))
 case' g3 => refine' zC ?g6 ?g7 zw
 case g6 => exact PW.pt (yQ (zq xq (ziq (pvd wO 3) zd) zp (zt _)) (yB (zq xq (zF zr B.len PySem.boot_len (pa_1 (pvd wO 3))) (zo zR (pvd wO 0) zd) (zt _))))
 case g7 => exact zZ
 case g5 => exact zl (zK zS B.tuple PyProof.Rows.boot_tuple (pa_1 (pe_f fC hr (by decide) (pa_2 (zO ym (pvd wO 3) (zM zd) yh) (pvd wO 2)))))
 have LO : LOk (("height" : Str) :: hei.map fT) := vp ⟨by decide, by decide⟩ (fun i hi => (hN i hi).1) (by omega)
 walk_at "v"
 refine ⟨l, ls, n, _, rfl, hl, hn, LO, fun wl hwl => ?_⟩
 obtain ⟨H1, q, K1, e1⟩ := nob (.lst ((("height" : Str) :: hei.map fT).map V.str)) hwl; rw [q]; clear q
 walk_at "v"
 refine zD (v := .str "height") e1 (show atI _ ((0 : Nat) : Int) = _ from zx rfl) ?_
 walk_at "v"
 refine ⟨rfl, ?_⟩
 walk_at "v"
 refine xK rfl ?_
 walk_at "v"
 refine ⟨wl, _, rfl, .inl (SqL.of e1), ?_⟩
 walk_at "v"
 refine ⟨rfl, ?_⟩
 walk_at "v"
 refine xK (by show V.int (((("height" : Str) :: hei.map fT).map V.str).length : Int) = V.int ((m : Int) + 1); simp [hm]) ?_
 walk_at "v"
 refine ⟨_, rfl, ?_⟩
 refine ⟨wl, _, rfl, SqL.of e1, fun D1 hD1 => ?_⟩
 have ec : cutV ((("height" : Str) :: hei.map fT).map V.str) (some 1) none = (hei.map fT).map V.str := Ze V.str ("height" : Str) (hei.map fT) (j := 1) (by simp)
 rw [ec]
 obtain ⟨H2, q, K2, e2⟩ := nob (.lst ((hei.map fT).map V.str)) hD1; rw [q]; clear q
 walk_at "v"
 refine ⟨D1, hei, _, rfl, e2, by omega, hN, fun r H3 K3 hr3 e3 => ?_⟩
 refine ⟨r, _, rfl, e3, fun q H4 K4 e4 => ?_⟩
 exact k q H4 (((K1.trans K2).trans K3).trans K4) e4
def HasK (P : Program) (w : World) (K : W.Frag) (mg : Str → Option Value) (base : Heap) (k : Nat) (x : Str) (C : Addr) (ps : List Str) (sp : Sp) : Prop :=
 ∃ f fd, FnOk P w K mg base CX0 k f fd ps sp ∧ Mk K C f ∧ mg x = some (.ref C) ∧ Binds K fd ps []
theorem pe_mk {X : Cx} {k j : Nat} {x : Str} {C : Addr} {ps : List Str} {sp : Sp} {e : Expr} {es : List Expr} {t : TA} {p pos : Pos} (h : HasK X.prog X.w X.K X.mg X.base k x C ps sp) (hr : Room j X.A) (hkj : k + 1 ≤ j) (ha : PA X (e :: es) t) (hg : Gl X x := by rfl)
  (hdb : (x == ("__debug__" : Str)) = false := by decide) (he : starEach (e :: es) X.env = (false, eval e X.env) :: starEach es X.env := by rfl) (hpl : (backTo pos (starEach es X.env)).any (·.1) = false := by rfl) : PE X (.Call (.Name x p) (e :: es) [] pos) (Xm C sp [] E0 t) := by
 obtain ⟨f, fd, F, M, hm, hb⟩ := h
 exact pe_make M F (hr.mono hkj) hg hm hb .nil XN ha hdb he hpl
theorem w_make {C : Addr} {sp : Sp} {dvs : List V} {E : XK} {t : TA} {σ : St} {H : Hp} {Q : VK} (h : t σ H fun vs H1 => ∀ x dx, H1 x = none → H1 dx = none → dx ≠ x → sp (.ref x :: (vs ++ dvs)) (upd (upd H1 dx (.own x)) x (.ins C dx [])) (fun v H2 => v = .non ∧ Q (.ref x) H2) E) : Xm C sp dvs E t σ H Q := h
def szA (A : Ak) : List Nat := (vn A).map List.length
theorem YR {H : Hp} : ∀ {rs : List Addr} {fss : List (List Fm)}, Pcs H rs fss → All2 (fun r n => ∃ us, H r = some (.tup us) ∧ us.length = n) rs (fss.map List.length)
 | [], [], _ => trivial
 | r :: rs, fs :: fss, h => by
  obtain ⟨⟨qs, e1, e2⟩, h2⟩ := h
  exact ⟨⟨_, e1, by rw [List.length_map]; exact e2.len⟩, YR h2⟩
 | [], _ :: _, h => h.elim
 | _ :: _, [], h => h.elim
theorem pcs_pca {H : Hp} {q : Addr} {n m : Nat} {ans : Int} {A : Ak} (h : Z4 H q (pcs n m ans A)) : PcA H q (szA A) := by
 obtain ⟨rs, h1, h2⟩ := h
 refine ⟨rs, h1, ?_⟩
 have := YR h2
 unfold pcs at this
 rw [List.map_map] at this
 have e : (vn A).map (List.length ∘ fun l => l.map (shF n m ans (lnA A) (lnB n A))) = szA A := List.map_congr_left fun l _ => by simp
 rw [e] at this
 exact this
def WC (C : Addr) : Sp := fun vs H Q E => ∃ d, d ≤ 3 ∧ spRt C (d + 1) vs H Q E
abbrev sRp : Stmt := top 57
abbrev nRp : List Str := ["pot", "ask", "lines", "many", "kepts", "heights", "reader", "tree"]
theorem nmRp : Nm nRp (zc sRp) := nmk (by decide +kernel)
theorem scRp : FnScope nRp ["pot", "ask", "lines"] (zc sRp) := fsk (by decide +kernel)
def spRp : Sp := fun vs H Q _ => ∃ (p qa l : Addr) (m : Nat) (tks : List (List Int)) (ins beg : List Int) (ans : Int) (A : Ak) (x : Pap), vs = [.ref p, .ref qa, .ref l] ∧ PtA H p ins beg m ans ∧ PoA H p m tks ∧ tks.length ≤ 8 ∧ AkAt H qa A ∧ A.ok ins.length ∧ (szA A).length ≤ 8 ∧ H l = some (.lst (txs x.W)) ∧ x.Ok m tks (szA A) ∧ ∀ v H', Same H H' → PapAt H' v x → Q v H'
theorem ok_Rp {f : Addr} {fd : FuncData} {C : Addr} (R : RC K C) (B : Blt4 mg) (fK : Has P w K mg base 4 "read_kepts" ["many", "lines"] WD) (fH : Has P w K mg base 5 "read_heights" ["many", "lines", "line"] WE) (fP : Has P w K mg base 7 "pieces_of" ["pot", "ask"] Xs) (hK : HasK P w K mg base 1 "TreeReader" C ["self", "pot", "pieces", "lines", "line"] (spTi C)) (hT : HasM P w K mg base 15 C "read_tree" ["self", "within"] (WC C)) (F : Fun K "read_paper" "read_paper" sRp f fd) : FnOk P w K mg base CX0 16 f fd ["pot", "ask", "lines"] spRp := by
 refine F.ok scRp (fun vs H Q E h => ?_) (fun cdv A outer s H vs Q E hr h => ?_)
 ·obtain ⟨p, qa, l, m, tks, ins, beg, ans, A, x, rfl, _⟩ := h
  rfl
 obtain ⟨p, qa, l, m, tks, ins, beg, ans, A', x, rfl, hpt, hpo, t8, hak, hao, hz8, hl, ok, k⟩ := h
 refine' ⟨_, ?hb, ?rd⟩
 case' hb => skip
 case' hb => refine' zf ?g1 ?g2
 case' g2 => refine' zf ?g3 ?g4
 case' g4 => refine' zf ?g5 ?g6
 case' g6 => refine' zf ?g7 ?g8
 case' g8 => refine' zf ?g9 ?g10
 case' g10 => refine' zf ?g11 ?g12
 case' g12 => refine' zg ?g13
 case g1 => exact zj nmRp 3 (zF zr B.len PySem.boot_len (pa_1 (ziq (pvd nmRp 0) (pe_k B.soK))))
 case g3 => exact zj nmRp 4 (pe_f fK hr (by decide) (pa_2 (pvd nmRp 3) (pvd nmRp 2)))
 case g5 => exact zj nmRp 5 (pe_f fH hr (by decide) (pa_c (pvd nmRp 3) (pa_2 (pvd nmRp 2) (zF zr B.len PySem.boot_len (pa_1 (pvd nmRp 4))))))
 case g7 => exact zj nmRp 6 (pe_mk hK hr (by decide) (pa_c (pvd nmRp 0) (pa_c (pe_f fP hr (by decide) (pa_2 (pvd nmRp 0) (pvd nmRp 1))) (pa_2 (pvd nmRp 2) (zo zR (zF zr B.len PySem.boot_len (pa_1 (pvd nmRp 4))) zd)))))
 case g9 => exact zj nmRp 7 (pe_m hT hr (by omega) (pvd nmRp 6) (pa_1 zd))
 case' g11 => refine' zC ?g14 ?g15 zw
 case g14 => exact zq YU (xw (pvd nmRp 6) rfl) (zF zr B.len PySem.boot_len (pa_1 (pvd nmRp 2))) (zt _)
 case g15 => exact zZ
 case g13 => exact zl (zy (pa_c (pvd nmRp 4) (pa_2 (pvd nmRp 5) (pvd nmRp 7))))
 have hW : x.W = x.kep.map kW ++ (("height" : Str) :: x.hei.map fT) :: trW (x.d + 1) x.t := rfl
 have htl := yo _ ok.tr
 have h585 := wn ok.d3
 have k8 := ok.k8
 have m1 := ok.m1
 have m8 := ok.m8
 have hhl := ok.hl
 have hWl : x.W.length = x.kep.length + (1 + (trW (x.d + 1) x.t).length) := by rw [hW, List.length_append, List.length_map, List.length_cons]; omega
 have hLO : LOk (("height" : Str) :: x.hei.map fT) := vp ⟨by decide, by decide⟩ (fun i hi => (ok.hn i hi).1) (by omega)
 have hpo0 := hpo
 obtain ⟨ps, pr, us, xs, ras, p1, p2, p3, p4, p5⟩ := hpo
 walk_at "v"
 refine zm (v := .ref ps) p1 (show atI _ ((0 : Nat) : Int) = _ from zx rfl) ?_
 walk_at "v"
 refine ⟨ps, _, rfl, .inr (SqT.of p2), ?_⟩
 rw [p3]
 walk_at "v"
 refine ⟨l, m, x.W, trW (x.d + 1) x.t, x.hei.map fT, x.kep, rfl, hl, hW, hLO, k8, ok.kl, m8, by omega, fun kq kas H1 K1 e1 hka => ?_⟩
 have hkl := hka.len
 walk_at "v"
 refine ⟨kq, _, rfl, .inr (SqT.of e1), ?_⟩
 rw [List.length_map, hkl]
 refine ⟨l, m, x.kep.length, x.W, x.hei, rfl, K1 _ _ hl, by rw [hW, List.getElem?_append_right (by simp)]; simp, hhl, m8, ok.hn, fun hq H2 K2 e2 => ?_⟩
 have K02 := K1.trans K2
 walk_at "v"
 refine w_make ?_
 walk_at "v"
 refine ⟨p, qa, ins, beg, m, ans, A', rfl, ?_, ?_, hao, fun pc H3 K3 hpc => ?_⟩
 ·exact ⟨hpt.toPt.tk (TK.same K02), by obtain ⟨a1, a2, a3, a4, a5⟩ := hpt.an; exact ⟨a1, a2, a3, a4, K02 _ _ a5⟩⟩
 ·exact hak.tk (TK.same K02)
 have K03 := K02.trans K3
 walk_at "v"
 refine ⟨kq, _, rfl, .inr (SqT.of (K3 _ _ (K2 _ _ e1))), ?_⟩
 rw [List.length_map, hkl]
 walk_at "v"
 rintro xo dx hxo hdx hdo
 have K4 : Same H3 (upd (upd H3 dx (.own xo)) xo (.ins C dx [])) := (Same.new (Same.refl _) hdx).new (by rw [zi (Ne.symm hdo)]; exact hxo)
 have e4 : upd (upd H3 dx (.own xo)) xo (.ins C dx []) xo = some (.ins C dx []) := ze
 generalize upd (upd H3 dx (.own xo)) xo (.ins C dx []) = H4 at K4 e4 ⊢
 have hxo0 : H xo = none := Same.free K03 hxo
 refine ⟨xo, dx, p, pc, l, x.kep.length + 1, rfl, e4, rfl, ?_⟩
 have K5 : Same H (upd H4 xo (.ins C dx (rFs p pc l (x.kep.length + 1) 0))) := (K03.trans K4).put hxo0
 have K35 : Same H3 (upd H4 xo (.ins C dx (rFs p pc l (x.kep.length + 1) 0))) := K4.put hxo
 have e5 : upd H4 xo (.ins C dx (rFs p pc l (x.kep.length + 1) 0)) xo = some (.ins C dx (rFs p pc l (x.kep.length + 1) 0)) := ze
 generalize upd H4 xo (.ins C dx (rFs p pc l (x.kep.length + 1) 0)) = H5 at K5 K35 e5 ⊢
 have R5 : RdA H5 C xo l m tks (szA A') x.W (x.kep.length + 1) 0 := ⟨⟨dx, p, pc, e5, hpo0.tk (TK.same K5), (pcs_pca hpc).tk (TK.same K35), K5 _ _ hl⟩, hz8, t8⟩
 walk_at "v"
 refine xP ?_
 walk_at "v"
 refine ⟨xo, dx, _, rfl, e5, rfl, ?_⟩
 walk_at "v"
 refine ⟨x.d, ok.d3, xo, l, 1, m, tks, szA A', x.W, x.kep.length + 1, 0, x.t, [], rfl, R5, ?_, ok.tr, by omega, by decide, by have := ok.d3; omega, ok.d3, by omega, fun v H6 b6 R6 hv => ?_⟩
 ·have : x.W.drop (x.kep.length + 1) = trW (x.d + 1) x.t := by
   rw [hW]
   have := List.drop_left (l₁ := x.kep.map kW ++ [("height" : Str) :: x.hei.map fT]) (l₂ := trW (x.d + 1) x.t)
   simpa using this
  rw [this, List.append_nil]
 obtain ⟨⟨dx6, pot6, pcs6, g1, g2, g3, g4⟩, _, _⟩ := R6
 have K06 : Same H H6 := wm K5 hxo0 b6
 walk_at "v"
 refine wK ?_
 walk_at "v"
 refine ⟨xo, C, dx6, _, _, rfl, g1, R.c, R.n4, rfl, ?_⟩
 walk_at "v"
 refine ⟨l, _, rfl, .inl (SqL.of g4), ?_⟩
 walk_at "v"
 refine iteD (fun z => absurd z (by simp only [txs, List.length_map]; omega)) (fun _ => ?_)
 walk_at "v"
 refine ⟨sz3, fun z hz => ?_⟩
 have K7 : Same H6 (upd H6 z (.tup [.ref kq, .ref hq, v])) := Same.new (Same.refl _) hz
 have K16 : Same H1 H6 := fun q u e => by
  have n1 : q ≠ xo := zh e (Same.free (K2.trans K3) hxo)
  exact b6 _ _ n1 (K35 _ _ (K3 _ _ (K2 _ _ e)))
 have K26 : Same H2 H6 := fun q u e => by
  have n1 : q ≠ xo := zh e (Same.free K3 hxo)
  exact b6 _ _ n1 (K35 _ _ (K3 _ _ e))
 refine k _ _ (K06.trans K7) ⟨z, kq, hq, v, kas, rfl, ze, K7 _ _ (K16 _ _ e1), RowsAt.tk (TK.same (K16.trans K7)).t hka, K7 _ _ (K26 _ _ e2), TrAt.tk (TK.same K7) _ hv⟩
abbrev sLww : Stmt := top 78
abbrev nLww : List Str := ["_law_weights_here"]
theorem nmLww : Nm nLww (zc sLww) := nmk (by decide +kernel)
theorem scLww : FnScope nLww ["_law_weights_here"] (zc sLww) := fsk (by decide +kernel)
def qLwwa (s : Stmt) : Scope := match s with
 | .Return (some (.ListComp _ _ sc _)) _ => sc
 | _ => nsc
abbrev cLwwa : Scope := qLwwa ((zu sLww).getD 0 (.Pass ⟨0, 0, 0, 0⟩))
theorem bsLwwa : BScope (zc sLww) cLwwa ["_law_number", "_law_times"] [] ["str"] := { okind := by decide +kernel, kind := by decide +kernel, nocell := by decide +kernel, names := by decide +kernel, fr := by decide +kernel, ff := by decide +kernel, nd := by decide +kernel, vis := by decide +kernel, loc := by decide +kernel, gl := by decide +kernel }
theorem ok_Lww {f : Addr} {fd : FuncData} (B : Blt4 mg) (F : Fun K "_law_weight_words" "_law_weight_words" sLww f fd) : FnOk P w K mg base CX0 1 f fd ["_law_weights_here"] Yu := by
 refine F.ok scLww (fun vs H Q E h => ?_) (fun cdv A outer s H vs Q E hr h => ?_)
 ·obtain ⟨q, w, rfl, _⟩ := h
  rfl
 obtain ⟨q, w, rfl, hw, ok, k⟩ := h
 refine' ⟨_, ?hb, ?rd⟩
 case' hb => skip
 case' hb => refine' zg ?g1
 case' g1 => refine' zl ?g2
 case' g2 => refine' zB (ix := []) bsLwwa.toCScope rfl rfl ?g3 ?g4 ?g5 ?g6
 case g3 => exact yd (pvd nmLww 0)
 case g4 =>
  intro _ _ _ _ _ _
  refine' yS (n := 2) rfl ?g7
  case' g7 => refine' zN ?g11 ?g10
  case g11 => exact pgb bsLwwa 0
  case' g10 => refine' zN ?g13 yF
  case g13 => exact pgb bsLwwa 1
 case g5 => exact fun _ _ _ _ _ _ => zz
 case g6 => exact fun _ _ _ _ _ _ => zo zI (zo zI (zK yg B.str PyProof.Rows.boot_str (pa_1 (pvb bsLwwa 0)) (bsLwwa.g 0)) zp) (zK yg B.str PyProof.Rows.boot_str (pa_1 (pvb bsLwwa 1)) (bsLwwa.g 0))
 obtain ⟨as, h1, h2⟩ := hw
 have hl := h2.len
 have l3 := ok.l3
 walk_at "v"
 refine ⟨q, rfl, ⟨_, SqT.of h1⟩, fun D hD => ?_⟩
 refine Y2 (S := Same) (rs := as) (ρ := []) (fun j y _ => ∃ x, w[j]? = some x ∧ y = .str (wW x)) (Kp.same hD) (fun _ h => h) (fun _ b => TK.same b) (by omega) (fun H' k' => SqT.of (k' _ _ h1)) ?_ ?_
 ·rintro i r H' hr' K'
  obtain ⟨x, hx, e⟩ := h2.at hr'
  have hnu := ok.nu x (List.mem_of_getElem? hx)
  refine ⟨_, _, K' _ _ e, fun R kR => ?_⟩
  have a1 := (zL hnu.1).l40
  have a2 := (zL hnu.2.2.2.1).l40
  have a1' : (Str.ofString (toString x.1)).length ≤ 40 := a1
  have a2' : (Str.ofString (toString x.2)).length ≤ 40 := a2
  walk_at "v"
  refine ⟨_, rfl, (zL hnu.1).lg, ?_⟩
  walk_at "v"
  refine ⟨_, _, rfl, rfl, by rw [sizeLine_eq]; show _ + 1 ≤ _; omega, ?_⟩
  walk_at "v"
  refine ⟨_, rfl, (zL hnu.2.2.2.1).lg, ?_⟩
  refine ⟨_, _, rfl, rfl, by rw [sizeLine_eq, yG]; show _ + 1 + _ ≤ _; omega, ?_⟩
  exact kR _ _ (Same.refl _) ⟨x, hx, rfl⟩
 ·rintro ys H1 ⟨K1, hl', hY⟩ e1
  have e := yy (f := fun x => V.str (wW x)) (hl'.trans hl) hY
  subst e
  exact k D H1 K1 hD (by rw [e1, List.map_map]; rfl)
abbrev sLtl : Stmt := top 79
abbrev nLtl : List Str := ["_law_tree_here", "_law_lines", "_law_part", "_law_inner", "_law_words", "_law_ground"]
theorem yc : Nm nLtl (zc sLtl) := nmk (by decide +kernel)
theorem scLtl : FnScope nLtl ["_law_tree_here"] (zc sLtl) := fsk (by decide +kernel)
theorem wg {ls : List (List Str)} : (txs ls).length = ls.length := by simp [txs]
theorem wa {f : Addr} {fd : FuncData} {d : Nat} (B : Blt4 mg) (fR : Has P w K mg base (d + 2) "_law_tree_lines" ["_law_tree_here"] (spSt d)) (fW : Has P w K mg base 1 "_law_weight_words" ["_law_weights_here"] Yu) (F : Fun K "_law_tree_lines" "_law_tree_lines" sLtl f fd) : FnOk P w K mg base CX0 (d + 3) f fd ["_law_tree_here"] (spSt (d + 1)) := by
 refine F.ok scLtl (fun vs H Q E h => ?_) (fun cdv A outer s H vs Q E hr h => ?_)
 ·obtain ⟨m, tks, sz, t, v, rfl, _⟩ := h
  rfl
 obtain ⟨m, tks, sz, t, v, rfl, hv, ok, d3, k⟩ := h
 refine' ⟨_, ?hb, ?rd⟩
 case' hb => skip
 case' hb => refine' zf ?g1 ?g2
 case' g2 => refine' zf ?g3 ?g4
 case' g4 => refine' zf ?g5 ?g6
 case' g6 => refine' zf ?g7 ?g8
 case' g8 => refine' zf ?g9 ?g10
 case' g10 => refine' zg ?g11
 case' g1 => refine' zC ?g12 ?g13 zw
 case g12 => exact zq zV (ziq (pvd yc 0) zd) zp (zt _)
 case' g13 => refine' zf ?g15 ?g16
 case' g16 => refine' zf ?g17 ?g18
 case' g18 => refine' zg ?g19
 case g15 => exact zj yc 1 (zE (pa_1 (zo zI zp (zK yg B.str PyProof.Rows.boot_str (pa_1 (ziq (pvd yc 0) zd))))))
 case' g17 => refine' yt PassesOwn.never rfl ?g20 (pgd yc 2) ?g21
 case g20 => exact yd (ziq (pvd yc 0) zd)
 case' g21 => refine' zg ?g22
 case g22 => exact zj yc 1 (zo yp (pvd yc 1) (pe_f fR hr (by omega) (pa_1 (pvd yc 2))))
 case g19 => exact zl (pvd yc 1)
 case' g3 => refine' zC ?g23 ?g24 zw
 case g23 => exact zq zV (ziq (pvd yc 0) zd) zp (zt _)
 case' g24 => refine' zf ?g26 ?g27
 case' g27 => refine' zg ?g28
 case g26 => exact zj yc 3 (zo yp (pe_f fR hr (by omega) (pa_1 (ziq (pvd yc 0) zd))) (pe_f fR hr (by omega) (pa_1 (ziq (pvd yc 0) zd))))
 case g28 => exact zl (zo yp (zE (pa_1 (zo zI (zo zI (zo zI zp (zK yg B.str PyProof.Rows.boot_str (pa_1 (ziq (pvd yc 0) zd)))) zp) (zK yg B.str PyProof.Rows.boot_str (pa_1 (ziq (pvd yc 0) zd)))))) (pvd yc 3))
 case' g5 => refine' zC ?g29 ?g30 zw
 case g29 => exact zq zV (ziq (pvd yc 0) zd) zp (zt _)
 case' g30 => refine' zg ?g32
 case g32 => exact zl (zE (pa_1 (yn PySem.F.plainAttrs_str PySem.F.slot_str_join PySem.F.type_str_join xl zp (pa_1 (zo yp (zE (pa_1 zp)) (pe_f fW hr (by omega) (pa_1 (ziq (pvd yc 0) zd))))))))
 case g7 => exact zj yc 4 (zE (pa_2 zp (zK yg B.str PyProof.Rows.boot_str (pa_1 (ziq (pvd yc 0) zd)))))
 case' g9 => refine' yt PassesOwn.never rfl ?g33 (pgd yc 5) ?g34
 case g33 => exact yd (ziq (pvd yc 0) zd)
 case' g34 => refine' zg ?g35
 case g35 => exact zj yc 4 (zo yp (zo yp (pvd yc 4) (zE (pa_1 zp))) (pe_f fW hr (by omega) (pa_1 (pvd yc 5))))
 case g11 => exact zl (zE (pa_1 (yn PySem.F.plainAttrs_str PySem.F.slot_str_join PySem.F.type_str_join xl zp (pa_1 (pvd yc 4)))))
 obtain ⟨k8, kok⟩ := wV ok
 obtain ⟨hwd, hwl, _⟩ := Yg ok
 have hb585 := wn d3
 have hbd : szB (d + 1) = 1 + 8 * szB d := rfl
 have hlen := xy hwd hwl
 cases t with
 | lacks r ts =>
  obtain ⟨p, q, us, rfl, h1, h2, h3⟩ := hv
  have h0 : Nu (r : Int) := ye (by have := ok.1; omega)
  have hul := h3.len
  walk_at "v"
  refine zm h1 rfl ?_
  walk_at "v"
  refine ⟨rfl, ?_⟩
  walk_at "v"
  refine iteD (fun _ => ?_) (fun z => absurd rfl z)
  walk_at "v"
  refine zm h1 rfl ?_
  walk_at "v"
  refine ⟨_, rfl, (zL h0).lg, ?_⟩
  walk_at "v"
  have a0 : (Str.ofString (toString (r : Int))).length ≤ 40 := (zL h0).l40
  refine ⟨_, _, rfl, rfl, by rw [sizeLine_eq]; show 6 + _ ≤ _; omega, ?_⟩
  have e : ("lacks " : Str) ++ Str.ofString (toString (r : Int)) = ln (Tx.hdW (Tx.lacks r ts)) := by
   show _ = ln ["lacks", fT r]
   rw [xF, Yd, show ("lacks" : Str) ++ " " = "lacks " by decide]
   rfl
  rw [e]
  walk_at "v"
  refine ⟨sz1, fun ll hll => ?_⟩
  have K2 : Same H (upd H ll (.lst [.str (ln (Tx.hdW (Tx.lacks r ts)))])) := Same.new (Same.refl _) hll
  have e2 : upd H ll (.lst [.str (ln (Tx.hdW (Tx.lacks r ts)))]) ll = some (.lst (txs [Tx.hdW (Tx.lacks r ts)])) := ze
  generalize upd H ll (.lst [.str (ln (Tx.hdW (Tx.lacks r ts)))]) = H2 at K2 e2 ⊢
  walk_at "v"
  refine zm (K2 _ _ h1) rfl ?_
  refine ⟨q, rfl, ⟨_, SqT.of (K2 _ _ h2)⟩, ?_⟩
  refine wY (xs := us) (fun j σ H' => ∃ (u2 u3 u4 u5 : Option V) (l' : Addr), σ = [some (.ref p), some (.ref l'), u2, u3, u4, u5] ∧ H' l' = some (.lst (txs (Tx.hdW (Tx.lacks r ts) :: (ts.take j).flatMap (trW d)))) ∧ H l' = none ∧ Same H H') ⟨_, _, _, _, ll, rfl, e2, hll, K2⟩ (fun j σ H' _ ⟨_, _, _, _, _, _, _, _, k'⟩ => SqT.of (k' _ _ h2)) ?_ ?_
  ·rintro j x σ H3 hx ⟨u2, u3, u4, u5, l', rfl, e3, hl', K3⟩
   obtain ⟨u, hu, hxu⟩ := h3.at hx
   have hfl := Y4 (f := trW d) (b := szB d) (fun y hy => yo d (kok y hy)) k8 j
   have hul' := yo d (kok u (List.mem_of_getElem? hu))
   walk_at "v"
   cases d with
   | zero => exact nomatch u
   | succ d =>
   refine ⟨m, tks, sz, u, x, rfl, TrAt.tk (TK.same K3) _ hxu, kok u (List.mem_of_getElem? hu), by omega, fun l2 H4 K4 hl2 e4 => ?_⟩
   refine ⟨l', l2, _, _, rfl, rfl, K4 _ _ e3, e4, Nat.le_of_lt (zn (by rw [wg, wg, List.length_cons]; have : ((ts.take j).flatMap (trW (d + 1))).length ≤ 8 * szB (d + 1) := hfl; omega)), fun l3 hl3 => ?_⟩
   have K34 := K3.trans K4
   refine ⟨_, _, _, _, l3, rfl, ?_, Same.free K34 hl3, K34.new hl3⟩
   rw [ze, yJ _ _ hu]
   simp only [txs, List.map_append, List.map_cons, List.cons_append]
  ·rintro σ H3 ⟨u2, u3, u4, u5, l', rfl, e3, hl', K3⟩
   rw [List.take_of_length_le (by omega)] at e3
   walk_at "v"
   exact k l' H3 K3 hl' e3
 | cut sx x a b =>
  obtain ⟨p, u, w', rfl, h1, h2, h3⟩ := hv
  obtain ⟨_, s7, nx, _, oka, okb⟩ := ok
  have h0 : Nu (sx : Int) := ye (by omega)
  cases d with
  | zero => exact nomatch a
  | succ d =>
  walk_at "v"
  refine zm h1 rfl ?_
  walk_at "v"
  refine ⟨rfl, ?_⟩
  walk_at "v"
  refine iteD (fun z => absurd (V.str.inj z) (by decide)) (fun _ => ?_)
  walk_at "v"
  refine zm h1 rfl ?_
  walk_at "v"
  refine ⟨rfl, ?_⟩
  walk_at "v"
  refine iteD (fun _ => ?_) (fun z => absurd rfl z)
  walk_at "v"
  refine zm h1 rfl ?_
  walk_at "v"
  refine ⟨m, tks, sz, a, u, rfl, h2, oka, by omega, fun l1 H1 K1 hl1 e1 => ?_⟩
  walk_at "v"
  refine zm (K1 _ _ h1) rfl ?_
  walk_at "v"
  refine ⟨m, tks, sz, b, w', rfl, TrAt.tk (TK.same K1) _ h3, okb, by omega, fun l2 H2 K2 hl2 e2 => ?_⟩
  have ha := yo _ oka
  have hb' := yo _ okb
  refine ⟨l1, l2, _, _, rfl, rfl, K2 _ _ e1, e2, Nat.le_of_lt (zn (by rw [wg, wg]; omega)), fun l3 hl3 => ?_⟩
  have K02 := K1.trans K2
  have K3 : Same H (upd H2 l3 (.lst (txs (trW (d + 1) a) ++ txs (trW (d + 1) b)))) := K02.new hl3
  have e3 : upd H2 l3 (.lst (txs (trW (d + 1) a) ++ txs (trW (d + 1) b))) l3 = some (.lst (txs (trW (d + 1) a) ++ txs (trW (d + 1) b))) := ze
  generalize upd H2 l3 (.lst (txs (trW (d + 1) a) ++ txs (trW (d + 1) b))) = H3 at K3 e3 ⊢
  walk_at "v"
  refine zm (K3 _ _ h1) rfl ?_
  walk_at "v"
  have a0 : (Str.ofString (toString (sx : Int))).length ≤ 40 := (zL h0).l40
  have ax : (Str.ofString (toString x)).length ≤ 40 := (zL nx).l40
  refine ⟨_, rfl, (zL h0).lg, ?_⟩
  walk_at "v"
  refine ⟨_, _, rfl, rfl, by rw [sizeLine_eq]; show 4 + _ ≤ _; omega, ?_⟩
  walk_at "v"
  refine ⟨_, _, rfl, rfl, by rw [sizeLine_eq, yG]; show 4 + _ + 1 ≤ _; omega, ?_⟩
  walk_at "v"
  refine zm (K3 _ _ h1) rfl ?_
  walk_at "v"
  refine ⟨_, rfl, (zL nx).lg, ?_⟩
  refine ⟨_, _, rfl, rfl, by rw [sizeLine_eq, yG, yG]; show 4 + _ + 1 + _ ≤ _; omega, ?_⟩
  have e : ("cut " : Str) ++ Str.ofString (toString (sx : Int)) ++ " " ++ Str.ofString (toString x) = ln (Tx.hdW (Tx.cut sx x a b)) := by
   show _ = ln ["cut", fT sx, fT x]
   rw [xF, xF, Yd, show ("cut" : Str) ++ " " = "cut " by decide]
   refine wT ?_
   simp only [yH, List.append_assoc]
   rfl
  rw [e]
  walk_at "v"
  refine ⟨sz1, fun l4 hl4 => ?_⟩
  obtain ⟨H4, q, K4, e4⟩ := nob (.lst [.str (ln (Tx.hdW (Tx.cut sx x a b)))]) hl4; rw [q]; clear q
  walk_at "v"
  refine ⟨l4, l3, _, _, rfl, rfl, e4, K4 _ _ e3, Nat.le_of_lt (zn (by simp only [List.length_append, wg, List.length_cons, List.length_nil]; omega)), fun l5 hl5 => ?_⟩
  have K04 := K3.trans K4
  refine k l5 _ (K04.new hl5) (Same.free K04 hl5) ?_
  rw [ze]
  show _ = some (HO.lst (txs (Tx.hdW (Tx.cut sx x a b) :: [a, b].flatMap (trW (d + 1)))))
  simp [txs]
 | shut w' =>
  obtain ⟨p, q, rfl, h1, h2⟩ := hv
  have ok' : WOk w' := ok
  walk_at "v"
  refine zm h1 rfl ?_
  walk_at "v"
  refine ⟨rfl, ?_⟩
  walk_at "v"
  refine iteD (fun z => absurd (V.str.inj z) (by decide)) (fun _ => ?_)
  walk_at "v"
  refine zm h1 rfl ?_
  walk_at "v"
  refine ⟨rfl, ?_⟩
  walk_at "v"
  refine iteD (fun z => absurd (V.str.inj z) (by decide)) (fun _ => ?_)
  walk_at "v"
  refine zm h1 rfl ?_
  walk_at "v"
  refine ⟨rfl, ?_⟩
  walk_at "v"
  refine iteD (fun _ => ?_) (fun z => absurd rfl z)
  walk_at "v"
  refine ⟨rfl, ?_⟩
  walk_at "v"
  refine ⟨sz1, fun l1 hl1 => ?_⟩
  obtain ⟨H1, q, K1, e1⟩ := nob (.lst [.str "shut"]) hl1; rw [q]; clear q
  walk_at "v"
  refine zm (K1 _ _ h1) rfl ?_
  walk_at "v"
  refine ⟨q, w', rfl, h2.tk (TK.same K1), ok', fun l2 H2 K2 hl2 e2 => ?_⟩
  have l3' := ok'.l3
  refine ⟨l1, l2, _, _, rfl, rfl, K2 _ _ e1, e2, Nat.le_of_lt (zn (by simp; omega)), fun l hl => ?_⟩
  have K3 : Same H2 (upd H2 l (.lst ([V.str "shut"] ++ (w'.map wW).map V.str))) := Same.new (Same.refl _) hl
  have e3 : upd H2 l (.lst ([V.str "shut"] ++ (w'.map wW).map V.str)) l = some (.lst ((Tx.hdW (Tx.shut w' : Tx (Tr d))).map V.str)) := ze
  generalize upd H2 l (.lst ([V.str "shut"] ++ (w'.map wW).map V.str)) = HX at K3 e3 ⊢
  obtain ⟨j1, j2⟩ := wb hwd hwl
  refine ⟨_, l, _, rfl, rfl, e3, j1, j2, ?_⟩
  walk_at "v"
  have K0X := (K1.trans K2).trans K3
  refine ⟨sz1, fun lz hlz => ?_⟩
  exact k lz _ (K0X.new hlz) (Same.free K0X hlz) ze
 | right c gs =>
  obtain ⟨p, q, as, rfl, h1, h2, h3⟩ := hv
  obtain ⟨c2, n, _, hgl, n1, n4, hgs⟩ := ok
  have h0 : Nu (c : Int) := ye (by omega)
  have hal := h3.len
  walk_at "v"
  refine zm h1 rfl ?_
  walk_at "v"
  refine ⟨rfl, ?_⟩
  walk_at "v"
  refine iteD (fun z => absurd (V.str.inj z) (by decide)) (fun _ => ?_)
  walk_at "v"
  refine zm h1 rfl ?_
  walk_at "v"
  refine ⟨rfl, ?_⟩
  walk_at "v"
  refine iteD (fun z => absurd (V.str.inj z) (by decide)) (fun _ => ?_)
  walk_at "v"
  refine zm h1 rfl ?_
  walk_at "v"
  refine ⟨rfl, ?_⟩
  walk_at "v"
  refine iteD (fun z => absurd (V.str.inj z) (by decide)) (fun _ => ?_)
  walk_at "v"
  refine zm h1 rfl ?_
  walk_at "v"
  refine ⟨_, rfl, (zL h0).lg, ?_⟩
  walk_at "v"
  refine ⟨sz2, fun wl hwl' => ?_⟩
  have K2 : Same H (upd H wl (.lst [.str "right", .str (Str.ofString (toString (c : Int)))])) := Same.new (Same.refl _) hwl'
  have e2 : upd H wl (.lst [.str "right", .str (Str.ofString (toString (c : Int)))]) wl = some (.lst ((("right" : Str) :: fT c :: []).map V.str)) := ze
  generalize upd H wl (.lst [.str "right", .str (Str.ofString (toString (c : Int)))]) = H2 at K2 e2 ⊢
  walk_at "v"
  refine zm (K2 _ _ h1) rfl ?_
  refine ⟨q, rfl, ⟨_, SqT.of (K2 _ _ h2)⟩, ?_⟩
  refine wY (xs := as.map V.ref) (fun j σ H' => ∃ (u1 u2 u3 u5 : Option V) (l' : Addr), σ = [some (.ref p), u1, u2, u3, some (.ref l'), u5] ∧ H' l' = some (.lst ((("right" : Str) :: fT c :: (gs.take j).flatMap fun g => ("/" : Str) :: g.map wW).map V.str)) ∧ Same H H') ⟨_, _, _, _, wl, rfl, e2, K2⟩ (fun j σ H' _ ⟨_, _, _, _, _, _, _, k'⟩ => SqT.of (k' _ _ h2)) ?_ ?_
  ·rintro j x σ H3 hx ⟨u1, u2, u3, u5, l', rfl, e3, K3⟩
   rw [List.getElem?_map] at hx
   cases hj : as[j]? with
   | none => rw [hj] at hx; cases hx
   | some g' =>
    rw [hj] at hx
    cases hx
    have hjl : j < gs.length := by have := (List.getElem?_eq_some_iff.mp hj).1; omega
    obtain ⟨g'', e1', hw3⟩ := h3.at (List.getElem?_eq_getElem hjl)
    rw [hj] at e1'
    cases e1'
    have hgj := hgs _ (List.getElem_mem hjl)
    have hfl := vF (gs := gs.take j) fun g hg => hgs g (List.mem_of_mem_take hg)
    rw [List.length_take] at hfl
    have hfl' : ((gs.take j).flatMap gW).length ≤ 16 := by have : ((gs.take j).flatMap gW).length ≤ 4 * min j gs.length := hfl; omega
    have l3' := hgj.l3
    walk_at "v"
    refine ⟨sz1, fun l1 hl1 => ?_⟩
    obtain ⟨H4, q, K4, e4⟩ := nob (.lst [.str "/"]) hl1; rw [q]; clear q
    refine ⟨l', l1, _, _, rfl, rfl, K4 _ _ e3, e4, Nat.le_of_lt (zn (by simp only [List.length_map, List.length_cons, List.length_nil]; have : ((gs.take j).flatMap fun g => ("/" : Str) :: g.map wW).length ≤ 16 := hfl'; omega)), fun l2 hl2 => ?_⟩
    have K5 := K4.new (o := .lst ((("right" : Str) :: fT c :: (gs.take j).flatMap fun g => ("/" : Str) :: g.map wW).map V.str ++ [.str "/"])) hl2
    have e5 : upd H4 l2 (.lst ((("right" : Str) :: fT c :: (gs.take j).flatMap fun g => ("/" : Str) :: g.map wW).map V.str ++ [.str "/"])) l2 = some (.lst ((("right" : Str) :: fT c :: (gs.take j).flatMap fun g => ("/" : Str) :: g.map wW).map V.str ++ [.str "/"])) := ze
    generalize upd H4 l2 (.lst ((("right" : Str) :: fT c :: (gs.take j).flatMap fun g => ("/" : Str) :: g.map wW).map V.str ++ [.str "/"])) = H5 at K5 e5 ⊢
    walk_at "v"
    refine ⟨g', _, rfl, hw3.tk (TK.same (K3.trans K5)), hgj, fun l3 H6 K6 hl3 e6 => ?_⟩
    refine ⟨l2, l3, _, _, rfl, rfl, K6 _ _ e5, e6, Nat.le_of_lt (zn (by simp only [List.length_append, List.length_map, List.length_cons, List.length_nil]; have : ((gs.take j).flatMap fun g => ("/" : Str) :: g.map wW).length ≤ 16 := hfl'; omega)), fun l4 hl4 => ?_⟩
    refine ⟨_, _, _, _, l4, rfl, ?_, ((K3.trans K5).trans K6).new hl4⟩
    rw [ze, yJ _ _ (List.getElem?_eq_getElem hjl)]
    simp
  ·rintro σ H3 ⟨u1, u2, u3, u5, l', rfl, e3, K3⟩
   rw [List.length_map, hal, List.take_of_length_le (Nat.le_refl _)] at e3
   obtain ⟨j1, j2⟩ := wb hwd hwl
   walk_at "v"
   refine ⟨rfl, ?_⟩
   walk_at "v"
   refine ⟨_, l', _, rfl, rfl, e3, j1, j2, ?_⟩
   walk_at "v"
   refine ⟨sz1, fun lz hlz => ?_⟩
   exact k lz _ (K3.new hlz) (Same.free K3 hlz) ze
abbrev sLpl : Stmt := top 80
abbrev nLpl : List Str := ["_law_paper", "_law_lines"]
theorem nmLpl : Nm nLpl (zc sLpl) := nmk (by decide +kernel)
theorem scLpl : FnScope nLpl ["_law_paper"] (zc sLpl) := fsk (by decide +kernel)
def qLpla (s : Stmt) : Scope := match s with
 | .Assign _ (.ListComp _ _ sc _) _ => sc
 | _ => nsc
abbrev Ve : Scope := qLpla ((zu sLpl).getD 0 (.Pass ⟨0, 0, 0, 0⟩))
theorem bsLpla : BScope (zc sLpl) Ve ["_law_kept"] [] [] := { okind := by decide +kernel, kind := by decide +kernel, nocell := by decide +kernel, names := by decide +kernel, fr := by decide +kernel, ff := by decide +kernel, nd := by decide +kernel, vis := by decide +kernel, loc := by decide +kernel, gl := by decide +kernel }
def qLplc (s : Stmt) : Scope := match s with
 | .Return (some (.BinOp (.BinOp _ _ (.List [(.Call _ [(.BinOp _ _ (.ListComp _ _ sc _) _)] _ _)] _) _) _ _ _)) _ => sc
 | _ => nsc
abbrev cLplc : Scope := qLplc ((zu sLpl).getD 1 (.Pass ⟨0, 0, 0, 0⟩))
theorem bsLplc : BScope (zc sLpl) cLplc ["_law_one"] [] ["str"] := { okind := by decide +kernel, kind := by decide +kernel, nocell := by decide +kernel, names := by decide +kernel, fr := by decide +kernel, ff := by decide +kernel, nd := by decide +kernel, vis := by decide +kernel, loc := by decide +kernel, gl := by decide +kernel }
theorem loLpl_1 : (zc sLpl).names.lookup ("_law_lines" : Str) = some .local := by decide +kernel
def qLplb (s : Stmt) : Scope := match s with
 | .Assign _ (.ListComp (.Call _ [(.BinOp _ _ (.ListComp _ _ sc _) _)] _ _) _ _ _) _ => sc
 | _ => nsc
abbrev cLplb : Scope := qLplb ((zu sLpl).getD 0 (.Pass ⟨0, 0, 0, 0⟩))
theorem bsLplb : BScope (yA Ve (zc sLpl)) cLplb ["_law_one"] [] ["str"] := { okind := by decide +kernel, kind := by decide +kernel, nocell := by decide +kernel, names := by decide +kernel, fr := by decide +kernel, ff := by decide +kernel, nd := by decide +kernel, vis := by decide +kernel, loc := by decide +kernel, gl := by decide +kernel }
theorem pi_tupB {X : Cx} {tg l : Expr} {tl : TE} {K : W.Frag} (hl : PE X l tl) (hK : X.K = K) : PI X tg l (iTup K tl) := hK ▸ yd hl
theorem ok_Lpl {f : Addr} {fd : FuncData} (B : Blt4 mg) (fR : Has P w K mg base 7 "_law_tree_lines" ["_law_tree_here"] Yv) (F : Fun K "_law_paper_lines" "_law_paper_lines" sLpl f fd) : FnOk P w K mg base CX0 8 f fd ["_law_paper"] spSp := by
 refine F.ok scLpl (fun vs H Q E h => ?_) (fun cdv A outer s H vs Q E hr h => ?_)
 ·obtain ⟨m, tks, sz, x, v, rfl, _⟩ := h
  rfl
 obtain ⟨m, tks, sz, x, v, rfl, hv, ok, k⟩ := h
 refine' ⟨_, ?hb, ?rd⟩
 case' hb => skip
 case' hb => refine' zf ?g1 ?g2
 case' g2 => refine' zg ?g3
 case' g1 => refine' xB (i := 1) (ix := []) nmLpl.nd rfl loLpl_1 bsLpla.toCScope rfl rfl ?g4 ?g5 ?g6 ?g7
 case g4 => exact yd (ziq (pvd nmLpl 0) zd)
 case g5 => exact fun _ _ _ _ _ _ => pgb bsLpla 0
 case g6 => exact fun _ _ _ _ _ _ => zz
 case g7 =>
  intro _ _ _ _ _ _
  refine' YQ PySem.F.plainAttrs_str PySem.F.slot_str_join PySem.F.type_str_join xl zp ?n1
  case' n1 => refine' pa_1 ?n2
  case' n2 => refine' zo yp (zE (pa_1 zp)) ?n3
  case n3 =>
   refine' zB (ix := []) bsLplb.toCScope rfl rfl ?i3 ?i4 ?i5 ?i6
   case i3 => exact pi_tupB (K := K) (pvb bsLpla 0) rfl
   case i4 => exact fun _ _ _ _ _ _ => pgb bsLplb 0
   case i5 => exact fun _ _ _ _ _ _ => zz
   case i6 => exact fun _ _ _ _ _ _ => zK yg B.str PyProof.Rows.boot_str (pa_1 (pvb bsLplb 0)) (bsLplb.g 0)
 case' g3 => refine' zl ?g8
 case' g8 => refine' zo yp ?g9 (pe_f fR hr (by decide) (pa_1 (ziq (pvd nmLpl 0) zd)))
 case' g9 => refine' zo yp (pvd nmLpl 1) ?g10
 case' g10 => refine' zE ?g11
 case' g11 => refine' pa_1 ?g12
 case' g12 => refine' yn PySem.F.plainAttrs_str PySem.F.slot_str_join PySem.F.type_str_join xl zp ?g13
 case' g13 => refine' pa_1 ?g14
 case' g14 => refine' zo yp (zE (pa_1 zp)) ?g15
 case' g15 => refine' zB (ix := []) bsLplc.toCScope rfl rfl ?g16 ?g17 ?g18 ?g19
 case g16 => exact yd (ziq (pvd nmLpl 0) zd)
 case g17 => exact fun _ _ _ _ _ _ => pgb bsLplc 0
 case g18 => exact fun _ _ _ _ _ _ => zz
 case g19 => exact fun _ _ _ _ _ _ => zK yg B.str PyProof.Rows.boot_str (pa_1 (pvb bsLplc 0)) (bsLplc.g 0)
 obtain ⟨p, ks, hq, tv, kas, rfl, h1, h2, h3, h4, h5⟩ := hv
 have k8 := ok.k8
 have hkl := h3.len
 have m1 := ok.m1
 have m8 := ok.m8
 walk_at "v"
 refine zm h1 rfl ?_
 refine ⟨ks, rfl, ⟨_, SqT.of h2⟩, fun D hD => ?_⟩
 refine yY (S := Same) (xs := kas.map V.ref) (ρ := []) (fun j y _ => ∃ r, x.kep[j]? = some r ∧ y = .str (ln (("kept" : Str) :: r.map fT))) (Kp.same hD) (fun _ h => h) (fun _ b => TK.same b) (by rw [List.length_map]; omega) (fun H' k' => SqT.of (k' _ _ h2)) ?_ ?_
 ·rintro i y H' R hy K' kR
  rw [List.getElem?_map] at hy
  cases hi : kas[i]? with
  | none => rw [hi] at hy; cases hy
  | some a =>
   rw [hi] at hy
   cases hy
   obtain ⟨r, hr1, hr2⟩ := h3.at hi
   obtain ⟨q1, q2⟩ := ok.kl r (List.mem_of_getElem? hr1)
   have hr3 := K' _ _ hr2
   walk_at "v"
   refine ⟨rfl, ?_⟩
   walk_at "v"
   refine ⟨sz1, fun l1 hl1 => ?_⟩
   have K1 : Same H' (upd H' l1 (.lst [.str "kept"])) := Same.new (Same.refl _) hl1
   have e1 : upd H' l1 (.lst [.str "kept"]) l1 = some (.lst [.str "kept"]) := ze
   generalize upd H' l1 (.lst [.str "kept"]) = H1 at K1 e1 ⊢
   walk_at "v"
   refine ⟨a, rfl, ⟨_, SqT.of (K1 _ _ hr3)⟩, fun D2 hD2 => ?_⟩
   refine yY (S := Same) (xs := r.map V.int) (ρ := []) (fun j y _ => ∃ z, r[j]? = some z ∧ y = .str (fT z)) (Kp.same hD2) (fun _ h => h) (fun _ b => TK.same b) (by rw [List.length_map]; omega) (fun H' k' => SqT.of (k' _ _ (K1 _ _ hr3))) ?_ ?_
   ·rintro j y H' R hy K' kR
    rw [List.getElem?_map] at hy
    cases hi : r[j]? with
    | none => rw [hi] at hy; cases hy
    | some z =>
     rw [hi] at hy
     cases hy
     walk_at "v"
     refine ⟨_, rfl, (zL (q2 z (List.mem_of_getElem? hi))).lg, ?_⟩
     exact kR _ _ (Same.refl _) ⟨z, hi, rfl⟩
   rintro ys H2 ⟨K2, hl2, hY⟩ e2
   have ez := yy (f := fun z => V.str (fT z)) (hl2.trans (by simp)) hY
   subst ez
   refine ⟨l1, D2, _, _, rfl, rfl, K2 _ _ e1, e2, Nat.le_of_lt (zn (by simp; omega)), fun l2 hl2' => ?_⟩
   have K3 : Same H2 (upd H2 l2 (.lst ([V.str "kept"] ++ r.map fun z => V.str (fT z)))) := Same.new (Same.refl _) hl2'
   have e3 : upd H2 l2 (.lst ([V.str "kept"] ++ r.map fun z => V.str (fT z))) l2 = some (.lst ((("kept" : Str) :: r.map fT).map V.str)) := by rw [ze, List.map_cons, List.map_map]; rfl
   generalize upd H2 l2 (.lst ([V.str "kept"] ++ r.map fun z => V.str (fT z))) = H3 at K3 e3 ⊢
   have LO : LOk (("kept" : Str) :: r.map fT) := vp ⟨by decide, by decide⟩ q2 (by omega)
   obtain ⟨j1, j2⟩ := wb LO.w LO.l
   refine ⟨_, l2, _, rfl, rfl, e3, j1, j2, ?_⟩
   exact kR _ _ ((K1.trans K2).trans K3) ⟨r, hr1, rfl⟩
 ·rintro ys H1 ⟨K1, hl', hY⟩ e1
  rw [List.length_map] at hl'
  have e := yy (f := fun r => V.str (ln (("kept" : Str) :: r.map fT))) (hl'.trans hkl) hY
  subst e
  have hhl := ok.hl
  have LO : LOk (("height" : Str) :: x.hei.map fT) := vp ⟨by decide, by decide⟩ (fun i hi => (ok.hn i hi).1) (by omega)
  walk_at "v"
  refine ⟨rfl, ?_⟩
  walk_at "v"
  refine ⟨sz1, fun l1 hl1 => ?_⟩
  obtain ⟨H2, q, K2, e2⟩ := nob (.lst [.str "height"]) hl1; rw [q]; clear q
  have K02 := K1.trans K2
  walk_at "v"
  refine zm (K02 _ _ h1) rfl ?_
  refine ⟨hq, rfl, ⟨_, SqT.of (K02 _ _ h4)⟩, fun D2 hD2 => ?_⟩
  refine yY (S := Same) (xs := x.hei.map V.int) (ρ := []) (fun j y _ => ∃ z, x.hei[j]? = some z ∧ y = .str (fT z)) (Kp.same hD2) (fun _ h => h) (fun _ b => TK.same b) (by rw [List.length_map]; omega) (fun H' k' => SqT.of (k' _ _ (K02 _ _ h4))) ?_ ?_
  ·rintro j y H' R hy K' kR
   rw [List.getElem?_map] at hy
   cases hi : x.hei[j]? with
   | none => rw [hi] at hy; cases hy
   | some z =>
    rw [hi] at hy
    cases hy
    walk_at "v"
    refine ⟨_, rfl, (zL ((fun z hz => (ok.hn z hz).1) z (List.mem_of_getElem? hi))).lg, ?_⟩
    exact kR _ _ (Same.refl _) ⟨z, hi, rfl⟩
  rintro zs H3 ⟨K3, hl3, hZ⟩ e3
  have ez := yy (f := fun z => V.str (fT z)) (hl3.trans (by simp)) hZ
  subst ez
  refine ⟨l1, D2, _, _, rfl, rfl, K3 _ _ e2, e3, Nat.le_of_lt (zn (by simp; omega)), fun l2 hl2' => ?_⟩
  have K4 : Same H3 (upd H3 l2 (.lst ([V.str "height"] ++ x.hei.map fun z => V.str (fT z)))) := Same.new (Same.refl _) hl2'
  have e4 : upd H3 l2 (.lst ([V.str "height"] ++ x.hei.map fun z => V.str (fT z))) l2 = some (.lst ((("height" : Str) :: x.hei.map fT).map V.str)) := by rw [ze, List.map_cons, List.map_map]; rfl
  generalize upd H3 l2 (.lst ([V.str "height"] ++ x.hei.map fun z => V.str (fT z))) = H4 at K4 e4 ⊢
  obtain ⟨j1, j2⟩ := wb LO.w LO.l
  refine ⟨_, l2, _, rfl, rfl, e4, j1, j2, ?_⟩
  walk_at "v"
  refine ⟨sz1, fun l3 hl3' => ?_⟩
  have K5 : Same H4 (upd H4 l3 (.lst [.str (Txt.join " " (("height" : Str) :: x.hei.map fT))])) := Same.new (Same.refl _) hl3'
  have e5 : upd H4 l3 (.lst [.str (Txt.join " " (("height" : Str) :: x.hei.map fT))]) l3 = some (.lst [.str (ln (("height" : Str) :: x.hei.map fT))]) := ze
  generalize upd H4 l3 (.lst [.str (Txt.join " " (("height" : Str) :: x.hei.map fT))]) = H5 at K5 e5 ⊢
  have K15 := ((K2.trans K3).trans K4).trans K5
  have K05 := K1.trans K15
  refine ⟨D, l3, _, _, rfl, rfl, K15 _ _ e1, e5, Nat.le_of_lt (zn (by simp; omega)), fun l4 hl4 => ?_⟩
  have K6 := K05.new (o := .lst (x.kep.map (fun r => V.str (ln (("kept" : Str) :: r.map fT))) ++ [.str (ln (("height" : Str) :: x.hei.map fT))])) hl4
  have e6 : upd H5 l4 (.lst (x.kep.map (fun r => V.str (ln (("kept" : Str) :: r.map fT))) ++ [.str (ln (("height" : Str) :: x.hei.map fT))])) l4 = some (.lst (x.kep.map (fun r => V.str (ln (("kept" : Str) :: r.map fT))) ++ [.str (ln (("height" : Str) :: x.hei.map fT))])) := ze
  generalize upd H5 l4 (.lst (x.kep.map (fun r => V.str (ln (("kept" : Str) :: r.map fT))) ++ [.str (ln (("height" : Str) :: x.hei.map fT))])) = H6 at K6 e6 ⊢
  walk_at "v"
  refine zm (K6 _ _ h1) rfl ?_
  walk_at "v"
  refine ⟨x.d, ok.d3, m, tks, sz, x.t, tv, rfl, TrAt.tk (TK.same K6) _ h5, ok.tr, ok.d3, fun l H7 K7 hl e7 => ?_⟩
  have htl := yo _ ok.tr
  have h585 := wn ok.d3
  refine ⟨l4, l, _, _, rfl, rfl, K7 _ _ e6, e7, Nat.le_of_lt (zn (by simp only [txs, List.length_map, List.length_append, List.length_cons, List.length_nil]; omega)), fun z hz => ?_⟩
  refine k z _ ((K6.trans K7).new hz) (Same.free (K6.trans K7) hz) ?_
  rw [ze]
  unfold Pap.W txs
  simp only [List.map_append, List.map_map, List.map_cons, List.append_assoc, List.cons_append, List.nil_append]
  rfl
abbrev sLtk : Stmt := top 74
abbrev nLtk : List Str := ["_law_rule_here"]
theorem nmLtk : Nm nLtk (zc sLtk) := nmk (by decide +kernel)
theorem scLtk : FnScope nLtk ["_law_rule_here"] (zc sLtk) := fsk (by decide +kernel)
def qLtka (s : Stmt) : Scope := match s with
 | .Return (some (.ListComp _ _ sc _)) _ => sc
 | _ => nsc
abbrev cLtka : Scope := qLtka ((zu sLtk).getD 0 (.Pass ⟨0, 0, 0, 0⟩))
theorem bsLtka : BScope (zc sLtk) cLtka ["_law_sort"] ["_law_rule_here"] [] := { okind := by decide +kernel, kind := by decide +kernel, nocell := by decide +kernel, names := by decide +kernel, fr := by decide +kernel, ff := by decide +kernel, nd := by decide +kernel, vis := by decide +kernel, loc := by decide +kernel, gl := by decide +kernel }
def WI : Sp := fun vs H Q _ => ∃ (ra ta gb : Addr) (tk : List Int), vs = [.ref ra] ∧ H ra = some (.tup [.ref ta, .ref gb]) ∧ H ta = some (.tup (tk.map V.int)) ∧ tk.length ≤ 8 ∧ ∀ l xs H', Same H H' → H l = none → H' l = some (.lst xs) → xs.length = tkn tk → tkn tk ≤ 8 → Q (.ref l) H'
theorem ok_Ltk {f : Addr} {fd : FuncData} (B : Blt4 mg) (F : Fun K "_law_taken" "_law_taken" sLtk f fd) : FnOk P w K mg base CX0 1 f fd ["_law_rule_here"] WI := by
 refine F.ok scLtk (fun vs H Q E h => ?_) (fun cdv A outer s H vs Q E hr h => ?_)
 ·obtain ⟨ra, ta, gb, tk, rfl, _⟩ := h
  rfl
 obtain ⟨ra, ta, gb, tk, rfl, h1, h2, t8, k⟩ := h
 refine' ⟨_, ?hb, ?rd⟩
 case' hb => skip
 case' hb => refine' zg ?g1
 case' g1 => refine' zl ?g2
 case' g2 => refine' zB (ix := [0]) bsLtka.toCScope rfl rfl ?g3 ?g4 ?g5 ?g6
 case g3 => exact yR B.range (pa_1 (zF zr B.len PySem.boot_len (pa_1 (ziq (pvd nmLtk 0) zd))))
 case g4 => exact fun _ _ _ _ _ _ => pgb bsLtka 0
 case g5 => exact fun _ _ _ _ _ _ => Zs (zq vW (ziq (ziq (pvb bsLtka 1) zd) (pvb bsLtka 0)) zd (zt _))
 case g6 => exact fun _ _ _ _ _ _ => pvb bsLtka 0
 walk_at "v"
 refine zm h1 rfl ?_
 walk_at "v"
 refine ⟨ta, _, rfl, .inr (SqT.of h2), ?_⟩
 rw [List.length_map]
 refine ⟨_, rfl, by omega, by omega, fun D hD => ?_⟩
 rw [Int.toNat_natCast]
 refine yw (ρ := [some (.ref ra)]) (fun i ys H' => ys.length = tkn (tk.take i) ∧ ys.length ≤ i ∧ Same H H') ⟨rfl, Nat.zero_le _, Same.new (Same.refl _) hD⟩ ?_ ?_
 ·rintro i ys H' hi ⟨hy1, hy2, K'⟩ hDz R S kR kS
  rw [Int.zero_add]
  have hz' : tk[i]? = some tk[i] := List.getElem?_eq_getElem hi
  have et : tkn (tk.take (i + 1)) = tkn (tk.take i) + (if 0 < tk[i] then 1 else 0) := by
   unfold tkn
   rw [List.take_add_one, hz', List.filter_append, List.length_append]
   refine congrArg (_ + ·) ?_
   by_cases hz : 0 < tk[i]
   ·simp [hz]
   ·simp [hz]
  walk_at "v"
  refine zm (K' _ _ h1) rfl ?_
  walk_at "v"
  refine zm (v := .int tk[i]) (K' _ _ h2) (zx (by rw [List.getElem?_map, hz']; rfl)) ?_
  walk_at "v"
  refine iteD (fun hz => ?_) (fun hz => ?_)
  ·walk_at "v"
   exact kR _ _ hDz (zn (by omega)) ⟨by rw [et, if_pos hz, List.length_append, hy1]; rfl, by rw [List.length_append]; show _ + 1 ≤ _; omega, K'.put hD⟩
  ·exact kS _ hDz ⟨by rw [et, if_neg hz]; exact hy1, by omega, K'⟩
 rintro ys H1 ⟨hy1, hy2, K1⟩ e5
 rw [List.take_of_length_le (Nat.le_refl _)] at hy1
 exact k D ys H1 K1 hD e5 hy1 (by omega)
abbrev sLwt : Stmt := top 73
abbrev nLwt : List Str := ["_law_tape_here", "_law_weights_here", "_law_number"]
theorem wP : Nm nLwt (zc sLwt) := nmk (by decide +kernel)
theorem scLwt : FnScope nLwt ["_law_tape_here"] (zc sLwt) := fsk (by decide +kernel)
def Bq (p q : Addr) (H H' : Hp) : Prop := ∀ a o, a ≠ p → a ≠ q → H a = some o → H' a = some o
theorem PrsA.app {H : Hp} : ∀ {as bs : List Addr} {w v : List Wt}, PrsA H as w → PrsA H bs v → PrsA H (as ++ bs) (w ++ v)
 | [], _, [], _, _, h => h
 | _ :: _, _, _ :: _, _, h, h' => ⟨h.1, PrsA.app h.2 h'⟩
 | [], _, _ :: _, _, h, _ => h.elim
 | _ :: _, _, [], _, h, _ => h.elim
def WH : Sp := fun vs H Q _ => ∃ (p l : Addr) (ns : List Int), vs = [.ref p] ∧ Tp H p l ns ∧ ∀ (q : Addr) (w : List Wt) (H' : Hp), WOk w → WsAt H' q w → Tp H' p l ns → Bp p H H' → Q (.ref q) H'
theorem nu3 : (1 : Int) ∈ nuL ∧ (2 : Int) ∈ nuL ∧ ((10 : Int) ^ 39) ∈ nuL := by decide +kernel
theorem ok_Lwt {f : Addr} {fd : FuncData} (B : Blt4 mg) (D : Has P w K mg base 1 "_law_draw" ["_law_tape_here", "_law_many"] xh) (F : Fun K "_law_weights" "_law_weights" sLwt f fd) : FnOk P w K mg base CX0 2 f fd ["_law_tape_here"] WH := by
 refine F.ok scLwt (fun vs H Q E h => ?_) (fun cdv A outer s H vs Q E hr h => ?_)
 ·obtain ⟨p, l, ns, rfl, _⟩ := h
  rfl
 obtain ⟨p, l, ns, rfl, T, k⟩ := h
 refine' ⟨_, ?hb, ?rd⟩
 case' hb => skip
 case' hb => refine' zf ?g1 ?g2
 case' g2 => refine' zf ?g3 ?g4
 case' g4 => refine' zg ?g5
 case g1 => exact zj wP 1 (zE xx)
 case' g3 => refine' yt PassesOwn.never rfl ?g6 (pgd wP 2) ?g7
 case g6 => exact yR B.range (pa_1 (pe_f D hr (by decide) (pa_2 (pvd wP 0) zd)))
 case' g7 => refine' zg ?g8
 case g8 => exact yE (yn PySem.F.plainAttrs_list PySem.F.slot_list_append PySem.F.type_list_append yI (pvd wP 1) (pa_1 (zy (pa_2 (zo zR (zo x8 zd (pvd wP 2)) (pe_f D hr (by decide) (pa_2 (pvd wP 0) zd))) (ziq (zE (pa_c zd (pa_2 zd (zo wx zd zd)))) (pe_f D hr (by decide) (pa_2 (pvd wP 0) zd)))))))
 case g5 => exact zl (zK zS B.tuple PyProof.Rows.boot_tuple (pa_1 (pvd wP 1)))
 walk_at "v"
 refine ⟨Nat.zero_le _, fun wl hwl => ?_⟩
 have npw := T.np hwl
 have nlw := T.nl hwl
 have T1 := T.new (o := .lst []) hwl
 have K1 : Same H (upd H wl (.lst [])) := Same.new (Same.refl _) hwl
 have e1 : upd H wl (.lst []) wl = some (.lst []) := ze
 generalize upd H wl (.lst []) = H1 at T1 K1 e1 ⊢
 walk_at "v"
 refine ⟨p, l, ns, 4, rfl, T1, by decide, by decide, fun r c e r0 r1 => ?_⟩
 have T2 := T1.draw (c := c) (e := e)
 have e2 : upd H1 p (.lst [.ref l, .int c, .int e]) wl = some (.lst []) := by rw [zi (Ne.symm npw)]; exact e1
 have b2 : Bq p wl H (upd H1 p (.lst [.ref l, .int c, .int e])) := fun a u n1 n2 ha => by rw [zi n1]; exact K1 _ _ ha
 generalize upd H1 p (.lst [.ref l, .int c, .int e]) = H2 at T2 e2 b2 ⊢
 obtain ⟨n, rfl⟩ := ofI r0
 refine ⟨_, rfl, by omega, by omega, ?_⟩
 rw [Int.toNat_natCast]
 refine yu (n := n) (fun i σ H' => ∃ (u2 : Option V) (as : List Addr) (w : List Wt), σ = [some (.ref p), some (.ref wl), u2] ∧ H' wl = some (.lst (as.map V.ref)) ∧ PrsA H' as w ∧ w.length = i ∧ (∀ x ∈ w, Nu x.1 ∧ 0 ≤ x.1 ∧ x.1 < 3 * (i : Int) ∧ Nu x.2 ∧ 1 ≤ x.2) ∧ (w.map (·.1)).Pairwise (· < ·) ∧ Tp H' p l ns ∧ Bq p wl H H') ⟨_, [], [], rfl, e2, trivial, rfl, (fun x hx => by cases hx), List.Pairwise.nil, T2, b2⟩ ?_ ?_
 ·rintro i σ H3 hi ⟨u2, as, w, rfl, e3, hA, hwl3, hnu, hup, T3, b3⟩
  rw [Int.zero_add]
  have hal := hA.len
  walk_at "v"
  refine ⟨.inl ⟨rfl, _, SqL.of e3⟩, ?_⟩
  walk_at "v"
  refine w_rI (mulL (by decide) (by decide)) ?_
  walk_at "v"
  refine ⟨p, l, ns, 3, rfl, T3, by decide, by decide, fun r1' c1 e1' r10 r11 => ?_⟩
  have T4 := T3.draw (c := c1) (e := e1')
  have TK4 : TK H3 (upd H3 p (.lst [.ref l, .int c1, .int e1'])) := T3.tk
  have e4 : upd H3 p (.lst [.ref l, .int c1, .int e1']) wl = some (.lst (as.map V.ref)) := by rw [zi (Ne.symm npw)]; exact e3
  have b4 : Bq p wl H (upd H3 p (.lst [.ref l, .int c1, .int e1'])) := fun a u n1 n2 ha => by rw [zi n1]; exact b3 _ _ n1 n2 ha
  generalize upd H3 p (.lst [.ref l, .int c1, .int e1']) = H4 at T4 TK4 e4 b4 ⊢
  walk_at "v"
  refine w_rI ⟨by decide, by decide, by decide⟩ ?_
  rw [show ((10 : Int) ^ Int.toNat 39) = (10 : Int) ^ 39 from rfl]
  walk_at "v"
  refine ⟨sz3, fun il hil => ?_⟩
  have npi := T4.np hil
  have nwi : wl ≠ il := zh e4 hil
  have T5 := T4.new (o := .lst [.int 1, .int 2, .int (10 ^ 39)]) hil
  have K5 : Same H4 (upd H4 il (.lst [.int 1, .int 2, .int (10 ^ 39)])) := Same.new (Same.refl _) hil
  have e5 : upd H4 il (.lst [.int 1, .int 2, .int (10 ^ 39)]) il = some (.lst (([1, 2, 10 ^ 39] : List Int).map V.int)) := ze
  generalize upd H4 il (.lst [.int 1, .int 2, .int (10 ^ 39)]) = H5 at T5 K5 e5 ⊢
  walk_at "v"
  refine ⟨p, l, ns, 3, rfl, T5, by decide, by decide, fun r2 c2 e2' r20 r21 => ?_⟩
  obtain ⟨tv, htv, hat⟩ := wM (xs := [1, 2, 10 ^ 39]) r20 r21
  have T6 := T5.draw (c := c2) (e := e2')
  have TK6 : TK H5 (upd H5 p (.lst [.ref l, .int c2, .int e2'])) := T5.tk
  have e6i : upd H5 p (.lst [.ref l, .int c2, .int e2']) il = some (.lst (([1, 2, 10 ^ 39] : List Int).map V.int)) := by rw [zi (Ne.symm npi)]; exact e5
  have e6 : upd H5 p (.lst [.ref l, .int c2, .int e2']) wl = some (.lst (as.map V.ref)) := by rw [zi (Ne.symm npw)]; exact K5 _ _ e4
  have b6 : Bq p wl H (upd H5 p (.lst [.ref l, .int c2, .int e2'])) := fun a u n1 n2 ha => by rw [zi n1]; exact K5 _ _ (b4 _ _ n1 n2 ha)
  generalize upd H5 p (.lst [.ref l, .int c2, .int e2']) = H6 at T6 TK6 e6i e6 b6 ⊢
  refine zD e6i hat ?_
  walk_at "v"
  refine ⟨sz2, fun z hz => ?_⟩
  have K7 : Same H6 (upd H6 z (.tup [.int (3 * (i : Int) + r1'), .int tv])) := Same.new (Same.refl _) hz
  have T7 := T6.new (o := .tup [.int (3 * (i : Int) + r1'), .int tv]) hz
  have e7 : upd H6 z (.tup [.int (3 * (i : Int) + r1'), .int tv]) z = some (.tup [.int (3 * (i : Int) + r1'), .int tv]) := ze
  generalize upd H6 z (.tup [.int (3 * (i : Int) + r1'), .int tv]) = H7 at K7 T7 e7 ⊢
  have e67 := K7 _ _ e6
  walk_at "v"
  refine ⟨wl, _, _, rfl, rfl, e67, by rw [List.length_map]; exact zn (by omega), ?_⟩
  have T8 : TK H7 (upd H7 wl (.lst (as.map V.ref ++ [.ref z]))) := TK.lst e67
  have htv' : Nu tv ∧ 1 ≤ tv := by
   simp only [List.mem_cons, List.not_mem_nil, or_false] at htv
   rcases htv with rfl | rfl | rfl
   ·exact ⟨nu3.1, by decide⟩
   ·exact ⟨nu3.2.1, by decide⟩
   ·exact ⟨nu3.2.2, by decide⟩
  have hi3 : i < 3 := by omega
  obtain ⟨jj, hjj⟩ : ∃ jj : Nat, 3 * (i : Int) + r1' = (jj : Int) := ⟨(3 * (i : Int) + r1').toNat, by omega⟩
  refine ⟨_, as ++ [z], w ++ [(3 * (i : Int) + r1', tv)], rfl, by rw [ze, List.map_append]; rfl, PrsA.app (hA.tk ((((TK4.trans (TK.same K5)).trans TK6).trans (TK.same K7)).trans T8)) ⟨T8.t _ _ e7, trivial⟩, by rw [List.length_append, hwl3]; rfl, fun x hx => ?_, ?_, T7.put npw nlw, fun a u n1 n2 ha => by rw [zi n2]; exact K7 _ _ (b6 _ _ n1 n2 ha)⟩
  ·rcases List.mem_append.mp hx with hx | hx
   ·obtain ⟨a1, a2, a3, a4⟩ := hnu x hx
    exact ⟨a1, a2, by omega, a4⟩
   ·simp only [List.mem_cons, List.not_mem_nil, or_false] at hx
    subst hx
    exact ⟨by show Nu (3 * (i : Int) + r1'); rw [hjj]; exact ye (by omega), by show 0 ≤ 3 * (i : Int) + r1'; omega, by show 3 * (i : Int) + r1' < _; omega, htv'.1, htv'.2⟩
  ·rw [List.map_append, List.pairwise_append]
   refine ⟨hup, List.pairwise_singleton _ _, fun a ha b hb => ?_⟩
   obtain ⟨x, hx, rfl⟩ := List.mem_map.mp ha
   simp only [List.map_cons, List.map_nil, List.mem_cons, List.not_mem_nil, or_false] at hb
   subst hb
   have := (hnu x hx).2.2.1
   omega
 ·rintro σ H3 ⟨u2, as, w, rfl, e3, hA, hwl3, hnu, hup, T3, b3⟩
  walk_at "v"
  refine ⟨wl, _, rfl, e3, fun q H4 K4 e4 => ?_⟩
  refine k q w H4 ⟨by omega, fun x hx => ?_, hup⟩ ⟨as, e4, hA.tk (TK.same K4)⟩ (T3.same K4) fun a u n1 ha => K4 _ _ (b3 _ _ n1 (zh ha hwl) ha)
  obtain ⟨a1, a2, a3, a4⟩ := hnu x hx
  exact ⟨a1, a2, by omega, a4⟩
abbrev kS (x : Str) : Key := Sum.inr x
theorem w_disp {trs : List (TE × TE)} {σ : St} {H : Hp} {Q : VK} (h : ∀ p, H p = none → xX trs σ (upd H p (.dK [])) fun ps H2 => H2 p = some (.dK []) ∧ ∃ kvs : List (Key × V), ps = kvs.map (fun kv => (kV kv.1, kv.2)) ∧ kvs.length ≤ 15 ∧ Q (.ref p) (upd H2 p (.dK (wA [] kvs)))) : Wx trs σ H Q := h
theorem xz {tk tv : TE} {r : List (TE × TE)} {σ : St} {H : Hp} {Q : List (V × V) → Hp → Prop} (h : tk σ H fun x H1 => tv σ H1 fun y H2 => xX r σ H2 fun ps H3 => Q ((x, y) :: ps) H3) : xX ((tk, tv) :: r) σ H Q := h
theorem w_pairs0 {σ : St} {H : Hp} {Q : List (V × V) → Hp → Prop} (h : Q [] H) : xX [] σ H Q := h
theorem w_dget {td ty : TE} {σ : St} {H : Hp} {Q : VK} (h : td σ H fun x H1 => ty σ H1 fun y H2 => ∃ a v, x = .ref a ∧ DGet H2 a y (some v) ∧ Q v H2) : Wy td ty σ H Q := h
abbrev sLsz : Stmt := top 76
abbrev nLsz : List Str := ["_law_ask_here"]
theorem nmLsz : Nm nLsz (zc sLsz) := nmk (by decide +kernel)
theorem scLsz : FnScope nLsz ["_law_ask_here"] (zc sLsz) := fsk (by decide +kernel)
theorem szA_two {w : Str} {a b : Ln} (h : four w) : ((w = "least" ∨ w = "most" ∨ w = "more") ∧ szA (.two w a b) = [3, 3]) ∨ (w = "same" ∧ szA (.two w a b) = [4, 3, 3]) := by
 rcases h with rfl | rfl | rfl | rfl
 ·exact .inl ⟨.inl rfl, rfl⟩
 ·exact .inl ⟨.inr (.inl rfl), rfl⟩
 ·exact .inl ⟨.inr (.inr rfl), rfl⟩
 ·exact .inr ⟨rfl, rfl⟩
def WK : Sp := fun vs H Q _ => ∃ (q : Addr) (A : Ak) (n : Nat), vs = [.ref q] ∧ AkAt H q A ∧ A.ok n ∧ ∀ l H', Same H H' → H' l = some (.lst ((szA A).map fun (n : Nat) => V.int (n : Int))) → Q (.ref l) H'
theorem ok_Lsz {f : Addr} {fd : FuncData} (B : Blt4 mg) (F : Fun K "_law_sizes" "_law_sizes" sLsz f fd) : FnOk P w K mg base CX0 1 f fd ["_law_ask_here"] WK := by
 refine F.ok scLsz (fun vs H Q E h => ?_) (fun cdv A outer s H vs Q E hr h => ?_)
 ·obtain ⟨q, A', n, rfl, _⟩ := h
  rfl
 obtain ⟨q, A', n, rfl, hA, hok, k⟩ := h
 have hu := hu_of hr
 refine' ⟨_, ?hb, ?rd⟩
 case hb =>
  refine' zg ?s1
  case' s1 => refine' zl ?e1
  case' e1 => refine' pe_dget ?hu ?d1 ?d2 ?d3
  case hu => exact hu
  case d3 => exact fun _ _ => rfl
  case d2 => exact ziq (pvd nmLsz 0) zd
  case' d1 => refine' pe_disp ?g2 ?a1 ?a2 ?a3 ?a4
  case a1 => rfl
  case a2 => rfl
  case a3 => intro z; cases z
  case a4 => decide
  case' g2 => refine' y0 ?k0 ?v0 ?r0
  case k0 => exact zp
  case' v0 => refine' zE ?w0
  case w0 => exact pa_1 zd
  case' r0 => refine' y0 ?k1 ?v1 ?r1
  case k1 => exact zp
  case' v1 => refine' zE ?w1
  case w1 => exact pa_1 zd
  case' r1 => refine' y0 ?k2 ?v2 ?r2
  case k2 => exact zp
  case' v2 => refine' zE ?w2
  case w2 => exact pa_2 zd zd
  case' r2 => refine' y0 ?k3 ?v3 ?r3
  case k3 => exact zp
  case' v3 => refine' zE ?w3
  case w3 => exact pa_2 zd zd
  case' r3 => refine' y0 ?k4 ?v4 ?r4
  case k4 => exact zp
  case' v4 => refine' zE ?w4
  case w4 => exact pa_2 zd zd
  case' r4 => refine' y0 ?k5 ?v5 ?r5
  case k5 => exact zp
  case' v5 => refine' zE ?w5
  case w5 => exact pa_c zd (pa_2 zd zd)
  case r5 => exact pps_nil
 refine wI ?_
 refine w_dget ?_
 refine w_disp fun p hp => ?_
 obtain ⟨H0, q, K0, e0⟩ := nob (.dK []) hp; rw [q]; clear q
 refine xz ?_
 walk_at "v"
 refine ⟨sz1, fun l1 hl1 => ?_⟩
 obtain ⟨H1, q, K1, e1⟩ := nob (.lst [.int 2]) hl1; rw [q]; clear q
 refine xz ?_
 walk_at "v"
 refine ⟨sz1, fun l2 hl2 => ?_⟩
 obtain ⟨H2, q, K2, e2⟩ := nob (.lst [.int 2]) hl2; rw [q]; clear q
 refine xz ?_
 walk_at "v"
 refine ⟨sz2, fun l3 hl3 => ?_⟩
 obtain ⟨H3, q, K3, e3⟩ := nob (.lst [.int 3, .int 3]) hl3; rw [q]; clear q
 refine xz ?_
 walk_at "v"
 refine ⟨sz2, fun l4 hl4 => ?_⟩
 obtain ⟨H4, q, K4, e4⟩ := nob (.lst [.int 3, .int 3]) hl4; rw [q]; clear q
 refine xz ?_
 walk_at "v"
 refine ⟨sz2, fun l5 hl5 => ?_⟩
 obtain ⟨H5, q, K5, e5⟩ := nob (.lst [.int 3, .int 3]) hl5; rw [q]; clear q
 refine xz ?_
 walk_at "v"
 refine ⟨sz3, fun l6 hl6 => ?_⟩
 obtain ⟨H6, q, K6, e6⟩ := nob (.lst [.int 4, .int 3, .int 3]) hl6; rw [q]; clear q
 refine w_pairs0 ?_
 have K06 := ((((K1.trans K2).trans K3).trans K4).trans K5).trans K6
 refine ⟨K06 _ _ e0, [(kS "sum", .ref l1), (kS "part", .ref l2), (kS "least", .ref l3), (kS "most", .ref l4), (kS "more", .ref l5), (kS "same", .ref l6)], rfl, by show 6 ≤ 15; decide, ?_⟩
 have K7 : Same H (upd H6 p (.dK [(kS "sum", .ref l1), (kS "part", .ref l2), (kS "least", .ref l3), (kS "most", .ref l4), (kS "more", .ref l5), (kS "same", .ref l6)])) := (K0.trans K06).put hp
 have e7 : upd H6 p (.dK [(kS "sum", .ref l1), (kS "part", .ref l2), (kS "least", .ref l3), (kS "most", .ref l4), (kS "more", .ref l5), (kS "same", .ref l6)]) p = some (.dK [(kS "sum", .ref l1), (kS "part", .ref l2), (kS "least", .ref l3), (kS "most", .ref l4), (kS "more", .ref l5), (kS "same", .ref l6)]) := ze
 have q1 := ((((K2.trans K3).trans K4).trans K5).trans K6) _ _ e1
 have q2 := (((K3.trans K4).trans K5).trans K6) _ _ e2
 have q3 := ((K4.trans K5).trans K6) _ _ e3
 have q4 := (K5.trans K6) _ _ e4
 have q5 := K6 _ _ e5
 have pn : ∀ (a : Addr) (xs : List V), H6 a = some (.lst xs) → upd H6 p (.dK [(kS "sum", .ref l1), (kS "part", .ref l2), (kS "least", .ref l3), (kS "most", .ref l4), (kS "more", .ref l5), (kS "same", .ref l6)]) a = some (.lst xs) := fun a xs h => by
  rw [zi (fun z => by rw [z, K06 _ _ e0] at h; cases h)]
  exact h
 have p1 := pn _ _ q1
 have p2 := pn _ _ q2
 have p3 := pn _ _ q3
 have p4 := pn _ _ q4
 have p5 := pn _ _ q5
 have p6 := pn _ _ e6
 show tOp _ _ _ _ (upd H6 p (.dK [(kS "sum", .ref l1), (kS "part", .ref l2), (kS "least", .ref l3), (kS "most", .ref l4), (kS "more", .ref l5), (kS "same", .ref l6)])) _
 generalize upd H6 p (.dK [(kS "sum", .ref l1), (kS "part", .ref l2), (kS "least", .ref l3), (kS "most", .ref l4), (kS "more", .ref l5), (kS "same", .ref l6)]) = HZ at K7 e7 p1 p2 p3 p4 p5 p6 ⊢
 clear pn
 cases A' with
 | sum a =>
  obtain ⟨b, h1, h2⟩ := hA
  walk_at "v"
  refine zm (K7 _ _ h1) rfl ?_
  refine ⟨p, .ref l1, rfl, .inl ⟨_, kS "sum", .inl e7, rfl, rfl⟩, ?_⟩
  exact k l1 HZ K7 p1
 | part a c =>
  obtain ⟨b, h1, h2⟩ := hA
  walk_at "v"
  refine zm (K7 _ _ h1) rfl ?_
  refine ⟨p, .ref l2, rfl, .inl ⟨_, kS "part", .inl e7, rfl, rfl⟩, ?_⟩
  exact k l2 HZ K7 p2
 | two w' a b =>
  obtain ⟨qa, qb, h1, h2, h3⟩ := hA
  have hw4 : four w' := hok.1
  walk_at "v"
  refine zm (K7 _ _ h1) rfl ?_
  rcases hw4 with rfl | rfl | rfl | rfl
  ·refine ⟨p, .ref l3, rfl, .inl ⟨_, kS "least", .inl e7, rfl, rfl⟩, ?_⟩
   exact k l3 HZ K7 p3
  ·refine ⟨p, .ref l4, rfl, .inl ⟨_, kS "most", .inl e7, rfl, rfl⟩, ?_⟩
   exact k l4 HZ K7 p4
  ·refine ⟨p, .ref l5, rfl, .inl ⟨_, kS "more", .inl e7, rfl, rfl⟩, ?_⟩
   exact k l5 HZ K7 p5
  ·refine ⟨p, .ref l6, rfl, .inl ⟨_, kS "same", .inl e7, rfl, rfl⟩, ?_⟩
   exact k l6 HZ K7 p6
def rNeE : V → V → Hp → VK → Prop := fun x y H Q => ∃ (a b : Addr) (xs : List V), x = .ref a ∧ y = .ref b ∧ H a = some (.tup xs) ∧ H b = some (.tup []) ∧ Q (.bl (!decide (xs.length = 0))) H
theorem op_neE {X : Cx} {k : Nat} (hr : Room k X.A) : OpR X (compareOp .NotEq) rNeE := by
 intro pins s σ H x y v u Q I rx ry h
 obtain ⟨a, b, xs, rfl, rfl, ha, hb, q⟩ := h
 cases rx
 cases ry
 obtain ⟨its, r1, t1, _⟩ := I.tuple (SqT.of ha)
 obtain ⟨jts, r2, t2, _⟩ := I.tuple (SqT.of hb)
 have e2 : jts = [] := by cases r2; rfl
 subst e2
 have hl : its.length = xs.length := r1.length.symm
 have := hr.units
 refine SeqAt.RcNeAt.tuples (e := fun _ => true) t1 t2 (by omega) (fun j h1 h2 => absurd h2 (by simp)) X.prog X.w _ _ ⟨.bl _, H, I, rfl, ?_⟩
 have e : (!((List.range (min its.toArray.size ([] : List Value).toArray.size)).all (fun _ => true) && its.toArray.size == ([] : List Value).toArray.size)) = !decide (xs.length = 0) := by
  rw [show its.toArray.size = xs.length by simpa using hl]
  cases xs <;> simp
 rw [e]
 exact q
structure SzOk (sz : List Nat) : Prop where
 l1 : 1 ≤ sz.length
 l3 : sz.length ≤ 3
 n : ∀ n ∈ sz, 1 ≤ n ∧ n ≤ 4
abbrev szV (sz : List Nat) : List V := sz.map fun (n : Nat) => V.int (n : Int)
def spLt : Nat → Sp
 | 0 => fun _ _ _ _ => False
 | d + 1 => fun vs H Q _ => ∃ (p l : Addr) (ns : List Int) (pot sl : Addr) (m : Nat) (tks : List (List Int)) (sz : List Nat), vs = [.ref p, .ref pot, .ref sl, .int ((d + 1 : Nat) : Int)] ∧ Tp H p l ns ∧ PoA H pot m tks ∧ 1 ≤ m ∧ m ≤ 8 ∧ tks.length ≤ 8 ∧ H sl = some (.lst (szV sz)) ∧ SzOk sz ∧ d ≤ 3 ∧ ∀ (v : V) (t : Tr (d + 1)) (H' : Hp), TrAt (d + 1) H' t v → OkT m tks sz (d + 1) t → Tp H' p l ns → Bp p H H' → Q v H'
def SB (p l : Addr) (ns : List Int) (H H' : Hp) : Prop := Bp p H H' ∧ (Tp H p l ns → Tp H' p l ns)
theorem YZ {p l D : Addr} {ns : List Int} {H : Hp} (T : Tp H p l ns) (hD : H D = none) : Kp (SB p l ns) D H :=
 ⟨⟨Bp.new Bp.refl hD, fun t => t.new hD⟩, fun a b => ⟨a.1.trans b.1, fun t => b.2 (a.2 t)⟩, fun _ b e => b.1 _ _ (Ne.symm (T.np hD)) e, fun a => ⟨a.1.put hD, fun t => (a.2 t).put (T.np hD) (T.nl hD)⟩⟩
theorem Yq {p l : Addr} {ns : List Int} {H : Hp} (T : Tp H p l ns) {H1 H2 : Hp} (a : SB p l ns H H1) (b : SB p l ns H1 H2) : TK H1 H2 := Tp.tkb (a.2 T) b.1
theorem ZG {α : Type} {R : α → V → Prop} : ∀ (ys : List V), (∀ y ∈ ys, ∃ t, R t y) → ∃ ts : List α, All2 R ts ys
 | [], _ => ⟨[], trivial⟩
 | y :: ys, h => by
  obtain ⟨t, ht⟩ := h y List.mem_cons_self
  obtain ⟨ts, hts⟩ := ZG ys fun z hz => h z (List.mem_cons_of_mem _ hz)
  exact ⟨t :: ts, ht, hts⟩
theorem Z3 {α β : Type} {R : α → β → Prop} {P : α → Prop} : ∀ {as : List α} {bs : List β}, All2 (fun a b => R a b ∧ P a) as bs → All2 R as bs ∧ ∀ a ∈ as, P a
 | [], [], _ => ⟨trivial, fun a h => nomatch h⟩
 | _ :: _, _ :: _, h => by
  obtain ⟨h1, h2⟩ := Z3 h.2
  exact ⟨⟨h.1.1, h1⟩, fun a ha => by rcases List.mem_cons.mp ha with rfl | ha; exact h.1.2; exact h2 a ha⟩
 | [], _ :: _, h => h.elim
 | _ :: _, [], h => h.elim
theorem Xe {H : Hp} : ∀ {zs : List (Addr × List Wt)} {ys : List V}, All2 (fun z y => y = V.ref z.1 ∧ WsAt H z.1 z.2 ∧ WOk z.2) zs ys → ys = (zs.map (·.1)).map V.ref ∧ All2 (WsAt H) (zs.map (·.1)) (zs.map (·.2)) ∧ ∀ g ∈ zs.map (·.2), WOk g
 | [], [], _ => ⟨rfl, trivial, fun g h => nomatch h⟩
 | z :: zs, y :: ys, h => by
  obtain ⟨⟨h1, h2, h3⟩, h4⟩ := h
  obtain ⟨q1, q2, q3⟩ := Xe h4
  subst h1
  refine ⟨by rw [q1]; rfl, ⟨h2, q2⟩, fun g hg => ?_⟩
  rcases List.mem_cons.mp hg with rfl | hg
  ·exact h3
  ·exact q3 g hg
 | [], _ :: _, h => h.elim
 | _ :: _, [], h => h.elim
theorem nu4 : (0 : Int) ∈ nuL ∧ (1 : Int) ∈ nuL ∧ (2 : Int) ∈ nuL ∧ ((10 : Int) ^ 39) ∈ nuL := by decide +kernel
abbrev sLt : Stmt := top 75
abbrev nLt : List Str := ["_law_tape_here", "_law_pot_here", "_law_sizes_here", "_law_deep", "_law_way", "_law_rule_here", "_law_taken_here", "_law_head", "_law_low", "_law_piece"]
theorem nmLt : Nm nLt (zc sLt) := nmk (by decide +kernel)
theorem scLt : FnScope nLt ["_law_tape_here", "_law_pot_here", "_law_sizes_here", "_law_deep"] (zc sLt) := fsk (by decide +kernel)
def qLta (s : Stmt) : Scope := match s with
 | .If _ [_, _, (.Return (some (.Tuple [_, _, (.Call _ [(.ListComp _ _ sc _)] _ _)] _ _)) _)] _ _ => sc
 | _ => nsc
abbrev cLta : Scope := qLta ((zu sLt).getD 1 (.Pass ⟨0, 0, 0, 0⟩))
theorem bsLta : BScope (zc sLt) cLta ["_law_sort"] ["_law_deep", "_law_pot_here", "_law_sizes_here", "_law_tape_here"] ["_law_tree"] := { okind := by decide +kernel, kind := by decide +kernel, nocell := by decide +kernel, names := by decide +kernel, fr := by decide +kernel, ff := by decide +kernel, nd := by decide +kernel, vis := by decide +kernel, loc := by decide +kernel, gl := by decide +kernel }
def qLtb (s : Stmt) : Scope := match s with
 | .Return (some (.Tuple [_, _, (.Call _ [(.ListComp _ _ sc _)] _ _)] _ _)) _ => sc
 | _ => nsc
abbrev cLtb : Scope := qLtb ((zu sLt).getD 5 (.Pass ⟨0, 0, 0, 0⟩))
theorem bsLtb : BScope (zc sLt) cLtb ["_law_k"] ["_law_tape_here"] ["_law_weights"] := { okind := by decide +kernel, kind := by decide +kernel, nocell := by decide +kernel, names := by decide +kernel, fr := by decide +kernel, ff := by decide +kernel, nd := by decide +kernel, vis := by decide +kernel, loc := by decide +kernel, gl := by decide +kernel }
theorem vz {f : Addr} {fd : FuncData} {d : Nat} (B : Blt4 mg) (D : Has P w K mg base 1 "_law_draw" ["_law_tape_here", "_law_many"] xh) (fK : Has P w K mg base 1 "_law_taken" ["_law_rule_here"] WI) (fW : Has P w K mg base 2 "_law_weights" ["_law_tape_here"] WH) (fR : Has P w K mg base (d + 3) "_law_tree" ["_law_tape_here", "_law_pot_here", "_law_sizes_here", "_law_deep"] (spLt d)) (F : Fun K "_law_tree" "_law_tree" sLt f fd) : FnOk P w K mg base CX0 (d + 4) f fd ["_law_tape_here", "_law_pot_here", "_law_sizes_here", "_law_deep"] (spLt (d + 1)) := by
 refine F.ok scLt (fun vs H Q E h => ?_) (fun cdv A outer s H vs Q E hr h => ?_)
 ·obtain ⟨p, l, ns, pot, sl, m, tks, sz, rfl, _⟩ := h
  rfl
 obtain ⟨p, l, ns, pot, sl, m, tks, sz, rfl, Tt, hpo, m1, m8, t8, hsl, szo, d3, k⟩ := h
 refine' ⟨_, ?hb, ?rd⟩
 case' hb => skip
 case' hb => refine' zf ?g1 ?g2
 case' g2 => refine' zf ?g3 ?g4
 case' g4 => refine' zf ?g5 ?g6
 case' g6 => refine' zf ?g7 ?g8
 case' g8 => refine' zf ?g9 ?g10
 case' g10 => refine' zg ?g11
 case g1 => exact zj nmLt 4 (ZS (zq vW (pvd nmLt 3) zd (zt _)) (pe_f D hr (by omega) (pa_2 (pvd nmLt 0) zd)) (zo zR zd (pe_f D hr (by omega) (pa_2 (pvd nmLt 0) zd))))
 case' g3 => refine' zC ?g12 ?g13 zw
 case g12 => exact PW.pt (pw_and (zq zV (pvd nmLt 4) zd (zt _)) (pw_and1 (zq (op_neE hr) (ziq (pvd nmLt 1) zd) (zy xx) (zt _))))
 case' g13 => refine' zf ?g15 ?g16
 case' g16 => refine' zf ?g17 ?g18
 case' g18 => refine' zg ?g19
 case g15 => exact zj nmLt 5 (pe_f D hr (by omega) (pa_2 (pvd nmLt 0) (zF zr B.len PySem.boot_len (pa_1 (ziq (pvd nmLt 1) zd)))))
 case g17 => exact zj nmLt 6 (pe_f fK hr (by omega) (pa_1 (ziq (ziq (pvd nmLt 1) zd) (pvd nmLt 5))))
 case' g19 => refine' zl ?g20
 case' g20 => refine' zy ?g21
 case' g21 => refine' pa_c zp ?g22
 case' g22 => refine' pa_2 (pvd nmLt 5) ?g23
 case' g23 => refine' zK zS B.tuple PyProof.Rows.boot_tuple ?g24
 case' g24 => refine' pa_1 ?g25
 case' g25 => refine' zB (ix := [3, 1, 2, 0]) bsLta.toCScope rfl rfl ?g26 ?g27 ?g28 ?g29
 case g26 => exact xi (pvd nmLt 6)
 case g27 => exact fun _ _ _ _ _ _ => pgb bsLta 0
 case g28 => exact fun _ _ _ _ _ _ => zz
 case g29 => exact fun _ _ _ _ _ _ => pe_f fR hr (by omega) (pa_c (pvb bsLta 4) (pa_c (pvb bsLta 2) (pa_2 (pvb bsLta 3) (zo ww (pvb bsLta 1) zd)))) (bsLta.g 0)
 case' g5 => refine' zC ?g30 ?g31 zw
 case g30 => exact zq zV (pvd nmLt 4) zd (zt _)
 case' g31 => refine' zf ?g33 ?g34
 case' g34 => refine' zf ?g35 ?g36
 case' g36 => refine' zg ?g37
 case g33 => exact zj nmLt 7 (zy (pa_c zp (pa_2 (pe_f D hr (by omega) (pa_2 (pvd nmLt 0) (zF zr B.len PySem.boot_len (pa_1 (ziq (pvd nmLt 1) zd))))) (ziq (zE (pa_c zd (pa_c zd (pa_2 zd (zo wx zd zd))))) (pe_f D hr (by omega) (pa_2 (pvd nmLt 0) zd))))))
 case g35 => exact zj nmLt 8 (pe_f fR hr (by omega) (pa_c (pvd nmLt 0) (pa_c (pvd nmLt 1) (pa_2 (pvd nmLt 2) (zo ww (pvd nmLt 3) zd)))))
 case g37 => exact zl (zo yx (pvd nmLt 7) (zy (pa_2 (pvd nmLt 8) (pe_f fR hr (by omega) (pa_c (pvd nmLt 0) (pa_c (pvd nmLt 1) (pa_2 (pvd nmLt 2) (zo ww (pvd nmLt 3) zd))))))))
 case' g7 => refine' zC ?g38 ?g39 zw
 case g38 => exact zq zV (pvd nmLt 4) zd (zt _)
 case' g39 => refine' zg ?g41
 case g41 => exact zl (zy (pa_2 zp (pe_f fW hr (by omega) (pa_1 (pvd nmLt 0)))))
 case g9 => exact zj nmLt 9 (pe_f D hr (by omega) (pa_2 (pvd nmLt 0) (zF zr B.len PySem.boot_len (pa_1 (pvd nmLt 2)))))
 case' g11 => refine' zl ?g42
 case' g42 => refine' zy ?g43
 case' g43 => refine' pa_c zp ?g44
 case' g44 => refine' pa_2 (pvd nmLt 9) ?g45
 case' g45 => refine' zK zS B.tuple PyProof.Rows.boot_tuple ?g46
 case' g46 => refine' pa_1 ?g47
 case' g47 => refine' zB (ix := [0]) bsLtb.toCScope rfl rfl ?g48 ?g49 ?g50 ?g51
 case g48 => exact yR B.range (pa_1 (ziq (pvd nmLt 2) (pvd nmLt 9)))
 case g49 => exact fun _ _ _ _ _ _ => pgb bsLtb 0
 case g50 => exact fun _ _ _ _ _ _ => zz
 case g51 => exact fun _ _ _ _ _ _ => pe_f fW hr (by omega) (pa_1 (pvb bsLtb 1)) (bsLtb.g 0)
 have nsp : sl ≠ p := fun z => by
  obtain ⟨c, e, hp⟩ := Tt.ex
  rw [z, hp] at hsl
  injection hsl with hsl
  injection hsl with hsl
  match sz, szo.l1, hsl with
  | n :: sz, _, hsl => injection hsl with h1 _; cases h1
 with_reducible refine yM (fun σ H' => ∃ way : Int, σ = [some (.ref p), some (.ref pot), some (.ref sl), some (.int ((d + 1 : Nat) : Int)), some (.int way), none, none, none, none, none] ∧ 0 ≤ way ∧ way ≤ 3 ∧ (way < 2 → 1 ≤ d) ∧ Tp H' p l ns ∧ Bp p H H') ?_ ?_
 rotate_left
 ·intro hp
  refine xG ?_
  walk_at "v"
  refine iteD (fun hd1 => ?_) (fun hd1 => ?_)
  ·walk_at "v"
   refine ⟨p, l, ns, 4, rfl, Tt, by decide, by decide, fun r c e r0 r1 => ?_⟩
   refine yk ?_
   exact hp _ _ ⟨r, rfl, r0, by omega, fun _ => by omega, Tt.draw, Bp.at Bp.refl⟩
  ·walk_at "v"
   refine ⟨p, l, ns, 2, rfl, Tt, by decide, by decide, fun r c e r0 r1 => ?_⟩
   refine wJ ?_
   refine yk ?_
   refine hp _ _ ⟨2 + r, rfl, by omega, by omega, fun _ => by omega, Tt.draw, Bp.at Bp.refl⟩
 rintro σ H1 ⟨way, rfl, w0, w3, wd, T1, b1⟩
 have TK1 := Tp.tkb Tt b1
 have hsl1 := b1 _ _ nsp hsl
 have hpo1 := hpo.tk TK1
 with_reducible refine yM (fun σ H' => σ = [some (.ref p), some (.ref pot), some (.ref sl), some (.int ((d + 1 : Nat) : Int)), some (.int way), none, none, none, none, none] ∧ Tp H' p l ns ∧ Bp p H H' ∧ H' sl = some (.lst (szV sz)) ∧ PoA H' pot m tks) ?_ ?_
 rotate_left
 ·intro hp
  obtain ⟨ps, pr, us, xs, ras, p1, p2, p3, p4, p5⟩ := hpo1
  have hral := p5.len
  refine wc ?_
  walk_at "v"
  refine ⟨rfl, ?_⟩
  walk_at "v"
  refine iteD (fun hw0 => ?_) (fun hw0 => ?_)
  ·have hw0' : way = 0 := V.int.inj hw0
   walk_at "v"
   refine zm (v := .ref pr) p1 (show atI _ ((1 : Nat) : Int) = _ from zx rfl) ?_
   walk_at "v"
   refine ⟨Nat.zero_le _, fun z hz => ?_⟩
   have K2 : Same H1 (upd H1 z (.tup [])) := Same.new (Same.refl _) hz
   have T2 := T1.new (o := .tup []) hz
   have e2 : upd H1 z (.tup []) z = some (.tup []) := ze
   generalize upd H1 z (.tup []) = H2 at K2 T2 e2 ⊢
   refine ⟨pr, z, _, rfl, rfl, K2 _ _ p4, e2, ?_⟩
   rw [List.length_map]
   walk_at "v"
   refine iteNB (fun hne => ?_) (fun he => ?_)
   ·have hr0 : 0 < ras.length := by omega
    walk_at "v"
    refine zm (v := .ref pr) (K2 _ _ p1) (show atI _ ((1 : Nat) : Int) = _ from zx rfl) ?_
    walk_at "v"
    refine ⟨pr, _, rfl, .inr (SqT.of (K2 _ _ p4)), ?_⟩
    rw [List.length_map]
    refine ⟨p, l, ns, (ras.length : Int), rfl, T2, by omega, by omega, fun r c e r0 r1 => ?_⟩
    obtain ⟨ri, rfl⟩ := ofI r0
    have hri : ri < ras.length := by omega
    have hrt : ri < tks.length := by omega
    have T3 := T2.draw (c := c) (e := e)
    have b3 : Bp p H (upd H2 p (.lst [.ref l, .int c, .int e])) := (b1.trans (Bp.same K2)).at
    have TK3 := Tp.tkb Tt b3
    have TK13 : TK H1 (upd H2 p (.lst [.ref l, .int c, .int e])) := (TK.same K2).trans T2.tk
    generalize upd H2 p (.lst [.ref l, .int c, .int e]) = H3 at T3 b3 TK3 TK13 ⊢
    obtain ⟨ra, q1, ta, gb, q2, q3, q4⟩ := p5.at (List.getElem?_eq_getElem hrt)
    walk_at "v"
    refine zm (v := .ref pr) (TK13.t _ _ p1) (show atI _ ((1 : Nat) : Int) = _ from zx rfl) ?_
    walk_at "v"
    refine zm (v := .ref ra) (TK13.t _ _ p4) (zx (by rw [List.getElem?_map, q1]; rfl)) ?_
    walk_at "v"
    refine ⟨ra, ta, gb, tks[ri], rfl, TK13.t _ _ q2, TK13.t _ _ q3, q4, fun tl xs' H4 K4 htl e4 hx4 hx8 => ?_⟩
    have T4 := T3.same K4
    have b4 := b3.trans (Bp.same K4)
    walk_at "v"
    refine ⟨tl, rfl, ⟨_, SqL.of e4⟩, fun D5 hD5 => ?_⟩
    have ntp : tl ≠ p := fun z => by rw [z] at htl; exact absurd htl (by obtain ⟨_, _, e⟩ := T3.ex; rw [e]; intro z; cases z)
    refine wD (S := SB p l ns) (xs := xs') (ρ := [some (.int ((d + 1 : Nat) : Int)), some (.ref pot), some (.ref sl), some (.ref p)]) (fun j y H' => ∃ t : Tr d, TrAt d H' t y ∧ OkT m tks sz d t) (YZ T4 hD5) (fun t ⟨u, h1, h2⟩ => ⟨u, TrAt.tk t _ h1, h2⟩) (fun a b => Yq T4 a b) (by omega) (fun H' k' => SqL.of (k'.1 _ _ ntp e4)) ?_ ?_
    ·rintro i x H' R hx S' kR
     have T' := S'.2 T4
     have b' := b4.trans S'.1
     walk_at "v"
     have d1 := wd (by omega)
     cases d with
     | zero => omega
     | succ d =>
     rw [show (((d + 1 + 1 : Nat) : Int) - 1) = ((d + 1 : Nat) : Int) by omega]
     exact ⟨p, l, ns, pot, sl, m, tks, sz, rfl, T', hpo.tk (Tp.tkb Tt b'), m1, m8, t8, b' _ _ nsp hsl, szo, by omega, fun v t H5 hv ho T5 b5 => kR v H5 ⟨b5, fun _ => T5⟩ ⟨t, hv, ho⟩⟩
    ·rintro ys H5 ⟨S5, hl5, hY⟩ e5
     have T5 := S5.2 T4
     have b5 := b4.trans S5.1
     obtain ⟨ts, hts⟩ := ZG (R := fun (t : Tr d) y => TrAt d H5 t y ∧ OkT m tks sz d t) ys fun y hy => by
      obtain ⟨j, hj, rfl⟩ := List.getElem_of_mem hy
      exact hY j _ (List.getElem?_eq_getElem hj)
     obtain ⟨hA, hO⟩ := Z3 hts
     have htl' := hA.len
     walk_at "v"
     refine ⟨D5, _, rfl, e5, fun q H6 K6 e6 => ?_⟩
     walk_at "v"
     refine ⟨sz3, fun z' hz' => ?_⟩
     have K7 : Same H6 (upd H6 z' (.tup [.str "lacks", .int (ri : Int), .ref q])) := Same.new (Same.refl _) hz'
     have K57 := K6.trans K7
     refine k _ (.lacks ri ts) _ ⟨z', q, ys, rfl, ze, K7 _ _ e6, hA.mono fun _ _ h => TrAt.tk (TK.same K57) _ h⟩ ⟨by omega, tks[ri], List.getElem?_eq_getElem hrt, by omega, hx8, hO⟩ (T5.same K57) (b5.trans (Bp.same K57))
   ·refine hp _ _ ⟨rfl, T2, b1.trans (Bp.same K2), K2 _ _ hsl1, ?_⟩
    exact hpo.tk (TK1.trans (TK.same K2))
  ·exact hp _ _ ⟨rfl, T1, b1, hsl1, hpo.tk TK1⟩
 rintro σ H2 ⟨rfl, T2, b2, hsl2, hpo2⟩
 walk_at "v"
 refine ⟨rfl, ?_⟩
 walk_at "v"
 refine iteD (fun hw1 => ?_) (fun hw1 => ?_)
 ·have hw1' : way = 1 := V.int.inj hw1
  have d1 := wd (by omega)
  obtain ⟨ps, pr, us, xs, ras, p1, p2, p3, p4, p5⟩ := hpo2
  cases d with
  | zero => omega
  | succ d =>
  walk_at "v"
  refine zm (v := .ref ps) p1 (show atI _ ((0 : Nat) : Int) = _ from zx rfl) ?_
  walk_at "v"
  refine ⟨ps, _, rfl, .inr (SqT.of p2), ?_⟩
  rw [p3]
  refine ⟨p, l, ns, (m : Int), rfl, T2, by omega, by omega, fun r c e r0 r1 => ?_⟩
  obtain ⟨si, rfl⟩ := ofI r0
  have T3 := T2.draw (c := c) (e := e)
  have b3 : Bp p H (upd H2 p (.lst [.ref l, .int c, .int e])) := b2.at
  generalize upd H2 p (.lst [.ref l, .int c, .int e]) = H3 at T3 b3 ⊢
  walk_at "v"
  refine w_rI ⟨by decide, by decide, by decide⟩ ?_
  rw [show ((10 : Int) ^ Int.toNat 39) = (10 : Int) ^ 39 from rfl]
  walk_at "v"
  refine ⟨sz4, fun il hil => ?_⟩
  have npi := T3.np hil
  have T4 := T3.new (o := .lst [.int 0, .int 1, .int 2, .int (10 ^ 39)]) hil
  have b4 : Bp p H (upd H3 il (.lst [.int 0, .int 1, .int 2, .int (10 ^ 39)])) := b3.new hil
  have e4 : upd H3 il (.lst [.int 0, .int 1, .int 2, .int (10 ^ 39)]) il = some (.lst (([0, 1, 2, 10 ^ 39] : List Int).map V.int)) := ze
  generalize upd H3 il (.lst [.int 0, .int 1, .int 2, .int (10 ^ 39)]) = H4 at T4 b4 e4 ⊢
  walk_at "v"
  refine ⟨p, l, ns, 4, rfl, T4, by decide, by decide, fun r' c' e' r0' r1' => ?_⟩
  obtain ⟨xv, hxv, hat⟩ := wM (xs := [0, 1, 2, 10 ^ 39]) r0' r1'
  have T5 := T4.draw (c := c') (e := e')
  have b5 : Bp p H (upd H4 p (.lst [.ref l, .int c', .int e'])) := b4.at
  have e5 : upd H4 p (.lst [.ref l, .int c', .int e']) il = some (.lst (([0, 1, 2, 10 ^ 39] : List Int).map V.int)) := by rw [zi (Ne.symm npi)]; exact e4
  generalize upd H4 p (.lst [.ref l, .int c', .int e']) = H5 at T5 b5 e5 ⊢
  refine zD e5 hat ?_
  have hxv' : Nu xv ∧ 0 ≤ xv := by
   simp only [List.mem_cons, List.not_mem_nil, or_false] at hxv
   rcases hxv with rfl | rfl | rfl | rfl
   ·exact ⟨nu4.1, by decide⟩
   ·exact ⟨nu4.2.1, by decide⟩
   ·exact ⟨nu4.2.2.1, by decide⟩
   ·exact ⟨nu4.2.2.2, by decide⟩
  walk_at "v"
  refine ⟨sz3, fun hq hhq => ?_⟩
  have T6 := T5.new (o := .tup [.str "cut", .int (si : Int), .int xv]) hhq
  have b6 : Bp p H (upd H5 hq (.tup [.str "cut", .int (si : Int), .int xv])) := b5.new hhq
  have e6 : upd H5 hq (.tup [.str "cut", .int (si : Int), .int xv]) hq = some (.tup [.str "cut", .int (si : Int), .int xv]) := ze
  generalize upd H5 hq (.tup [.str "cut", .int (si : Int), .int xv]) = H6 at T6 b6 e6 ⊢
  walk_at "v"
  rw [show (((d + 1 + 1 : Nat) : Int) - 1) = ((d + 1 : Nat) : Int) by omega]
  refine ⟨p, l, ns, pot, sl, m, tks, sz, rfl, T6, hpo.tk (Tp.tkb Tt b6), m1, m8, t8, b6 _ _ nsp hsl, szo, by omega, fun va ta H7 hva oa T7 b7 => ?_⟩
  have b07 := b6.trans b7
  walk_at "v"
  rw [show (((d + 1 + 1 : Nat) : Int) - 1) = ((d + 1 : Nat) : Int) by omega]
  refine ⟨p, l, ns, pot, sl, m, tks, sz, rfl, T7, hpo.tk (Tp.tkb Tt b07), m1, m8, t8, b07 _ _ nsp hsl, szo, by omega, fun vb tb H8 hvb ob T8 b8 => ?_⟩
  walk_at "v"
  refine ⟨sz2, fun z hz => ?_⟩
  obtain ⟨H9, q, K9, e9⟩ := nob (.tup [va, vb]) hz; rw [q]; clear q
  have TK68 := (Tp.tkb T6 b7).trans (Tp.tkb T7 b8)
  refine ⟨hq, z, _, _, rfl, rfl, K9 _ _ (TK68.t _ _ e6), e9, by show 3 + 2 ≤ 1000; decide, fun q HQ KQ eQ => ?_⟩
  have K8Q := K9.trans KQ
  refine k _ (.cut si xv ta tb) _ ⟨q, va, vb, rfl, eQ, TrAt.tk ((Tp.tkb T7 b8).trans (TK.same K8Q)) _ hva, TrAt.tk (TK.same K8Q) _ hvb⟩ ⟨by omega, by omega, hxv'.1, hxv'.2, oa, ob⟩ (T8.same K8Q) ((b07.trans b8).trans (Bp.same K8Q))
 walk_at "v"
 refine ⟨rfl, ?_⟩
 walk_at "v"
 refine iteD (fun hw2 => ?_) (fun hw2 => ?_)
 ·walk_at "v"
  refine ⟨p, l, ns, rfl, T2, fun q w' H3 ow hw T3 b3 => ?_⟩
  walk_at "v"
  refine ⟨sz2, fun z hz => ?_⟩
  have K4 : Same H3 (upd H3 z (.tup [.str "shut", .ref q])) := Same.new (Same.refl _) hz
  exact k _ (.shut w') _ ⟨z, q, rfl, ze, hw.tk (TK.same K4)⟩ ow (T3.same K4) ((b2.trans b3).trans (Bp.same K4))
 walk_at "v"
 refine ⟨sl, _, rfl, .inl (SqL.of hsl2), ?_⟩
 rw [List.length_map]
 have hz3 := szo.l3
 have hz1 := szo.l1
 refine ⟨p, l, ns, (sz.length : Int), rfl, T2, by omega, by omega, fun r c e r0 r1 => ?_⟩
 obtain ⟨pi, rfl⟩ := ofI r0
 have hpi : pi < sz.length := by omega
 have T3 := T2.draw (c := c) (e := e)
 have b3 : Bp p H (upd H2 p (.lst [.ref l, .int c, .int e])) := b2.at
 generalize upd H2 p (.lst [.ref l, .int c, .int e]) = H3 at T3 b3 ⊢
 have hsl3 := b3 _ _ nsp hsl
 obtain ⟨g1, g4⟩ := szo.n _ (List.getElem_mem hpi)
 walk_at "v"
 refine zD (v := .int (sz[pi] : Int)) hsl3 (zx (by rw [List.getElem?_map, List.getElem?_eq_getElem hpi]; rfl)) ?_
 walk_at "v"
 refine ⟨_, rfl, by omega, by omega, fun D hD => ?_⟩
 rw [Int.toNat_natCast]
 refine gm_rng (S := SB p l ns) (lo := 0) (n := sz[pi]) (ρ := [some (.ref p)]) (fun j y H' => ∃ aw : Addr × List Wt, y = .ref aw.1 ∧ WsAt H' aw.1 aw.2 ∧ WOk aw.2) (YZ T3 hD) (fun t ⟨u, h1, h2, h3⟩ => ⟨u, h1, h2.tk t, h3⟩) (fun a b => Yq T3 a b) (by omega) ?_ ?_
 ·rintro i H' R hi S' kR
  walk_at "v"
  exact ⟨p, l, ns, rfl, S'.2 T3, fun q w' H5 ow hw T5 b5 => kR _ H5 ⟨b5, fun _ => T5⟩ ⟨(q, w'), rfl, hw, ow⟩⟩
 ·rintro ys H5 ⟨S5, hl5, hY⟩ e5
  have T5 := S5.2 T3
  have b5 := b3.trans S5.1
  obtain ⟨zs, hzs⟩ := ZG (R := fun (z : Addr × List Wt) y => y = V.ref z.1 ∧ WsAt H5 z.1 z.2 ∧ WOk z.2) ys fun y hy => by
   obtain ⟨j, hj, rfl⟩ := List.getElem_of_mem hy
   exact hY j _ (List.getElem?_eq_getElem hj)
  have hzl := hzs.len
  obtain ⟨q1, q2, q3⟩ := Xe hzs
  subst q1
  walk_at "v"
  refine ⟨D, _, rfl, e5, fun q H6 K6 e6 => ?_⟩
  walk_at "v"
  refine ⟨sz3, fun z hz => ?_⟩
  have K7 : Same H6 (upd H6 z (.tup [.str "right", .int (pi : Int), .ref q])) := Same.new (Same.refl _) hz
  have K57 := K6.trans K7
  refine k _ (.right pi (zs.map (·.2))) _ ⟨z, q, zs.map (·.1), rfl, ze, K7 _ _ e6, q2.mono fun _ _ h => h.tk (TK.same K57)⟩ ⟨by omega, sz[pi], List.getElem?_eq_getElem hpi, by rw [List.length_map, hzl]; exact hl5, g1, g4, q3⟩ (T5.same K57) (b5.trans (Bp.same K57))
def WJ : Sp := fun vs H Q E => ∃ d, d ≤ 3 ∧ spLt (d + 1) vs H Q E
theorem nu6 : ∀ z ∈ ([0, 1, -1, 2, -9, 10 ^ 39] : List Int), z ∈ nuL := by decide +kernel
theorem vE {ys : List V} {P : Int → Prop} (h : ∀ (j : Nat) (y : V), ys[j]? = some y → ∃ z, y = .int z ∧ P z) : ∃ zs : List Int, ys = zs.map V.int ∧ ∀ z ∈ zs, P z := by
 induction ys with
 | nil => exact ⟨[], rfl, fun z h => nomatch h⟩
 | cons y ys ih =>
  obtain ⟨z, rfl, hz⟩ := h 0 y rfl
  obtain ⟨zs, rfl, hzs⟩ := ih fun j y e => h (j + 1) y e
  refine ⟨z :: zs, rfl, fun x hx => ?_⟩
  rcases List.mem_cons.mp hx with rfl | hx
  ·exact hz
  ·exact hzs x hx
theorem Z7 {A : Ak} {n : Nat} (h : A.ok n) : SzOk (szA A) := by
 have key : ∀ sz : List Nat, sz = [2] ∨ sz = [3, 3] ∨ sz = [4, 3, 3] → SzOk sz := fun sz h => by
  rcases h with rfl | rfl | rfl
  ·exact ⟨by decide, by decide, by decide⟩
  ·exact ⟨by decide, by decide, by decide⟩
  ·exact ⟨by decide, by decide, by decide⟩
 cases A with
 | sum a => exact key _ (.inl rfl)
 | part a c => exact key _ (.inl rfl)
 | two w a b =>
  rcases szA_two (a := a) (b := b) h.1 with ⟨_, e⟩ | ⟨_, e⟩
  ·exact key _ (.inr (.inl e))
  ·exact key _ (.inr (.inr e))
abbrev sLap : Stmt := top 77
abbrev nLap : List Str := ["_law_tape_here", "_law_pot_here", "_law_ask_here", "_law_some", "_law_kepts", "_law_k", "_law_heights"]
theorem yV : Nm nLap (zc sLap) := nmk (by decide +kernel)
theorem scLap : FnScope nLap ["_law_tape_here", "_law_pot_here", "_law_ask_here"] (zc sLap) := fsk (by decide +kernel)
def qLapa (s : Stmt) : Scope := match s with
 | .For _ _ [(.Expr (.Call _ [(.Call _ [(.ListComp _ _ sc _)] _ _)] _ _) _)] _ _ => sc
 | _ => nsc
abbrev cLapa : Scope := qLapa ((zu sLap).getD 2 (.Pass ⟨0, 0, 0, 0⟩))
theorem bsLapa : BScope (zc sLap) cLapa ["_law_one"] ["_law_some", "_law_tape_here"] ["_law_draw"] := { okind := by decide +kernel, kind := by decide +kernel, nocell := by decide +kernel, names := by decide +kernel, fr := by decide +kernel, ff := by decide +kernel, nd := by decide +kernel, vis := by decide +kernel, loc := by decide +kernel, gl := by decide +kernel }
def qLapb (s : Stmt) : Scope := match s with
 | .Assign _ (.Call _ [(.ListComp _ _ sc _)] _ _) _ => sc
 | _ => nsc
abbrev cLapb : Scope := qLapb ((zu sLap).getD 3 (.Pass ⟨0, 0, 0, 0⟩))
theorem bsLapb : BScope (zc sLap) cLapb ["_law_one"] ["_law_tape_here"] ["_law_draw"] := { okind := by decide +kernel, kind := by decide +kernel, nocell := by decide +kernel, names := by decide +kernel, fr := by decide +kernel, ff := by decide +kernel, nd := by decide +kernel, vis := by decide +kernel, loc := by decide +kernel, gl := by decide +kernel }
def WL : Sp := fun vs H Q _ => ∃ (p l : Addr) (ns : List Int) (pot qa : Addr) (m : Nat) (tks : List (List Int)) (A : Ak) (n : Nat), vs = [.ref p, .ref pot, .ref qa] ∧ Tp H p l ns ∧ PoA H pot m tks ∧ 1 ≤ m ∧ m ≤ 8 ∧ tks.length ≤ 8 ∧ AkAt H qa A ∧ A.ok n ∧ ∀ (v : V) (x : Pap) (H' : Hp), PapAt H' v x → x.Ok m tks (szA A) → Tp H' p l ns → Bp p H H' → Q v H'
theorem ok_Lap {f : Addr} {fd : FuncData} (B : Blt4 mg) (D : Has P w K mg base 1 "_law_draw" ["_law_tape_here", "_law_many"] xh) (fT : Has P w K mg base 7 "_law_tree" ["_law_tape_here", "_law_pot_here", "_law_sizes_here", "_law_deep"] WJ) (fZ : Has P w K mg base 1 "_law_sizes" ["_law_ask_here"] WK) (F : Fun K "_law_any_paper" "_law_any_paper" sLap f fd) : FnOk P w K mg base CX0 8 f fd ["_law_tape_here", "_law_pot_here", "_law_ask_here"] WL := by
 refine F.ok scLap (fun vs H Q E h => ?_) (fun cdv A outer s H vs Q E hr h => ?_)
 ·obtain ⟨p, l, ns, pot, qa, m, tks, A, n, rfl, _⟩ := h
  rfl
 obtain ⟨p, l, ns, pot, qa, m, tks, Ak', n, rfl, Tt, hpo, m1, m8, t8, hak, hao, k⟩ := h
 refine' ⟨_, ?hb, ?rd⟩
 case' hb => skip
 case' hb => refine' zf ?g1 ?g2
 case' g2 => refine' zf ?g3 ?g4
 case' g4 => refine' zf ?g5 ?g6
 case' g6 => refine' zf ?g7 ?g8
 case' g8 => refine' zg ?g9
 case g1 => exact zj yV 3 (zE (pa_c zd (pa_c zd (pa_c (wN xu zd) (pa_c zd (pa_2 (wN xu zd) (zo wx zd zd)))))))
 case g3 => exact zj yV 4 (zE xx)
 case' g5 => refine' yt PassesOwn.never rfl ?g10 (pgd yV 5) ?g11
 case g10 => exact yR B.range (pa_1 (pe_f D hr (by decide) (pa_2 (pvd yV 0) zd)))
 case' g11 => refine' zg ?g12
 case' g12 => refine' yE ?g13
 case' g13 => refine' yn PySem.F.plainAttrs_list PySem.F.slot_list_append PySem.F.type_list_append yI (pvd yV 4) ?g14
 case' g14 => refine' pa_1 ?g15
 case' g15 => refine' zK zS B.tuple PyProof.Rows.boot_tuple ?g16
 case' g16 => refine' pa_1 ?g17
 case' g17 => refine' zB (ix := [3, 0]) bsLapa.toCScope rfl rfl ?g18 ?g19 ?g20 ?g21
 case g18 => exact yd (ziq (pvd yV 1) zd)
 case g19 => exact fun _ _ _ _ _ _ => pgb bsLapa 0
 case g20 => exact fun _ _ _ _ _ _ => zz
 case g21 => exact fun _ _ _ _ _ _ => ziq (pvb bsLapa 1) (pe_f D hr (by decide) (pa_2 (pvb bsLapa 2) zd) (bsLapa.g 0))
 case' g7 => refine' zj yV 6 ?g22
 case' g22 => refine' zK zS B.tuple PyProof.Rows.boot_tuple ?g23
 case' g23 => refine' pa_1 ?g24
 case' g24 => refine' zB (ix := [0]) bsLapb.toCScope rfl rfl ?g25 ?g26 ?g27 ?g28
 case g25 => exact yd (ziq (pvd yV 1) zd)
 case g26 => exact fun _ _ _ _ _ _ => pgb bsLapb 0
 case g27 => exact fun _ _ _ _ _ _ => zz
 case g28 => exact fun _ _ _ _ _ _ => ziq (zE (pa_c zd (pa_c zd (pa_2 zd (zo wx zd zd))))) (pe_f D hr (by decide) (pa_2 (pvb bsLapb 1) zd) (bsLapb.g 0))
 case g9 => exact zl (zy (pa_c (zK zS B.tuple PyProof.Rows.boot_tuple (pa_1 (pvd yV 4))) (pa_2 (pvd yV 6) (pe_f fT hr (by decide) (pa_c (pvd yV 0) (pa_c (pvd yV 1) (pa_2 (pe_f fZ hr (by decide) (pa_1 (pvd yV 2))) (zo zR zd (pe_f D hr (by decide) (pa_2 (pvd yV 0) zd))))))))))
 walk_at "v"
 refine ⟨_, rfl, ?_⟩
 walk_at "v"
 refine ⟨_, rfl, ?_⟩
 walk_at "v"
 refine w_rI ⟨by decide, by decide, by decide⟩ ?_
 rw [show ((10 : Int) ^ Int.toNat 39) = (10 : Int) ^ 39 from rfl]
 walk_at "v"
 refine ⟨sz6, fun so hso => ?_⟩
 have npso := Tt.np hso
 have T1 := Tt.new (o := .lst [.int 0, .int 1, .int (-1), .int 2, .int (-9), .int (10 ^ 39)]) hso
 have K1 : Same H (upd H so (.lst [.int 0, .int 1, .int (-1), .int 2, .int (-9), .int (10 ^ 39)])) := Same.new (Same.refl _) hso
 have e1 : upd H so (.lst [.int 0, .int 1, .int (-1), .int 2, .int (-9), .int (10 ^ 39)]) so = some (.lst (([0, 1, -1, 2, -9, 10 ^ 39] : List Int).map V.int)) := ze
 generalize upd H so (.lst [.int 0, .int 1, .int (-1), .int 2, .int (-9), .int (10 ^ 39)]) = H1 at T1 K1 e1 ⊢
 walk_at "v"
 refine ⟨Nat.zero_le _, fun kl hkl => ?_⟩
 have npk := T1.np hkl
 have nlk := T1.nl hkl
 have nsk : so ≠ kl := zh e1 hkl
 have hkl0 : H kl = none := Same.free K1 hkl
 have T2 := T1.new (o := .lst []) hkl
 have K2 : Same H (upd H1 kl (.lst [])) := K1.new hkl
 have e2 : upd H1 kl (.lst []) kl = some (.lst []) := ze
 have e2s : upd H1 kl (.lst []) so = some (.lst (([0, 1, -1, 2, -9, 10 ^ 39] : List Int).map V.int)) := by rw [zi nsk]; exact e1
 generalize upd H1 kl (.lst []) = H2 at T2 K2 e2 e2s ⊢
 walk_at "v"
 refine ⟨p, l, ns, 9, rfl, T2, by decide, by decide, fun r c e r0 r1 => ?_⟩
 obtain ⟨nk, rfl⟩ := ofI r0
 have T3 := T2.draw (c := c) (e := e)
 have e3 : upd H2 p (.lst [.ref l, .int c, .int e]) kl = some (.lst []) := by rw [zi (Ne.symm npk)]; exact e2
 have e3s : upd H2 p (.lst [.ref l, .int c, .int e]) so = some (.lst (([0, 1, -1, 2, -9, 10 ^ 39] : List Int).map V.int)) := by rw [zi (Ne.symm npso)]; exact e2s
 have b3 : Bq p kl H (upd H2 p (.lst [.ref l, .int c, .int e])) := fun a u n1 n2 ha => by rw [zi n1]; exact K2 _ _ ha
 generalize upd H2 p (.lst [.ref l, .int c, .int e]) = H3 at T3 e3 e3s b3 ⊢
 have bqt : ∀ {H' : Hp}, Bq p kl H H' → TK H H' := fun {H'} b => by
  obtain ⟨c0, e0, hp0⟩ := Tt.ex
  exact ⟨fun q ys e => b _ _ (xI e hp0 (by intro z; cases z)) (zh e hkl0) e, fun q u v e => b _ _ (xI e hp0 (by intro z; cases z)) (zh e hkl0) e⟩
 refine ⟨_, rfl, by omega, by omega, ?_⟩
 rw [Int.toNat_natCast]
 refine yu (n := nk) (fun i σ H' => ∃ (u5 : Option V) (as : List Addr) (kep : List (List Int)), σ = [some (.ref p), some (.ref pot), some (.ref qa), some (.ref so), some (.ref kl), u5, none] ∧ H' kl = some (.lst (as.map V.ref)) ∧ RowsAt H' as kep ∧ kep.length = i ∧ (∀ r ∈ kep, r.length = m ∧ ∀ z ∈ r, Nu z) ∧ Tp H' p l ns ∧ H' so = some (.lst (([0, 1, -1, 2, -9, 10 ^ 39] : List Int).map V.int)) ∧ Bq p kl H H') ⟨_, [], [], rfl, e3, trivial, rfl, (fun x hx => by cases hx), T3, e3s, b3⟩ ?_ ?_
 ·rintro i σ H4 hi ⟨u5, as, kep, rfl, e4, hA, hkl4, hko, T4, e4s, b4⟩
  have hal := hA.len
  obtain ⟨ps, pr, us, xs, ras, p1, p2, p3, p4, p5⟩ := hpo.tk (bqt b4)
  walk_at "v"
  refine ⟨.inl ⟨rfl, _, SqL.of e4⟩, ?_⟩
  walk_at "v"
  refine zm (v := .ref ps) p1 (show atI _ ((0 : Nat) : Int) = _ from zx rfl) ?_
  refine ⟨ps, rfl, ⟨_, SqT.of p2⟩, fun D hD => ?_⟩
  refine yY (S := SB p l ns) (xs := xs) (ρ := [some (.ref so), some (.ref p)]) (fun j y H' => ∃ z, y = .int z ∧ Nu z) (YZ T4 hD) (fun t h => h) (fun a b => Yq T4 a b) (by omega) (fun H' k' => SqT.of ((Tp.tkb T4 k'.1).t _ _ p2)) ?_ ?_
  ·rintro j x H' R hx S' kR
   walk_at "v"
   refine ⟨p, l, ns, 6, rfl, S'.2 T4, by decide, by decide, fun r c e r0 r1 => ?_⟩
   obtain ⟨zv, hzv, hat⟩ := wM (xs := [0, 1, -1, 2, -9, 10 ^ 39]) r0 r1
   refine zD (by rw [zi (Ne.symm npso)]; exact S'.1 _ _ (Ne.symm npso) e4s) hat ?_
   exact kR _ _ ⟨Bp.at Bp.refl, fun t => t.draw⟩ ⟨zv, rfl, nu6 zv hzv⟩
  rintro ys H5 ⟨S5, hl5, hY⟩ e5
  obtain ⟨zs, rfl, hzs⟩ := vE hY
  rw [List.length_map] at hl5
  have T5 := S5.2 T4
  refine ⟨D, _, rfl, e5, fun q H6 K6 e6 => ?_⟩
  have e46 := K6 _ _ (S5.1 _ _ (Ne.symm npk) e4)
  walk_at "v"
  refine ⟨kl, _, _, rfl, rfl, e46, by rw [List.length_map]; exact zn (by omega), ?_⟩
  have T7 : TK H6 (upd H6 kl (.lst (as.map V.ref ++ [.ref q]))) := TK.lst e46
  refine ⟨_, as ++ [q], kep ++ [zs], rfl, by rw [ze, List.map_append]; rfl, RowsAt.app (RowsAt.tk (((Tp.tkb T4 S5.1).trans (TK.same K6)).trans T7).t hA) ⟨T7.t _ _ e6, trivial⟩, by rw [List.length_append, hkl4]; rfl, fun r hr' => ?_, (T5.same K6).put npk nlk, by rw [zi nsk]; exact K6 _ _ (S5.1 _ _ (Ne.symm npso) e4s), fun a u n1 n2 ha => by rw [zi n2]; exact K6 _ _ (S5.1 _ _ n1 (b4 _ _ n1 n2 ha))⟩
  rcases List.mem_append.mp hr' with hr' | hr'
  ·exact hko r hr'
  ·simp only [List.mem_cons, List.not_mem_nil, or_false] at hr'
   subst hr'
   exact ⟨by omega, hzs⟩
 rintro σ H4 ⟨u5, as, kep, rfl, e4, hA, hkl4, hko, T4, e4s, b4⟩
 have hal := hA.len
 obtain ⟨ps, pr, us, xs, ras, p1, p2, p3, p4, p5⟩ := hpo.tk (bqt b4)
 walk_at "v"
 refine zm (v := .ref ps) p1 (show atI _ ((0 : Nat) : Int) = _ from zx rfl) ?_
 refine ⟨ps, rfl, ⟨_, SqT.of p2⟩, fun D hD => ?_⟩
 refine yY (S := SB p l ns) (xs := xs) (ρ := [some (.ref p)]) (fun j y H' => ∃ z, y = .int z ∧ (Nu z ∧ 0 ≤ z)) (YZ T4 hD) (fun t h => h) (fun a b => Yq T4 a b) (by omega) (fun H' k' => SqT.of ((Tp.tkb T4 k'.1).t _ _ p2)) ?_ ?_
 ·rintro j x H' R hx S' kR
  have T' := S'.2 T4
  walk_at "v"
  refine w_rI ⟨by decide, by decide, by decide⟩ ?_
  rw [show ((10 : Int) ^ Int.toNat 39) = (10 : Int) ^ 39 from rfl]
  walk_at "v"
  refine ⟨sz4, fun il hil => ?_⟩
  have npi := T'.np hil
  have T6 := T'.new (o := .lst [.int 0, .int 1, .int 2, .int (10 ^ 39)]) hil
  have b6 : Bp p H' (upd H' il (.lst [.int 0, .int 1, .int 2, .int (10 ^ 39)])) := Bp.new Bp.refl hil
  have e6 : upd H' il (.lst [.int 0, .int 1, .int 2, .int (10 ^ 39)]) il = some (.lst (([0, 1, 2, 10 ^ 39] : List Int).map V.int)) := ze
  generalize upd H' il (.lst [.int 0, .int 1, .int 2, .int (10 ^ 39)]) = H6 at T6 b6 e6 ⊢
  walk_at "v"
  refine ⟨p, l, ns, 4, rfl, T6, by decide, by decide, fun r c e r0 r1 => ?_⟩
  obtain ⟨zv, hzv, hat⟩ := wM (xs := [0, 1, 2, 10 ^ 39]) r0 r1
  refine zD (by rw [zi (Ne.symm npi)]; exact e6) hat ?_
  refine kR _ _ ⟨b6.at, fun _ => T6.draw⟩ ⟨zv, rfl, ?_⟩
  simp only [List.mem_cons, List.not_mem_nil, or_false] at hzv
  rcases hzv with rfl | rfl | rfl | rfl
  ·exact ⟨nu4.1, by decide⟩
  ·exact ⟨nu4.2.1, by decide⟩
  ·exact ⟨nu4.2.2.1, by decide⟩
  ·exact ⟨nu4.2.2.2, by decide⟩
 rintro ys H5 ⟨S5, hl5, hY⟩ e5
 obtain ⟨hei, rfl, hhe⟩ := vE hY
 rw [List.length_map] at hl5
 have T5 := S5.2 T4
 walk_at "v"
 refine ⟨D, _, rfl, e5, fun hq H6 K6 e6 => ?_⟩
 have T6 := T5.same K6
 have TK46 := (Tp.tkb T4 S5.1).trans (TK.same K6)
 have e46 := K6 _ _ (S5.1 _ _ (Ne.symm npk) e4)
 walk_at "v"
 refine ⟨kl, _, rfl, e46, fun kq H7 K7 e7 => ?_⟩
 have T7 := T6.same K7
 have TK47 := TK46.trans (TK.same K7)
 have b7 : Bp p H H7 := fun a u n1 ha => K7 _ _ (K6 _ _ (S5.1 _ _ n1 (b4 _ _ n1 (zh ha hkl0) ha)))
 walk_at "v"
 refine ⟨qa, Ak', n, rfl, hak.tk (Tp.tkb Tt b7), hao, fun sl H8 K8 e8 => ?_⟩
 have T8 := T7.same K8
 have b8 := b7.trans (Bp.same K8)
 walk_at "v"
 refine ⟨p, l, ns, 4, rfl, T8, by decide, by decide, fun r c e r0 r1 => ?_⟩
 obtain ⟨dd, rfl⟩ := ofI r0
 have nslp : sl ≠ p := fun z => by
  obtain ⟨c0, e0, hp0⟩ := T8.ex
  rw [z, hp0] at e8
  injection e8 with e8
  injection e8 with e8
  have h1 := (Z7 hao).l1
  match szA Ak', h1, e8 with
  | n :: sz, _, e8 => injection e8 with h1 _; cases h1
 have T9 := T8.draw (c := c) (e := e)
 have b9 : Bp p H (upd H8 p (.lst [.ref l, .int c, .int e])) := b8.at
 have b89 : Bp p H8 (upd H8 p (.lst [.ref l, .int c, .int e])) := Bp.at Bp.refl
 have e9 : upd H8 p (.lst [.ref l, .int c, .int e]) sl = some (.lst ((szA Ak').map fun (n : Nat) => V.int (n : Int))) := by rw [zi nslp]; exact e8
 generalize upd H8 p (.lst [.ref l, .int c, .int e]) = H9 at T9 b9 b89 e9 ⊢
 walk_at "v"
 rw [show (1 + (dd : Int)) = ((dd + 1 : Nat) : Int) by omega]
 refine ⟨dd, by omega, p, l, ns, pot, sl, m, tks, szA Ak', rfl, T9, hpo.tk (Tp.tkb Tt b9), m1, m8, t8, e9, Z7 hao, by omega, fun v t H10 hv ho T10 b10 => ?_⟩
 have TK710 := ((TK.same K8).trans (Tp.tkb T8 b89)).trans (Tp.tkb T9 b10)
 walk_at "v"
 refine ⟨sz3, fun z hz => ?_⟩
 have K11 : Same H10 (upd H10 z (.tup [.ref kq, .ref hq, v])) := Same.new (Same.refl _) hz
 have TKz := TK710.trans (TK.same K11)
 refine k _ ⟨kep, hei, dd, t⟩ _ ⟨z, kq, hq, v, as, rfl, ze, TKz.t _ _ e7, RowsAt.tk (TK47.trans TKz).t hA, TKz.t _ _ (K7 _ _ e6), TrAt.tk (TK.same K11) _ hv⟩ ⟨by show kep.length ≤ 8; omega, hko, by show hei.length = m; omega, hhe, by show dd ≤ 3; omega, ho, m1, m8⟩ (T10.same K11) ((b9.trans b10).trans (Bp.same K11))
end
def wsD (w : List Wt) : PyData := .tuple (w.map fun x => .tuple [.int x.1, .int x.2])
def txD {α : Type} (f : α → PyData) : Tx α → PyData
 | .lacks r ts => .tuple [.str "lacks", .int (r : Int), .tuple (ts.map f)]
 | .cut s x a b => .tuple [.str "cut", .int (s : Int), .int x, f a, f b]
 | .shut w => .tuple [.str "shut", wsD w]
 | .right p gs => .tuple [.str "right", .int (p : Int), .tuple (gs.map wsD)]
def trD : (d : Nat) → Tr d → PyData
 | 0, t => nomatch t
 | d + 1, t => txD (trD d) t
def papD (x : Pap) : PyData := .tuple [.tuple (x.kep.map fun r => .tuple (r.map .int)), .tuple (x.hei.map .int), trD (x.d + 1) x.t]
theorem XF {H : Hp} : ∀ {as : List Addr} {w : List Wt}, PrsA H as w → RdVs H (as.map V.ref) (w.map fun x => .tuple [.int x.1, .int x.2])
 | [], [], _ => .nil
 | _ :: _, _ :: _, h => .cons (.tup h.1 (.cons (.int _) (.cons (.int _) .nil))) (XF h.2)
 | [], _ :: _, h => h.elim
 | _ :: _, [], h => h.elim
theorem Wm {H : Hp} {q : Addr} {w : List Wt} : WsAt H q w → RdV H (.ref q) (wsD w) := fun ⟨_, h1, h2⟩ => .tup h1 (XF h2)
theorem Xf {H : Hp} {α : Type} {R : α → V → Prop} {f : α → PyData} (h : ∀ a v, R a v → RdV H v (f a)) : ∀ {ts : List α} {vs : List V}, All2 R ts vs → RdVs H vs (ts.map f)
 | [], [], _ => .nil
 | _ :: _, _ :: _, q => .cons (h _ _ q.1) (Xf h q.2)
 | [], _ :: _, q => q.elim
 | _ :: _, [], q => q.elim
theorem Z2 {H : Hp} : ∀ {as : List Addr} {gs : List (List Wt)}, All2 (WsAt H) as gs → RdVs H (as.map V.ref) (gs.map wsD)
 | [], [], _ => .nil
 | _ :: _, _ :: _, q => .cons (Wm q.1) (Z2 q.2)
 | [], _ :: _, q => q.elim
 | _ :: _, [], q => q.elim
theorem Yp {H : Hp} : ∀ (d : Nat) {t : Tr d} {v : V}, TrAt d H t v → RdV H v (trD d t)
 | 0, t, _, _ => nomatch t
 | d + 1, t, v, h => by
  cases t with
  | lacks r ts =>
   obtain ⟨p, q, vs, rfl, h1, h2, h3⟩ := h
   exact .tup h1 (.cons (.str _) (.cons (.int _) (.cons (.tup h2 (Xf (R := TrAt d H) (f := trD d) (fun a v h => Yp d h) h3)) .nil)))
  | cut s x a b =>
   obtain ⟨p, u, w, rfl, h1, h2, h3⟩ := h
   exact .tup h1 (.cons (.str _) (.cons (.int _) (.cons (.int _) (.cons (Yp d h2) (.cons (Yp d h3) .nil)))))
  | shut w =>
   obtain ⟨p, q, rfl, h1, h2⟩ := h
   exact .tup h1 (.cons (.str _) (.cons (Wm h2) .nil))
  | right c gs =>
   obtain ⟨p, q, as, rfl, h1, h2, h3⟩ := h
   exact .tup h1 (.cons (.str _) (.cons (.int _) (.cons (.tup h2 (Z2 h3)) .nil)))
theorem XB {H : Hp} : ∀ {as : List Addr} {ks : List (List Int)}, RowsAt H as ks → RdVs H (as.map V.ref) (ks.map fun r => .tuple (r.map .int))
 | [], [], _ => .nil
 | _ :: _, ks :: _, h => .cons (.tup h.1 (vq ks)) (XB h.2)
 | [], _ :: _, h => h.elim
 | _ :: _, [], h => h.elim
theorem Yb {H : Hp} {v : V} {x : Pap} : PapAt H v x → RdV H v (papD x) := fun ⟨p, ks, hq, tv, kas, e, h1, h2, h3, h4, h5⟩ => by
 subst e
 exact .tup h1 (.cons (.tup h2 (XB h3)) (.cons (.tup h4 (vq _)) (.cons (Yp _ h5) .nil)))
theorem nu_sh : ∀ i ∈ nuL, (PyData.int i).showable = true ∧ (PyData.int i).hasDict = false ∧ (PyData.int i).depth ≤ 0 ∧ (PyData.int i).shown.length ≤ 45 := by decide +kernel
theorem xY {i : Int} (h : Nu i) : Shw (.int i) 45 0 := let ⟨a, b, c, d⟩ := nu_sh i h; ⟨a, b, c, d⟩
theorem ZR {r : List Int} (h : ∀ i ∈ r, Nu i) (hl : r.length ≤ 8) : Shw (.tuple (r.map .int)) 379 1 := (Shw.tups (n := 45) (h := 0) fun d hd => by
 obtain ⟨i, hi, rfl⟩ := List.mem_map.mp hd
 exact xY (h i hi)).up (by rw [List.length_map]; omega) (Nat.le_refl _)
theorem Xg {w : List Wt} (ok : WOk w) : Shw (wsD w) 300 2 := by
 have l3 := ok.l3
 refine (Shw.tups (n := 97) (h := 1) fun d hd => ?_).up (by rw [List.length_map]; omega) (Nat.le_refl _)
 obtain ⟨x, hx, rfl⟩ := List.mem_map.mp hd
 obtain ⟨h1, _, _, h4, _⟩ := ok.nu x hx
 exact (Shw.two (xY h1) (xY h4)).up (by decide) (Nat.le_refl _)
theorem shw_w : Shw (.str "lacks") 20 0 ∧ Shw (.str "cut") 20 0 ∧ Shw (.str "shut") 20 0 ∧ Shw (.str "right") 20 0 := ⟨⟨by decide +kernel, by decide +kernel, by decide +kernel, by decide +kernel⟩, ⟨by decide +kernel, by decide +kernel, by decide +kernel, by decide +kernel⟩, ⟨by decide +kernel, by decide +kernel, by decide +kernel, by decide +kernel⟩, ⟨by decide +kernel, by decide +kernel, by decide +kernel, by decide +kernel⟩⟩
def nB : Nat → Nat
 | 0 => 0
 | d + 1 => 8 * nB d + 2000
theorem Zm {m : Nat} {tks : List (List Int)} {sz : List Nat} : ∀ (d : Nat) {t : Tr d}, OkT m tks sz d t → Shw (trD d t) (nB d) (2 * d + 4)
 | 0, t, _ => nomatch t
 | d + 1, t, h => by
  cases t with
  | lacks r ts =>
   obtain ⟨r7, tk, _, h1, h2, h3⟩ := h
   have hi : Shw (.tuple (ts.map (trD d))) ((nB d + 2) * 8 + 3) (2 * d + 5) := (Shw.tups (n := nB d) (h := 2 * d + 4) fun y hy => by
    obtain ⟨u, hu, rfl⟩ := List.mem_map.mp hy
    exact Zm d (h3 u hu)).up (by rw [List.length_map]; exact Nat.add_le_add_right (Nat.mul_le_mul_left _ (by omega)) _) (Nat.le_refl _)
   refine (Shw.three (shw_w.1.up (Nat.le_refl _) (Nat.zero_le _)) ((xY (ye (n := r) (by omega))).up (Nat.le_refl _) (Nat.zero_le _)) hi).up ?_ (by omega)
   show 20 + 45 + ((nB d + 2) * 8 + 3) + 9 ≤ 8 * nB d + 2000
   omega
  | cut s x a b =>
   obtain ⟨_, s7, nx, _, oa, ob⟩ := h
   refine (Shw.tups (n := nB d + 45) (h := 2 * d + 4) fun y hy => ?_).up ?_ (by omega)
   ·simp only [List.mem_cons, List.not_mem_nil, or_false] at hy
    rcases hy with rfl | rfl | rfl | rfl | rfl
    ·exact shw_w.2.1.up (by omega) (Nat.zero_le _)
    ·exact (xY (ye (n := s) (by omega))).up (by omega) (Nat.zero_le _)
    ·exact (xY nx).up (by omega) (Nat.zero_le _)
    ·exact (Zm d oa).up (by omega) (Nat.le_refl _)
    ·exact (Zm d ob).up (by omega) (Nat.le_refl _)
   ·show (nB d + 45 + 2) * 5 + 3 ≤ 8 * nB d + 2000
    omega
  | shut w =>
   refine (Shw.two (shw_w.2.2.1.up (Nat.le_refl _) (Nat.zero_le 2)) (Xg h)).up ?_ (by omega)
   show 20 + 300 + 7 ≤ 8 * nB d + 2000
   omega
  | right c gs =>
   obtain ⟨c2, n, _, h1, _, h2, h3⟩ := h
   have hi : Shw (.tuple (gs.map wsD)) 1211 3 := (Shw.tups (n := 300) (h := 2) fun y hy => by
    obtain ⟨u, hu, rfl⟩ := List.mem_map.mp hy
    exact Xg (h3 u hu)).up (by rw [List.length_map]; omega) (Nat.le_refl _)
   refine (Shw.three (shw_w.2.2.2.up (Nat.le_refl _) (Nat.zero_le _)) ((xY (ye (n := c) (by omega))).up (Nat.le_refl _) (Nat.zero_le _)) hi).up ?_ (by omega)
   show 20 + 45 + 1211 + 9 ≤ 8 * nB d + 2000
   omega
theorem Zu {x : Pap} {m : Nat} {tks : List (List Int)} {sz : List Nat} (ok : x.Ok m tks sz) : Shw (papD x) 2000000 20 := by
 have k8 := ok.k8
 have m8 := ok.m8
 have hl := ok.hl
 have h1 : Shw (.tuple (x.kep.map fun r => .tuple (r.map .int))) 3051 2 := (Shw.tups (n := 379) (h := 1) fun y hy => by
  obtain ⟨r, hr, rfl⟩ := List.mem_map.mp hy
  obtain ⟨q1, q2⟩ := ok.kl r hr
  exact ZR q2 (by omega)).up (by rw [List.length_map]; omega) (Nat.le_refl _)
 have h2 := ZR (r := x.hei) (fun i hi => (ok.hn i hi).1) (by omega)
 have h3 := Zm _ ok.tr
 have d3 := ok.d3
 have hn : nB (x.d + 1) ≤ 1200000 := by
  have : ∀ k < 4, nB (k + 1) ≤ 1200000 := by decide
  exact this x.d (by omega)
 exact (Shw.three (h1.up (Nat.le_refl _) (by omega)) (h2.up (Nat.le_refl _) (by omega)) (h3.up (Nat.le_refl _) (by omega : 2 * (x.d + 1) + 4 ≤ 12))).up (by omega) (by decide)
theorem Z5 {H : Hp} {Q : VK} {v : V} {d : PyData} {n h : Nat} (r : RdV H v d) (x : Shw d n h) (hn : n ≤ 2000000) (hh : h ≤ 50) (q : Q (.str d.shown) H) : WS [v] H Q :=
 ⟨v, d, rfl, r, x.s, x.nd, Nat.le_trans x.p hh, Nat.le_trans x.l (Nat.le_trans hn (by decide : 2000000 ≤ sizeLine)), q⟩
theorem pot_poa {H : Hp} {q : Addr} {nm : List Str} {rs : List Addr} {ins beg : List Int} {ans : Int} {m : Nat} (h : PotT H q nm rs ins beg ans m) : ∃ tks, PoA H q m tks ∧ tks.length ≤ 8 := by
 obtain ⟨ps, pr, pin, pb, h1, h2, h3, _⟩ := h.ex
 have m8 := h.m8
 have key : ∀ rs : List Addr, (∀ r ∈ rs, RuleT m H r) → ∃ tks : List (List Int), All2 (fun ra tk => ∃ ta gb, H ra = some (.tup [.ref ta, .ref gb]) ∧ H ta = some (.tup (tk.map V.int)) ∧ tk.length ≤ 8) rs tks := fun rs => by
  induction rs with
  | nil => exact fun _ => ⟨[], trivial⟩
  | cons r rs ih =>
   intro hr
   obtain ⟨tks, ht⟩ := ih fun r' h' => hr r' (List.mem_cons_of_mem _ h')
   obtain ⟨a, b, ts, gs, e1, e2, e3, e4, _⟩ := hr r List.mem_cons_self
   exact ⟨ts :: tks, ⟨a, b, e1, e2, by omega⟩, ht⟩
 obtain ⟨tks, ht⟩ := key rs h.hr
 refine ⟨tks, ⟨ps, pr, _, _, rs, h1, h2, by rw [List.length_map]; exact h.nl, h3, ht⟩, ?_⟩
 have := ht.len
 have := h.r8
 omega
theorem Zn {H : Hp} : ∀ xs : List Str, RdVs H (xs.map V.str) (xs.map PyData.str)
 | [] => .nil
 | x :: xs => .cons (.str x) (Zn xs)
theorem ZP : ∀ xs : List Str, PyData.eqvAll (xs.map PyData.str) (xs.map PyData.str) = true
 | [] => by simp [PyData.eqvAll]
 | x :: xs => by simp [PyData.eqvAll, PyData.eqv, ZP xs]
theorem vi : ∀ xs : List Str, (∀ x ∈ xs, PyData.strOk x = true) → PyData.canLayAll0 (xs.map PyData.str) = true
 | [], _ => rfl
 | x :: xs, h => by simp [PyData.canLayAll0, PyData.canLay0, vi xs fun y hy => h y (List.mem_cons_of_mem _ hy), h x List.mem_cons_self]
theorem vj : ∀ xs : List Str, PyData.depthAll (xs.map PyData.str) ≤ 1
 | [] => by simp [PyData.depthAll]
 | x :: xs => by
  have := vj xs
  simp [PyData.depthAll, PyData.depth]
  omega
theorem Wq {H : Hp} {Q : VK} {l1 l2 : Addr} {xs : List Str} (hs : ∀ x ∈ xs, PyData.strOk x = true) (h1 : H l1 = some (.lst (xs.map V.str))) (h2 : H l2 = some (.lst (xs.map V.str))) (q : Q (.bl false) H) : rNeD (.ref l1) (.ref l2) H Q := by
 refine ⟨_, _, .lst h1 (Zn xs), .lst h2 (Zn xs), by simp [PyData.canLay0, vi xs hs], by simp [PyData.canLay0, vi xs hs], ?_, ?_⟩
 ·have := vj xs
  show PyData.depthAll _ + 1 ≤ 60
  omega
 ·rw [show PyData.eqv (.list (xs.map PyData.str)) (.list (xs.map PyData.str)) = true by simp [PyData.eqv, ZP]]
  exact q
theorem X3 {c x : Nat} : ∀ (ls : List (List Nat)), x ∈ jn c ls → x = c ∨ ∃ l ∈ ls, x ∈ l
 | [], h => nomatch h
 | [w], h => .inr ⟨w, by simp, h⟩
 | w :: v :: r, h => by
  have h : x ∈ w ++ c :: jn c (v :: r) := h
  rcases List.mem_append.mp h with h | h
  ·exact .inr ⟨w, by simp, h⟩
  ·rcases List.mem_cons.mp h with h | h
   ·exact .inl h
   ·rcases X3 (v :: r) h with h | ⟨l, hl, h⟩
    ·exact .inl h
    ·exact .inr ⟨l, List.mem_cons_of_mem _ hl, h⟩
def Wc (w : Str) : Prop := ∀ c ∈ w.cps.toList, c < 1114112
theorem nu_ch : ∀ i ∈ nuL, ∀ c ∈ (fT i).cps.toList, c < 1114112 := by decide +kernel
theorem Yl {i : Int} (h : Nu i) : Wc (fT i) := nu_ch i h
theorem wc_l : Wc "kept" ∧ Wc "height" ∧ Wc "lacks" ∧ Wc "cut" ∧ Wc "shut" ∧ Wc "right" ∧ Wc "/" ∧ Wc ":" := by
 unfold Wc
 decide
theorem wc_w {x : Wt} (h1 : Nu x.1) (h2 : Nu x.2) : Wc (wW x) := fun c hc => by
 unfold wW at hc
 rw [yH, yH] at hc
 rcases List.mem_append.mp hc with hc | hc
 ·rcases List.mem_append.mp hc with hc | hc
  ·exact Yl h1 c hc
  ·exact wc_l.2.2.2.2.2.2.2 c hc
 ·exact Yl h2 c hc
theorem ln_ok {ws : List Str} (h : ∀ w ∈ ws, Wc w) : PyData.strOk (ln ws) = true := by
 unfold PyData.strOk
 rw [← Array.all_toList, List.all_eq_true]
 intro c hc
 unfold ln at hc
 rw [y8, show Txt.join ⟨#[32]⟩ ws = Str.join ⟨#[32]⟩ ws from StrLaws.glued_eq_join _ _, yl] at hc
 rcases X3 _ hc with rfl | ⟨l, hl, hc⟩
 ·decide
 ·obtain ⟨w, hw, rfl⟩ := List.mem_map.mp hl
  exact decide_eq_true (h w hw c hc)
theorem Zk {c : Str} {r : List Int} (hc : Wc c) (h : ∀ i ∈ r, Nu i) : ∀ w ∈ c :: r.map fT, Wc w := fun w hw => by
 rcases List.mem_cons.mp hw with rfl | hw
 ·exact hc
 ·obtain ⟨i, hi, rfl⟩ := List.mem_map.mp hw
  exact Yl (h i hi)
theorem Wp {c : Str} {g : List Wt} (hc : Wc c) (ok : WOk g) : ∀ w ∈ c :: g.map wW, Wc w := fun w hw => by
 rcases List.mem_cons.mp hw with rfl | hw
 ·exact hc
 ·obtain ⟨x, hx, rfl⟩ := List.mem_map.mp hw
  obtain ⟨h1, _, _, h4, _⟩ := ok.nu x hx
  exact wc_w h1 h4
section
variable {m : Nat} {tks : List (List Int)} {sz : List Nat}
theorem hdW_ch {d : Nat} {t : Tr (d + 1)} (h : OkT m tks sz (d + 1) t) : ∀ w ∈ Tx.hdW t, Wc w := by
 cases t with
 | lacks r ts =>
  exact Zk (r := [(r : Int)]) wc_l.2.2.1 fun i hi => by
   have e : i = (r : Int) := by simpa using hi
   rw [e]
   exact ye (by have := h.1; omega)
 | cut s x a b =>
  exact Zk (r := [(s : Int), x]) wc_l.2.2.2.1 fun i hi => by
   obtain ⟨_, s7, nx, _⟩ := h
   have e : i = (s : Int) ∨ i = x := by simpa using hi
   rcases e with rfl | rfl
   ·exact ye (by omega)
   ·exact nx
 | shut w => exact Wp wc_l.2.2.2.2.1 h
 | right c gs =>
  obtain ⟨c2, n, _, _, _, _, h3⟩ := h
  intro w hw
  rcases List.mem_cons.mp hw with rfl | hw
  ·exact wc_l.2.2.2.2.2.1
  ·rcases List.mem_cons.mp hw with rfl | hw
   ·exact Yl (ye (by omega))
   ·obtain ⟨g, hg, hw⟩ := List.mem_flatMap.mp hw
    exact Wp wc_l.2.2.2.2.2.2.1 (h3 g hg) w hw
theorem Xi : ∀ (d : Nat) {t : Tr d}, OkT m tks sz d t → ∀ ws ∈ trW d t, ∀ w ∈ ws, Wc w
 | 0, t, _ => nomatch t
 | d + 1, t, h => fun ws hws => by
  rcases List.mem_cons.mp hws with rfl | hws
  ·exact hdW_ch h
  ·obtain ⟨u, hu, hws⟩ := List.mem_flatMap.mp hws
   exact Xi d ((wV h).2 u hu) ws hws
end
theorem lines_ok {x : Pap} {m : Nat} {tks : List (List Int)} {sz : List Nat} (ok : x.Ok m tks sz) : ∀ y ∈ x.W.map ln, PyData.strOk y = true := fun y hy => by
 obtain ⟨ws, hws, rfl⟩ := List.mem_map.mp hy
 refine ln_ok ?_
 unfold Pap.W at hws
 rcases List.mem_append.mp hws with hws | hws
 ·obtain ⟨r, hr, rfl⟩ := List.mem_map.mp hws
  exact Zk wc_l.1 (ok.kl r hr).2
 ·rcases List.mem_cons.mp hws with rfl | hws
  ·exact Zk wc_l.2.1 fun i hi => (ok.hn i hi).1
  ·exact Xi _ ok.tr ws hws
theorem w_bm0 {K : W.Frag} {T : String} {r : V → List V → Hp → VK → Prop} {to : TE} {σ : St} {H : Hp} {Q : VK} (h : to σ H fun x H1 => tyV K T x H1 ∧ r x [] H1 Q) : tBM0 K T r to σ H Q := h
def Yy (K : W.Frag) : Sp := fun vs H Q _ => ∃ (a : Addr) (ns : List Int), vs = [.ref a] ∧ SqF K H a (ns.map V.int) ∧ ns.length ≤ 63 ∧ ∀ H', Q (.bl true) H'
abbrev sLaw : Stmt := top 81
abbrev nLaw : List Str := ["_law_script", "_law_tape_here", "_law_k", "_law_pot_here", "_law_ask_here", "_law_paper", "_law_kept", "_law_due", "_law_turn", "_law_lines"]
theorem zT : Nm nLaw (zc sLaw) := nmk (by decide +kernel)
theorem scLaw : FnScope nLaw ["_law_script"] (zc sLaw) := fsk (by decide +kernel)
section
variable {P : Program} {w : World} {K : W.Frag} {mg : Str → Option Value} {base : Heap}
theorem ok_Law {f : Addr} {fd : FuncData} (B : Blt4 mg) (fA : Has P w K mg base 1 "_law_tape" ["_law_script"] (Xp K)) (fP : Has P w K mg base 3 "_law_pot" ["_law_tape_here", "_law_most", "_law_rules"] WF) (fQ : Has P w K mg base 3 "_law_ask" ["_law_tape_here", "_law_many"] WO) (fN : Has P w K mg base 8 "_law_any_paper" ["_law_tape_here", "_law_pot_here", "_law_ask_here"] WL) (fL : Has P w K mg base 8 "_law_paper_lines" ["_law_paper"] spSp) (fS : Has P w K mg base 11 "shown_paper" ["paper"] spSp) (fR : Has P w K mg base 16 "read_paper" ["pot", "ask", "lines"] spRp) (F : Fun K "law" "law" sLaw f fd) : FnOk P w K mg base CX0 17 f fd ["_law_script"] (Yy K) := by
 refine F.ok scLaw (fun vs H Q E h => ?_) (fun cdv A outer s H vs Q E hr h => ?_)
 ·obtain ⟨a, ns, rfl, _⟩ := h
  rfl
 obtain ⟨a, ns, rfl, hS, hn, k⟩ := h
 refine' ⟨_, ?hb, ?rd⟩
 case' hb => skip
 case' hb => refine' zf ?g1 ?g2
 case' g2 => refine' zf ?g3 ?g4
 case' g4 => refine' zg ?g5
 case g1 => exact zj zT 1 (pe_f fA hr (by decide) (pa_1 (pvd zT 0)))
 case' g3 => refine' yt PassesOwn.never rfl ?g6 (pgd zT 2) ?g7
 case g6 => exact yR B.range (pa_1 zd)
 case' g7 => refine' zf ?g8 ?g9
 case' g9 => refine' zf ?g10 ?g11
 case' g11 => refine' zf ?g12 ?g13
 case' g13 => refine' zf ?g14 ?g15
 case' g15 => refine' zf ?g16 ?g17
 case' g17 => refine' zg ?g18
 case g8 => exact zj zT 3 (pe_f fP hr (by decide) (pa_c (pvd zT 1) (pa_2 zd zd)))
 case g10 => exact zj zT 4 (pe_f fQ hr (by decide) (pa_2 (pvd zT 1) (zF zr B.len PySem.boot_len (pa_1 (ziq (pvd zT 3) zd)))))
 case g12 => exact zj zT 5 (pe_f fN hr (by decide) (pa_c (pvd zT 1) (pa_2 (pvd zT 3) (pvd zT 4))))
 case g14 => exact zj zT 6 (zF (wF hr) B.repr PyProof.Rows.boot_repr (pa_1 (pvd zT 5)))
 case g16 => exact zj zT 7 (pe_f fL hr (by decide) (pa_1 (pvd zT 5)))
 case' g18 => refine' yt PassesOwn.never rfl ?g19 (pgd zT 8) ?g20
 case g19 => exact yR B.range (pa_1 zd)
 case' g20 => refine' zf ?g21 ?g22
 case' g22 => refine' zf ?g23 ?g24
 case' g24 => refine' zf ?g25 ?g26
 case' g26 => refine' zf ?g27 ?g28
 case' g28 => refine' zg ?g29
 case g21 => exact zj zT 9 (pe_f fS hr (by decide) (pa_1 (pvd zT 5)))
 case' g23 => refine' zC ?g30 ?g31 zw
 case g30 => exact PW.pt (yQ (yN (yr (zF is_lst B.isi PyProof.Rows.boot_isinstance (pa_2 (pvd zT 9) (xC (v := .ty "list") rfl B.list PyProof.Rows.boot_list rfl))))) (yQ (zq (XR hr) (pvd zT 9) (pvd zT 7) (zt _)) (yB (zq xq (zF (wF hr) B.repr PyProof.Rows.boot_repr (pa_1 (pvd zT 5))) (pvd zT 6) (zt _)))))
 case' g31 => refine' zg ?g33
 case g33 => exact zl vw
 case' g25 => refine' zC ?g34 ?g35 zw
 case g34 => exact PW.pt (yQ (zq xq (zF (wF hr) B.repr PyProof.Rows.boot_repr (pa_1 (pe_f fR hr (by decide) (pa_c (pvd zT 3) (pa_2 (pvd zT 4) (pvd zT 9)))))) (pvd zT 6) (zt _)) (yB (zq (XR hr) (pvd zT 9) (pvd zT 7) (zt _))))
 case' g35 => refine' zg ?g37
 case g37 => exact zl vw
 case g27 => exact yE (pe_bm0 PySem.F.plainAttrs_list PySem.F.slot_list_reverse PySem.F.type_list_reverse mt_reverse (pvd zT 9))
 case g29 => exact yE (yn PySem.F.plainAttrs_list PySem.F.slot_list_append PySem.F.type_list_append yI (pvd zT 9) (pa_1 zp))
 case g5 => exact zl vw
 walk_at "v"
 refine ⟨a, ns, rfl, hS.sq, fun p l ms H1 hml T1 K1 => ?_⟩
 walk_at "v"
 refine ⟨5, rfl, by decide, by decide, ?_⟩
 refine yu (n := 5) (fun i σ H' => ∃ u2 u3 u4 u5 u6 u7 u8 u9 : Option V, σ = [some (.ref a), some (.ref p), u2, u3, u4, u5, u6, u7, u8, u9] ∧ Tp H' p l ms) ⟨_, _, _, _, _, _, _, _, rfl, T1⟩ ?_ ?_
 ·rintro i σ H2 hi ⟨u2, u3, u4, u5, u6, u7, u8, u9, rfl, T2⟩
  walk_at "v"
  refine ⟨p, l, ms, 8, 8, rfl, T2, by decide, by decide, by decide, fun pot nm rs ins beg ans m H3 hpot T3 b3 => ?_⟩
  obtain ⟨ps, pr, pin, pb, g1, g2, g3, g4, g5⟩ := hpot.ex
  have i3 := hpot.i3
  walk_at "v"
  refine zm (v := .ref pin) g1 rfl ?_
  walk_at "v"
  refine ⟨pin, _, rfl, .inr (SqT.of g4), ?_⟩
  rw [List.length_map]
  refine ⟨p, l, ms, ins.length, rfl, T3, i3, fun qa Aq H4 hao hak T4 TK4 => ?_⟩
  have hpot4 := hpot.tk TK4
  obtain ⟨tks, hpo, t8⟩ := pot_poa hpot4
  walk_at "v"
  refine ⟨p, l, ms, pot, qa, m, tks, Aq, ins.length, rfl, T4, hpo, hpot4.m0, hpot4.m8, t8, hak, hao, fun v x H5 hv ok T5 b5 => ?_⟩
  have TK5 := Tp.tkb T4 b5
  walk_at "v"
  refine Z5 (Yb hv) (Zu ok) (by decide) (by decide) ?_
  walk_at "v"
  refine ⟨m, tks, szA Aq, x, v, rfl, hv, ok, fun dl H6 K6 hdl e6 => ?_⟩
  have T6 := T5.same K6
  have npd := T5.np hdl
  have nld := T5.nl hdl
  have TK6 := TK5.trans (TK.same K6)
  have hst : ∀ y ∈ x.W.map ln, PyData.strOk y = true := lines_ok ok
  walk_at "v"
  refine ⟨2, rfl, by decide, by decide, ?_⟩
  refine yu (n := 2) (fun j σ H' => ∃ u2 u8 u9 : Option V, σ = [some (.ref a), some (.ref p), u2, some (.ref pot), some (.ref qa), some v, some (.str (papD x).shown), some (.ref dl), u8, u9] ∧ Tp H' p l ms ∧ TK H6 H' ∧ H' dl = some (.lst (txs x.W))) ⟨_, _, _, rfl, T6, TK.same (Same.refl _), e6⟩ ?_ ?_
  ·rintro j σ H7 hj ⟨u2', u8', u9', rfl, T7, TK7, e7⟩
   have TK47 := TK6.trans TK7
   have hv7 := hv.tk ((TK.same K6).trans TK7)
   walk_at "v"
   refine ⟨m, tks, szA Aq, x, v, rfl, hv7, ok, fun ll H8 K8 hll e8 => ?_⟩
   have T8 := T7.same K8
   have npl := T7.np hll
   have nll := T7.nl hll
   have ndl : dl ≠ ll := zh e7 hll
   have TK8 := TK47.trans (TK.same K8)
   walk_at "v"
   refine ⟨_, .lst, rfl, .lst e8, ?_⟩
   walk_at "v"
   refine iteF ?_
   walk_at "v"
   refine Wq (hst) e8 (K8 _ _ e7) ?_
   walk_at "v"
   refine Z5 (Yb (hv7.tk (TK.same K8))) (Zu ok) (by decide) (by decide) ?_
   walk_at "v"
   refine ⟨rfl, ?_⟩
   walk_at "v"
   refine xK rfl ?_
   walk_at "v"
   refine ⟨pot, qa, ll, m, tks, ins, beg, ans, Aq, x, rfl, (hpot4.tk TK8).pa, hpo.tk TK8, t8, hak.tk TK8, hao, Nat.le_trans (Z7 hao).l3 (by decide), e8, ok, fun v' H9 K9 hv' => ?_⟩
   walk_at "v"
   refine Z5 (Yb hv') (Zu ok) (by decide) (by decide) ?_
   walk_at "v"
   refine ⟨rfl, ?_⟩
   walk_at "v"
   refine xK rfl ?_
   have e89 := K9 _ _ e8
   have e79 := K9 _ _ (K8 _ _ e7)
   walk_at "v"
   refine Wq (hst) e89 e79 ?_
   walk_at "v"
   refine w_bm0 ?_
   walk_at "v"
   refine ⟨.inl ⟨rfl, _, SqL.of e89⟩, ?_⟩
   refine ⟨ll, _, rfl, rfl, e89, ?_⟩
   have T9 := T8.same K9
   have T10 : Tp (upd H9 ll (.lst (txs x.W).reverse)) p l ms := T9.put npl nll
   have e10 : upd H9 ll (.lst (txs x.W).reverse) ll = some (.lst (txs x.W).reverse) := ze
   have d10 : upd H9 ll (.lst (txs x.W).reverse) dl = some (.lst (txs x.W)) := by rw [zi ndl]; exact e79
   have TK10 : TK H9 (upd H9 ll (.lst (txs x.W).reverse)) := TK.lst e89
   generalize upd H9 ll (.lst (txs x.W).reverse) = HA at T10 e10 d10 TK10 ⊢
   walk_at "v"
   refine ⟨.inl ⟨rfl, _, SqL.of e10⟩, ?_⟩
   walk_at "v"
   refine ⟨ll, _, _, rfl, rfl, e10, ?_, ?_⟩
   ·have htl := yo _ ok.tr
    have h585 := wn ok.d3
    have k8 := ok.k8
    rw [List.length_reverse]
    simp only [txs, List.length_map]
    unfold Pap.W
    rw [List.length_append, List.length_map, List.length_cons]
    exact zn (by omega)
   exact ⟨_, _, _, rfl, T10.put npl nll, ((((TK7.trans (TK.same K8)).trans (TK.same K9)).trans TK10).trans (TK.lst e10)), by rw [zi ndl]; exact d10⟩
  ·rintro σ H7 ⟨u2', u8', u9', rfl, T7, TK7, e7⟩
   exact ⟨_, _, _, _, _, _, _, _, rfl, T7⟩
 ·rintro σ H2 ⟨u2, u3, u4, u5, u6, u7, u8, u9, rfl, T2⟩
  walk_at "v"
  exact k _
end
end K37
namespace L2
open PySem PySem.Spec PyProof.Rows
def FnAt (K : W.Frag) (x : Str) (st : Stmt) : Prop := ∃ (f : Addr) (oc : Value) (od : Option Addr) (kV doc pm : Value) (an : Option Addr) (cdv ct : Value) (osl : Array (Option Value)), PySem.W.nsIn K mainGlobals x = some (some (.ref f)) ∧
 K.lookup f = some ⟨oc, od, .func (PySem.W.fnOf x x (yf st) (zu st) (zc st) .none kV doc pm an cdv ct), osl⟩ ∧ PySem.W.codeIn K cdv x = true ∧ PySem.W.keepIn K (.ref f) = true
theorem fnAt {K : W.Frag} {x : Str} {st : Stmt} {f : Addr} {oc : Value} {od : Option Addr} {kV doc pm : Value} {an : Option Addr} {cdv ct : Value} {osl : Array (Option Value)} (a : PySem.W.nsIn K mainGlobals x = some (some (.ref f)))
  (l : K.lookup f = some ⟨oc, od, .func (PySem.W.fnOf x x (yf st) (zu st) (zc st) .none kV doc pm an cdv ct), osl⟩) (c : PySem.W.codeIn K cdv x = true) (k : PySem.W.keepIn K (.ref f) = true) : FnAt K x st := ⟨_, _, _, _, _, _, _, _, _, _, a, l, c, k⟩
def NoIn (K : W.Frag) (x : Str) : Prop := PySem.W.nsIn K mainGlobals x = some none
def IntIn (K : W.Frag) (x : Str) (i : Int) : Prop := ∃ t, PySem.W.nsIn K mainGlobals x = some (some (.int i t))
def StrIn (K : W.Frag) (x y : Str) : Prop := ∃ t, PySem.W.nsIn K mainGlobals x = some (some (.str y t))
theorem noIn {K : W.Frag} {x : Str} (h : PySem.W.nsIn K mainGlobals x = some none) : NoIn K x := h
theorem noAttr {K : W.Frag} {C : Addr} {x : Str} (h : PySem.W.findIn K (.ref C) x = some none) : NoAttr K C x := h
theorem intIn {K : W.Frag} {x : Str} {i : Int} {t : Tok} (h : PySem.W.nsIn K mainGlobals x = some (some (.int i t))) : IntIn K x i := ⟨_, h⟩
theorem strIn {K : W.Frag} {x y : Str} {t : Tok} (h : PySem.W.nsIn K mainGlobals x = some (some (.str y t))) : StrIn K x y := ⟨_, h⟩
section
variable {P : Program} {w : World} {K : W.Frag} {mg : Str → Option Value} {base h : Heap} {x : Str} {st : Stmt} {ps : List Str}
theorem NoIn.get (z : NoIn K x) (X : K.In h) (G : h.Ns mainGlobals mg) : mg x = none := PySem.W.mg_none_of X G z
theorem IntIn.get {i : Int} (z : IntIn K x i) (X : K.In h) (G : h.Ns mainGlobals mg) : ∃ t, mg x = some (.int i t) := let ⟨t, e⟩ := z; ⟨t, PySem.W.mg_of X G e⟩
theorem StrIn.get {y : Str} (z : StrIn K x y) (X : K.In h) (G : h.Ns mainGlobals mg) : ∃ t, mg x = some (.str y t) := let ⟨t, e⟩ := z; ⟨t, PySem.W.mg_of X G e⟩
theorem FnAt.has {k : Nat} {sp : Sp} (A : FnAt K x st) (X : K.In h) (G : h.Ns mainGlobals mg)
  (b : ∀ (kV doc pm : Value) (an : Option Addr) (cdv ct : Value) (us : List Value), us.length = ps.length → bindArgs (PySem.W.fnOf x x (yf st) (zu st) (zc st) .none kV doc pm an cdv ct) ⟨us, []⟩ = pure (ps.zip us))
  (ok : ∀ {f fd}, Fun K x x st f fd → FnOk P w K mg base CX0 k f fd ps sp) : Has P w K mg base k x ps sp := by
 obtain ⟨f, oc, od, kV, doc, pm, an, cdv, ct, osl, a, l, c, k⟩ := A
 have F := ZF (st := st) l c k
 exact ⟨f, _, ok F, PySem.W.mg_of X G a, k, F.binds b⟩
theorem FnAt.law {l : PySem.W.OpenLaw} {k : Nat} {sp : Sp} {fa : Addr} {a : Str} (A : FnAt K x st) (X : K.In h) (G : h.Ns mainGlobals mg) (hfa : mg x = some (.ref fa))
  (b : ∀ (kV doc pm : Value) (an : Option Addr) (cdv ct : Value) (s : Shared) (v : Value), BindsTo s (PySem.W.fnOf x x (yf st) (zu st) (zc st) .none kV doc pm an cdv ct) ⟨[v], []⟩ [(a, v)])
  (ok : ∀ base : Heap, K.In base → base.Ns mainGlobals mg → ∀ {f fd}, Fun K x x st f fd → FnOk l.prog w K mg base CX0 k f fd [a] sp) :
  ∃ fd : FuncData, (∀ (s : Shared) (v : Value), BindsTo s fd ⟨[v], []⟩ [(a, v)]) ∧ ∀ base : Heap, K.In base → base.Ns mainGlobals mg → FnOk l.prog w K mg base CX0 k fa fd [a] sp := by
 obtain ⟨f, oc, od, kV, doc, pm, an, cdv, ct, osl, e, l, c, k⟩ := A
 cases hfa.symm.trans (PySem.W.mg_of X G e)
 exact ⟨_, b _ _ _ _ _ _, fun base h1 h2 => ok base h1 h2 (ZF (st := st) l c k)⟩
end
structure ClsIn (K : W.Frag) (C : Addr) : Prop where
 c : Cls K C
 mks : PySem.W.makesIn K C = true
 kp : PySem.W.keepIn K (.ref C) = true
def MthAt (K : W.Frag) (C : Addr) (m q : Str) (st : Stmt) : Prop := ∃ (f : Addr) (oc : Value) (od : Option Addr) (kV doc pm : Value) (an : Option Addr) (cdv ct : Value) (osl : Array (Option Value)), PySem.W.findIn K (.ref C) m = some (some (.ref f)) ∧
 K.lookup f = some ⟨oc, od, .func (PySem.W.fnOf m q (yf st) (zu st) (zc st) .none kV doc pm an cdv ct), osl⟩ ∧ PySem.W.codeIn K cdv q = true ∧ PySem.W.isFn K (.ref f) = true ∧ PySem.W.keepIn K (.ref f) = true
theorem mthAt {K : W.Frag} {C : Addr} {m q : Str} {st : Stmt} {f : Addr} {oc : Value} {od : Option Addr} {kV doc pm : Value} {an : Option Addr} {cdv ct : Value} {osl : Array (Option Value)} (a : PySem.W.findIn K (.ref C) m = some (some (.ref f)))
  (l : K.lookup f = some ⟨oc, od, .func (PySem.W.fnOf m q (yf st) (zu st) (zc st) .none kV doc pm an cdv ct), osl⟩) (c : PySem.W.codeIn K cdv q = true) (i : PySem.W.isFn K (.ref f) = true) (k : PySem.W.keepIn K (.ref f) = true) : MthAt K C m q st :=
 ⟨_, _, _, _, _, _, _, _, _, _, a, l, c, i, k⟩
theorem clsIn {K : W.Frag} {C : Addr} (a : PySem.W.plainGet K C Str.empty = true) (b : PySem.W.hasDictIn K C = true) (c : PySem.W.plainOver K C = true) (d : PySem.W.findIn K (.ref C) "__setattr__" = some (some (.builtin "object.__setattr__"))) (e : PySem.W.makesIn K C = true) (f : PySem.W.keepIn K (.ref C) = true) : ClsIn K C := ⟨⟨a, b, c, d⟩, e, f⟩
def HasM (P : Program) (w : World) (K : W.Frag) (mg : Str → Option Value) (base : Heap) (k : Nat) (C : Addr) (m : Str) (ps : List Str) (sp : Sp) : Prop :=
 ∃ f fd, FnOk P w K mg base CX0 k f fd ps sp ∧ Cls K C ∧ Meth K C m f ∧ Binds K fd ps []
def HasK (P : Program) (w : World) (K : W.Frag) (mg : Str → Option Value) (base : Heap) (k : Nat) (x : Str) (C : Addr) (ps : List Str) (sp : Sp) : Prop :=
 ∃ f fd, FnOk P w K mg base CX0 k f fd ps sp ∧ Mk K C f ∧ mg x = some (.ref C) ∧ Binds K fd ps []
section
variable {P : Program} {w : World} {K : W.Frag} {mg : Str → Option Value} {base h : Heap} {x m q : Str} {st : Stmt} {ps : List Str} {C : Addr}
theorem MthAt.has {k : Nat} {sp : Sp} (A : MthAt K C m q st) (D : ClsIn K C)
  (b : ∀ (kV doc pm : Value) (an : Option Addr) (cdv ct : Value) (us : List Value), us.length = ps.length → bindArgs (PySem.W.fnOf m q (yf st) (zu st) (zc st) .none kV doc pm an cdv ct) ⟨us, []⟩ = pure (ps.zip us))
  (ok : ∀ {f fd}, Fun K m q st f fd → FnOk P w K mg base CX0 k f fd ps sp) : HasM P w K mg base k C m ps sp := by
 obtain ⟨f, oc, od, kV, doc, pm, an, cdv, ct, osl, a, l, c, i, k⟩ := A
 have F := ZF (st := st) l c k
 exact ⟨f, _, ok F, D.c, ⟨a, i, k⟩, F.binds b⟩
theorem MthAt.make {k : Nat} {sp : Sp} (A : MthAt K C "__init__" q st) (D : ClsIn K C) (X : K.In h) (G : h.Ns mainGlobals mg) (n : PySem.W.nsIn K mainGlobals x = some (some (.ref C)))
  (b : ∀ (kV doc pm : Value) (an : Option Addr) (cdv ct : Value) (us : List Value), us.length = ps.length → bindArgs (PySem.W.fnOf "__init__" q (yf st) (zu st) (zc st) .none kV doc pm an cdv ct) ⟨us, []⟩ = pure (ps.zip us))
  (ok : ∀ {f fd}, Fun K "__init__" q st f fd → FnOk P w K mg base CX0 k f fd ps sp) : HasK P w K mg base k x C ps sp := by
 obtain ⟨f, oc, od, kV, doc, pm, an, cdv, ct, osl, a, l, c, i, k⟩ := A
 have F := ZF (st := st) l c k
 exact ⟨f, _, ok F, ⟨D.mks, a, i, D.kp⟩, PySem.W.mg_of X G n, F.binds b⟩
end
section
variable {P : Program} {w : World} {K : W.Frag} {mg : Str → Option Value} {base : Heap}
theorem vY {f : Addr} {fd : FuncData} {k : Nat} {ps : List Str} {sp : Sp} (n : ∀ vs H Q E, sp vs H Q E → False) : FnOk P w K mg base CX0 k f fd ps sp := ⟨fun _ _ _ _ h => (n _ _ _ _ h).elim, fun _ _ _ _ _ _ _ _ _ _ _ _ _ h => (n _ _ _ _ h).elim⟩
theorem ZJ {f : Addr} {fd : FuncData} {k m : Nat} {ps : List Str} {sp : Nat → Sp} (h : ∀ d, d ≤ m → FnOk P w K mg base CX0 k f fd ps (sp (d + 1))) : FnOk P w K mg base CX0 k f fd ps (fun vs H Q E => ∃ d, d ≤ m ∧ sp (d + 1) vs H Q E) :=
 ⟨fun vs H Q E ⟨d, hd, q⟩ => (h d hd).len vs H Q E q, fun A outer s H args us vs Q E hr he hb hv ⟨d, hd, q⟩ => (h d hd).run A outer s H args us vs Q E hr he hb hv q⟩
end
end L2
namespace K37
open PySem L2 G2
set_option maxHeartbeats 0 in
theorem all_mk {l : PySem.W.OpenLaw} {w : World} {K : W.Frag} {h : Heap} {mg : Str → Option Value} {fa : Addr} {C : Addr} (X : K.In h) (G : h.Ns mainGlobals mg) (hfa : mg "law" = some (.ref fa))
  (a1 : FnAt K "_law_tape" YE) (a2 : FnAt K "_law_draw" YK) (a3 : FnAt K "_law_names" wq) (a4 : FnAt K "_law_rule" YF) (a5 : FnAt K "_law_pot" sPot) (a6 : FnAt K "_law_line" vU) (a7 : FnAt K "_law_ask" sAsk) (a8 : FnAt K "added" x5) (a9 : FnAt K "so_often" xZ) (a10 : FnAt K "and_more" YG) (a11 : FnAt K "noughts" sNgt) (a12 : FnAt K "one_at" sOne) (a13 : FnAt K "form_of_drops" sDrp) (a14 : FnAt K "less" YI) (a15 : FnAt K "both_ways" YL) (a16 : FnAt K "form_of_number" sNum) (a17 : FnAt K "form_of_line" YH) (a18 : FnAt K "pieces_of_two" sTwo) (a19 : FnAt K "pieces_of" sPof) (a20 : FnAt K "is_figures" sFig) (a21 : FnAt K "is_signed_figures" sSig) (a22 : FnAt K "shown_whole" sWh) (a23 : FnAt K "whole_of" sWo) (a24 : FnAt K "shown_wholes" sSws) (a25 : FnAt K "shown_weights" sSwg) (a26 : FnAt K "trees_within" sTw) (a27 : FnAt K "shown_head" sHd) (a28 : FnAt K "shown_tree" sSt) (a29 : FnAt K "shown_paper" sSp) (a30 : FnAt K "is_whole" sIw) (a31 : FnAt K "is_whole_within" sIww) (a32 : FnAt K "is_weight" sIwt) (a33 : FnAt K "is_weights" sIws) (a34 : FnAt K "words_at" sWat) (a35 : FnAt K "read_counts" sRc) (a36 : FnAt K "read_weights" sRw) (a37 : FnAt K "read_grounds" sRg) (a38 : FnAt K "is_right" sIr) (a39 : FnAt K "sorts_taken" sSk) (a40 : FnAt K "read_kepts" sRks) (a41 : FnAt K "read_heights" sRhe) (a42 : FnAt K "read_paper" sRp) (a43 : FnAt K "_law_weight_words" sLww) (a44 : FnAt K "_law_tree_lines" sLtl) (a45 : FnAt K "_law_paper_lines" sLpl) (a46 : FnAt K "_law_taken" sLtk) (a47 : FnAt K "_law_weights" sLwt) (a48 : FnAt K "_law_sizes" sLsz) (a49 : FnAt K "_law_tree" sLt) (a50 : FnAt K "_law_any_paper" sLap) (a51 : FnAt K "law" sLaw)
  (z1 : NoIn K "len") (z2 : NoIn K "range") (z3 : NoIn K "tuple") (z4 : NoIn K "list") (z5 : NoIn K "min") (z6 : NoIn K "int") (z7 : NoIn K "zip") (z8 : NoIn K "repr") (z9 : NoIn K "all") (z10 : NoIn K "str") (z11 : NoIn K "isinstance") (z12 : NoIn K "enumerate") (z13 : NoIn K "bool")
  (g1 : IntIn K "SORTS" (0)) (g2 : IntIn K "INPUTS" (2)) (g3 : IntIn K "ANSWER" (4)) (g4 : IntIn K "BY_INPUTS" (0)) (g5 : IntIn K "BY_SORTS" (1)) (g6 : IntIn K "PLUS" (2)) (g7 : IntIn K "BY" (0)) (g8 : IntIn K "LINE_PLUS" (1)) (g9 : StrIn K "FIGURES" "0123456789") (g10 : IntIn K "PART" (18)) (g11 : IntIn K "PART_SIZE" (1000000000000000000)) (g12 : IntIn K "RULES" (1)) (g13 : IntIn K "TAKES" (0)) (g14 : IntIn K "KEPTS" (0)) (g15 : IntIn K "HEIGHTS" (1)) (g16 : IntIn K "TREE" (2)) (g17 : IntIn K "MOST_KEPTS" (8)) (g18 : IntIn K "MOST_TREES" (1000)) (g19 : IntIn K "MOST_WITHIN" (40))
  (cna : PySem.W.nsIn K mainGlobals "TreeReader" = some (some (.ref C)))
  (D : ClsIn K C)
  (cf1 : NoAttr K C "pot")
  (cf2 : NoAttr K C "pieces")
  (cf3 : NoAttr K C "lines")
  (cf4 : NoAttr K C "line")
  (cf5 : NoAttr K C "trees_read")
  (c0 : MthAt K C "__init__" "TreeReader.__init__" sTi)
  (c1 : MthAt K C "read_tree" "TreeReader.read_tree" sRtr)
  (c2 : MthAt K C "read_lacks" "TreeReader.read_lacks" sRla)
  (c3 : MthAt K C "read_cut" "TreeReader.read_cut" sRcu)
  (c4 : MthAt K C "read_right" "TreeReader.read_right" sTr) :
  ∃ fd : FuncData, (∀ (s : Shared) (v : Value), BindsTo s fd ⟨[v], []⟩ [("_law_script", v)]) ∧ ∀ base : Heap, K.In base → base.Ns mainGlobals mg → FnOk l.prog w K mg base CX0 17 fa fd ["_law_script"] (Yy K) := by
 replace z1 := z1.get X G
 replace z2 := z2.get X G
 replace z3 := z3.get X G
 replace z4 := z4.get X G
 replace z5 := z5.get X G
 replace z6 := z6.get X G
 replace z7 := z7.get X G
 replace z8 := z8.get X G
 replace z9 := z9.get X G
 replace z10 := z10.get X G
 replace z11 := z11.get X G
 replace z12 := z12.get X G
 replace z13 := z13.get X G
 replace g1 := g1.get X G
 replace g2 := g2.get X G
 replace g3 := g3.get X G
 replace g4 := g4.get X G
 replace g5 := g5.get X G
 replace g6 := g6.get X G
 replace g7 := g7.get X G
 replace g8 := g8.get X G
 replace g9 := g9.get X G
 replace g10 := g10.get X G
 replace g11 := g11.get X G
 replace g12 := g12.get X G
 replace g13 := g13.get X G
 replace g14 := g14.get X G
 replace g15 := g15.get X G
 replace g16 := g16.get X G
 replace g17 := g17.get X G
 replace g18 := g18.get X G
 replace g19 := g19.get X G
 have R : RC K C := ⟨D.c, cf1, cf2, cf3, cf4, cf5⟩
 have B1 : Blt mg := ⟨z1, z2, z3⟩
 have B2 : Blt2 mg := ⟨B1, z4, z5⟩
 have B3 : Blt3 mg := ⟨B2, z6, z7, z8, g1, g2, g3, g4, g5, g6, g7, g8⟩
 have B : Blt4 mg := ⟨B3, z9, z10, z11, z12, z13, g9, g10, g11, g12, g13, g14, g15, g16, g17, g18, g19⟩
 refine a51.law X G hfa (fun _ _ _ _ _ _ _ _ => .of_eq rfl) fun base _ _ {f fd} F => ?_
 have hs : ∀ {x st k ps sp}, FnAt K x st → (∀ (kV doc pm : Value) (an : Option Addr) (cdv ct : Value) (us : List Value), us.length = ps.length → bindArgs (PySem.W.fnOf x x (yf st) (zu st) (zc st) .none kV doc pm an cdv ct) ⟨us, []⟩ = pure (ps.zip us)) → (∀ {f fd}, Fun K x x st f fd → FnOk l.prog w K mg base CX0 k f fd ps sp) → Has l.prog w K mg base k x ps sp := fun a b c => a.has X G b c
 have H1 := hs a1 (fun _ _ _ _ _ _ us hl => match us, hl with | [_], _ => rfl) (ok_tape )
 have H2 := hs a2 (fun _ _ _ _ _ _ us hl => match us, hl with | [_, _], _ => rfl) (ok_draw B1 )
 have H3 := hs a3 (fun _ _ _ _ _ _ us hl => match us, hl with | [_, _], _ => rfl) (ok_Names B1 H2 )
 have H4 := hs a4 (fun _ _ _ _ _ _ us hl => match us, hl with | [_, _], _ => rfl) (ok_Rule B1 H2 )
 have H5 := hs a5 (fun _ _ _ _ _ _ us hl => match us, hl with | [_, _, _], _ => rfl) (ok_Pot B2 H2 H3 H4 )
 have H6 := hs a6 (fun _ _ _ _ _ _ us hl => match us, hl with | [_, _], _ => rfl) (ok_line B1 H2 )
 have H7 := hs a7 (fun _ _ _ _ _ _ us hl => match us, hl with | [_, _], _ => rfl) (ok_ask B1 H2 H6 )
 have H8 := hs a8 (fun _ _ _ _ _ _ us hl => match us, hl with | [_, _], _ => rfl) (ok_Added B3 )
 have H9 := hs a9 (fun _ _ _ _ _ _ us hl => match us, hl with | [_, _], _ => rfl) (ok_Often B3 )
 have H10 := hs a10 (fun _ _ _ _ _ _ us hl => match us, hl with | [_, _], _ => rfl) (ok_More B3 )
 have H11 := hs a11 (fun _ _ _ _ _ _ us hl => match us, hl with | [_], _ => rfl) (ok_Ngt B3 )
 have H12 := hs a12 (fun _ _ _ _ _ _ us hl => match us, hl with | [_, _], _ => rfl) (ok_One B3 )
 have H13 := hs a13 (fun _ _ _ _ _ _ us hl => match us, hl with | [_, _], _ => rfl) (ok_Drp B3 H12 H11 )
 have H14 := hs a14 (fun _ _ _ _ _ _ us hl => match us, hl with | [_, _], _ => rfl) (ok_Less H8 H9 )
 have H15 := hs a15 (fun _ _ _ _ _ _ us hl => match us, hl with | [_, _], _ => rfl) (ok_Both H14 )
 have H16 := hs a16 (fun _ _ _ _ _ _ us hl => match us, hl with | [_, _], _ => rfl) (ok_Num B3 H11 )
 have H17 := hs a17 (fun _ _ _ _ _ _ us hl => match us, hl with | [_, _], _ => rfl) (ok_LinF B3 H11 )
 have H18 := hs a18 (fun _ _ _ _ _ _ us hl => match us, hl with | [_, _, _, _, _], _ => rfl) (ok_Two H15 H14 H10 H16 )
 have H19 : Has l.prog w K mg base 7 "pieces_of" ["pot", "ask"] Xs := hs a19 (fun _ _ _ _ _ _ us hl => match us, hl with | [_, _], _ => rfl) fun F => (ok_Pof B3 H15 H14 H10 H13 H17 H9 H18 F).mono (by decide)
 have H20 := hs a20 (fun _ _ _ _ _ _ us hl => match us, hl with | [_], _ => rfl) (ok_Fig B )
 have H21 := hs a21 (fun _ _ _ _ _ _ us hl => match us, hl with | [_], _ => rfl) (ok_Sig H20 )
 have C22_0 := hs (k := 1) (ps := ["number"]) (sp := spWh 0) a22 (fun _ _ _ _ _ _ us hl => match us, hl with | [_], _ => rfl) fun _ => vY fun _ _ _ _ h => h
 have C22_1 := hs a22 (fun _ _ _ _ _ _ us hl => match us, hl with | [_], _ => rfl) (WZ (d := 0) (by decide) B C22_0 )
 have H22 := hs a22 (fun _ _ _ _ _ _ us hl => match us, hl with | [_], _ => rfl) (WZ (d := 1) (by decide) B C22_1 )
 have C23_0 := hs (k := 1) (ps := ["word"]) (sp := spWo 0) a23 (fun _ _ _ _ _ _ us hl => match us, hl with | [_], _ => rfl) fun _ => vY fun _ _ _ _ h => h
 have C23_1 := hs a23 (fun _ _ _ _ _ _ us hl => match us, hl with | [_], _ => rfl) (WY (d := 0) (by decide) B C23_0 )
 have H23 := hs a23 (fun _ _ _ _ _ _ us hl => match us, hl with | [_], _ => rfl) (WY (d := 1) (by decide) B C23_1 )
 have H24 := hs a24 (fun _ _ _ _ _ _ us hl => match us, hl with | [_], _ => rfl) (ok_Sws B H22 )
 have H25 := hs a25 (fun _ _ _ _ _ _ us hl => match us, hl with | [_], _ => rfl) (ok_Swg B H22 )
 have H26 := hs a26 (fun _ _ _ _ _ _ us hl => match us, hl with | [_], _ => rfl) (ok_Tw B )
 have H27 := hs a27 (fun _ _ _ _ _ _ us hl => match us, hl with | [_], _ => rfl) (ok_Hd B H22 H24 H25 )
 have C28_0 := hs (k := 6) (ps := ["tree"]) (sp := spSt 0) a28 (fun _ _ _ _ _ _ us hl => match us, hl with | [_], _ => rfl) fun _ => vY fun _ _ _ _ h => h
 have C28_1 := hs a28 (fun _ _ _ _ _ _ us hl => match us, hl with | [_], _ => rfl) (vy (d := 0) B C28_0 H27 H26 )
 have C28_2 := hs a28 (fun _ _ _ _ _ _ us hl => match us, hl with | [_], _ => rfl) (vy (d := 1) B C28_1 H27 H26 )
 have C28_3 := hs a28 (fun _ _ _ _ _ _ us hl => match us, hl with | [_], _ => rfl) (vy (d := 2) B C28_2 H27 H26 )
 have H28 : Has l.prog w K mg base 10 "shown_tree" ["tree"] Yv := hs a28 (fun _ _ _ _ _ _ us hl => match us, hl with | [_], _ => rfl) fun F => ZJ (sp := spSt) fun d hd => match d, hd with | 0, _ => (vy (d := 0) B C28_0 H27 H26 F).mono (by decide) | 1, _ => (vy (d := 1) B C28_1 H27 H26 F).mono (by decide) | 2, _ => (vy (d := 2) B C28_2 H27 H26 F).mono (by decide) | 3, _ => (vy (d := 3) B C28_3 H27 H26 F).mono (by decide)
 have H29 := hs a29 (fun _ _ _ _ _ _ us hl => match us, hl with | [_], _ => rfl) (ok_Sp B H24 H28 )
 have H30 := hs a30 (fun _ _ _ _ _ _ us hl => match us, hl with | [_], _ => rfl) (ok_Iw B )
 have H31 := hs a31 (fun _ _ _ _ _ _ us hl => match us, hl with | [_, _, _], _ => rfl) (ok_Iww B H30 )
 have H32 := hs a32 (fun _ _ _ _ _ _ us hl => match us, hl with | [_], _ => rfl) (ok_Iwt B H30 )
 have H33 := hs a33 (fun _ _ _ _ _ _ us hl => match us, hl with | [_], _ => rfl) (ok_Iws B H32 )
 have H34 := hs a34 (fun _ _ _ _ _ _ us hl => match us, hl with | [_, _], _ => rfl) (ok_Wat B )
 have H35 := hs a35 (fun _ _ _ _ _ _ us hl => match us, hl with | [_, _], _ => rfl) (ok_Rc B H20 H23 )
 have H36 := hs a36 (fun _ _ _ _ _ _ us hl => match us, hl with | [_, _], _ => rfl) (ok_Rw B H35 H33 )
 have H37 := hs a37 (fun _ _ _ _ _ _ us hl => match us, hl with | [_, _], _ => rfl) (ok_Rg B H36 )
 have H38 := hs a38 (fun _ _ _ _ _ _ us hl => match us, hl with | [_, _, _], _ => rfl) (ok_Ir B H31 H33 )
 have H39 := hs a39 (fun _ _ _ _ _ _ us hl => match us, hl with | [_, _], _ => rfl) (ok_Sk B )
 have H40 := hs a40 (fun _ _ _ _ _ _ us hl => match us, hl with | [_, _], _ => rfl) (ok_Rks B H21 H23 )
 have H41 := hs a41 (fun _ _ _ _ _ _ us hl => match us, hl with | [_, _, _], _ => rfl) (ok_Rhe B H34 H35 )
 have HK := c0.make (P := l.prog) (w := w) (base := base) D X G cna (fun _ _ _ _ _ _ us hl => match us, hl with | [_, _, _, _, _], _ => rfl) (ok_Ti R)
 have hm : ∀ {m q st k ps sp}, MthAt K C m q st → (∀ (kV doc pm : Value) (an : Option Addr) (cdv ct : Value) (us : List Value), us.length = ps.length → bindArgs (PySem.W.fnOf m q (yf st) (zu st) (zc st) .none kV doc pm an cdv ct) ⟨us, []⟩ = pure (ps.zip us)) → (∀ {f fd}, Fun K m q st f fd → FnOk l.prog w K mg base CX0 k f fd ps sp) → HasM l.prog w K mg base k C m ps sp := fun a b c => a.has D b c
 have HM4 := hm c4 (fun _ _ _ _ _ _ us hl => match us, hl with | [_, _, _], _ => rfl) (ok_Tr R B H35 H37 H38 )
 have M1_0 := hm (k := 7) (ps := ["self", "within"]) (sp := spRt C 0) c1 (fun _ _ _ _ _ _ us hl => match us, hl with | [_, _], _ => rfl) fun _ => vY fun _ _ _ _ h => h
 have M2_0 := hm c2 (fun _ _ _ _ _ _ us hl => match us, hl with | [_, _, _, _], _ => rfl) (Zw (d := 0) R B H35 H39 M1_0 )
 have M3_0 := hm c3 (fun _ _ _ _ _ _ us hl => match us, hl with | [_, _, _, _], _ => rfl) (Zx (d := 0) R B H35 M1_0 )
 have M1_1 := hm c1 (fun _ _ _ _ _ _ us hl => match us, hl with | [_, _], _ => rfl) (x9 (d := 0) R B H34 H36 M2_0 M3_0 HM4 )
 have M2_1 := hm c2 (fun _ _ _ _ _ _ us hl => match us, hl with | [_, _, _, _], _ => rfl) (Zw (d := 1) R B H35 H39 M1_1 )
 have M3_1 := hm c3 (fun _ _ _ _ _ _ us hl => match us, hl with | [_, _, _, _], _ => rfl) (Zx (d := 1) R B H35 M1_1 )
 have M1_2 := hm c1 (fun _ _ _ _ _ _ us hl => match us, hl with | [_, _], _ => rfl) (x9 (d := 1) R B H34 H36 M2_1 M3_1 HM4 )
 have M2_2 := hm c2 (fun _ _ _ _ _ _ us hl => match us, hl with | [_, _, _, _], _ => rfl) (Zw (d := 2) R B H35 H39 M1_2 )
 have M3_2 := hm c3 (fun _ _ _ _ _ _ us hl => match us, hl with | [_, _, _, _], _ => rfl) (Zx (d := 2) R B H35 M1_2 )
 have M1_3 := hm c1 (fun _ _ _ _ _ _ us hl => match us, hl with | [_, _], _ => rfl) (x9 (d := 2) R B H34 H36 M2_2 M3_2 HM4 )
 have M2_3 := hm c2 (fun _ _ _ _ _ _ us hl => match us, hl with | [_, _, _, _], _ => rfl) (Zw (d := 3) R B H35 H39 M1_3 )
 have M3_3 := hm c3 (fun _ _ _ _ _ _ us hl => match us, hl with | [_, _, _, _], _ => rfl) (Zx (d := 3) R B H35 M1_3 )
 have HM1 : HasM l.prog w K mg base 15 C "read_tree" ["self", "within"] (WC C) := hm c1 (fun _ _ _ _ _ _ us hl => match us, hl with | [_, _], _ => rfl) fun F => ZJ (sp := spRt C) fun d hd => match d, hd with | 0, _ => (x9 (d := 0) R B H34 H36 M2_0 M3_0 HM4 F).mono (by decide) | 1, _ => (x9 (d := 1) R B H34 H36 M2_1 M3_1 HM4 F).mono (by decide) | 2, _ => (x9 (d := 2) R B H34 H36 M2_2 M3_2 HM4 F).mono (by decide) | 3, _ => (x9 (d := 3) R B H34 H36 M2_3 M3_3 HM4 F).mono (by decide)
 have H42 := hs a42 (fun _ _ _ _ _ _ us hl => match us, hl with | [_, _, _], _ => rfl) (ok_Rp R B H40 H41 H19 HK HM1 )
 have H43 := hs a43 (fun _ _ _ _ _ _ us hl => match us, hl with | [_], _ => rfl) (ok_Lww B )
 have C44_0 := hs (k := 2) (ps := ["_law_tree_here"]) (sp := spSt 0) a44 (fun _ _ _ _ _ _ us hl => match us, hl with | [_], _ => rfl) fun _ => vY fun _ _ _ _ h => h
 have C44_1 := hs a44 (fun _ _ _ _ _ _ us hl => match us, hl with | [_], _ => rfl) (wa (d := 0) B C44_0 H43 )
 have C44_2 := hs a44 (fun _ _ _ _ _ _ us hl => match us, hl with | [_], _ => rfl) (wa (d := 1) B C44_1 H43 )
 have C44_3 := hs a44 (fun _ _ _ _ _ _ us hl => match us, hl with | [_], _ => rfl) (wa (d := 2) B C44_2 H43 )
 have H44 : Has l.prog w K mg base 7 "_law_tree_lines" ["_law_tree_here"] Yv := hs a44 (fun _ _ _ _ _ _ us hl => match us, hl with | [_], _ => rfl) fun F => ZJ (sp := spSt) fun d hd => match d, hd with | 0, _ => (wa (d := 0) B C44_0 H43 F).mono (by decide) | 1, _ => (wa (d := 1) B C44_1 H43 F).mono (by decide) | 2, _ => (wa (d := 2) B C44_2 H43 F).mono (by decide) | 3, _ => (wa (d := 3) B C44_3 H43 F).mono (by decide)
 have H45 := hs a45 (fun _ _ _ _ _ _ us hl => match us, hl with | [_], _ => rfl) (ok_Lpl B H44 )
 have H46 := hs a46 (fun _ _ _ _ _ _ us hl => match us, hl with | [_], _ => rfl) (ok_Ltk B )
 have H47 := hs a47 (fun _ _ _ _ _ _ us hl => match us, hl with | [_], _ => rfl) (ok_Lwt B H2 )
 have H48 := hs a48 (fun _ _ _ _ _ _ us hl => match us, hl with | [_], _ => rfl) (ok_Lsz B )
 have C49_0 := hs (k := 3) (ps := ["_law_tape_here", "_law_pot_here", "_law_sizes_here", "_law_deep"]) (sp := spLt 0) a49 (fun _ _ _ _ _ _ us hl => match us, hl with | [_, _, _, _], _ => rfl) fun _ => vY fun _ _ _ _ h => h
 have C49_1 := hs a49 (fun _ _ _ _ _ _ us hl => match us, hl with | [_, _, _, _], _ => rfl) (vz (d := 0) B H2 H46 H47 C49_0 )
 have C49_2 := hs a49 (fun _ _ _ _ _ _ us hl => match us, hl with | [_, _, _, _], _ => rfl) (vz (d := 1) B H2 H46 H47 C49_1 )
 have C49_3 := hs a49 (fun _ _ _ _ _ _ us hl => match us, hl with | [_, _, _, _], _ => rfl) (vz (d := 2) B H2 H46 H47 C49_2 )
 have H49 : Has l.prog w K mg base 7 "_law_tree" ["_law_tape_here", "_law_pot_here", "_law_sizes_here", "_law_deep"] WJ := hs a49 (fun _ _ _ _ _ _ us hl => match us, hl with | [_, _, _, _], _ => rfl) fun F => ZJ (sp := spLt) fun d hd => match d, hd with | 0, _ => (vz (d := 0) B H2 H46 H47 C49_0 F).mono (by decide) | 1, _ => (vz (d := 1) B H2 H46 H47 C49_1 F).mono (by decide) | 2, _ => (vz (d := 2) B H2 H46 H47 C49_2 F).mono (by decide) | 3, _ => (vz (d := 3) B H2 H46 H47 C49_3 F).mono (by decide)
 have H50 := hs a50 (fun _ _ _ _ _ _ us hl => match us, hl with | [_, _, _], _ => rfl) (ok_Lap B H2 H49 H48 )
 exact ok_Law B H1 H5 H7 H50 H45 H29 H42  F
theorem walk {l : PySem.W.OpenLaw} {q : Program} {loose : List Str} {XP : (Str → Option Value) → Heap → Prop} {YP : World → Heap → Prop} {d : DefRec} {K : Params → W.Frag} (hn : l.most = some 63) (hdf : d.params.defaults = [])
  (hY : ∀ (w : World) (h : Heap), YP w h → (K w.params).In h)
  (F : ∀ (w : World) (mg : Str → Option Value) (fa : Addr) (h : Heap), (K w.params).In h → h.Ns mainGlobals mg → mg d.name = some (.ref fa) →
   ∃ fd : FuncData, (∀ (s : Shared) (u : Value), BindsTo s fd ⟨[u], []⟩ [("_law_script", u)]) ∧ ∀ base : Heap, (K w.params).In base → base.Ns mainGlobals mg → FnOk l.prog w (K w.params) mg base CX0 17 fa fd ["_law_script"] (Yy (K w.params))) :
  PySem.W.WalkO q loose XP YP l.row.toRowW d [] (fun f vs => PySem.call f vs) :=
 L2.walk_of (n := 63) (k := 17) (x := "_law_script") (CX := fun _ => CX0) (sp := fun w => Yy (K w.params)) hn (by decide) hdf ⟨rfl, by decide, by decide, rfl⟩ hY F (fun _ H a ns hl hO hS => ⟨a, ns, rfl, SqF.of hO hS, hl, fun _ => rfl⟩) fun _ _ _ _ _ z => z
end K37
open PySem PySem.W PyProof.Rows
set_option maxRecDepth 100000 in
set_option maxHeartbeats 0 in
theorem PySem.Challenge.cw_dropsums_k37_papers_written_and_read_holds : PySem.Challenge.rw_dropsums_k37_papers_written_and_read.Holds := by
 w_on
 refine PySem.W.holds_law K37.said0 fun said => ?_
 refine PySem.W.holds_open (q := K37.VW) (loose := []) (Xt := fun s => PySem.W.xlAt K37.VW [] s && PySem.W.recOk (PySem.W.RowW.records K37.RR.toRowW) s) (XP := PySem.W.XL K37.VW []) (Yf := PySem.W.Hook.obs (PySem.W.kHook K37.KK K37.KA K37.ke)) (Ya := PySem.W.Hook.val (PySem.W.kHook K37.KK K37.KA K37.ke)) (YP := PySem.W.Hook.says (PySem.W.kHook K37.KK K37.KA K37.ke)) (N := 5172) K37.left0 (PySem.W.Hook.of _) (PySem.W.Hook.keeps _) (fun s e => PySem.W.xl_of s (Bool.and_eq_true_iff.mp e).1) PySem.W.XL.keeps (by rfl) (by rfl) (by rfl) (fun s e => PySem.W.recFacts_of (Bool.and_eq_true_iff.mp e).2) (by rfl) said (by decide +kernel) ⟨rfl, rfl, rfl, rfl, rfl, by decide +kernel⟩ ?hw ?hc
 case hw => w_witness2
 k_fill
 refine K37.walk (l := PySem.Challenge.rw_dropsums_k37_papers_written_and_read) rfl rfl (fun w h Y => PySem.W.kIn_of Y) ?F
 case F =>
  intro w mg fa h KX G hmg
  refine' K37.all_mk KX G hmg ?a1 ?a2 ?a3 ?a4 ?a5 ?a6 ?a7 ?a8 ?a9 ?a10 ?a11 ?a12 ?a13 ?a14 ?a15 ?a16 ?a17 ?a18 ?a19 ?a20 ?a21 ?a22 ?a23 ?a24 ?a25 ?a26 ?a27 ?a28 ?a29 ?a30 ?a31 ?a32 ?a33 ?a34 ?a35 ?a36 ?a37 ?a38 ?a39 ?a40 ?a41 ?a42 ?a43 ?a44 ?a45 ?a46 ?a47 ?a48 ?a49 ?a50 ?a51 ?z1 ?z2 ?z3 ?z4 ?z5 ?z6 ?z7 ?z8 ?z9 ?z10 ?z11 ?z12 ?z13 ?g1 ?g2 ?g3 ?g4 ?g5 ?g6 ?g7 ?g8 ?g9 ?g10 ?g11 ?g12 ?g13 ?g14 ?g15 ?g16 ?g17 ?g18 ?g19 ?cna ?D ?cf1 ?cf2 ?cf3 ?cf4 ?cf5 ?c0 ?c1 ?c2 ?c3 ?c4
  all_goals first | exact L2.fnAt (by k_is) (by k_is) (by k_is) (by k_is) | exact L2.noIn (by k_is) | exact L2.intIn (by k_is) | exact L2.strIn (by k_is) | exact L2.clsIn (by k_is) (by k_is) (by k_is) (by k_is) (by k_is) (by k_is) | exact L2.noAttr (by k_is) | exact L2.mthAt (by k_is) (by k_is) (by k_is) (by k_is) (by k_is) | k_is | skip
