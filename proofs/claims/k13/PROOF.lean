import PyProof.Rows.All
import Wide.All
import OpenK.AllK
import Wide.FinOn
import Lean
import PyProof.EqAt
import PyProof.EqKinds
import PyProof.TupleCall
import KE.KTryMore
import KE.KDictLaws
import KE.KDictList
import KE.KIntText
import KE.RegKTryMore
import PySem.Challenge.RW_askbook_k13_whole_keys
set_option Elab.async false
set_option linter.all false
set_option maxRecDepth 100000
set_option maxHeartbeats 4000000
section
namespace L2
open PySem
noncomputable def lamCaps : List Str := ["many"]
end L2
end
section
namespace L2
open PySem PySem.Spec PyProof.Rows
noncomputable abbrev Key := Sum Int Str
noncomputable def keyIs : Key → Value → Bool
 | .inl k, v => Value.isInt k v
 | .inr x, v => Value.isStrOf x v
noncomputable def keyH (w : World) : Key → Int
 | .inl k => hashInt k
 | .inr x => hashStr w x
theorem de : ∀ {k : Key} {v : Value}, keyIs k v = true → (∃ i t, k = Sum.inl i ∧ v = Value.int i t) ∨ (∃ x t, k = Sum.inr x ∧ v = Value.str x t)
 | .inl i, v, h => by
  obtain ⟨t, e⟩ := Value.isInt_shape (k := i) (v := v) h
  exact .inl ⟨i, t, rfl, e⟩
 | .inr x, v, h => by
  obtain ⟨t, e⟩ := Value.isStrOf_shape (x := x) (v := v) h
  exact .inr ⟨x, t, rfl, e⟩
theorem key_ll (a b : Int) : decide ((Sum.inl a : Key) = Sum.inl b) = (a == b) := by
 by_cases e : a = b
 ·subst e; simp
 ·have h : ¬ (Sum.inl a : Key) = Sum.inl b := fun q => e (Sum.inl.inj q)
  rw [decide_eq_false h]
  exact (beq_eq_false_iff_ne.mpr e).symm
theorem key_rr (a b : Str) : decide ((Sum.inr a : Key) = Sum.inr b) = decide (a = b) := by
 by_cases e : a = b
 ·subst e; simp
 ·have h : ¬ (Sum.inr a : Key) = Sum.inr b := fun q => e (Sum.inr.inj q)
  rw [decide_eq_false h, decide_eq_false e]
theorem key_lr (a : Int) (b : Str) : decide ((Sum.inl a : Key) = Sum.inr b) = false := decide_eq_false (fun q => nomatch q)
theorem key_rl (a : Str) (b : Int) : decide ((Sum.inr a : Key) = Sum.inl b) = false := decide_eq_false (fun q => nomatch q)
noncomputable def mixKind (prog : Program) (w : World) : PySem.KeyKind prog w Key where
 is := keyIs
 hash := keyH w
 inj := fun v a b ha hb => by
  rcases de ha with ⟨i, t, rfl, rfl⟩ | ⟨x, t, rfl, rfl⟩
  ·rcases de hb with ⟨j, u, rfl, e⟩ | ⟨y, u, rfl, e⟩
   ·injection e with e1 _; rw [e1]
   ·exact nomatch e
  ·rcases de hb with ⟨j, u, rfl, e⟩ | ⟨y, u, rfl, e⟩
   ·exact nomatch e
   ·injection e with e1 _; rw [e1]
 byValue := fun k v h => by
  rcases de h with ⟨i, t, rfl, rfl⟩ | ⟨x, t, rfl, rfl⟩ <;> rfl
 pyHash := fun hv h => by
  rcases de hv with ⟨i, t, rfl, rfl⟩ | ⟨x, t, rfl, rfl⟩
  ·exact wpAny_pyHash_int h
  ·exact wpAny_pyHash_str h
 eqBool := fun hu hv h => by
  rcases de hu with ⟨i, t, rfl, rfl⟩ | ⟨x, t, rfl, rfl⟩
  ·rcases de hv with ⟨j, u, rfl, rfl⟩ | ⟨y, u, rfl, rfl⟩
   ·rw [key_ll] at h; exact wpAny_eqBool_int h
   ·rw [key_lr] at h; exact SeqAt.EqAt.int_str i t y u _ _ _ _ h
  ·rcases de hv with ⟨j, u, rfl, rfl⟩ | ⟨y, u, rfl, rfl⟩
   ·rw [key_rl] at h; exact SeqAt.EqAt.str_int x t j u _ _ _ _ h
   ·rw [key_rr] at h; exact wpAny_eqBool_str h
 «strs» := fun k x t v h => by
  rcases de h with ⟨i, u, rfl, e⟩ | ⟨y, u, rfl, e⟩
  ·exact nomatch e
  ·injection e with e1 _
   subst e1
   cases v <;> rfl
end L2
namespace L2
open PySem PySem.Spec PyProof.Rows
inductive V where
 | non | bl (b : Bool) | int (i : Int) | str (x : Str) | byt (b : Array UInt8) | flt (b : UInt64) | ref (a : Addr) | ty (n : String)
 deriving DecidableEq
noncomputable def RelV : V → Value → Prop
 | .non, u => u = Value.none
 | .bl b, u => u = Value.bool b
 | .int i, u => ∃ t, u = Value.int i t
 | .str x, u => ∃ t, u = Value.str x t
 | .byt b, u => ∃ t, u = Value.bytes b t
 | .flt b, u => ∃ t, u = Value.float b t
 | .ref a, u => u = Value.ref a
 | .ty n, u => u = Value.type n
noncomputable abbrev Vals : List V → List Value → Prop := Paired RelV
theorem Vals.length {xs : List V} {us : List Value} (r : Vals xs us) : xs.length = us.length := Paired.length r
theorem Vals.get : ∀ {xs : List V} {us : List Value} {i : Nat} {x : V}, Vals xs us → xs[i]? = some x → ∃ u, us[i]? = some u ∧ RelV x u
 | _, _, _, _, .nil, e => by simp at e
 | _, _, 0, _, .cons r _, e => by simp at e; subst e; exact ⟨_, rfl, r⟩
 | _, _, i + 1, x, .cons _ t, e => by
  obtain ⟨u, h1, h2⟩ := Vals.get (i := i) (x := x) t (by simpa using e)
  exact ⟨u, by simpa using h1, h2⟩
theorem Vals.set {x : V} {u : Value} (r : RelV x u) : ∀ {xs : List V} {us : List Value} (i : Nat), Vals xs us → Vals (xs.set i x) (us.set i u)
 | _, _, _, .nil => .nil
 | _, _, 0, .cons _ t => .cons r t
 | _, _, i + 1, .cons q t => .cons q (Vals.set r i t)
theorem Vals.append : ∀ {xs ys : List V} {us ws : List Value}, Vals xs us → Vals ys ws → Vals (xs ++ ys) (us ++ ws)
 | _, _, _, _, .nil, s => s
 | _, _, _, _, .cons r t, s => .cons r (Vals.append t s)
theorem Vals.take : ∀ {xs : List V} {us : List Value} (n : Nat), Vals xs us → Vals (xs.take n) (us.take n)
 | _, _, 0, _ => .nil
 | _, _, _ + 1, .nil => .nil
 | _, _, n + 1, .cons r t => .cons r (Vals.take n t)
theorem Vals.drop : ∀ {xs : List V} {us : List Value} (n : Nat), Vals xs us → Vals (xs.drop n) (us.drop n)
 | _, _, 0, r => r
 | _, _, _ + 1, .nil => .nil
 | _, _, n + 1, .cons _ t => Vals.drop n t
noncomputable def RelO : Option V → Option Value → Prop
 | some v, some u => RelV v u
 | none, none => True
 | _, _ => False
noncomputable def KV {κ : Type} : List (κ × V) → List (κ × Value) → Prop := Paired fun (p : κ × V) (q : κ × Value) => p.1 = q.1 ∧ RelV p.2 q.2
noncomputable def kV : Key → V
 | .inl i => .int i
 | .inr x => .str x
inductive HO where
 | lst (xs : List V)
 | tup (xs : List V)
 | dK (kvs : List (Key × V)) | dT (kvs : List (List Key × V))
 | set (S : Int → Bool) (n : Nat)
 | ins (C dx : Addr) (fs : List (Str × V))
 | own (x : Addr)
 | xd (fs : List (Str × V))
 | met (f x : Addr)
 | rng (lo hi : Int)
 | frz (o : Obj) (u : HO)
 | tbl (q : Str)
 | ext (φ : Heap → Prop)
noncomputable abbrev Hp := Addr → Option HO
noncomputable def upd (H : Hp) (a : Addr) (o : HO) : Hp := fun b => if b = a then some o else H b
theorem bg {H : Hp} {a : Addr} {o : HO} : upd H a o a = some o := by unfold upd; rw [if_pos rfl]
theorem ak {H : Hp} {a b : Addr} {o : HO} (h : b ≠ a) : upd H a o b = H b := by unfold upd; rw [if_neg h]
theorem am {H : Hp} {a b : Addr} {o : HO} (h : H a = some o) (h' : H b = none) : a ≠ b := by
 intro e; subst e; rw [h] at h'; cases h'
noncomputable def Trip (H : Hp) (q : Str) : List Value → Prop
 | [] => True
 | .int _ _ :: .int _ _ :: .ref c' :: r => (∃ (oc : Obj) (vs : Array Value) (t : Tok), H c' = some (.frz oc (.own 0)) ∧ oc.data = .fields vs ∧ vs[1]? = some (.str q t)) ∧ Trip H q r
 | _ => False
theorem Trip.mono {H H' : Hp} {q : Str} (hz : ∀ b o u, H b = some (.frz o u) → H' b = some (.frz o u)) (l : List Value) (h : Trip H q l) : Trip H' q l := by
 fun_induction Trip H q l with
 | case1 => unfold Trip; trivial
 | case2 _ _ _ _ c' r ih =>
  obtain ⟨⟨oc, vs, t, e1, e2⟩, h2⟩ := h
  unfold Trip
  exact ⟨⟨oc, vs, t, hz _ _ _ e1, e2⟩, ih h2⟩
 | case3 => exact h.elim
section
variable (P : Program) (w : World)
noncomputable def ObjOk (H : Hp) (h : Heap) (a : Addr) : HO → Prop
 | .lst xs => xs.length ≤ sizeLine ∧ ∃ (its : List Value) (n : Nat), Vals xs its ∧ h.get? a = some { cls := .type "list", data := .seq its.toArray n }
 | .tup xs => xs.length ≤ sizeLine ∧ ∃ its : List Value, Vals xs its ∧ IsTup h a its.toArray
 | .dK kvs => kvs.length ≤ sizeLine ∧ (a == sysModules) = false ∧ ∃ vs, KV kvs vs ∧ h.DictOf (mixKind P w) a vs
 | .dT kvs => kvs.length ≤ sizeLine ∧ (a == sysModules) = false ∧ ∃ xs : List (List Key × Addr × Value),
   Paired (fun (p : List Key × V) (q : List Key × Addr × Value) => p.1 = q.1 ∧ H q.2.1 = some (.tup (p.1.map kV)) ∧ RelV p.2 q.2.2) kvs xs ∧
   ∃ o es ep, h.get? a = some o ∧ o.ExactDict ∧ o.data = .dict es ep ∧ es.toList = xs.map (entryOfKey (tupleKind (mixKind P w))) ∧ (xs.map (·.1)).Nodup
 | .set S n => h.SetOf (intKind P w) a S n
 | .ins C dx fs => H dx = some (.own a) ∧ fs.length ≤ 1000 ∧ dx ≠ a ∧ h.get? a = some (PySem.W.instObj C dx) ∧
   ∃ mA, h.Ns1 dx mA ∧ (∀ f, RelO (fs.lookup f) (mA f)) ∧ PySem.Within mA (fs.map (·.1))
 | .own _ => ∃ o, h.get? a = some o
 | .xd fs => ∃ mA, h.Ns1 a mA ∧ ∀ f, RelO (fs.lookup f) (mA f)
 | .rng lo hi => ∃ t u v, h.get? a = some { cls := .type "range", data := .fields #[.int lo t, .int hi u, .int 1 v] }
 | .frz o u => h.get? a = some o ∧ ObjOk H h a u
 | .tbl q => ∃ ps : Array Value, h.get? a = some { cls := .none, data := .fields ps } ∧ Trip H q ps.toList
 | .met f x => h.get? a = some (PySem.W.methodObj (.ref f) (.ref x))
 | .ext φ => φ h ∧ (∃ o, h.get? a = some o) ∧ ∀ h1 h2 : Heap, φ h1 → (∀ o, h1.get? a = some o → h2.get? a = some o) → φ h2
noncomputable def HOk (H : Hp) (h : Heap) : Prop := ∀ a o, H a = some o → ObjOk P w H h a o
end
section
variable {P : Program} {w : World} {H H' : Hp} {h h' : Heap} {a : Addr} {o : HO}
theorem ObjOk.lt (x : ObjOk P w H h a o) : a < h.objs.size := by
 cases o with
 | lst xs => obtain ⟨_, _, _, _, e⟩ := x; exact Heap.lt_size e
 | tup xs => obtain ⟨_, _, _, p⟩ := x; exact p.lt
 | dK kvs => obtain ⟨_, _, _, _, o, _, _, e, _⟩ := x; exact Heap.lt_size e
 | dT kvs => obtain ⟨_, _, _, _, o, _, _, e, _⟩ := x; exact Heap.lt_size e
 | set S n => obtain ⟨o, _, _, _, e, _⟩ := x; exact Heap.lt_size e
 | ins C dx fs => obtain ⟨_, _, _, e, _⟩ := x; exact Heap.lt_size e
 | own y => obtain ⟨_, e⟩ := x; exact Heap.lt_size e
 | xd fs => obtain ⟨_, ⟨_, _, _, e, _⟩, _⟩ := x; exact Heap.lt_size e
 | rng lo hi => obtain ⟨_, _, _, e⟩ := x; exact Heap.lt_size e
 | frz ob u => obtain ⟨e, _⟩ := x; exact Heap.lt_size e
 | tbl q => obtain ⟨ps, e, _⟩ := x; exact Heap.lt_size e
 | met f y => exact Heap.lt_size (show h.get? a = some _ from x)
 | ext φ => obtain ⟨_, ⟨_, e⟩, _⟩ := x; exact Heap.lt_size e
theorem Paired.mapP {α β : Type} {F G : α → β → Prop} : ∀ {l₁ : List α} {l₂ : List β}, Paired F l₁ l₂ → (∀ a b, F a b → G a b) → Paired G l₁ l₂
 | _, _, .nil, _ => .nil
 | _, _, .cons r t, f => .cons (f _ _ r) (Paired.mapP t f)
theorem ObjOk.stay (x : ObjOk P w H h a o) (k : ∀ b u, (b = a ∨ H b = some (.own a)) → h.get? b = some u → h'.get? b = some u)
  (ho : ∀ b, H b = some (.own a) → H' b = some (.own a)) (ht : ∀ b xs, H b = some (.tup xs) → H' b = some (.tup xs)) (hz : ∀ b o u, H b = some (.frz o u) → H' b = some (.frz o u) := by exact fun _ _ _ q => q) : ObjOk P w H' h' a o := by
 induction o with
 | lst xs => obtain ⟨z, its, n, r, e⟩ := x; exact ⟨z, its, n, r, k _ _ (.inl rfl) e⟩
 | tup xs => obtain ⟨z, its, r, ob, e, c⟩ := x; exact ⟨z, its, r, ob, k _ _ (.inl rfl) e, c⟩
 | dK kvs => obtain ⟨z, y, vs, r, ob, es, ep, e, c⟩ := x; exact ⟨z, y, vs, r, ob, es, ep, k _ _ (.inl rfl) e, c⟩
 | dT kvs =>
  obtain ⟨z, y, xs, r, ob, es, ep, e, c⟩ := x
  exact ⟨z, y, xs, Paired.mapP r fun p q z => ⟨z.1, ht _ _ z.2.1, z.2.2⟩, ob, es, ep, k _ _ (.inl rfl) e, c⟩
 | set S n => obtain ⟨ob, es, ep, t, e, c⟩ := x; exact ⟨ob, es, ep, t, k _ _ (.inl rfl) e, c⟩
 | ins C dx fs =>
  obtain ⟨d, z, ne, e, mA, ⟨od, es, ep, e2, c⟩, r⟩ := x
  exact ⟨ho _ d, z, ne, k _ _ (.inl rfl) e, mA, ⟨od, es, ep, k _ _ (.inr d) e2, c⟩, r⟩
 | own y => obtain ⟨ob, e⟩ := x; exact ⟨ob, k _ _ (.inl rfl) e⟩
 | xd fs => obtain ⟨mA, ⟨od, es, ep, e, c⟩, r⟩ := x; exact ⟨mA, ⟨od, es, ep, k _ _ (.inl rfl) e, c⟩, r⟩
 | rng lo hi => obtain ⟨t, u, v, e⟩ := x; exact ⟨t, u, v, k _ _ (.inl rfl) e⟩
 | frz ob u ih => obtain ⟨e, q⟩ := x; exact ⟨k _ _ (.inl rfl) e, ih q⟩
 | tbl q =>
  obtain ⟨ps, e, r⟩ := x
  exact ⟨ps, k a _ (.inl rfl) e, r.mono hz⟩
 | met f y =>
  have e : h.get? a = some (PySem.W.methodObj (.ref f) (.ref y)) := x
  show h'.get? a = some (PySem.W.methodObj (.ref f) (.ref y))
  exact k a _ (.inl rfl) e
 | ext φ => obtain ⟨p, ⟨o, e⟩, st⟩ := x; exact ⟨st _ _ p fun o q => k _ _ (.inl rfl) q, ⟨o, k _ _ (.inl rfl) e⟩, st⟩
theorem HOk.lt (x : HOk P w H h) (e : H a = some o) : a < h.objs.size := (x a o e).lt
theorem HOk.fresh (x : HOk P w H h) (e : h.objs.size ≤ a) : H a = none := by
 cases q : H a with
 | none => rfl
 | some u => exact absurd (Nat.lt_of_lt_of_le (x.lt q) e) (Nat.lt_irrefl _)
theorem HOk.kept (x : HOk P w H h) (k : ∀ b u, h.get? b = some u → h'.get? b = some u) : HOk P w H h' := fun a o e =>
 (x a o e).stay (fun b u _ q => k b u q) (fun _ q => q) fun _ _ q => q
theorem HOk.laid (x : HOk P w H h) (k : ∀ b u, h.get? b = some u → h'.get? b = some u) (hp : h.objs.size ≤ a) (new : ObjOk P w (upd H a o) h' a o) : HOk P w (upd H a o) h' := fun b u e => by
 have hn := x.fresh hp
 by_cases hb : b = a
 ·subst hb; rw [bg] at e; cases e; exact new
 ·rw [ak hb] at e
  exact (x b u e).stay (fun c v _ q => k c v q) (fun c q => by rw [ak (am q hn)]; exact q) (fun c xs q => by rw [ak (am q hn)]; exact q) fun c ob u q => by rw [ak (am q hn)]; exact q
end
noncomputable def Rd (H : Hp) (a : Addr) (u : HO) : Prop := H a = some u ∨ ∃ o, H a = some (.frz o u)
theorem Rd.of {H : Hp} {a : Addr} {u : HO} (h : H a = some u) : Rd H a u := .inl h
theorem Rd.ok {P : Program} {w : World} {H : Hp} {h : Heap} {a : Addr} {u : HO} (r : Rd H a u) (x : HOk P w H h) : ObjOk P w H h a u := by
 rcases r with r | ⟨o, r⟩
 ·exact x a u r
 ·obtain ⟨_, q⟩ := x a _ r
  exact q
noncomputable def Mut : Option HO → Prop
 | some (.lst _) => True
 | some (.dK _) => True
 | some (.dT _) => True
 | some (.set _ _) => True
 | some (.ins _ _ _) => True
 | some (.ext _) => True
 | _ => False
section
variable {P : Program} {w : World} {H : Hp} {h h' : Heap} {x e : Addr} {o' : HO}
theorem HOk.write (ok : HOk P w H h) (mu : Mut (H x)) (he : e = x ∨ H e = some (.own x)) (k : ∀ b u, b ≠ e → h.get? b = some u → h'.get? b = some u) (heo : ∃ u, h'.get? e = some u)
  (new : ObjOk P w (upd H x o') h' x o') : HOk P w (upd H x o') h' := fun b u q => by
 have nown : ∀ c y, H c = some (.own y) → c ≠ x := fun c y r z => by subst z; rw [r] at mu; exact mu
 have ntup : ∀ c xs, H c = some (.tup xs) → c ≠ x := fun c xs r z => by subst z; rw [r] at mu; exact mu
 have nfrz : ∀ c ob v, H c = some (.frz ob v) → c ≠ x := fun c ob v r z => by subst z; rw [r] at mu; exact mu
 by_cases hb : b = x
 ·subst hb; rw [bg] at q; cases q; exact new
 ·rw [ak hb] at q
  by_cases hbe : b = e
  ·have q' : H b = some (.own x) := by
    rcases he with z | z
    ·exact absurd (hbe.trans z) hb
    ·rw [hbe]; exact z
   rw [q] at q'; cases q'
   obtain ⟨v, hv⟩ := heo
   exact ⟨v, by rw [hbe]; exact hv⟩
  ·refine (ok b u q).stay (fun c v hc r => k c v ?_ r) (fun c r => by rw [ak (nown c b r)]; exact r) (fun c xs r => by rw [ak (ntup c xs r)]; exact r) fun c ob v r => by rw [ak (nfrz c ob v r)]; exact r
   rcases hc with rfl | hc
   ·exact hbe
   ·rintro rfl
    rcases he with z | z
    ·exact nown c b hc z
    ·rw [hc] at z; cases z; exact hb rfl
end
structure Un (fs ex : List Addr) (H H' : Hp) (h h' : Heap) : Prop where
 keep : ∀ b o, h.get? b = some o → H b = none → b ∉ fs → b ∉ ex → h'.get? b = some o
 slot : ∀ b o, h.get? b = some o → H b = none → b ∈ fs → b ∉ ex → ∃ sl, h'.get? b = some { o with slots := sl }
 free : ∀ b o, h.get? b = some o → H b = none → b ∉ ex → H' b = none
 there : ∀ b o, h.get? b = some o → b ∉ ex → ∃ o', h'.get? b = some o'
 tups : ∀ b xs, H b = some (.tup xs) → H' b = some (.tup xs)
 frzs : ∀ b o u, H b = some (.frz o u) → H' b = some (.frz o u)
 tbls : ∀ b q, H b = some (.tbl q) → H' b = some (.tbl q)
section
variable {fs fs' ex ex' : List Addr} {H H1 H2 : Hp} {h h1 h2 h' : Heap} {a x e : Addr} {o : HO}
theorem Un.any (u : Un fs ex H H1 h h1) {b : Addr} {ob : Obj} (q : h.get? b = some ob) (n : H b = none) (hx : b ∉ ex) : ∃ sl, h1.get? b = some { ob with slots := sl } := by
 by_cases hb : b ∈ fs
 ·exact u.slot b ob q n hb hx
 ·exact ⟨ob.slots, u.keep b ob q n hb hx⟩
theorem Un.trans (a : Un fs ex H H1 h h1) (b : Un fs ex H1 H2 h1 h2) : Un fs ex H H2 h h2 where
 keep := fun c ob q n hc hx => b.keep c ob (a.keep c ob q n hc hx) (a.free c ob q n hx) hc hx
 slot := fun c ob q n hc hx => by
  obtain ⟨sl, e1⟩ := a.slot c ob q n hc hx
  obtain ⟨sl', e2⟩ := b.slot c _ e1 (a.free c ob q n hx) hc hx
  exact ⟨sl', e2⟩
 free := fun c ob q n hx => by
  obtain ⟨o', e1⟩ := a.there c ob q hx
  exact b.free c o' e1 (a.free c ob q n hx) hx
 there := fun c ob q hx => by
  obtain ⟨o', e1⟩ := a.there c ob q hx
  exact b.there c o' e1 hx
 tups := fun c xs q => b.tups c xs (a.tups c xs q)
 frzs := fun c ob xs q => b.frzs c ob xs (a.frzs c ob xs q)
 tbls := fun p q z => b.tbls p q (a.tbls p q z)
theorem Un.kept (k : ∀ b u, h.get? b = some u → h'.get? b = some u) : Un fs ex H H h h' :=
 ⟨fun b ob q _ _ _ => k b ob q, fun b ob q _ _ _ => ⟨ob.slots, k b ob q⟩, fun _ _ _ n _ => n, fun b ob q _ => ⟨ob, k b ob q⟩, fun _ _ q => q, fun _ _ _ q => q, fun _ _ q => q⟩
theorem Un.refl : Un fs ex H H h h := Un.kept fun _ _ q => q
theorem Un.laid (k : ∀ b u, h.get? b = some u → h'.get? b = some u) (hp : h.objs.size ≤ a) (hn : H a = none) : Un fs ex H (upd H a o) h h' where
 keep := fun b u q _ _ _ => k b u q
 slot := fun b u q _ _ _ => ⟨u.slots, k b u q⟩
 free := fun b u q n _ => by rw [ak (Nat.ne_of_lt (Nat.lt_of_lt_of_le (Heap.lt_size q) hp))]; exact n
 there := fun b u q _ => ⟨u, k b u q⟩
 tups := fun b xs q => by rw [ak (am q hn)]; exact q
 frzs := fun b u xs q => by rw [ak (am q hn)]; exact q
 tbls := fun b _ q => by rw [ak (am q hn)]; exact q
theorem Un.write (mu : Mut (H x)) (he : e = x ∨ H e = some (.own x)) (k : ∀ b u, b ≠ e → h.get? b = some u → h'.get? b = some u) (heo : ∃ u, h'.get? e = some u) : Un fs ex H (upd H x o) h h' := by
 have hx : ∀ b, H b = none → b ≠ x := fun b n z => by subst z; rw [n] at mu; exact mu
 have hb : ∀ b, H b = none → b ≠ e := fun b n z => by
  subst z
  rcases he with r | r
  ·exact hx b n r
  ·rw [n] at r; cases r
 have hm : ∀ b u, H b = some u → ¬ Mut (some u) → b ≠ x := fun b u q nm z => by subst z; rw [q] at mu; exact nm mu
 refine ⟨fun b u q n _ _ => k b u (hb b n) q, fun b u q n _ _ => ⟨u.slots, k b u (hb b n) q⟩, fun b u q n _ => by rw [ak (hx b n)]; exact n, fun b u q _ => ?_,
  fun b xs q => by rw [ak (hm b _ q fun z => z)]; exact q, fun b u xs q => by rw [ak (hm b _ q fun z => z)]; exact q, fun b _ q => by rw [ak (hm b _ q fun z => z)]; exact q⟩
 by_cases hbe : b = e
 ·subst hbe; exact heo
 ·exact ⟨u, k b u hbe q⟩
theorem Un.mono (u : Un fs ex H H1 h h1) (hs : ∀ b ∈ fs, b ∈ fs') (hx : ∀ b ∈ ex, b ∈ ex') : Un fs' ex' H H1 h h1 :=
 ⟨fun b ob q n hb he => u.keep b ob q n (fun z => hb (hs b z)) fun z => he (hx b z), fun _ _ q n _ he => u.any q n fun z => he (hx _ z), fun b ob q n he => u.free b ob q n fun z => he (hx b z), fun b ob q he => u.there b ob q fun z => he (hx b z), u.tups, u.frzs, u.tbls⟩
end
noncomputable def trk (h : Heap) (H : Hp) : List Addr := (List.range h.objs.size).filter fun a => (H a).isSome
noncomputable def hidT (h : Heap) (H : Hp) : Heap := PySem.W.hideAll h (trk h H)
theorem hidT_size (h : Heap) (H : Hp) : (hidT h H).objs.size = h.objs.size := PySem.W.hideAll_size _ _
theorem hidT_get {h : Heap} {H : Hp} {b : Addr} {o : Obj} (e : h.get? b = some o) (n : H b = none) : (hidT h H).get? b = some o :=
 PySem.W.hideAll_get _ e fun hm => by
  have q : (H b).isSome = true := (List.mem_filter.mp hm).2
  rw [n] at q; simp at q
theorem of_hidT {h : Heap} {H : Hp} {b : Addr} {o : Obj} (e : (hidT h H).get? b = some o) : h.get? b = some o ∧ H b = none := by
 have e' : h.get? b = some o := PySem.W.of_hideAll (trk h H) e
 refine ⟨e', ?_⟩
 cases q : H b with
 | none => rfl
 | some x =>
  have hm : b ∈ trk h H := List.mem_filter.mpr ⟨List.mem_range.mpr (Heap.lt_size e'), by simp [q]⟩
  have z : (hidT h H).get? b = none := PySem.W.hideAll_none (trk h H) hm
  rw [z] at e; cases e
noncomputable def allNews (g h : Heap) (L : Addr) : List (Addr × Obj) := (List.range h.objs.size).filterMap fun a => if a = L ∨ (g.get? a).isSome = true then none else (h.get? a).map fun o => (a, o)
noncomputable def rest (g h : Heap) (L d : Addr) : List (Addr × Obj) := (allNews g h L).filter fun p => decide (p.1 ≠ d)
end L2
namespace L2
open PySem PySem.Spec PyProof.Rows
structure Mod (K : PySem.W.Frag) (mg : Str → Option Value) (base : Heap) : Prop where
 kin : K.In base
 glob : base.Ns mainGlobals mg
 blt : ∃ mb, base.Ns builtinsNs mb ∧ ∀ x : Str, x ≠ "__name__" → mb x = bootBuiltins x
 nolimit : base.NoLimit
structure Cx where
 prog : Program
 w : World
 K : PySem.W.Frag
 mg : Str → Option Value
 base : Heap
 A : Around
 N : List Str
 s₀ : Shared
 H₀ : Hp
 env : Env
 outer : List Env
 stack : List Env
 ex : List Addr
 fn : Str → Bool
 calm : Bool
 pn : List (Addr × Obj)
 xe : Value → Shared → Prop
noncomputable def frs (l : List Env) : List Addr := l.filterMap (·.frame)
noncomputable abbrev Cx.fs (X : Cx) : List Addr := frs X.outer
noncomputable def Vis (sc : Scope) (x : Str) : Prop := sc.names.lookup x = some .local ∨ sc.names.lookup x = some .cell ∨ sc.names.lookup x = some .free
noncomputable def Loc (sc : Scope) (x : Str) : Prop := sc.names.lookup x = some .local ∨ sc.names.lookup x = some .cell
noncomputable def Look (env : Env) (h : Heap) (m : Str → Option Value) (x : Str) (u : Value) : Prop :=
 (env.kindOf x = some .local ∧ m x = some u) ∨ ((env.kindOf x = some .cell ∨ env.kindOf x = some .free) ∧ ∃ c, env.cells.lookup x = some c ∧ h.IsCell c (some u))
structure Cx.Ok (X : Cx) : Prop where
 mod : Mod X.K X.mg X.base
 kind : X.env.scope.kind = .function
 glob : X.env.globals = mainGlobals
 blt : X.env.builtins = builtinsNs
 above : X.s₀.heap.objs.size ≤ X.env.locals
 inj : ∀ x y c, X.env.cells.lookup x = some c → X.env.cells.lookup y = some c → x = y
 has : ∀ x, (X.env.kindOf x = some .cell ∨ X.env.kindOf x = some .free) → ∃ c, X.env.cells.lookup x = some c
 cab : ∀ x c, X.fn x = true → X.env.cells.lookup x = some c → X.s₀.heap.objs.size ≤ c
 hd : X.calm = true → X.A.handled = none
 frames : X.A.frames = some X.stack
 stk : X.stack = X.outer ∨ (X.stack = X.env :: X.outer ∧ X.env.frame = some X.env.locals)
 exf : ∀ b ∈ X.ex, b ≠ X.env.locals ∧ ∀ x c, X.env.cells.lookup x = some c → c ≠ b
 bs : ∀ b o, X.base.get? b = some o → X.s₀.heap.get? b = some o ∧ X.H₀ b = none
 bsz : X.base.objs.size ≤ X.s₀.heap.objs.size
 noex : ∀ b o, X.base.get? b = some o → b ∉ X.ex
 exfs : ∀ b ∈ X.ex, b ∉ X.fs
 funs : X.s₀.heap.FunFrames X.base X.outer
 frf : ∀ b ∈ X.fs, X.H₀ b = none
structure Inv (X : Cx) (pins : List (Addr × Obj)) (σ : List (Option V)) (H : Hp) (s : Shared) : Prop where
 ok : X.Ok
 os : s.os = X.s₀.os
 bare : AllBare s.gens
 base : Un X.fs X.ex X.H₀ H X.s₀.heap s.heap
 loc : ∃ m, s.heap.Ns X.env.locals m ∧ ∀ (i : Nat) (x : Str) (v : V), X.N[i]? = some x → σ[i]? = some (some v) → Vis X.env.scope x → ∃ u, RelV v u ∧ Look X.env s.heap m x u
 cell : ∀ x c, X.env.cells.lookup x = some c → ∃ v, s.heap.IsCell c v
 free : H X.env.locals = none
 freeC : ∀ x c, X.env.cells.lookup x = some c → H c = none ∨ (X.fn x = false ∧ ∃ o, H c = some (.frz o (.own 0)))
 pin : ∀ p ∈ X.pn ++ pins, s.heap.get? p.1 = some p.2 ∧ H p.1 = none ∧ p.1 ≠ X.env.locals ∧ p.1 ∉ X.fs ∧ ∀ v, p.2.data ≠ .cell v
 hok : HOk X.prog X.w H s.heap
 len : σ.length = X.N.length
section
variable {X : Cx} {pins : List (Addr × Obj)} {σ : List (Option V)} {H H' : Hp} {s : Shared} {h' : Heap}
theorem Cx.Ok.nofr (ok : X.Ok) {b : Addr} {o : Obj} (e : X.base.get? b = some o) : b ∉ X.fs := fun hb => by
 have := (ok.funs.mem hb).1
 rw [e] at this; cases this
theorem Inv.bs (I : Inv X pins σ H s) : ∀ b o, X.base.get? b = some o → s.heap.get? b = some o ∧ H b = none := fun b o e =>
 ⟨I.base.keep b o (I.ok.bs b o e).1 (I.ok.bs b o e).2 (I.ok.nofr e) (I.ok.noex b o e), I.base.free b o (I.ok.bs b o e).1 (I.ok.bs b o e).2 (I.ok.noex b o e)⟩
theorem Inv.bk (I : Inv X pins σ H s) : ∀ b o, X.base.get? b = some o → s.heap.get? b = some o := fun b o e => (I.bs b o e).1
theorem Inv.mod (I : Inv X pins σ H s) : Mod X.K X.mg X.base := I.ok.mod
theorem Inv.kIn (I : Inv X pins σ H s) : X.K.In s.heap := I.ok.mod.kin.keeps I.bk
theorem Inv.nolimit (I : Inv X pins σ H s) : s.heap.NoLimit := I.ok.mod.nolimit.keeps I.bk
theorem Inv.fr (I : Inv X pins σ H s) : ∃ m, Fr X.base X.env.locals s.heap m :=
 let ⟨m, hn, _⟩ := I.loc
 ⟨m, hn, I.bk, Nat.le_trans I.ok.bsz I.ok.above⟩
theorem Inv.lt (I : Inv X pins σ H s) : X.env.locals < s.heap.objs.size := let ⟨_, hn, _⟩ := I.loc; hn.lt
theorem Inv.sz (I : Inv X pins σ H s) : X.s₀.heap.objs.size ≤ s.heap.objs.size := Nat.le_trans I.ok.above (Nat.le_of_lt I.lt)
theorem Inv.nofs (I : Inv X pins σ H s) {a : Addr} (h : s.heap.objs.size ≤ a) : a ∉ X.fs := fun hb => by
 obtain ⟨_, o, ho, _⟩ := I.ok.funs.mem hb
 exact absurd (Nat.lt_of_lt_of_le (Heap.lt_size ho) (Nat.le_trans I.sz h)) (Nat.lt_irrefl _)
theorem Inv.cne (I : Inv X pins σ H s) : ∀ x c, X.env.cells.lookup x = some c → c ≠ X.env.locals := fun x c e z => by
 obtain ⟨v, o, ho, hd⟩ := I.cell x c e
 obtain ⟨m, ⟨o', es, ep, ho', hd', _⟩, _⟩ := I.loc
 rw [z, ho'] at ho; cases ho; rw [hd'] at hd; cases hd
theorem Inv.funs (I : Inv X pins σ H s) : s.heap.FunFrames X.base X.outer := by
 have all : ∀ (l : List Env), (∀ b ∈ frs l, b ∈ X.fs) → X.s₀.heap.FunFrames X.base l → s.heap.FunFrames X.base l := by
  intro l
  induction l with
  | nil => intro _ _; trivial
  | cons env r ih =>
   intro hs hl
   obtain ⟨hk, ⟨L, o, hf, hn, ho, hd⟩, hr⟩ := hl
   have hL : L ∈ X.fs := hs L (by unfold frs; rw [List.filterMap_cons, hf]; exact List.mem_cons_self)
   obtain ⟨sl, e⟩ := I.base.slot L o ho (I.ok.frf L hL) hL fun z => I.ok.exfs L z hL
   exact ⟨hk, ⟨L, _, hf, hn, e, hd⟩, ih (fun b hb => hs b (by unfold frs; rw [List.filterMap_cons, hf]; exact List.mem_cons_of_mem _ hb)) hr⟩
 exact all X.outer (fun _ hb => hb) I.ok.funs
theorem Inv.stack (I : Inv X pins σ H s) : s.heap.FunFrames X.base X.stack := by
 rcases I.ok.stk with e | ⟨e, hf⟩
 ·rw [e]; exact I.funs
 ·rw [e]
  obtain ⟨m, hn, _⟩ := I.loc
  refine .cons (by rw [I.ok.kind]; decide) hf hn ?_ I.funs
  exact Heap.get?_none_of_le (Nat.le_trans I.ok.bsz I.ok.above)
theorem Inv.stkSub (I : Inv X pins σ H s) : ∀ b ∈ frs X.stack, b ∈ X.env.locals :: X.fs := fun b hb => by
 rcases I.ok.stk with e | ⟨e, hf⟩
 ·rw [e] at hb; exact List.mem_cons_of_mem _ hb
 ·rw [e] at hb
  unfold frs at hb
  rw [List.filterMap_cons, hf] at hb
  exact hb
theorem Inv.stkFree (I : Inv X pins σ H s) : ∀ b ∈ frs X.stack, H b = none := fun b hb => by
 rcases List.mem_cons.mp (I.stkSub b hb) with e | hb
 ·rw [e]; exact I.free
 ·obtain ⟨_, o, ho, _⟩ := I.ok.funs.mem hb
  exact I.base.free b o ho (I.ok.frf b hb) fun z => I.ok.exfs b z hb
theorem Inv.step {g' : Array GenState} {t' : Nat} {d' : Drawn} {ch : List Addr} (I : Inv X pins σ H s)
  (hch : ∀ b ∈ ch, (b ∈ X.ex ∨ X.s₀.heap.objs.size ≤ b) ∧ b ≠ X.env.locals ∧ (∀ x c, X.env.cells.lookup x = some c → c ≠ b) ∧ ∀ p ∈ X.pn ++ pins, p.1 ≠ b)
  (keep : ∀ b o, b ≠ X.env.locals → b ∉ X.fs → b ∉ ch → s.heap.get? b = some o → H b = none → h'.get? b = some o)
  (slot : ∀ b o, b ≠ X.env.locals → b ∈ X.fs → b ∉ ch → s.heap.get? b = some o → H b = none → ∃ sl, h'.get? b = some { o with slots := sl }) (free : ∀ b o, b ∉ ch → s.heap.get? b = some o → H b = none → H' b = none)
  (there : ∀ b o, b ∉ ch → s.heap.get? b = some o → ∃ o', h'.get? b = some o')
  (tups : ∀ b xs, H b = some (.tup xs) → H' b = some (.tup xs)) (frzs : ∀ b o u, H b = some (.frz o u) → H' b = some (.frz o u)) (tbls : ∀ b q, H b = some (.tbl q) → H' b = some (.tbl q))
  (ns : ∀ m, s.heap.Ns X.env.locals m → h'.Ns X.env.locals m) (hok : HOk X.prog X.w H' h') (hg : AllBare g') :
  Inv X pins σ H' { s with heap := h', gens := g', drawn := d', toks := t' } := by
 have neL : ∀ b o, X.s₀.heap.get? b = some o → b ≠ X.env.locals := fun b o e => Nat.ne_of_lt (Nat.lt_of_lt_of_le (Heap.lt_size e) I.ok.above)
 have neC : ∀ b o, X.s₀.heap.get? b = some o → b ∉ X.ex → b ∉ ch := fun b o e hx hb => by
  rcases (hch b hb).1 with z | z
  ·exact hx z
  ·exact absurd (Nat.lt_of_lt_of_le (Heap.lt_size e) z) (Nat.lt_irrefl _)
 have cellK : ∀ x c, X.env.cells.lookup x = some c → ∀ v, s.heap.IsCell c v → h'.IsCell c v := fun x c e v ⟨o, ho, hd⟩ => by
  have nch : c ∉ ch := fun z => (hch c z).2.2.1 x c e rfl
  rcases I.freeC x c e with fr | ⟨_, ob, fr⟩
  ·by_cases hc : c ∈ X.fs
   ·obtain ⟨sl, q⟩ := slot c o (I.cne x c e) hc nch ho fr
    exact ⟨_, q, hd⟩
   ·exact ⟨o, keep c o (I.cne x c e) hc nch ho fr, hd⟩
  ·obtain ⟨q1, _⟩ := I.hok c _ fr
   obtain ⟨q2, _⟩ := hok c _ (frzs c ob _ fr)
   rw [ho] at q1; cases q1
   exact ⟨o, q2, hd⟩
 refine ⟨I.ok, I.os, hg, ⟨fun b o e n hb hx => ?_, fun b o e n hb hx => ?_, fun b o e n hx => ?_, fun b o e hx => ?_, fun b xs e => tups b xs (I.base.tups b xs e), fun b o xs e => frzs b o xs (I.base.frzs b o xs e), fun b q e => tbls b q (I.base.tbls b q e)⟩, ?_, fun x c e => ?_, ?_, fun x c e => ?_, fun p hp => ?_, hok, I.len⟩
 ·exact keep b o (neL b o e) hb (neC b o e hx) (I.base.keep b o e n hb hx) (I.base.free b o e n hx)
 ·obtain ⟨sl, e1⟩ := I.base.slot b o e n hb hx
  obtain ⟨sl', e2⟩ := slot b _ (neL b o e) hb (neC b o e hx) e1 (I.base.free b o e n hx)
  exact ⟨sl', e2⟩
 ·obtain ⟨o', e1⟩ := I.base.there b o e hx
  exact free b o' (neC b o e hx) e1 (I.base.free b o e n hx)
 ·obtain ⟨o', e1⟩ := I.base.there b o e hx
  exact there b o' (neC b o e hx) e1
 ·obtain ⟨m, hn, hl⟩ := I.loc
  refine ⟨m, ns m hn, fun i x v e1 e2 e3 => ?_⟩
  obtain ⟨u, r, l⟩ := hl i x v e1 e2 e3
  refine ⟨u, r, ?_⟩
  rcases l with l | ⟨k, c, e, z⟩
  ·exact .inl l
  ·exact .inr ⟨k, c, e, cellK x c e _ z⟩
 ·obtain ⟨v, z⟩ := I.cell x c e
  exact ⟨v, cellK x c e v z⟩
 ·obtain ⟨m, ⟨o, _, _, ho, _⟩, _⟩ := I.loc
  exact free _ o (fun z => (hch _ z).2.1 rfl) ho I.free
 ·obtain ⟨v, o, ho, hd⟩ := I.cell x c e
  rcases I.freeC x c e with fr | ⟨hf, ob, fr⟩
  ·exact .inl (free c o (fun z => (hch c z).2.2.1 x c e rfl) ho fr)
  ·exact .inr ⟨hf, ob, frzs c ob _ fr⟩
 ·obtain ⟨e, n, ne, nf, d⟩ := I.pin p hp
  have nch : p.1 ∉ ch := fun z => (hch p.1 z).2.2.2 p hp rfl
  exact ⟨keep p.1 p.2 ne nf nch e n, free p.1 p.2 nch e n, ne, nf, d⟩
theorem Inv.un {t' : Nat} (I : Inv X pins σ H s) (u : Un X.fs [] H H' s.heap h') (hok : HOk X.prog X.w H' h') : Inv X pins σ H' { s with heap := h', toks := t' } := by
 obtain ⟨m, ⟨o, es, ep, ho, r⟩, _⟩ := id I.loc
 obtain ⟨sl, hL⟩ := u.any ho I.free (by simp)
 exact I.step (g' := s.gens) (d' := s.drawn) (ch := []) (fun _ z => nomatch z) (fun b o _ hb _ e n => u.keep b o e n hb (by simp)) (fun b o _ hb _ e n => u.slot b o e n hb (by simp)) (fun b o _ e n => u.free b o e n (by simp)) (fun b o _ e => u.there b o e (by simp)) u.tups u.frzs u.tbls (fun m' hm => by
  obtain ⟨o', es', ep', ho', r'⟩ := hm
  rw [ho] at ho'; cases ho'
  exact ⟨_, es', ep', hL, r'⟩) hok I.bare
theorem Inv.call {g' : Array GenState} {t' : Nat} {d' : Drawn} {ch : List Addr} (I : Inv X pins σ H s) (u : Un (frs X.stack) ch H H' s.heap h') (hok : HOk X.prog X.w H' h') (hg : AllBare g')
  (hch : ∀ b ∈ ch, (b ∈ X.ex ∨ X.s₀.heap.objs.size ≤ b) ∧ b ≠ X.env.locals ∧ (∀ x c, X.env.cells.lookup x = some c → c ≠ b) ∧ ∀ p ∈ X.pn ++ pins, p.1 ≠ b) :
  Inv X pins σ H' { s with heap := h', gens := g', drawn := d', toks := t' } := by
 obtain ⟨m, ⟨o, es, ep, ho, r⟩, _⟩ := id I.loc
 obtain ⟨sl, hL⟩ := u.any ho I.free fun z => (hch _ z).2.1 rfl
 exact I.step (ch := ch) hch (fun b o hL hb hc e n => u.keep b o e n (fun z => (List.mem_cons.mp (I.stkSub b z)).elim hL hb) hc) (fun b o _ _ hc e n => u.any e n hc) (fun b o hc e n => u.free b o e n hc) (fun b o hc e => u.there b o e hc) u.tups u.frzs u.tbls (fun m' hm => by
  obtain ⟨o', es', ep', ho', r'⟩ := hm
  rw [ho] at ho'; cases ho'
  exact ⟨_, es', ep', hL, r'⟩) hok hg
theorem Inv.turned {t' : Nat} {it : Addr} (I : Inv X pins σ H s) (k : ∀ b o, b ≠ it → s.heap.get? b = some o → h'.get? b = some o) (hn : H it = none) (hL : it ≠ X.env.locals)
  (h1 : it ∈ X.ex ∨ X.s₀.heap.objs.size ≤ it) (h2 : ∀ x c, X.env.cells.lookup x = some c → c ≠ it) (h3 : ∀ p ∈ X.pn ++ pins, p.1 ≠ it) : Inv X pins σ H { s with heap := h', toks := t' } := by
 have nit : ∀ b u, H b = some u → b ≠ it := fun b u e z => by rw [z, hn] at e; cases e
 refine I.step (g' := s.gens) (d' := s.drawn) (ch := [it]) (fun b hb => ?_) (fun b o _ _ hc e _ => k b o (fun z => hc (by simp [z])) e) (fun b o _ _ hc e _ => ⟨o.slots, k b o (fun z => hc (by simp [z])) e⟩) (fun _ _ _ _ n => n)
  (fun b o hc e => ⟨o, k b o (fun z => hc (by simp [z])) e⟩) (fun _ _ e => e) (fun _ _ _ e => e) (fun _ _ e => e) (fun m hm => ?_) (fun b u e => ?_) I.bare
 ·have e : b = it := by simpa using hb
  subst e
  exact ⟨h1, hL, h2, h3⟩
 ·obtain ⟨o, es, ep, ho, r⟩ := hm
  exact ⟨o, es, ep, k _ o (Ne.symm hL) ho, r⟩
 ·refine (I.hok b u e).stay (fun c v hc q => k c v ?_ q) (fun _ q => q) fun _ _ q => q
  rcases hc with z | z
  ·rw [z]; exact nit b u e
  ·exact nit c _ z
theorem Inv.tok (I : Inv X pins σ H s) (t : Nat) : Inv X pins σ H { s with toks := t } := I.un (h' := s.heap) (t' := t) Un.refl I.hok
theorem Inv.kept {t' : Nat} (I : Inv X pins σ H s) (k : ∀ b u, s.heap.get? b = some u → h'.get? b = some u) : Inv X pins σ H { s with heap := h', toks := t' } := I.un (Un.kept k) (I.hok.kept k)
theorem Inv.laid {a : Addr} {o : HO} {t' : Nat} (I : Inv X pins σ H s) (k : ∀ b u, s.heap.get? b = some u → h'.get? b = some u) (hp : s.heap.objs.size ≤ a) (new : ObjOk X.prog X.w (upd H a o) h' a o) :
  Inv X pins σ (upd H a o) { s with heap := h', toks := t' } := I.un (Un.laid k hp (I.hok.fresh hp)) (I.hok.laid k hp new)
theorem Inv.write {x e : Addr} {o : HO} {t' : Nat} (I : Inv X pins σ H s) (mu : Mut (H x)) (he : e = x ∨ H e = some (.own x)) (k : ∀ b u, b ≠ e → s.heap.get? b = some u → h'.get? b = some u) (heo : ∃ u, h'.get? e = some u)
  (new : ObjOk X.prog X.w (upd H x o) h' x o) : Inv X pins σ (upd H x o) { s with heap := h', toks := t' } := I.un (Un.write mu he k heo) (I.hok.write mu he k heo new)
theorem Inv.pins_of {pins' : List (Addr × Obj)} (I : Inv X pins σ H s) (h : ∀ p ∈ pins', s.heap.get? p.1 = some p.2 ∧ H p.1 = none ∧ p.1 ≠ X.env.locals ∧ p.1 ∉ X.fs ∧ ∀ v, p.2.data ≠ .cell v) : Inv X pins' σ H s :=
 ⟨I.ok, I.os, I.bare, I.base, I.loc, I.cell, I.free, I.freeC, fun p hp => (List.mem_append.mp hp).elim (fun z => I.pin p (List.mem_append_left _ z)) (h p), I.hok, I.len⟩
theorem nodup_ix {N : List Str} (hN : N.Nodup) {i j : Nat} {x : Str} (a : N[i]? = some x) (b : N[j]? = some x) : i = j := by
 obtain ⟨h1, e1⟩ := List.getElem?_eq_some_iff.mp a
 obtain ⟨h2, e2⟩ := List.getElem?_eq_some_iff.mp b
 exact (List.getElem_inj hN).mp (e1.trans e2.symm)
theorem store_ok2 {M : Model} {A : Around} {E : Value → Shared → Prop} {i : Nat} {x : Str} {v : V} {u : Value} {Q : Unit → Shared → Prop} (I : Inv X pins σ H s) (hN : X.N.Nodup) (hi : X.N[i]? = some x) (hx : Loc X.env.scope x) (r : RelV v u)
  (h : ∀ s', Inv X pins (σ.set i (some v)) H s' → (∃ a, Heap.SameBut a s.heap s'.heap ∧ (a = X.env.locals ∨ X.env.cells.lookup x = some a)) → Q () s') (hf : X.fn x = true ∨ X.env.scope.names.lookup x = some .local := by first | exact .inl rfl | exact .inr rfl | assumption) : wpAny M A (storeName X.env x u) Q E s := by
 obtain ⟨m, hn, hl⟩ := id I.loc
 have hcls : (X.env.scope.kind == .class || (X.env.scope.kind == .module && X.env.locals != X.env.globals)) = false := by rw [I.ok.kind]; rfl
 have hiσ : i < σ.length := by rw [I.len]; exact (List.getElem?_eq_some_iff.mp hi).1
 have cne := I.cne
 have tracked : ∀ {a : Addr} {h' : Heap}, (∃ o, s.heap.get? a = some o ∧ H a = none) → Heap.SameBut a s.heap h' → HOk X.prog X.w H h' := fun {a h'} ha hs b ob e => by
  obtain ⟨_, _, hfree⟩ := ha
  refine (I.hok b ob e).stay (fun c w' hc q => (hs.2 c ?_).trans q) (fun _ q => q) fun _ _ q => q
  rintro rfl
  rcases hc with rfl | hc
  ·rw [hfree] at e; cases e
  ·rw [hfree] at hc; cases hc
 rcases hx with hk | hk
 ·refine wpAny_storeName_local hk hn (fun h' hn' hs => ?_) hcls
  obtain ⟨oL, _, _, hoL, _⟩ := id hn
  refine h _ ⟨I.ok, I.os, I.bare, ⟨fun b o e n hb hx => ?_, fun b o e n hb hx => ?_, I.base.free, fun b o e hx => ?_, I.base.tups, I.base.frzs, I.base.tbls⟩, ⟨_, hn', fun j y v' e1 e2 e3 => ?_⟩, fun y c e => ?_, I.free, I.freeC, fun p hp => ?_, tracked ⟨oL, hoL, I.free⟩ hs, by simpa using I.len⟩ ⟨_, hs, .inl rfl⟩
  ·exact (hs.2 b (Nat.ne_of_lt (Nat.lt_of_lt_of_le (Heap.lt_size e) I.ok.above))).trans (I.base.keep b o e n hb hx)
  ·obtain ⟨sl, e1⟩ := I.base.slot b o e n hb hx
   exact ⟨sl, (hs.2 b (Nat.ne_of_lt (Nat.lt_of_lt_of_le (Heap.lt_size e) I.ok.above))).trans e1⟩
  ·obtain ⟨o', e1⟩ := I.base.there b o e hx
   exact ⟨o', (hs.2 b (Nat.ne_of_lt (Nat.lt_of_lt_of_le (Heap.lt_size e) I.ok.above))).trans e1⟩
  ·by_cases hj : j = i
   ·subst hj
    rw [hi] at e1; cases e1
    rw [List.getElem?_set_self hiσ] at e2
    cases e2
    exact ⟨u, r, .inl ⟨hk, by simp⟩⟩
   ·rw [List.getElem?_set_ne (Ne.symm hj)] at e2
    obtain ⟨u', r', q⟩ := hl j y v' e1 e2 e3
    refine ⟨u', r', ?_⟩
    rcases q with ⟨k, e⟩ | ⟨k, c, e, z⟩
    ·refine .inl ⟨k, ?_⟩
     have : y ≠ x := fun e => hj (nodup_ix hN e1 (e ▸ hi))
     simp [this, e]
    ·exact .inr ⟨k, c, e, z.sameBut hs (cne y c e)⟩
  ·obtain ⟨w', z⟩ := I.cell y c e
   exact ⟨w', z.sameBut hs (cne y c e)⟩
  ·obtain ⟨e, n, ne, nf, d⟩ := I.pin p hp
   exact ⟨(hs.2 p.1 ne).trans e, n, ne, nf, d⟩
 ·have hfn : X.fn x = true := by
   rcases hf with z | z
   ·exact z
   ·rw [z] at hk; cases hk
  obtain ⟨c, hc⟩ := I.ok.has x (.inl hk)
  obtain ⟨w', z⟩ := I.cell x c hc
  refine wpAny_storeName_cell I.ok.kind hk hc z (fun h' hc' hs => ?_)
  obtain ⟨oc, hoc, hocd⟩ := id z
  have hfr : H c = none := (I.freeC x c hc).elim (fun z => z) fun z => by rw [hfn] at z; exact absurd z.1 (by decide)
  refine h { s with heap := h' } ⟨I.ok, I.os, I.bare, ⟨fun b o e n hb hx => ?_, fun b o e n hb hx => ?_, I.base.free, fun b o e hx => ?_, I.base.tups, I.base.frzs, I.base.tbls⟩, ⟨m, hn.sameBut hs (Ne.symm (cne x c hc)), fun j y v' e1 e2 e3 => ?_⟩, fun y c' e => ?_, I.free, I.freeC, fun p hp => ?_, tracked ⟨oc, hoc, hfr⟩ hs, by simpa using I.len⟩ ⟨c, hs, .inr hc⟩
  ·exact (hs.2 b (Nat.ne_of_lt (Nat.lt_of_lt_of_le (Heap.lt_size e) (I.ok.cab x c hfn hc)))).trans (I.base.keep b o e n hb hx)
  ·obtain ⟨sl, e1⟩ := I.base.slot b o e n hb hx
   exact ⟨sl, (hs.2 b (Nat.ne_of_lt (Nat.lt_of_lt_of_le (Heap.lt_size e) (I.ok.cab x c hfn hc)))).trans e1⟩
  ·obtain ⟨o', e1⟩ := I.base.there b o e hx
   exact ⟨o', (hs.2 b (Nat.ne_of_lt (Nat.lt_of_lt_of_le (Heap.lt_size e) (I.ok.cab x c hfn hc)))).trans e1⟩
  ·by_cases hj : j = i
   ·subst hj
    rw [hi] at e1; cases e1
    rw [List.getElem?_set_self hiσ] at e2
    cases e2
    exact ⟨u, r, .inr ⟨.inl hk, c, hc, hc'⟩⟩
   ·rw [List.getElem?_set_ne (Ne.symm hj)] at e2
    obtain ⟨u', r', q⟩ := hl j y v' e1 e2 e3
    refine ⟨u', r', ?_⟩
    rcases q with q | ⟨k, c', e, z'⟩
    ·exact .inl q
    ·refine .inr ⟨k, c', e, z'.sameBut hs ?_⟩
     rintro rfl
     exact hj (nodup_ix hN e1 (I.ok.inj _ _ _ e hc ▸ hi))
  ·by_cases hcc : c' = c
   ·subst hcc; exact ⟨_, hc'⟩
   ·obtain ⟨w2, z2⟩ := I.cell y c' e
    exact ⟨w2, z2.sameBut hs hcc⟩
  ·obtain ⟨e, n, ne, nf, d⟩ := I.pin p hp
   refine ⟨(hs.2 p.1 ?_).trans e, n, ne, nf, d⟩
   intro q
   rw [q, hoc] at e
   have q' : oc = p.2 := Option.some.inj e
   exact d w' (by rw [← q']; exact hocd)
theorem store_ok {M : Model} {A : Around} {E : Value → Shared → Prop} {i : Nat} {x : Str} {v : V} {u : Value} {Q : Unit → Shared → Prop} (I : Inv X pins σ H s) (hN : X.N.Nodup) (hi : X.N[i]? = some x) (hx : Loc X.env.scope x) (r : RelV v u)
  (h : ∀ s', Inv X pins (σ.set i (some v)) H s' → Q () s') (hf : X.fn x = true ∨ X.env.scope.names.lookup x = some .local := by first | exact .inl rfl | exact .inr rfl | assumption) : wpAny M A (storeName X.env x u) Q E s :=
 store_ok2 I hN hi hx r (fun s' I' _ => h s' I') hf
theorem Inv.call' {s' : Shared} {ch : List Addr} (I : Inv X pins σ H s) (ho : s'.os = s.os) (u : Un (frs X.stack) ch H H' s.heap s'.heap) (hok : HOk X.prog X.w H' s'.heap) (hg : AllBare s'.gens)
  (hch : ∀ b ∈ ch, (b ∈ X.ex ∨ X.s₀.heap.objs.size ≤ b) ∧ b ≠ X.env.locals ∧ (∀ x c, X.env.cells.lookup x = some c → c ≠ b) ∧ ∀ p ∈ X.pn ++ pins, p.1 ≠ b) : Inv X pins σ H' s' := by
 obtain ⟨h', g', d', t', o'⟩ := s'
 have e : o' = s.os := ho
 subst e
 exact I.call (g' := g') (t' := t') (d' := d') u hok hg hch
end
noncomputable abbrev XK := Value → Option Addr → Hp → Prop
noncomputable abbrev St := List (Option V)
noncomputable abbrev VK := V → Hp → Prop
noncomputable abbrev TE := St → Hp → VK → Prop
noncomputable abbrev TT := St → Hp → (Bool → Hp → Prop) → Prop
noncomputable abbrev TA := St → Hp → (List V → Hp → Prop) → Prop
structure Ends where
 nx : St → Hp → Prop
 rt : VK
 bk : St → Hp → Prop := fun _ _ => False
 ct : St → Hp → Prop := fun _ _ => False
noncomputable abbrev TS := Ends → St → Hp → Prop
noncomputable def EP (X : Cx) (pins : List (Addr × Obj)) (σ : St) (Q : VK) (u : Value) (s' : Shared) : Prop := ∃ v H', Inv X pins σ H' s' ∧ RelV v u ∧ Q v H'
noncomputable def TP (X : Cx) (pins : List (Addr × Obj)) (σ : St) (Q : Bool → Hp → Prop) (b : Bool) (s' : Shared) : Prop := ∃ H', Inv X pins σ H' s' ∧ Q b H'
noncomputable def AP (X : Cx) (pins : List (Addr × Obj)) (σ : St) (Q : List V → Hp → Prop) (us : List Value) (s' : Shared) : Prop := ∃ vs H', Inv X pins σ H' s' ∧ Vals vs us ∧ Q vs H'
noncomputable def SP (X : Cx) (pins : List (Addr × Obj)) (D : Ends) (f : Flow) (s' : Shared) : Prop :=
 match f with
 | .next => ∃ σ' H', Inv X pins σ' H' s' ∧ D.nx σ' H'
 | .brk => ∃ σ' H', Inv X pins σ' H' s' ∧ D.bk σ' H'
 | .cont => ∃ σ' H', Inv X pins σ' H' s' ∧ D.ct σ' H'
 | .ret u => ∃ v σ' H', Inv X pins σ' H' s' ∧ RelV v u ∧ D.rt v H'
noncomputable def PE (X : Cx) (e : Expr) (t : TE) : Prop :=
 ∀ (pins : List (Addr × Obj)) (s : Shared) (σ : St) (H : Hp) (Q : VK), Inv X pins σ H s → t σ H Q → wpAny (model X.prog X.w) X.A (eval e X.env) (EP X pins σ Q) X.xe s
noncomputable def PT (X : Cx) (e : Expr) (t : TT) : Prop :=
 ∀ (pins : List (Addr × Obj)) (s : Shared) (σ : St) (H : Hp) (Q : Bool → Hp → Prop), Inv X pins σ H s → t σ H Q → wpAny (model X.prog X.w) X.A (isTrue e X.env (eval e X.env)) (TP X pins σ Q) X.xe s
noncomputable def PW (X : Cx) (e : Expr) (t : TT) : Prop :=
 ∀ (whole : Sem Value) (pins : List (Addr × Obj)) (s : Shared) (σ : St) (H : Hp) (Q : Bool → Hp → Prop), Inv X pins σ H s → t σ H Q → wpAny (model X.prog X.w) X.A (isTrue e X.env whole) (TP X pins σ Q) X.xe s
theorem PW.pt {X : Cx} {e : Expr} {t : TT} (h : PW X e t) : PT X e t := h _
noncomputable def PA (X : Cx) (es : List Expr) (t : TA) : Prop :=
 ∀ (pos : Pos) (pins : List (Addr × Obj)) (s : Shared) (σ : St) (H : Hp) (Q : List V → Hp → Prop), Inv X pins σ H s → t σ H Q → wpAny (model X.prog X.w) X.A (spliced (backTo pos (starEach es X.env))) (AP X pins σ Q) X.xe s
noncomputable def PS (X : Cx) (st : Stmt) (t : TS) : Prop :=
 ∀ (pins : List (Addr × Obj)) (s : Shared) (σ : St) (H : Hp) (D : Ends), Inv X pins σ H s → t D σ H → wpAny (model X.prog X.w) X.A (exec st X.env) (SP X pins D) X.xe s
noncomputable def PSs (X : Cx) (st : List Stmt) (t : TS) : Prop :=
 ∀ (pins : List (Addr × Obj)) (s : Shared) (σ : St) (H : Hp) (D : Ends), Inv X pins σ H s → t D σ H → wpAny (model X.prog X.w) X.A (execs st X.env) (SP X pins D) X.xe s
theorem thn {α : Type} {t : Sem α} {Q Q' : α → Shared → Prop} {M : Model} {A : Around} {E : Value → Shared → Prop} {s : Shared} (h : wpAny M A t Q E s) (hQ : ∀ a s, Q a s → Q' a s) : wpAny M A t Q' E s := wpAny_mono h hQ fun _ _ x => x
end L2
namespace L2
open PySem PySem.Spec PyProof.Rows
section
variable {X : Cx}
noncomputable def tVar (i : Nat) : TE := fun σ H Q => ∃ v, σ[i]? = some (some v) ∧ Q v H
noncomputable def tC (v : V) : TE := fun _ H Q => Q v H
theorem pe_var {i : Nat} {x : Str} {pos : Pos} (hN : X.N[i]? = some x) (hv : Vis X.env.scope x) (hd : (x == ("__debug__" : Str)) = false := by decide) (hcd : (x == ("__classdict__" : Str)) = false := by decide) : PE X (.Name x pos) (tVar i) := by
 intro pins s σ H Q I h
 obtain ⟨v, e, h⟩ := h
 obtain ⟨m, hn, hl⟩ := I.loc
 obtain ⟨u, r, l⟩ := hl i x v hN e hv
 have fin : EP X pins σ Q u s := ⟨v, H, I, r, h⟩
 rcases l with ⟨hk, hm⟩ | ⟨hk, c, hc, hcell⟩
 ·exact wpAny_Name (wpAny_loadName_local I.ok.kind hk hn hm fin) hd
 ·rcases hk with hk | hk
  ·exact wpAny_Name (wpAny_loadName_cell I.ok.kind hk hc hcell fin) hd
  ·exact wpAny_Name (wpAny_loadName_free I.ok.kind hk hc hcell fin hcd) hd
theorem pe_int {i j pos} : PE X (.Constant (.int i) j pos) (tC (.int i)) := fun _ _ _ H _ I h => wpAny_Constant_int ⟨.int i, H, I.tok _, ⟨_, rfl⟩, h⟩
theorem pe_bl {b j pos} : PE X (.Constant (.bool b) j pos) (tC (.bl b)) := fun _ _ _ H _ I h => Constant_bool ⟨.bl b, H, I, rfl, h⟩
theorem pe_non {j pos} : PE X (.Constant .none j pos) (tC .non) := fun _ _ _ H _ I h => Constant_none ⟨.non, H, I, rfl, h⟩
theorem pe_str {x j pos} : PE X (.Constant (.str x) j pos) (tC (.str x)) := fun _ _ _ H _ I h => Calls.Constant_str ⟨.str x, H, I.tok _, ⟨_, rfl⟩, h⟩
noncomputable def Gl (X : Cx) (x : Str) : Prop := X.env.kindOf x = some .globalImplicit
theorem ld_glob {E : Value → Shared → Prop} {pins : List (Addr × Obj)} {s : Shared} {σ : St} {H : Hp} {x : Str} {u : Value} {pos : Pos} {Q : Value → Shared → Prop} (I : Inv X pins σ H s) (hg : Gl X x) (hm : X.mg x = some u) (h : Q u s)
  (hd : (x == ("__debug__" : Str)) = false := by decide) : wpAny (model X.prog X.w) X.A (eval (.Name x pos) X.env) Q E s :=
 Calls.Name_function_global I.ok.kind hg (Calls.loadGlobal_global (by rw [I.ok.glob]; exact I.mod.glob.keeps I.bk) hm h) hd
theorem ld_blt {E : Value → Shared → Prop} {pins : List (Addr × Obj)} {s : Shared} {σ : St} {H : Hp} {x : Str} {u : Value} {pos : Pos} {Q : Value → Shared → Prop} (I : Inv X pins σ H s) (hg : Gl X x) (hm : X.mg x = none) (hv : bootBuiltins x = some u) (h : Q u s)
  (hn : x ≠ "__name__" := by decide) (hd : (x == ("__debug__" : Str)) = false := by decide) : wpAny (model X.prog X.w) X.A (eval (.Name x pos) X.env) Q E s := by
 obtain ⟨mb, h1, h2⟩ := I.mod.blt
 exact Calls.Name_function_global I.ok.kind hg (Calls.loadGlobal_builtin (by rw [I.ok.glob]; exact I.mod.glob.keeps I.bk) hm (by rw [I.ok.blt]; exact h1.keeps I.bk) ((h2 x hn).trans hv) h) hd
theorem pe_glob {x : Str} {v : V} {u : Value} {pos : Pos} (hg : Gl X x) (hm : X.mg x = some u) (r : RelV v u) (hd : (x == ("__debug__" : Str)) = false := by decide) : PE X (.Name x pos) (tC v) :=
 fun _ _ _ H _ I h => ld_glob I hg hm ⟨v, H, I, r, h⟩ hd
theorem pe_bltn {x : Str} {v : V} {u : Value} {pos : Pos} (hg : Gl X x) (hm : X.mg x = none) (hv : bootBuiltins x = some u) (r : RelV v u) (hn : x ≠ "__name__" := by decide) (hd : (x == ("__debug__" : Str)) = false := by decide) : PE X (.Name x pos) (tC v) :=
 fun _ _ _ H _ I h => ld_blt I hg hm hv ⟨v, H, I, r, h⟩ hn hd
noncomputable def t2I (ta tb : TE) (k : Int → Int → Hp → Prop) : St → Hp → Prop := fun σ H => ta σ H fun x H1 => tb σ H1 fun y H2 => ∃ i j, x = .int i ∧ y = .int j ∧ k i j H2
variable {a b : Expr} {ta tb : TE} {pos : Pos}
noncomputable def tCmp (p : Int → Int → Bool) (ta tb : TE) : TE := fun σ H Q => t2I ta tb (fun i j H2 => Q (.bl (p i j)) H2) σ H
noncomputable abbrev tLt : TE → TE → TE := tCmp fun i j => decide (i < j)
noncomputable abbrev tLe : TE → TE → TE := tCmp fun i j => decide (i ≤ j)
noncomputable abbrev tGt : TE → TE → TE := tCmp fun i j => decide (j < i)
noncomputable abbrev tGe : TE → TE → TE := tCmp fun i j => decide (j ≤ i)
noncomputable abbrev tEqI : TE → TE → TE := tCmp fun i j => decide (i = j)
noncomputable abbrev tNeI : TE → TE → TE := tCmp fun i j => !decide (i = j)
variable {tA tB' : TT} {rest : List Expr}
noncomputable def tAnd (t u : TT) : TT := fun σ H Q => t σ H fun c H1 => if c = true then u σ H1 Q else Q false H1
noncomputable def tOr (t u : TT) : TT := fun σ H Q => t σ H fun c H1 => if c = true then Q true H1 else u σ H1 Q
noncomputable def tNot (t : TT) : TT := fun σ H Q => t σ H fun c H1 => Q (!c) H1
theorem pw_and1 (ha : PT X a tA) : PW X (.BoolOp .And [a] pos) tA := by
 intro wh pins s σ H Q I h
 refine isTrue_and (thn (ha pins s σ H Q I h) fun c s1 e => ?_)
 cases c with
 | true => exact isTrue_and_nil e
 | false => exact e
theorem pw_or1 (ha : PT X a tA) : PW X (.BoolOp .Or [a] pos) tA := by
 intro wh pins s σ H Q I h
 refine isTrue_or (thn (ha pins s σ H Q I h) fun c s1 e => ?_)
 cases c with
 | false => exact isTrue_or_nil e
 | true => exact e
theorem pw_and (ha : PT X a tA) (hb : PW X (.BoolOp .And (b :: rest) pos) tB') : PW X (.BoolOp .And (a :: b :: rest) pos) (tAnd tA tB') := by
 intro wh pins s σ H Q I h
 refine isTrue_and (thn (ha pins s σ H _ I h) fun c s1 ⟨H1, I1, q1⟩ => ?_)
 cases c with
 | true => exact hb wh pins s1 σ H1 Q I1 q1
 | false => exact ⟨H1, I1, q1⟩
theorem pw_or (ha : PT X a tA) (hb : PW X (.BoolOp .Or (b :: rest) pos) tB') : PW X (.BoolOp .Or (a :: b :: rest) pos) (tOr tA tB') := by
 intro wh pins s σ H Q I h
 refine isTrue_or (thn (ha pins s σ H _ I h) fun c s1 ⟨H1, I1, q1⟩ => ?_)
 cases c with
 | true => exact ⟨H1, I1, q1⟩
 | false => exact hb wh pins s1 σ H1 Q I1 q1
theorem pt_not (ha : PT X a tA) : PT X (.UnaryOp .Not a pos) (tNot tA) := by
 intro pins s σ H Q I h
 exact isTrue_not (ha pins s σ H (fun c H1 => Q (!c) H1) I h)
noncomputable def tAndV (ta tb : TE) : TE := fun σ H Q => ta σ H fun x H1 => ∃ c, x = .bl c ∧ if c = true then tb σ H1 Q else Q (.bl false) H1
noncomputable def tOrV (ta tb : TE) : TE := fun σ H Q => ta σ H fun x H1 => ∃ c, x = .bl c ∧ if c = true then Q (.bl true) H1 else tb σ H1 Q
noncomputable def tNotV (ta : TE) : TE := fun σ H Q => ta σ H fun x H1 => ∃ c, x = .bl c ∧ Q (.bl (!c)) H1
theorem pe_one {op} {t : TE} (h : PE X a t) : PE X (.BoolOp op [a] pos) t := fun pins s σ H Q I hw => BoolOp_one (h pins s σ H Q I hw)
theorem pe_and (ha : PE X a ta) (hb : PE X (.BoolOp .And (b :: rest) pos) tb) : PE X (.BoolOp .And (a :: b :: rest) pos) (tAndV ta tb) := by
 intro pins s σ H Q I h
 refine BoolOp_and (thn (ha pins s σ H _ I h) fun v s1 ⟨x, H1, I1, r1, q1⟩ => ?_)
 obtain ⟨c, rfl, q1⟩ := q1
 cases r1
 refine wpAny_truthy_bool ?_
 cases c with
 | true => exact hb pins s1 σ H1 Q I1 q1
 | false => exact ⟨.bl false, H1, I1, rfl, q1⟩
theorem pe_or (ha : PE X a ta) (hb : PE X (.BoolOp .Or (b :: rest) pos) tb) : PE X (.BoolOp .Or (a :: b :: rest) pos) (tOrV ta tb) := by
 intro pins s σ H Q I h
 refine BoolOp_or (thn (ha pins s σ H _ I h) fun v s1 ⟨x, H1, I1, r1, q1⟩ => ?_)
 obtain ⟨c, rfl, q1⟩ := q1
 cases r1
 refine wpAny_truthy_bool ?_
 cases c with
 | false => exact hb pins s1 σ H1 Q I1 q1
 | true => exact ⟨.bl true, H1, I1, rfl, q1⟩
theorem pe_not (ha : PE X a ta) : PE X (.UnaryOp .Not a pos) (tNotV ta) := by
 intro pins s σ H Q I h
 refine UnaryOp_ (thn (ha pins s σ H _ I h) fun v s1 ⟨x, H1, I1, r1, q1⟩ => ?_)
 obtain ⟨c, rfl, q1⟩ := q1
 cases r1
 exact not_of (wpAny_truthy_bool ⟨.bl (!c), H1, I1, rfl, q1⟩)
noncomputable def tIf (t : TT) (ta tb : TE) : TE := fun σ H Q => t σ H fun c H1 => if c = true then ta σ H1 Q else tb σ H1 Q
theorem pe_ifExp {c : Expr} (hc : PT X c tA) (ha : PE X a ta) (hb : PE X b tb) : PE X (.IfExp c a b pos) (tIf tA ta tb) := by
 intro pins s σ H Q I h
 refine wpAny_IfExp (thn (hc pins s σ H _ I h) fun d s1 ⟨H1, I1, q1⟩ => ?_)
 cases d with
 | true => exact ha pins s1 σ H1 Q I1 q1
 | false => exact hb pins s1 σ H1 Q I1 q1
end
end L2
namespace L2
open PySem PySem.Spec PyProof.Rows
noncomputable def SqL (K : PySem.W.Frag) (H : Hp) (a : Addr) (xs : List V) : Prop :=
 Rd H a (.lst xs) ∨
  ∃ (o : Obj) (its : Array Value) (n : Nat), K.lookup a = some o ∧ o.cls = .type "list" ∧ o.dict = none ∧ o.data = .seq its n ∧ its.size ≤ sizeLine ∧ Vals xs its.toList
noncomputable def SqT (K : PySem.W.Frag) (H : Hp) (a : Addr) (xs : List V) : Prop :=
 Rd H a (.tup xs) ∨
  ∃ (o : Obj) (its : Array Value) (n : Nat), K.lookup a = some o ∧ o.cls = .type "tuple" ∧ o.data = .seq its n ∧ its.size ≤ sizeLine ∧ Vals xs its.toList
noncomputable def absV : Value → Option V
 | .none => some .non
 | .bool b => some (.bl b)
 | .int i _ => some (.int i)
 | .str x _ => some (.str x)
 | .bytes b _ => some (.byt b)
 | .float b _ => some (.flt b)
 | .ref a => some (.ref a)
 | .type n => some (.ty n)
 | _ => none
theorem RelV.abs {x : V} {u : Value} (r : RelV x u) : absV u = some x := by
 cases x with
 | non => cases r; rfl
 | bl _ => cases r; rfl
 | int _ => obtain ⟨t, rfl⟩ := r; rfl
 | str _ => obtain ⟨t, rfl⟩ := r; rfl
 | byt _ => obtain ⟨t, rfl⟩ := r; rfl
 | flt _ => obtain ⟨t, rfl⟩ := r; rfl
 | ref _ => cases r; rfl
 | ty _ => cases r; rfl
theorem RelV.inj {x y : V} {u : Value} (r : RelV x u) (q : RelV y u) : x = y := Option.some.inj (r.abs.symm.trans q.abs)
theorem Vals.inj : ∀ {xs ys : List V} {us : List Value}, Vals xs us → Vals ys us → xs = ys
 | _, _, _, .nil, .nil => rfl
 | _, _, _, .cons r t, .cons r' t' => by rw [r.inj r', Vals.inj t t']
section
variable {X : Cx} {pins : List (Addr × Obj)} {σ : St} {H : Hp} {s : Shared} {a : Addr} {xs ys : List V}
theorem SqL.of {K : PySem.W.Frag} (h : H a = some (.lst xs)) : SqL K H a xs := .inl (.inl h)
theorem SqT.of {K : PySem.W.Frag} (h : H a = some (.tup xs)) : SqT K H a xs := .inl (.inl h)
theorem Inv.list (I : Inv X pins σ H s) (h : SqL X.K H a xs) : ∃ its : List Value, Vals xs its ∧ PlainL s.heap a its.toArray ∧ xs.length ≤ sizeLine := by
 rcases h with h | ⟨o, its, n, hk, hc, hd, hs, hz, r⟩
 ·obtain ⟨z, its, n, r, e⟩ := h.ok I.hok
  exact ⟨its, r, ⟨_, n, e, rfl, rfl, rfl⟩, z⟩
 ·refine ⟨its.toList, r, ⟨o, n, I.kIn a o hk, hc, hd, by simpa using hs⟩, ?_⟩
  have e := r.length
  simp only [Array.length_toList] at e
  omega
theorem Inv.tuple (I : Inv X pins σ H s) (h : SqT X.K H a xs) : ∃ its : List Value, Vals xs its ∧ IsTup s.heap a its.toArray ∧ xs.length ≤ sizeLine := by
 rcases h with h | ⟨o, its, n, hk, hc, hs, hz, r⟩
 ·obtain ⟨z, its, r, p⟩ := h.ok I.hok
  exact ⟨its, r, p, z⟩
 ·refine ⟨its.toList, r, ⟨o, I.kIn a o hk, hc, n, by simpa using hs⟩, ?_⟩
  have e := r.length
  simp only [Array.length_toList] at e
  omega
theorem Inv.list_inj (I : Inv X pins σ H s) (h : SqL X.K H a xs) (h' : SqL X.K H a ys) : xs = ys := by
 obtain ⟨its, r, ⟨o, n, e, _, _, d⟩, _⟩ := I.list h
 obtain ⟨its', r', ⟨o', n', e', _, _, d'⟩, _⟩ := I.list h'
 rw [e] at e'; cases e'
 rw [d] at d'
 injection d' with d1 _
 have : its = its' := by simpa using congrArg Array.toList d1
 subst this
 exact r.inj r'
theorem Inv.tuple_inj (I : Inv X pins σ H s) (h : SqT X.K H a xs) (h' : SqT X.K H a ys) : xs = ys := by
 obtain ⟨its, r, ⟨o, e, _, n, d⟩, _⟩ := I.tuple h
 obtain ⟨its', r', ⟨o', e', _, n', d'⟩, _⟩ := I.tuple h'
 rw [e] at e'; cases e'
 rw [d] at d'
 injection d' with d1 _
 have : its = its' := by simpa using congrArg Array.toList d1
 subst this
 exact r.inj r'
end
noncomputable abbrev Cx.wish (X : Cx) (E : Value → Shared → Prop) : Cx := { X with xe := E }
noncomputable abbrev Cx.nox (X : Cx) : Cx := X.wish fun _ _ => False
theorem Cx.Ok.wish {X : Cx} (ok : X.Ok) (E : Value → Shared → Prop) : (X.wish E).Ok :=
 ⟨ok.mod, ok.kind, ok.glob, ok.blt, ok.above, ok.inj, ok.has, ok.cab, ok.hd, ok.frames, ok.stk, ok.exf, ok.bs, ok.bsz, ok.noex, ok.exfs, ok.funs, ok.frf⟩
theorem Cx.Ok.unwish {X : Cx} {E : Value → Shared → Prop} (ok : (X.wish E).Ok) : X.Ok :=
 ⟨ok.mod, ok.kind, ok.glob, ok.blt, ok.above, ok.inj, ok.has, ok.cab, ok.hd, ok.frames, ok.stk, ok.exf, ok.bs, ok.bsz, ok.noex, ok.exfs, ok.funs, ok.frf⟩
section
variable {X : Cx} {pins : List (Addr × Obj)} {σ : St} {H : Hp} {s : Shared} {E : Value → Shared → Prop}
theorem Inv.wish (I : Inv X pins σ H s) (E : Value → Shared → Prop) : Inv (X.wish E) pins σ H s := ⟨I.ok.wish E, I.os, I.bare, I.base, I.loc, I.cell, I.free, I.freeC, I.pin, I.hok, I.len⟩
theorem Inv.unwish (I : Inv (X.wish E) pins σ H s) : Inv X pins σ H s := ⟨I.ok.unwish, I.os, I.bare, I.base, I.loc, I.cell, I.free, I.freeC, I.pin, I.hok, I.len⟩
theorem SP.unwish {D : Ends} {f : Flow} {s' : Shared} (h : SP (X.wish E) pins D f s') : SP X pins D f s' := by
 cases f with
 | next => obtain ⟨σ', H', I, q⟩ := h; exact ⟨σ', H', I.unwish, q⟩
 | brk => obtain ⟨σ', H', I, q⟩ := h; exact ⟨σ', H', I.unwish, q⟩
 | cont => obtain ⟨σ', H', I, q⟩ := h; exact ⟨σ', H', I.unwish, q⟩
 | ret u => obtain ⟨v, σ', H', I, r, q⟩ := h; exact ⟨v, σ', H', I.unwish, r, q⟩
theorem PE.nox {e : Expr} {t : TE} (h : PE X.nox e t) : PE X e t := fun pins s σ H Q I hw =>
 wpAny_mono (h pins s σ H Q (I.wish _) hw) (fun _ _ ⟨v, H', I', r, q⟩ => ⟨v, H', I'.unwish, r, q⟩) fun _ _ z => False.elim z
theorem PT.nox {e : Expr} {t : TT} (h : PT X.nox e t) : PT X e t := fun pins s σ H Q I hw =>
 wpAny_mono (h pins s σ H Q (I.wish _) hw) (fun _ _ ⟨H', I', q⟩ => ⟨H', I'.unwish, q⟩) fun _ _ z => False.elim z
theorem PSs.nox {st : List Stmt} {t : TS} (h : PSs X.nox st t) : PSs X st t := fun pins s σ H D I hw =>
 wpAny_mono (h pins s σ H D (I.wish _) hw) (fun _ _ q => q.unwish) fun _ _ z => False.elim z
end
section
variable {X : Cx} {st : Stmt} {rest : List Stmt} {t u : TS} {e : Expr} {te : TE} {pos : Pos}
noncomputable def tNext : TS := fun D σ H => D.nx σ H
noncomputable def tSeq (t u : TS) : TS := fun D σ H => t { D with nx := u D } σ H
theorem pss_nil : PSs X [] tNext := fun _ _ σ H _ I h => wpAny_execs_nil ⟨σ, H, I, h⟩
theorem pss_cons (h1 : PS X st t) (h2 : PSs X rest u) : PSs X (st :: rest) (tSeq t u) := by
 intro pins s σ H D I h
 refine wpAny_execs_cons (thn (h1 pins s σ H { D with nx := u D } I h) fun f s1 q => ?_)
 cases f with
 | next =>
  obtain ⟨σ', H', I', q⟩ := q
  exact h2 pins s1 σ' H' D I' q
 | ret v => exact q
 | brk => exact q
 | cont => exact q
theorem pss_one (h1 : PS X st t) : PSs X [st] t := by
 intro pins s σ H D I h
 refine wpAny_execs_cons (thn (h1 pins s σ H D I h) fun f s1 q => ?_)
 cases f with
 | next => exact wpAny_execs_nil q
 | ret v => exact q
 | brk => exact q
 | cont => exact q
noncomputable def tBreak : TS := fun D σ H => D.bk σ H
noncomputable def tCont : TS := fun D σ H => D.ct σ H
theorem ps_pass : PS X (.Pass pos) tNext := fun _ _ σ H _ I h => wpAny_Pass ⟨σ, H, I, h⟩
theorem ps_break : PS X (.Break pos) tBreak := fun _ _ σ H _ I h => wpAny_Break ⟨σ, H, I, h⟩
theorem ps_continue : PS X (.Continue pos) tCont := fun _ _ σ H _ I h => wpAny_Continue ⟨σ, H, I, h⟩
theorem Inv.quiet {pins : List (Addr × Obj)} {σ : St} {H : Hp} {s : Shared} (I : Inv X pins σ H s) : interactive X.env = false := by simp [interactive, I.ok.kind]
theorem ps_doc {x j pos pos'} : PS X (.Expr (.Constant (.str x) j pos) pos') tNext := fun _ s σ H _ I h => wpAny_Expr (Calls.Constant_str (show SP X _ _ .next { s with toks := s.toks + 1 } from ⟨σ, H, I.tok _, h⟩)) I.quiet
noncomputable def tDrop (te : TE) : TS := fun D σ H => te σ H fun _ H1 => D.nx σ H1
theorem ps_expr (he : PE X e te) (hs : swapsWith e none pos.line X.env = pure false := by rfl) : PS X (.Expr e pos) (tDrop te) := by
 intro pins s σ H D I h
 exact wpAny_Expr_any (thn (he pins s σ H _ I h) fun v s1 ⟨x, H1, I1, r1, q1⟩ => ⟨σ, H1, I1, q1⟩) I.quiet hs
noncomputable def tRet (te : TE) : TS := fun D σ H => te σ H D.rt
theorem ps_ret (he : PE X e te) : PS X (.Return (some e) pos) (tRet te) := by
 intro pins s σ H D I h
 exact wpAny_Return_some (thn (he pins s σ H _ I h) fun v s1 ⟨x, H1, I1, r1, q1⟩ => ⟨x, σ, H1, I1, r1, q1⟩)
noncomputable def tRetN : TS := fun D _ H => D.rt .non H
theorem ps_retN : PS X (.Return none pos) tRetN := fun _ _ σ H _ I h => wpAny_Return_none ⟨.non, σ, H, I, rfl, h⟩
noncomputable def tIfS (c : TT) (t u : TS) : TS := fun D σ H => c σ H fun b H1 => if b = true then t D σ H1 else u D σ H1
theorem ps_if {c : Expr} {a b : List Stmt} {tc : TT} (hc : PT X c tc) (ha : PSs X a t) (hb : PSs X b u) : PS X (.If c a b pos) (tIfS tc t u) := by
 intro pins s σ H D I h
 refine wpAny_If (thn (hc pins s σ H _ I h) fun d s1 ⟨H1, I1, q1⟩ => ?_)
 cases d with
 | true => exact ha pins s1 σ H1 D I1 q1
 | false => exact hb pins s1 σ H1 D I1 q1
end
noncomputable abbrev TG := V → St → Hp → (St → Hp → Prop) → Prop
noncomputable abbrev TGs := List V → St → Hp → (St → Hp → Prop) → Prop
noncomputable def PG (X : Cx) (target : Expr) (t : TG) : Prop :=
 ∀ (pins : List (Addr × Obj)) (s : Shared) (σ : St) (H : Hp) (v : V) (u : Value) (Q : St → Hp → Prop), Inv X pins σ H s → RelV v u → t v σ H Q →
  wpAny (model X.prog X.w) X.A (assign target X.env u) (fun _ s' => ∃ σ' H', Inv X pins σ' H' s' ∧ Q σ' H') X.xe s
noncomputable def PGs (X : Cx) (ts : List Expr) (t : TGs) : Prop :=
 ∀ (pins : List (Addr × Obj)) (s : Shared) (σ : St) (H : Hp) (vs : List V) (us : List Value) (Q : St → Hp → Prop), Inv X pins σ H s → Vals vs us → t vs σ H Q →
  wpAny (model X.prog X.w) X.A (assignInOrder ((assignEach ts X.env).map (·.2)) us) (fun _ s' => ∃ σ' H', Inv X pins σ' H' s' ∧ Q σ' H') X.xe s
noncomputable abbrev TSet := V → V → V → Hp → (Hp → Prop) → Prop
noncomputable abbrev TIp := V → V → Hp → VK → Prop
section
variable {X : Cx} {pos : Pos}
noncomputable def gName (i : Nat) : TG := fun v σ H Q => Q (σ.set i (some v)) H
theorem pg_name {i : Nat} {x : Str} (hN : X.N.Nodup) (hi : X.N[i]? = some x) (hx : Loc X.env.scope x) (hf : X.fn x = true ∨ X.env.scope.names.lookup x = some .local := by first | exact .inl rfl | exact .inr rfl | assumption) : PG X (.Name x pos) (gName i) := by
 intro pins s σ H v u Q I r h
 exact wpAny_assign_Name (store_ok I hN hi hx r (fun s' I' => ⟨_, H, I', h⟩) hf)
noncomputable def gNil : TGs := fun vs σ H Q => vs = [] ∧ Q σ H
noncomputable def aa (t : TG) (u : TGs) : TGs := fun vs σ H Q => ∃ v r, vs = v :: r ∧ t v σ H fun σ' H' => u r σ' H' Q
theorem pgs_nil : PGs X [] gNil := by
 intro pins s σ H vs us Q I r h
 obtain ⟨e, h⟩ := h
 subst e
 cases r
 exact assignInOrder_nil ⟨σ, H, I, h⟩
theorem pgs_cons {e : Expr} {es : List Expr} {t : TG} {u : TGs} (h1 : PG X e t) (h2 : PGs X es u)
  (hs : (assignEach (e :: es) X.env).map (·.2) = assign e X.env :: (assignEach es X.env).map (·.2) := by rfl) : PGs X (e :: es) (aa t u) := by
 intro pins s σ H vs us Q I r h
 obtain ⟨v, vr, e1, h⟩ := h
 subst e1
 cases r with
 | cons r rr =>
  rw [hs]
  refine assignInOrder_cons (thn (h1 pins s σ H _ _ _ I r h) fun _ s1 ⟨σ1, H1, I1, q1⟩ => ?_)
  exact h2 pins s1 σ1 H1 _ _ Q I1 rr q1
noncomputable def gTup (K : PySem.W.Frag) (n : Nat) (t : TGs) : TG := fun v σ H Q => ∃ a xs, v = .ref a ∧ SqT K H a xs ∧ xs.length = n ∧ t xs σ H Q
theorem pg_tup {es : List Expr} {k : Nat} {t : TGs} {n : Nat} (hc : X.calm = true) (h : PGs X es t)
  (hn : (assignEach es X.env).length = n := by rfl) (hst : (assignEach es X.env).findIdx? (·.1) = none := by rfl) : PG X (.Tuple es k pos) (gTup X.K n t) := by
 intro pins s σ H v u Q I r hw
 obtain ⟨a, xs, e1, hq, hl, hw⟩ := hw
 subst e1
 cases r
 obtain ⟨its, rv, ht, hz⟩ := I.tuple hq
 refine assign_Tuple_tuple (I.ok.hd hc) ht (by simp [hn, ← hl, rv.length]) hst fun h' hx => ?_
 have I1 : Inv X pins σ H { s with heap := h' } := I.kept (t' := s.toks) fun b o e => hx b o (Nat.ne_of_lt (Heap.lt_size e)) e
 exact h pins _ σ H xs _ Q I1 (by simpa using rv) hw
noncomputable def tAsg (te : TE) (g : TG) : TS := fun D σ H => te σ H fun x H1 => g x σ H1 D.nx
theorem ps_set {i : Nat} {x : Str} {e : Expr} {te : TE} {pos' : Pos} (hN : X.N.Nodup) (hi : X.N[i]? = some x) (hx : Loc X.env.scope x) (he : PE X e te) (hs : swapsWith e (some (.Name x pos')) pos.line X.env = pure false := by rfl) (hf : X.fn x = true ∨ X.env.scope.names.lookup x = some .local := by first | exact .inl rfl | exact .inr rfl | assumption) :
  PS X (.Assign [.Name x pos'] e pos) (tAsg te (gName i)) := by
 intro pins s σ H D I h
 refine wpAny_Assign_Name (thn (he pins s σ H _ I h) fun v s1 ⟨y, H1, I1, r1, q1⟩ => ?_) hs
 exact store_ok I1 hN hi hx r1 (fun s2 I2 => ⟨_, H1, I2, q1⟩) hf
end
section
variable {X : Cx} {pos : Pos}
noncomputable def tWhile (c : TT) (tb : TS) : TS := fun D σ H => ∃ W : Nat → St → Hp → Prop, (∃ m, W m σ H) ∧ ∀ m σ H, W m σ H →
 c σ H fun b H1 => if b = true then ∃ N : St → Hp → Prop, (∀ σ' H', N σ' H' → ∃ m', m' < m ∧ W m' σ' H') ∧ tb { D with nx := N, ct := N, bk := D.nx } σ H1 else D.nx σ H1
theorem ps_while {c : Expr} {body : List Stmt} {tc : TT} {tb : TS} (hp : PassesOwn (model X.prog X.w) X.A X.env X.xe) (hc : PT X c tc) (hb : PSs X body tb) : PS X (.While c body [] pos) (tWhile tc tb) := by
 intro pins s σ H D I h
 obtain ⟨W, ⟨m0, w0⟩, turn⟩ := h
 refine wpAny_While (codeAny_whileLoop (fun n s' => ∃ σ' H', Inv X pins σ' H' s' ∧ W n σ' H') ?_ m0 ⟨σ, H, I, w0⟩)
 rintro n s1 ⟨σ1, H1, I1, w1⟩
 refine wpAny_passesOwn hp (thn (hc pins s1 σ1 H1 _ I1 (turn n σ1 H1 w1)) fun b s2 ⟨H2, I2, q2⟩ => ?_)
 cases b with
 | true =>
  obtain ⟨N, hN, q2⟩ := q2
  rw [if_pos rfl]
  refine wpAny_passesOwn hp (thn (hb pins s2 σ1 H2 _ I2 q2) fun f s3 q3 => ?_)
  cases f with
  | next =>
   obtain ⟨σ3, H3, I3, n3⟩ := q3
   obtain ⟨m', hm, w3⟩ := hN σ3 H3 n3
   exact ⟨m', hm, σ3, H3, I3, w3⟩
  | cont =>
   obtain ⟨σ3, H3, I3, n3⟩ := q3
   obtain ⟨m', hm, w3⟩ := hN σ3 H3 n3
   exact ⟨m', hm, σ3, H3, I3, w3⟩
  | brk => exact q3
  | ret v => exact q3
 | false =>
  rw [if_neg Bool.false_ne_true]
  exact wpAny_execs_nil ⟨σ1, H2, I2, q2⟩
end
structure It where
 go : Nat → Hp → Prop
 yld : Nat → Hp → V → Hp → Prop
 stop : Nat → Hp → Prop
noncomputable def FpOk (X : Cx) (pins : List (Addr × Obj)) (H : Hp) (b : Addr) : Prop :=
 H b = none ∧ b ≠ X.env.locals ∧ b ∉ X.fs ∧ (b ∈ X.ex ∨ X.s₀.heap.objs.size ≤ b) ∧ (∀ x c, X.env.cells.lookup x = some c → c ≠ b) ∧ ∀ p ∈ X.pn ++ pins, p.1 ≠ b
theorem Inv.fpOk {X : Cx} {pins : List (Addr × Obj)} {σ : St} {H H' : Hp} {s : Shared} {b : Addr} (I : Inv X pins σ H s) (hb : s.heap.objs.size ≤ b) (hn : H' b = none) : FpOk X pins H' b := by
 refine ⟨hn, Nat.ne_of_gt (Nat.lt_of_lt_of_le I.lt hb), I.nofs hb, .inr (Nat.le_trans I.sz hb), fun x c e z => ?_, fun p hp z => ?_⟩
 ·obtain ⟨v, q⟩ := I.cell x c e
  exact absurd (Nat.lt_of_lt_of_le q.lt (by rw [z]; exact hb)) (Nat.lt_irrefl _)
 ·exact absurd (Nat.lt_of_lt_of_le (Heap.lt_size (I.pin p hp).1) (by rw [z]; exact hb)) (Nat.lt_irrefl _)
structure Turn (P : Program) (w : World) (K : PySem.W.Frag) (tg : Expr) (J : It) (fp : List Addr) (it : Addr) (tn : Nat → Heap → Prop) : Prop where
 mem : it ∈ fp
 obj : ∀ i h, tn i h → ∀ b ∈ fp, ∃ o, h.get? b = some o ∧ ∀ v, o.data ≠ .cell v
 keep : ∀ i h h', tn i h → (∀ b ∈ fp, ∀ o, h.get? b = some o → h'.get? b = some o) → tn i h'
 item : ∀ (X : Cx), X.prog = P → X.w = w → X.K = K → X.calm = true → ∀ (i : Nat) (pins : List (Addr × Obj)) (s : Shared) (σ : St) (H : Hp) (E : Value → Shared → Prop), Inv X pins σ H s → (∀ b ∈ fp, FpOk X pins H b) → tn i s.heap → J.go i H →
  wpAny (model P w) X.A (pyNext (.ref it)) (fun r s1 => ∃ u, r = some u ∧
   wpAny (model P w) X.A (letOwnedTupleGo tg (.ref it) u) (fun _ s2 => ∃ x H', Inv X pins σ H' s2 ∧ RelV x u ∧ J.yld i H x H' ∧ tn (i + 1) s2.heap ∧ ∀ b ∈ fp, H' b = none) E s1) E s
 done : ∀ (X : Cx), X.prog = P → X.w = w → X.K = K → X.calm = true → ∀ (i : Nat) (pins : List (Addr × Obj)) (s : Shared) (σ : St) (H : Hp) (E : Value → Shared → Prop), Inv X pins σ H s → (∀ b ∈ fp, FpOk X pins H b) → tn i s.heap → J.stop i H →
  wpAny (model P w) X.A (pyNext (.ref it)) (fun r s1 => r = none ∧ Inv X pins σ H s1) E s
 self : ∀ (A : Around) (i : Nat) (s : Shared) (Q : Value → Shared → Prop) (E : Value → Shared → Prop), tn i s.heap → Q (.ref it) s → wpAny (model P w) A (pyIter (.ref it)) Q E s
noncomputable abbrev TI := St → Hp → (It → Hp → Prop) → Prop
noncomputable def PIE (X : Cx) (pins : List (Addr × Obj)) (σ : St) (tg : Expr) (R : It → Hp → Prop) (itv : Value) (s2 : Shared) : Prop :=
 ∃ (it : Addr) (fp : List Addr) (tn : Nat → Heap → Prop) (J : It) (H' : Hp), itv = .ref it ∧ Inv X pins σ H' s2 ∧ Turn X.prog X.w X.K tg J fp it tn ∧ tn 0 s2.heap ∧ (∀ b ∈ fp, FpOk X pins H' b) ∧ R J H'
noncomputable def PI (X : Cx) (tg iter : Expr) (wi : TI) : Prop :=
 ∀ (pins : List (Addr × Obj)) (s : Shared) (σ : St) (H : Hp) (R : It → Hp → Prop), Inv X pins σ H s → wi σ H R →
  wpAny (model X.prog X.w) X.A (eval iter X.env) (fun v s1 => wpAny (model X.prog X.w) X.A (pyIter v) (PIE X pins σ tg R) X.xe s1) X.xe s
theorem go_of {M : Model} {A : Around} {E : Value → Shared → Prop} {s : Shared} {tg : Expr} {it : Addr} {u : Value} {o : Obj} {n : String} {vs : Array Value} {Q : Unit → Shared → Prop} (ho : s.heap.get? it = some o) (hc : o.cls = .type n) (hd : o.data = .fields vs)
  (hn : ["enumerate", "zip", "dict_itemiterator", "dict_reverseitemiterator", "odict_iterator", "itertools.zip_longest", "itertools.pairwise"].contains n = false) (hQ : Q () s) : wpAny M A (letOwnedTupleGo tg (.ref it) u) Q E s := by
 unfold letOwnedTupleGo
 cases tg <;> first
  | exact wpAny_pure hQ
  | (cases u <;> first
    | exact wpAny_pure hQ
    | (refine wpAny_bind (wpAny_load ho ?_)
       rw [hc, hd]
       show wpAny M A (if (["enumerate", "zip", "dict_itemiterator", "dict_reverseitemiterator", "odict_iterator", "itertools.zip_longest", "itertools.pairwise"].contains n && vs[0]? == some (rawInt _)) = true then _ else _) Q E s
       rw [if_neg (by intro h; rw [hn, Bool.false_and] at h; cases h)]
       exact wpAny_pure hQ))
noncomputable def Itl (K : PySem.W.Frag) (a : Addr) : It :=
 ⟨fun i H => ∃ xs x, SqL K H a xs ∧ xs[i]? = some x, fun i H x H' => H' = H ∧ ∀ xs, SqL K H a xs → xs[i]? = some x, fun i H => ∃ xs, SqL K H a xs ∧ xs.length ≤ i⟩
noncomputable def Itt (K : PySem.W.Frag) (a : Addr) : It :=
 ⟨fun i H => ∃ xs x, SqT K H a xs ∧ xs[i]? = some x, fun i H x H' => H' = H ∧ ∀ xs, SqT K H a xs → xs[i]? = some x, fun i H => ∃ xs, SqT K H a xs ∧ xs.length ≤ i⟩
noncomputable def Itr (lo : Int) (n : Nat) : It := ⟨fun i _ => i < n, fun i H x H' => H' = H ∧ x = .int (lo + i), fun i _ => n ≤ i⟩
theorem turn_list {P : Program} {w : World} {K : PySem.W.Frag} {tg : Expr} (a it : Addr) : Turn P w K tg (Itl K a) [it] it (fun i h => h.IsListIter it a i) where
 mem := by simp
 obj := fun i h st b hb => by
  have e : b = it := by simpa using hb
  subst e
  obtain ⟨o, e, c, d⟩ := st
  exact ⟨o, e, fun v z => by rw [d] at z; cases z⟩
 keep := fun i h h' st k => st.at fun o e => k it (by simp) o e
 item := by
  intro X hP hw hK hc i pins s σ H E I hf st hg
  subst hP hw hK
  obtain ⟨xs, x, hq, hx⟩ := hg
  obtain ⟨its, rv, p, hz⟩ := I.list hq
  obtain ⟨u, hu, ru⟩ := rv.get hx
  obtain ⟨f0, f1, f2, f3, f4, f5⟩ := hf it (by simp)
  refine wpAny_pyNext_list_item st p.isList (x := u) (by simpa using hu) fun h' st' sb => ?_
  have I1 : Inv X pins σ H { s with heap := h' } := I.turned (t' := s.toks) (fun b o hb e => (sb.2 b hb).trans e) f0 f1 f3 f4 f5
  obtain ⟨o, e, c, d⟩ := id st'
  exact ⟨u, rfl, go_of (s := { s with heap := h' }) e c d (by decide) ⟨x, H, I1, ru, ⟨rfl, fun ys hy => by rw [I.list_inj hy hq]; exact hx⟩, st', fun b hb => (hf b hb).1⟩⟩
 done := by
  intro X hP hw hK hc i pins s σ H E I hf st hg
  subst hP hw hK
  obtain ⟨xs, hq, hx⟩ := hg
  obtain ⟨its, rv, p, hz⟩ := I.list hq
  obtain ⟨f0, f1, f2, f3, f4, f5⟩ := hf it (by simp)
  have hl := rv.length
  exact wpAny_pyNext_list_end (I.ok.hd hc) st p.isList (by simp; omega) fun h' eb => ⟨rfl, I.turned (t' := s.toks) (fun b o hb e => eb b o hb e) f0 f1 f3 f4 f5⟩
 self := fun _ _ _ _ _ st h => wpAny_pyIter_listiter st h
theorem turn_tuple {P : Program} {w : World} {K : PySem.W.Frag} {tg : Expr} (a it : Addr) : Turn P w K tg (Itt K a) [it] it (fun i h => h.IsTupleIter it a i) where
 mem := by simp
 obj := fun i h st b hb => by
  have e : b = it := by simpa using hb
  subst e
  obtain ⟨o, e, c, d⟩ := st
  exact ⟨o, e, fun v z => by rw [d] at z; cases z⟩
 keep := fun i h h' st k => st.at fun o e => k it (by simp) o e
 item := by
  intro X hP hw hK hc i pins s σ H E I hf st hg
  subst hP hw hK
  obtain ⟨xs, x, hq, hx⟩ := hg
  obtain ⟨its, rv, p, hz⟩ := I.tuple hq
  obtain ⟨u, hu, ru⟩ := rv.get hx
  obtain ⟨f0, f1, f2, f3, f4, f5⟩ := hf it (by simp)
  refine wpAny_pyNext_tuple_item st (show s.heap.IsTuple a its.toArray from p) (x := u) (by simpa using hu) fun h' st' sb => ?_
  have I1 : Inv X pins σ H { s with heap := h' } := I.turned (t' := s.toks) (fun b o hb e => (sb.2 b hb).trans e) f0 f1 f3 f4 f5
  obtain ⟨o, e, c, d⟩ := id st'
  exact ⟨u, rfl, go_of (s := { s with heap := h' }) e c d (by decide) ⟨x, H, I1, ru, ⟨rfl, fun ys hy => by rw [I.tuple_inj hy hq]; exact hx⟩, st', fun b hb => (hf b hb).1⟩⟩
 done := by
  intro X hP hw hK hc i pins s σ H E I hf st hg
  subst hP hw hK
  obtain ⟨xs, hq, hx⟩ := hg
  obtain ⟨its, rv, p, hz⟩ := I.tuple hq
  obtain ⟨f0, f1, f2, f3, f4, f5⟩ := hf it (by simp)
  have hl := rv.length
  exact wpAny_pyNext_tuple_end (I.ok.hd hc) st (show s.heap.IsTuple a its.toArray from p) (by simp; omega) fun h' eb => ⟨rfl, I.turned (t' := s.toks) (fun b o hb e => eb b o hb e) f0 f1 f3 f4 f5⟩
 self := fun _ _ _ _ _ st h => wpAny_pyIter_tupleiter st h
theorem turn_range {P : Program} {w : World} {K : PySem.W.Frag} {tg : Expr} (it : Addr) (lo : Int) (n : Nat) : Turn P w K tg (Itr lo n) [it] it (fun i h => IsRangeIter h it (lo + (i : Nat) * 1) ((n : Int) - (i : Nat)) 1) where
 mem := by simp
 obj := fun i h st b hb => by
  have e : b = it := by simpa using hb
  subst e
  exact ⟨_, st, fun v z => by
   have z' : Data.fields _ = Data.cell v := z
   cases z'⟩
 keep := fun i h h' st k => k it (by simp) _ st
 item := by
  intro X hP hw hK hc i pins s σ H E I hf st hg
  subst hP hw hK
  obtain ⟨f0, f1, f2, f3, f4, f5⟩ := hf it (by simp)
  have W := Walks.range (prog := X.prog) (w := X.w) (I.ok.hd hc) it lo 1 n
  refine W.item i s _ _ hg st fun v h' tk hv st' kk => ?_
  obtain ⟨t, rfl⟩ := hv
  have I1 : Inv X pins σ H { s with heap := h', toks := tk } := I.turned (fun b o hb e => kk b o (by simpa using hb) e) f0 f1 f3 f4 f5
  refine ⟨_, rfl, go_of (s := { s with heap := h', toks := tk }) (n := "range_iterator") st' rfl rfl (by decide) ⟨.int (lo + i), H, I1, ⟨t, ?_⟩, ⟨rfl, rfl⟩, st', fun b hb => (hf b hb).1⟩⟩
  rw [Int.mul_one]
 done := by
  intro X hP hw hK hc i pins s σ H E I hf st hg
  subst hP hw hK
  obtain ⟨f0, f1, f2, f3, f4, f5⟩ := hf it (by simp)
  exact wpAny_pyNext_range_end (I.ok.hd hc) st (by have : n ≤ i := hg; omega) fun h' eb => ⟨rfl, I.turned (t' := s.toks) (fun b o hb e => eb b o hb e) f0 f1 f3 f4 f5⟩
 self := fun _ _ _ _ _ st h => wpAny_pyIter_rangeiter st h
end L2
namespace L2
open PySem PySem.Spec PyProof.Rows
section
variable {X : Cx} {tg : Expr}
theorem range_it {pins : List (Addr × Obj)} {σ : St} {H : Hp} {s : Shared} {R : It → Hp → Prop} {E : Value → Shared → Prop} {lo hi : Int} {t u v : Tok} {tk : Nat} (I : Inv X pins σ H s) (h1 : -(2 ^ 62) ≤ lo) (h2 : lo < 2 ^ 62) (h3 : -(2 ^ 62) ≤ hi) (h4 : hi < 2 ^ 62)
  (q : R (Itr lo (hi - lo).toNat) H) : wpAny (model X.prog X.w) X.A (pyIter (.ref s.heap.objs.size)) (PIE X pins σ tg R) E { s with heap := s.heap.push { cls := .type "range", data := .fields #[.int lo t, .int hi u, .int 1 v] }, toks := tk } := by
 refine wpAny_pyIter_range (IsRange.new ..) (small_one h1 h2 h3 h4) ?_
 have I1 : Inv X pins σ H { s with heap := s.heap.push { cls := .type "range", data := .fields #[.int lo t, .int hi u, .int 1 v] }, toks := tk } := I.kept fun b o e => Heap.get?_push_of_some _ e
 refine ⟨(s.heap.push { cls := .type "range", data := .fields #[.int lo t, .int hi u, .int 1 v] }).objs.size, [(s.heap.push { cls := .type "range", data := .fields #[.int lo t, .int hi u, .int 1 v] }).objs.size], _, _, H, rfl,
  I1.kept (t' := tk) fun b o e => Heap.get?_push_of_some _ e, turn_range _ lo (hi - lo).toNat, ?_, fun b hb => ?_, q⟩
 ·have e1 : lo + ((0 : Nat) : Int) * 1 = lo := by simp
  have e2 : (((hi - lo).toNat : Nat) : Int) - ((0 : Nat) : Int) = Builtin.Range.rangeSize lo hi 1 := by rw [rangeSize_one]; split <;> omega
  show IsRangeIter _ _ (lo + ((0 : Nat) : Int) * 1) ((((hi - lo).toNat : Nat) : Int) - ((0 : Nat) : Int)) 1
  rw [e1, e2]
  exact Heap.get?_push_size _ rfl
 ·have e : b = (s.heap.push { cls := .type "range", data := .fields #[.int lo t, .int hi u, .int 1 v] }).objs.size := by simpa using hb
  subst e
  exact I1.fpOk (Nat.le_refl _) (I1.hok.fresh (Nat.le_refl _))
noncomputable def iRng1 (ta : TA) : TI := fun σ H R => ta σ H fun vs H1 => ∃ j : Int, vs = [.int j] ∧ -(2 ^ 62) ≤ j ∧ j < 2 ^ 62 ∧ R (Itr 0 j.toNat) H1
noncomputable def iRng2 (ta : TA) : TI := fun σ H R => ta σ H fun vs H1 => ∃ i j : Int, vs = [.int i, .int j] ∧ (-(2 ^ 62) ≤ i ∧ i < 2 ^ 62 ∧ -(2 ^ 62) ≤ j ∧ j < 2 ^ 62) ∧ R (Itr i (j - i).toNat) H1
theorem pi_range1 {a : Expr} {ta : TA} {p pos : Pos} (hg : Gl X "range") (hm : X.mg "range" = none) (ha : PA X [a] ta) (hs : starEach [a] X.env = [(false, eval a X.env)] := by rfl) : PI X tg (.Call (.Name "range" p) [a] [] pos) (iRng1 ta) := by
 intro pins s σ H R I h
 refine Call_ (ld_blt I hg hm boot_range (PyProof.Rows.callWith_type1 (thn (ha pos pins s σ H _ I h) fun us s1 ⟨vs, H1, I1, r1, q1⟩ => ?_) hs rfl))
 obtain ⟨j, e, q1, q2, q⟩ := q1
 subst e
 cases r1 with
 | cons r rr =>
  cases rr
  obtain ⟨t, rfl⟩ := r
  exact call_range_1 (range_it I1 (by omega) (by omega) q1 q2 (by simpa using q))
theorem pi_range2 {a b : Expr} {ta : TA} {p pos : Pos} (hg : Gl X "range") (hm : X.mg "range" = none) (ha : PA X [a, b] ta) (hs : starEach [a, b] X.env = [(false, eval a X.env), (false, eval b X.env)] := by rfl) (hs2 : starEach [b] X.env = [(false, eval b X.env)] := by rfl) :
  PI X tg (.Call (.Name "range" p) [a, b] [] pos) (iRng2 ta) := by
 intro pins s σ H R I h
 refine Call_ (ld_blt I hg hm boot_range (PyProof.Rows.callWith_type1 (thn (ha pos pins s σ H _ I h) fun us s1 ⟨vs, H1, I1, r1, q1⟩ => ?_) (by rw [hs, hs2]) (by rw [hs2]; rfl)))
 obtain ⟨i, j, e, ⟨q1, q2, q3, q4⟩, q⟩ := q1
 subst e
 cases r1 with
 | cons r rr =>
  cases rr with
  | cons r' rr =>
   cases rr
   obtain ⟨t, rfl⟩ := r
   obtain ⟨t', rfl⟩ := r'
   exact call_range_2 (range_it I1 q1 q2 q3 q4 q)
noncomputable def tFor (wi : TI) (g : TG) (tb : TS) : TS := fun D σ H => wi σ H fun J H1 => ∃ W : Nat → Nat → St → Hp → Prop, (∃ m, W 0 m σ H1) ∧ ∀ i m σ H, W i m σ H →
 (J.stop i H ∧ D.nx σ H) ∨ (J.go i H ∧ ∃ N : St → Hp → Prop, (∀ σ' H', N σ' H' → ∃ m', m' < m ∧ W (i + 1) m' σ' H') ∧ ∀ x H', J.yld i H x H' → g x σ H' fun σ2 H2 => tb { D with nx := N, ct := N, bk := D.nx } σ2 H2)
noncomputable def pinsAt (fp : List Addr) (h : Heap) : List (Addr × Obj) := fp.filterMap fun b => (h.get? b).map fun o => (b, o)
theorem mem_pinsAt {fp : List Addr} {h : Heap} {b : Addr} {o : Obj} (hb : b ∈ fp) (e : h.get? b = some o) : (b, o) ∈ pinsAt fp h := List.mem_filterMap.mpr ⟨b, hb, by rw [e]; rfl⟩
theorem of_pinsAt {fp : List Addr} {h : Heap} {p : Addr × Obj} (hp : p ∈ pinsAt fp h) : p.1 ∈ fp ∧ h.get? p.1 = some p.2 := by
 obtain ⟨b, hb, e⟩ := List.mem_filterMap.mp hp
 cases q : h.get? b with
 | none => rw [q] at e; cases e
 | some o =>
  rw [q] at e
  have e' : (b, o) = p := Option.some.inj e
  subst e'
  exact ⟨hb, q⟩
theorem Inv.pinned {pins : List (Addr × Obj)} {σ : St} {H : Hp} {s : Shared} {fp : List Addr} (I : Inv X pins σ H s) (hf : ∀ b ∈ fp, FpOk X pins H b) (ho : ∀ b ∈ fp, ∃ o, s.heap.get? b = some o ∧ ∀ v, o.data ≠ .cell v) : Inv X (pins ++ pinsAt fp s.heap) σ H s :=
 I.pins_of fun p hp => (List.mem_append.mp hp).elim (fun z => I.pin p (List.mem_append_right _ z)) fun z => by
  obtain ⟨hb, e⟩ := of_pinsAt z
  obtain ⟨f0, f1, f2, _⟩ := hf p.1 hb
  obtain ⟨o, e', d⟩ := ho p.1 hb
  rw [e] at e'; cases e'
  exact ⟨e, f0, f1, f2, d⟩
theorem Inv.unpinned {pins pl : List (Addr × Obj)} {σ : St} {H : Hp} {s : Shared} (I : Inv X (pins ++ pl) σ H s) : Inv X pins σ H s := I.pins_of fun p hp => I.pin p (List.mem_append_right _ (List.mem_append_left _ hp))
theorem ps_for {iter : Expr} {body : List Stmt} {wi : TI} {g : TG} {tb : TS} {pos : Pos} (hp : PassesOwn (model X.prog X.w) X.A X.env X.xe) (hc : X.calm = true) (hi : PI X tg iter wi) (hg : PG X tg g) (hb : PSs X body tb)
  (hs : ∀ x, foldedSetIterable iter X.env x = pure x := by intro _; rfl) : PS X (.For tg iter body [] pos) (tFor wi g tb) := by
 intro pins s σ H D I h
 refine wpAny_For (thn (hi pins s σ H _ I h) fun v s1 h1 => thn h1 fun itv s2 h2 => ?_) hs
 obtain ⟨it, fp, tn, J, H2, e, I2, T, st2, f2, W, ⟨m0, w0⟩, turn⟩ := h2
 subst e
 have stat : ∀ {H' : Hp}, (∀ b ∈ fp, H' b = none) → ∀ b ∈ fp, FpOk X pins H' b := fun hn b hb => ⟨hn b hb, (f2 b hb).2⟩
 refine codeAny_forLoop_any (fun n s' => ∃ i σ' H', Inv X pins σ' H' s' ∧ tn i s'.heap ∧ (∀ b ∈ fp, H' b = none) ∧ W i n σ' H') ?_ m0 ⟨0, σ, H2, I2, st2, fun b hb => (f2 b hb).1, w0⟩
 rintro n s3 ⟨i, σ3, H3, I3, st3, fr3, w3⟩
 rcases turn i n σ3 H3 w3 with ⟨stop, qn⟩ | ⟨go, N, hN, step⟩
 ·refine wpAny_passesOwn hp (thn (T.done X rfl rfl rfl hc i pins s3 σ3 H3 X.xe I3 (stat fr3) st3 stop) fun r s4 ⟨hr, I4⟩ => ?_)
  subst hr
  exact wpAny_execs_nil ⟨σ3, H3, I4, qn⟩
 ·refine wpAny_passesOwn hp (thn (T.item X rfl rfl rfl hc i pins s3 σ3 H3 X.xe I3 (stat fr3) st3 go) fun r s4 ⟨u, hr, h4⟩ => ?_)
  subst hr
  refine wpAny_passesOwn hp (thn h4 fun _ s5 ⟨x, H5, I5, r5, y5, st5, fr5⟩ => ?_)
  have I5' := I5.pinned (stat fr5) (T.obj _ _ st5)
  refine wpAny_passesOwn hp (thn (hg _ s5 σ3 H5 x u _ I5' r5 (step x H5 y5)) fun _ s6 ⟨σ6, H6, I6, q6⟩ => ?_)
  refine wpAny_passesOwn hp (thn (hb _ s6 σ6 H6 _ I6 q6) fun f s7 q7 => ?_)
  have again : ∀ {σ7 : St} {H7 : Hp}, Inv X (pins ++ pinsAt fp s5.heap) σ7 H7 s7 → N σ7 H7 → ∃ m, m < n ∧ ∃ i σ' H', Inv X pins σ' H' s7 ∧ tn i s7.heap ∧ (∀ b ∈ fp, H' b = none) ∧ W i m σ' H' := fun {σ7 H7} I7 n7 => by
   obtain ⟨m', hm, w7⟩ := hN σ7 H7 n7
   refine ⟨m', hm, i + 1, σ7, H7, I7.unpinned, T.keep _ _ _ st5 fun b hb o e => (I7.pin (b, o) (List.mem_append_right _ (List.mem_append_right _ (mem_pinsAt hb e)))).1, fun b hb => ?_, w7⟩
   obtain ⟨o, e, d⟩ := T.obj _ _ st5 b hb
   exact (I7.pin (b, o) (List.mem_append_right _ (List.mem_append_right _ (mem_pinsAt hb e)))).2.1
  cases f with
  | next => obtain ⟨σ7, H7, I7, n7⟩ := q7; exact again I7 n7
  | cont => obtain ⟨σ7, H7, I7, n7⟩ := q7; exact again I7 n7
  | brk => obtain ⟨σ7, H7, I7, q7⟩ := q7; exact ⟨σ7, H7, I7.unpinned, q7⟩
  | ret v => obtain ⟨x7, σ7, H7, I7, r7, q7⟩ := q7; exact ⟨x7, σ7, H7, I7.unpinned, r7, q7⟩
end
end L2
namespace L2
open PySem PySem.Spec PyProof.Rows
noncomputable abbrev R2 := V → V → Hp → VK → Prop
noncomputable def OpR (X : Cx) (f : Value → Value → Sem Value) (r : R2) : Prop :=
 ∀ (pins : List (Addr × Obj)) (s : Shared) (σ : St) (H : Hp) (x y : V) (v u : Value) (Q : VK), Inv X pins σ H s → RelV x v → RelV y u → r x y H Q →
  wpAny (model X.prog X.w) X.A (f v u) (EP X pins σ Q) X.xe s
noncomputable def UnR (X : Cx) (f : Value → Sem Value) (r : V → Hp → VK → Prop) : Prop :=
 ∀ (pins : List (Addr × Obj)) (s : Shared) (σ : St) (H : Hp) (x : V) (v : Value) (Q : VK), Inv X pins σ H s → RelV x v → r x H Q →
  wpAny (model X.prog X.w) X.A (f v) (EP X pins σ Q) X.xe s
noncomputable def CallR (X : Cx) (f : Value) (r : List V → Hp → VK → Prop) : Prop :=
 ∀ (pins : List (Addr × Obj)) (s : Shared) (σ : St) (H : Hp) (xs : List V) (us : List Value) (Q : VK), Inv X pins σ H s → Vals xs us → r xs H Q →
  wpAny (model X.prog X.w) X.A (call f us) (EP X pins σ Q) X.xe s
noncomputable def TruR (X : Cx) (r : V → Hp → (Bool → Hp → Prop) → Prop) : Prop :=
 ∀ (pins : List (Addr × Obj)) (s : Shared) (σ : St) (H : Hp) (x : V) (v : Value) (Q : Bool → Hp → Prop), Inv X pins σ H s → RelV x v → r x H Q →
  wpAny (model X.prog X.w) X.A (truthy v) (TP X pins σ Q) X.xe s
noncomputable def tOp (r : R2) (ta tb : TE) : TE := fun σ H Q => ta σ H fun x H1 => tb σ H1 fun y H2 => r x y H2 Q
noncomputable def tUn (r : V → Hp → VK → Prop) (ta : TE) : TE := fun σ H Q => ta σ H fun x H1 => r x H1 Q
noncomputable def rI (C : Int → Int → Prop) (g : Int → Int → V) : R2 := fun x y H Q => ∃ i j, x = .int i ∧ y = .int j ∧ C i j ∧ Q (g i j) H
noncomputable def rI0 (g : Int → Int → V) : R2 := fun x y H Q => ∃ i j, x = .int i ∧ y = .int j ∧ Q (g i j) H
noncomputable def rU (g : Int → V) : V → Hp → VK → Prop := fun x H Q => ∃ i, x = .int i ∧ Q (g i) H
section
variable {X : Cx} {a b c : Expr} {ta tb tc : TE} {pos : Pos}
theorem binT (ha : PE X a ta) (hb : PE X b tb) {pins : List (Addr × Obj)} {s : Shared} {σ : St} {H : Hp} {R : V → V → Hp → Prop} (I : Inv X pins σ H s)
  (h : ta σ H fun x H1 => tb σ H1 fun y H2 => R x y H2) {Q : Value → Shared → Prop} {f : Value → Value → Sem Value}
  (hf : ∀ v u s2 x y H2, Inv X pins σ H2 s2 → RelV x v → RelV y u → R x y H2 → wpAny (model X.prog X.w) X.A (f v u) Q X.xe s2) :
  wpAny (model X.prog X.w) X.A (eval a X.env) (fun v s₁ => wpAny (model X.prog X.w) X.A (eval b X.env) (fun u s₂ => wpAny (model X.prog X.w) X.A (f v u) Q X.xe s₂) X.xe s₁) X.xe s := by
 refine thn (ha pins s σ H _ I h) fun v s1 ⟨x, H1, I1, r1, q1⟩ => ?_
 refine thn (hb pins s1 σ H1 _ I1 q1) fun u s2 ⟨y, H2, I2, r2, q2⟩ => ?_
 exact hf v u s2 x y H2 I2 r1 r2 q2
theorem pe_op {op : Operator} {r : R2} (ho : OpR X (binaryOp op) r) (ha : PE X a ta) (hb : PE X b tb) : PE X (.BinOp a op b pos) (tOp r ta tb) := by
 intro pins s σ H Q I h
 exact wpAny_BinOp (binT ha hb I h fun v u s2 x y H2 I2 rx ry q => ho pins s2 σ H2 x y v u Q I2 rx ry q)
theorem pe_un {op : UnaryOp} {r : V → Hp → VK → Prop} (ho : UnR X (unaryOp op) r) (ha : PE X a ta) : PE X (.UnaryOp op a pos) (tUn r ta) := by
 intro pins s σ H Q I h
 exact UnaryOp_ (thn (ha pins s σ H _ I h) fun v s1 ⟨x, H1, I1, r1, q1⟩ => ho pins s1 σ H1 x v Q I1 r1 q1)
theorem opI {f : Value → Value → Sem Value} {C : Int → Int → Prop} {g : Int → Int → Int}
  (rule : ∀ (i j : Int) (t u : Tok) (s : Shared) (Q : Value → Shared → Prop) (E : Value → Shared → Prop), C i j → Q (.int (g i j) s.toks) { s with toks := s.toks + 1 } → wpAny (model X.prog X.w) X.A (f (.int i t) (.int j u)) Q E s) :
  OpR X f (rI C fun i j => .int (g i j)) := by
 intro pins s σ H x y v u Q I rx ry h
 obtain ⟨i, j, rfl, rfl, hc, q⟩ := h
 obtain ⟨t, rfl⟩ := rx
 obtain ⟨t', rfl⟩ := ry
 exact rule i j t t' s _ _ hc ⟨.int (g i j), H, I.tok _, ⟨_, rfl⟩, q⟩
theorem opI0 {f : Value → Value → Sem Value} {g : Int → Int → Int}
  (rule : ∀ (i j : Int) (t u : Tok) (s : Shared) (Q : Value → Shared → Prop) (E : Value → Shared → Prop), Q (.int (g i j) s.toks) { s with toks := s.toks + 1 } → wpAny (model X.prog X.w) X.A (f (.int i t) (.int j u)) Q E s) :
  OpR X f (rI0 fun i j => .int (g i j)) := by
 intro pins s σ H x y v u Q I rx ry h
 obtain ⟨i, j, rfl, rfl, q⟩ := h
 obtain ⟨t, rfl⟩ := rx
 obtain ⟨t', rfl⟩ := ry
 exact rule i j t t' s _ _ ⟨.int (g i j), H, I.tok _, ⟨_, rfl⟩, q⟩
theorem opB0 {f : Value → Value → Sem Value} {g : Int → Int → Bool}
  (rule : ∀ (i j : Int) (t u : Tok) (s : Shared) (Q : Value → Shared → Prop) (E : Value → Shared → Prop), Q (.bool (g i j)) s → wpAny (model X.prog X.w) X.A (f (.int i t) (.int j u)) Q E s) :
  OpR X f (rI0 fun i j => .bl (g i j)) := by
 intro pins s σ H x y v u Q I rx ry h
 obtain ⟨i, j, rfl, rfl, q⟩ := h
 obtain ⟨t, rfl⟩ := rx
 obtain ⟨t', rfl⟩ := ry
 exact rule i j t t' s _ _ ⟨.bl (g i j), H, I, rfl, q⟩
noncomputable def CDiv (i j : Int) : Prop := 0 < j ∧ j < 1073741824
noncomputable def CPow (i j : Int) : Prop := 0 ≤ j ∧ j ≤ 1000000 ∧ i.natAbs < 2 ^ 64
noncomputable def CMul (i j : Int) : Prop := (-(2 ^ 64) < i ∧ i < 2 ^ 64) ∨ (-(2 ^ 64) < j ∧ j < 2 ^ 64)
theorem CMul.ok {i j : Int} (h : CMul i j) : IntMulOk i j := by
 rcases h with ⟨h1, h2⟩ | ⟨h1, h2⟩
 ·exact .of_left (intBits_le_64 h1 h2)
 ·exact .of_right (intBits_le_64 h1 h2)
theorem op_add : OpR X (binaryOp .Add) (rI0 fun i j => .int (i + j)) := opI0 fun _ _ _ _ _ _ _ q => add_int q
theorem op_sub : OpR X (binaryOp .Sub) (rI0 fun i j => .int (i - j)) := opI0 fun _ _ _ _ _ _ _ q => sub_int q
theorem op_mul : OpR X (binaryOp .Mult) (rI CMul fun i j => .int (i * j)) := opI fun _ _ _ _ _ _ _ hc q => mul_int q hc.ok
theorem op_fdiv : OpR X (binaryOp .FloorDiv) (rI CDiv fun i j => .int (i / j)) := opI fun i j _ _ _ _ _ hc q => by
 have h1 : (0 : Int) < j := hc.1
 have h2 : j < 1073741824 := hc.2
 exact floordiv_int (by omega) (by rw [Int.fdiv_eq_ediv_of_nonneg i (by omega)]; exact q) (.inl (PyProof.noPylong_small (by omega)))
theorem op_mod : OpR X (binaryOp .Mod) (rI (fun _ j => 0 < j) fun i j => .int (i % j)) := opI fun i j _ _ _ _ _ hc q => by
 have h1 : (0 : Int) < j := hc
 exact mod_int' (by omega) (by rw [Int.fmod_eq_emod_of_nonneg i (by omega)]; exact q)
theorem op_pow : OpR X (binaryOp .Pow) (rI CPow fun i j => .int (i ^ j.toNat)) := opI fun _ _ _ _ _ _ _ hc q => pow_int_small hc.1 hc.2.1 hc.2.2 q
theorem unI {f : Value → Sem Value} {g : Int → Int}
  (rule : ∀ (i : Int) (t : Tok) (s : Shared) (Q : Value → Shared → Prop) (E : Value → Shared → Prop), Q (.int (g i) s.toks) { s with toks := s.toks + 1 } → wpAny (model X.prog X.w) X.A (f (.int i t)) Q E s) :
  UnR X f (rU fun i => .int (g i)) := by
 intro pins s σ H x v Q I rx h
 obtain ⟨i, rfl, q⟩ := h
 obtain ⟨t, rfl⟩ := rx
 exact rule i t s _ _ ⟨.int (g i), H, I.tok _, ⟨_, rfl⟩, q⟩
theorem un_neg : UnR X (unaryOp .USub) (rU fun i => .int (-i)) := unI fun _ _ _ _ _ q => neg_int q
end
section
variable {X : Cx} {a b c : Expr} {ta tb tc : TE} {pos : Pos}
theorem fin_bl {pins : List (Addr × Obj)} {σ : St} {H : Hp} {s : Shared} {Q : VK} {k k' : Bool} (I : Inv X pins σ H s) (q : Q (.bl k) H) (e : k = k') : EP X pins σ Q (.bool k') s := by
 subst e
 exact ⟨.bl k, H, I, rfl, q⟩
theorem op_lt : OpR X (compareOp .Lt) (rI0 fun i j => .bl (decide (i < j))) := opB0 fun _ _ _ _ _ _ _ q => lt_int q
theorem op_le : OpR X (compareOp .LtE) (rI0 fun i j => .bl (decide (i ≤ j))) := opB0 fun _ _ _ _ _ _ _ q => le_int q
theorem op_gt : OpR X (compareOp .Gt) (rI0 fun i j => .bl (decide (j < i))) := opB0 fun _ _ _ _ _ _ _ q => gt_int q
theorem op_ge : OpR X (compareOp .GtE) (rI0 fun i j => .bl (decide (j ≤ i))) := opB0 fun _ _ _ _ _ _ _ q => ge_int q
theorem op_in_str : OpR X (compareOp .In) (fun x y H Q => ∃ i j, x = .str i ∧ y = .str j ∧ Q (.bl (!(Builtin.Str.occurrences j i 0 j.length 1).isEmpty)) H) := by
 intro pins s σ H x y v u Q I rx ry h
 obtain ⟨i, j, rfl, rfl, q⟩ := h
 obtain ⟨t, rfl⟩ := rx
 obtain ⟨t', rfl⟩ := ry
 exact in_str (fin_bl I q rfl)
theorem op_isN : OpR X (compareOp .Is) (fun x y H Q => y = .non ∧ Q (.bl (decide (x = .non))) H) := by
 intro pins s σ H x y v u Q I rx ry h
 obtain ⟨rfl, q⟩ := h
 cases ry
 refine is_none_gen (fin_bl I q ?_)
 cases x <;> first
  | (cases rx; rfl)
  | (obtain ⟨t, rfl⟩ := rx; rfl)
theorem op_notN : OpR X (compareOp .IsNot) (fun x y H Q => y = .non ∧ Q (.bl (!decide (x = .non))) H) := by
 intro pins s σ H x y v u Q I rx ry h
 obtain ⟨rfl, q⟩ := h
 cases ry
 refine isnot_none_gen (fin_bl I q ?_)
 cases x <;> first
  | (cases rx; rfl)
  | (obtain ⟨t, rfl⟩ := rx; rfl)
theorem op_notin_str : OpR X (compareOp .NotIn) (fun x y H Q => ∃ i j, x = .str i ∧ y = .str j ∧ Q (.bl (!(!(Builtin.Str.occurrences j i 0 j.length 1).isEmpty))) H) := by
 intro pins s σ H x y v u Q I rx ry h
 obtain ⟨i, j, rfl, rfl, q⟩ := h
 obtain ⟨t, rfl⟩ := rx
 obtain ⟨t', rfl⟩ := ry
 exact notIn_str (fin_bl I q rfl)
theorem OpR.or {f : Value → Value → Sem Value} {r r' : R2} (h : OpR X f r) (h' : OpR X f r') : OpR X f (fun x y H Q => r x y H Q ∨ r' x y H Q) := by
 intro pins s σ H x y v u Q I rx ry q
 rcases q with q | q
 ·exact h pins s σ H x y v u Q I rx ry q
 ·exact h' pins s σ H x y v u Q I rx ry q
theorem pe_cmpR {op : CmpOp} {r : R2} (ho : OpR X (compareOp op) r) (ha : PE X a ta) (hb : PE X b tb) (hm : behindInMarks op b = false) : PE X (.Compare a [op] [b] pos) (tOp r ta tb) := by
 intro pins s σ H Q I h
 exact wpAny_Compare1 (binT ha hb I h fun v u s2 x y H2 I2 rx ry q => ho pins s2 σ H2 x y v u Q I2 rx ry q) hm
noncomputable def tTest (t : TE) : TT := fun σ H Q => t σ H fun x H' => ∃ k, x = .bl k ∧ Q k H'
theorem pt_cmpR {op : CmpOp} {r : R2} (ho : OpR X (compareOp op) r) (ha : PE X a ta) (hb : PE X b tb) (hm : behindInMarks op b = false) : PT X (.Compare a [op] [b] pos) (tTest (tOp r ta tb)) := by
 intro pins s σ H Q I h
 refine wpAny_isTrue_Compare1 (thn (ha pins s σ H _ I h) fun v s1 ⟨x, H1, I1, r1, q1⟩ => thn (hb pins s1 σ H1 _ I1 q1) fun u s2 ⟨y, H2, I2, r2, q2⟩ =>
  thn (ho pins s2 σ H2 x y v u _ I2 r1 r2 q2) fun c s3 ⟨z, H3, I3, r3, k, e, q3⟩ => ?_) hm
 subst e
 cases r3
 exact wpAny_truthy_bool ⟨H3, I3, q3⟩
noncomputable def tChain (r r' : R2) (ta tb tc : TE) : TE := fun σ H Q => ta σ H fun x H1 => tb σ H1 fun y H2 => r x y H2 fun z H3 => ∃ k, z = .bl k ∧
 (if k = true then tc σ H3 fun w' H4 => r' y w' H4 Q else Q (.bl false) H3)
theorem pe_chain {op op' : CmpOp} {r r' : R2} (ho : OpR X (compareOp op) r) (ho' : OpR X (compareOp op') r') (ha : PE X a ta) (hb : PE X b tb) (hc : PE X c tc)
  (hm : lastMarks [op, op'] [b, c] = false := by with_unfolding_all rfl) : PE X (.Compare a [op, op'] [b, c] pos) (tChain r r' ta tb tc) := by
 intro pins s σ H Q I h
 refine Compare_chain (thn (ha pins s σ H _ I h) fun v s1 ⟨x, H1, I1, r1, q1⟩ => chain_link (thn (hb pins s1 σ H1 _ I1 q1) fun u s2 ⟨y, H2, I2, r2, q2⟩ =>
  thn (ho pins s2 σ H2 x y v u _ I2 r1 r2 q2) fun d s3 ⟨z, H3, I3, r3, k, e, q3⟩ => ?_)) hm
 subst e
 cases r3
 refine wpAny_truthy_bool ?_
 cases k with
 | false => exact ite_ff ⟨.bl false, H3, I3, rfl, q3⟩
 | true => exact ite_tt (chain_last (thn (hc pins s3 σ H3 _ I3 q3) fun w' s4 ⟨z', H4, I4, r4, q4⟩ => ho' pins s4 σ H4 y z' u w' Q I4 r2 r4 q4))
theorem pt_chain {op op' : CmpOp} {r r' : R2} (ho : OpR X (compareOp op) r) (ho' : OpR X (compareOp op') r') (ha : PE X a ta) (hb : PE X b tb) (hc : PE X c tc)
  (hm : lastMarks [op, op'] [b, c] = false := by with_unfolding_all rfl) : PT X (.Compare a [op, op'] [b, c] pos) (tTest (tChain r r' ta tb tc)) := by
 intro pins s σ H Q I h
 refine isTrue_chain (thn (ha pins s σ H _ I h) fun v s1 ⟨x, H1, I1, r1, q1⟩ => test_link (thn (hb pins s1 σ H1 _ I1 q1) fun u s2 ⟨y, H2, I2, r2, q2⟩ =>
  thn (ho pins s2 σ H2 x y v u _ I2 r1 r2 q2) fun d s3 ⟨z, H3, I3, r3, k, e, q3⟩ => ?_)) hm
 subst e
 cases r3
 refine wpAny_truthy_bool ?_
 cases k with
 | false =>
  obtain ⟨k', e', q'⟩ := q3
  cases e'
  exact ite_ff ⟨H3, I3, q'⟩
 | true =>
  refine ite_tt (test_last (thn (hc pins s3 σ H3 _ I3 q3) fun w' s4 ⟨z', H4, I4, r4, q4⟩ => thn (ho' pins s4 σ H4 y z' u w' _ I4 r2 r4 q4) fun d' s5 ⟨z2, H5, I5, r5, k2, e2, q5⟩ => ?_))
  subst e2
  cases r5
  exact wpAny_truthy_bool ⟨H5, I5, q5⟩
noncomputable def TruV (K : PySem.W.Frag) (x : V) (H : Hp) (k : Bool) : Prop :=
 match x with
 | .non => k = false
 | .bl b => k = b
 | .int i => k = (i != 0)
 | .str y => y.length ≤ sizeLine ∧ k = ((y.length : Int) != 0)
 | .byt y => y.size ≤ sizeLine ∧ k = ((y.size : Int) != 0)
 | .ref p => (∃ xs, SqL K H p xs ∧ k = !xs.isEmpty) ∨ (∃ xs, SqT K H p xs ∧ k = !xs.isEmpty) ∨ ∃ kvs, H p = some (.dK kvs) ∧ k = !kvs.isEmpty
 | _ => False
theorem isEmpty_kv {κ : Type} {kvs : List (κ × V)} {vs : List (κ × Value)} (r : KV kvs vs) : (!vs.isEmpty) = !kvs.isEmpty := by
 cases r <;> rfl
theorem isEmpty_of {xs : List V} {its : List Value} (r : Vals xs its) : (!its.toArray.isEmpty) = !xs.isEmpty := by
 cases r <;> simp
theorem line63 : (sizeLine : Nat) < 2 ^ 63 := by rw [sizeLine_eq]; decide
theorem tru_ok : TruR X (fun x H Q => ∃ k, TruV X.K x H k ∧ Q k H) := by
 intro pins s σ H x v Q I rx h
 obtain ⟨k, e, q⟩ := h
 have hl := line63
 have hs : sizeLine = 16777216 := sizeLine_eq
 cases x with
 | non =>
  cases rx
  have e' : k = false := e
  subst e'
  exact truthy_none ⟨H, I, q⟩
 | bl b =>
  cases rx
  have e' : k = b := e
  subst e'
  exact wpAny_truthy_bool ⟨H, I, q⟩
 | int i =>
  obtain ⟨t, rfl⟩ := rx
  have e' : k = (i != 0) := e
  subst e'
  exact PySem.P.truthy_int ⟨H, I, q⟩
 | str y =>
  obtain ⟨t, rfl⟩ := rx
  obtain ⟨hy, e'⟩ : y.length ≤ sizeLine ∧ k = ((y.length : Int) != 0) := e
  subst e'
  exact PySem.P.truthy_str (by omega) ⟨H, I.tok _, q⟩
 | byt y =>
  obtain ⟨t, rfl⟩ := rx
  obtain ⟨hy, e'⟩ : y.size ≤ sizeLine ∧ k = ((y.size : Int) != 0) := e
  subst e'
  exact PySem.W.truthy_bytes (by omega) ⟨H, I.tok _, q⟩
 | ref p =>
  cases rx
  have e' : (∃ xs, SqL X.K H p xs ∧ k = !xs.isEmpty) ∨ (∃ xs, SqT X.K H p xs ∧ k = !xs.isEmpty) ∨ ∃ kvs, H p = some (.dK kvs) ∧ k = !kvs.isEmpty := e
  rcases e' with ⟨xs, hx, e'⟩ | ⟨xs, hx, e'⟩ | ⟨kvs, hx, e'⟩
  ·subst e'
   obtain ⟨its, r, pl, hz⟩ := I.list hx
   have hlen := r.length
   exact wpAny_truthy_list pl.isList (by simp only [List.size_toArray]; omega) ⟨H, I.tok _, by rw [isEmpty_of r]; exact q⟩
  ·subst e'
   obtain ⟨its, r, pl, hz⟩ := I.tuple hx
   have hlen := r.length
   exact truthy_tuple pl (by simp only [List.size_toArray]; omega) ⟨H, I.tok _, by rw [isEmpty_of r]; exact q⟩
  ·subst e'
   obtain ⟨hz, hS, vs, r, m⟩ : kvs.length ≤ sizeLine ∧ (p == sysModules) = false ∧ ∃ vs, KV kvs vs ∧ s.heap.DictOf (mixKind X.prog X.w) p vs := I.hok p _ hx
   have hlen : kvs.length = vs.length := Paired.length r
   exact wpAny_truthy_dict hS m (by omega) ⟨H, I.tok _, by rw [isEmpty_kv r]; exact q⟩
 | _ => exact (show False from e).elim
theorem pt_truth (ha : PE X a ta) (he : ∀ whole, isTrue a X.env whole = (do let v ← whole; standAt a.pos; holding [v] (truthy v))) :
  PT X a (fun σ H Q => ta σ H fun x H' => ∃ k, TruV X.K x H' k ∧ Q k H') := by
 intro pins s σ H Q I h
 exact isTrue_plain (thn (ha pins s σ H _ I h) fun v s1 ⟨x, H1, I1, r1, q1⟩ => tru_ok pins s1 σ H1 x v Q I1 r1 q1) (he _)
theorem op_add_str : OpR X (binaryOp .Add) (fun x y H Q => ∃ i j, x = .str i ∧ y = .str j ∧ i.length + j.length ≤ sizeLine ∧ Q (.str (i ++ j)) H) := by
 intro pins s σ H x y v u Q I rx ry h
 obtain ⟨i, j, rfl, rfl, hz, q⟩ := h
 obtain ⟨t, rfl⟩ := rx
 obtain ⟨t', rfl⟩ := ry
 exact add_str (fun t' tk => ⟨.str (i ++ j), H, I.tok _, ⟨_, rfl⟩, q⟩) hz
theorem vals1 {x : V} {us : List Value} (r : Vals [x] us) : ∃ u, us = [u] ∧ RelV x u := by
 cases r with
 | cons r1 r2 => cases r2; exact ⟨_, rfl, r1⟩
theorem vals2 {x y : V} {us : List Value} (r : Vals [x, y] us) : ∃ u w', us = [u, w'] ∧ RelV x u ∧ RelV y w' := by
 cases r with
 | cons r1 r2 =>
  cases r2 with
  | cons r3 r4 => cases r4; exact ⟨_, _, rfl, r1, r3⟩
theorem call_int1 : CallR X (.type "int") (fun xs H Q => (∃ i, xs = [.int i] ∧ Q (.int i) H) ∨ ∃ k, xs = [.bl k] ∧ Q (.int (if k then 1 else 0)) H) := by
 intro pins s σ H xs us Q I r h
 rcases h with ⟨i, rfl, q⟩ | ⟨k, rfl, q⟩
 ·obtain ⟨u, rfl, t, rfl⟩ := vals1 r
  exact call_int_int ⟨.int i, H, I, ⟨_, rfl⟩, q⟩
 ·obtain ⟨u, rfl, r1⟩ := vals1 r
  cases r1
  exact call_int_bool ⟨.int (if k then 1 else 0), H, I.tok _, ⟨_, rfl⟩, q⟩
noncomputable def LenV (K : PySem.W.Frag) (x : V) (H : Hp) (n : Nat) : Prop :=
 match x with
 | .str y => y.length ≤ sizeLine ∧ n = y.length
 | .byt y => y.size ≤ sizeLine ∧ n = y.size
 | .ref p => (∃ xs, SqL K H p xs ∧ n = xs.length) ∨ ∃ xs, SqT K H p xs ∧ n = xs.length
 | _ => False
theorem call_len : CallR X (.builtin "len") (fun xs H Q => ∃ x n, xs = [x] ∧ LenV X.K x H n ∧ Q (.int n) H) := by
 intro pins s σ H xs us Q I r h
 obtain ⟨x, n, rfl, e, q⟩ := h
 obtain ⟨u, rfl, rx⟩ := vals1 r
 have hl := line63
 have hs : sizeLine = 16777216 := sizeLine_eq
 cases x with
 | str y =>
  obtain ⟨t, rfl⟩ := rx
  obtain ⟨hy, e'⟩ : y.length ≤ sizeLine ∧ n = y.length := e
  subst e'
  exact len_str (by omega) ⟨.int _, H, I.tok _, ⟨_, rfl⟩, q⟩
 | byt y =>
  obtain ⟨t, rfl⟩ := rx
  obtain ⟨hy, e'⟩ : y.size ≤ sizeLine ∧ n = y.size := e
  subst e'
  exact PySem.W.len_bytes (by omega) ⟨.int _, H, I.tok _, ⟨_, rfl⟩, q⟩
 | ref p =>
  cases rx
  have e' : (∃ xs, SqL X.K H p xs ∧ n = xs.length) ∨ ∃ xs, SqT X.K H p xs ∧ n = xs.length := e
  rcases e' with ⟨xs, hx, e'⟩ | ⟨xs, hx, e'⟩
  ·subst e'
   obtain ⟨its, r', pl, hz⟩ := I.list hx
   have hlen := r'.length
   exact Calls.call_len_list pl.isList (by simp only [List.size_toArray]; omega) ⟨.int xs.length, H, I.tok _, ⟨_, by simp only [List.size_toArray]; rw [hlen]⟩, q⟩
  ·subst e'
   obtain ⟨its, r', pl, hz⟩ := I.tuple hx
   have hlen := r'.length
   exact len_tuple pl (by simp only [List.size_toArray]; omega) ⟨.int xs.length, H, I.tok _, ⟨_, by simp only [List.size_toArray]; rw [hlen]⟩, q⟩
 | _ => exact (show False from e).elim
end
end L2
namespace L2
open PySem PySem.Spec PyProof.Rows
structure ObjM (h : Heap) (x dx C : Addr) (mA : Str → Option Value) : Prop where
 obj : h.get? x = some (PySem.W.instObj C dx)
 ns : h.Ns1 dx mA
 ne : dx ≠ x
theorem lookIn_ns {h : Heap} {dx : Addr} {mA : Str → Option Value} (n : h.Ns1 dx mA) : ∃ od, h.get? dx = some od ∧ ∀ name, PySem.W.lookIn name od = some (mA name) := by
 obtain ⟨o, es, ep, ho, hd, hk, _, hm⟩ := n
 refine ⟨o, ho, fun name => ?_⟩
 have e := hm name
 unfold nsFind findBy at e
 rw [← Array.find?_toList] at e
 unfold PySem.W.lookIn
 rw [hd]
 dsimp only
 split
 ·rename_i y q
  rw [q] at e
  exact congrArg some e
 ·rename_i q
  rw [q] at e
  have a : es.toList.any (·.refKey) = false := by
   rw [List.any_eq_false]
   intro y hy
   obtain ⟨z, t, hkey⟩ := hk y (Array.mem_toList_iff.mp hy)
   simp [DictEntry.refKey, hkey]
  have a' : ¬ es.toList.any (·.refKey) = true := by rw [a]; exact Bool.false_ne_true
  rw [if_neg a']
  exact congrArg some e
theorem ObjM.look {h : Heap} {x dx C : Addr} {mA : Str → Option Value} (I : ObjM h x dx C mA) : ∃ od, PySem.W.InstAt h x (PySem.W.instObj C dx) C (some od) ∧ ∀ name, PySem.W.lookIn name od = some (mA name) :=
 let ⟨od, ho, hl⟩ := lookIn_ns I.ns
 ⟨od, ⟨I.obj, rfl, rfl, ho⟩, hl⟩
section
variable {prog : Program} {w : World} {A : Around} {E : Value → Shared → Prop} {s : Shared} {K : PySem.W.Frag} {x dx C f : Addr} {mA : Str → Option Value} {name : Str} {v : Value}
theorem get_map {expr : Bool} {Q : Value → Shared → Prop} (X : K.In s.heap) (I : ObjM s.heap x dx C mA) (hg : PySem.W.plainGet K C name = true) (hh : PySem.W.hasDictIn K C = true)
  (ha : PySem.W.findIn K (.ref C) name = some none) (hv : mA name = some v) (hv' : PySem.W.handedIn v = true) (h : Q v { s with toks := s.toks + 1 }) :
  wpAny (model prog w) A (getAttr (.ref x) name expr) Q E s := by
 obtain ⟨od, J, hl⟩ := I.look
 exact PySem.W.get_value X J (PySem.W.plainGet_of hg).1 (PySem.W.findObj_own hh ha rfl (by rw [hl, hv])) hv' h
end
section
variable {P : Program} {w : World} {H H' : Hp} {h h' : Heap} {a C dx : Addr} {fs fs' : List (Str × V)}
end
structure Cls (K : PySem.W.Frag) (C : Addr) : Prop where
 pg : PySem.W.plainGet K C Str.empty = true
 hd : PySem.W.hasDictIn K C = true
 po : PySem.W.plainOver K C = true
 sa : PySem.W.findIn K (.ref C) "__setattr__" = some (some (.builtin "object.__setattr__"))
theorem Cls.get {K : PySem.W.Frag} {C : Addr} (c : Cls K C) (f : Str) : PySem.W.plainGet K C f = true := c.pg
structure Con (K : PySem.W.Frag) (C : Addr) (f : Str) (v : V) (u : Value) : Prop where
 at_ : PySem.W.findIn K (.ref C) f = some (some u)
 rel : RelV v u
 get : PySem.W.specialIn K u "__get__" = some none
 cp : PySem.W.copiedNames.contains f = false
structure Meth (K : PySem.W.Frag) (C : Addr) (m : Str) (f : Addr) : Prop where
 at_ : PySem.W.findIn K (.ref C) m = some (some (.ref f))
 fn : PySem.W.isFn K (.ref f) = true
 kp : PySem.W.keepIn K (.ref f) = true
section
variable {X : Cx} {pins : List (Addr × Obj)} {σ : St} {H : Hp} {s : Shared} {a C dx : Addr} {fs : List (Str × V)} {f : Str} {v : V} {A : Around} {E : Value → Shared → Prop}
theorem Inv.made (I : Inv X pins σ H s) : Inv X pins σ (upd (upd H s.heap.objs.size (.own (s.heap.objs.size + 1))) (s.heap.objs.size + 1) (.ins C s.heap.objs.size []))
  { s with heap := (s.heap.push PySem.W.emptyDict).push (PySem.W.instObj C s.heap.objs.size) } := by
 have e1 : (s.heap.push PySem.W.emptyDict).get? s.heap.objs.size = some PySem.W.emptyDict := Heap.get?_push_size s.heap rfl
 have e2 : ((s.heap.push PySem.W.emptyDict).push (PySem.W.instObj C s.heap.objs.size)).get? (s.heap.objs.size + 1) = some (PySem.W.instObj C s.heap.objs.size) := by
  have := Heap.get?_push_size (s.heap.push PySem.W.emptyDict) (o := PySem.W.instObj C s.heap.objs.size) rfl
  rwa [Heap.size_push] at this
 have e3 : (s.heap.push PySem.W.emptyDict).Ns s.heap.objs.size (fun _ => none) := ⟨PySem.W.emptyDict, #[], _, e1, rfl, (fun e he => absurd he (by simp)), fun _ => rfl⟩
 have I1 := I.laid (a := s.heap.objs.size) (o := .own (s.heap.objs.size + 1)) (h' := s.heap.push PySem.W.emptyDict) (t' := s.toks) (fun b u q => Heap.get?_push_of_some _ q) (Nat.le_refl _) ⟨_, e1⟩
 refine I1.laid (a := s.heap.objs.size + 1) (o := .ins C s.heap.objs.size []) (t' := s.toks) (fun b u q => Heap.get?_push_of_some _ q) (Nat.le_of_eq (Heap.size_push _ _)) ?_
 have ne : s.heap.objs.size ≠ s.heap.objs.size + 1 := Nat.ne_of_lt (Nat.lt_succ_self _)
 refine ⟨by rw [ak ne, bg], Nat.zero_le _, ne, e2, fun _ => none, (Heap.Ns1.of_empty e3).at fun o q => Heap.get?_push_of_some _ q, fun _ => True.intro, fun y hy => absurd rfl hy⟩
end
section
variable {X : Cx} {o e value : Expr} {f : Str} {pos pos' tpos : Pos} {ta tv : TE}
end
section
variable {X : Cx} {pins : List (Addr × Obj)} {σ : St} {H : Hp} {s : Shared} {A : Around} {E : Value → Shared → Prop} {Q : Value → Shared → Prop} {c : Value} {b : Bool}
inductive TyOf (K : PySem.W.Frag) (H : Hp) : V → Value → Prop where
 | non : TyOf K H .non (.type "NoneType")
 | bl (x : Bool) : TyOf K H (.bl x) (.type "bool")
 | int (i : Int) : TyOf K H (.int i) (.type "int")
 | str (x : Str) : TyOf K H (.str x) (.type "str")
 | flt (x : UInt64) : TyOf K H (.flt x) (.type "float")
 | lst {a : Addr} {xs : List V} (e : H a = some (.lst xs)) : TyOf K H (.ref a) (.type "list")
 | frz {a : Addr} {o : Obj} {xs : List V} (e : H a = some (.frz o (.lst xs))) : TyOf K H (.ref a) (.type "list")
 | tup {a : Addr} {xs : List V} (e : H a = some (.tup xs)) : TyOf K H (.ref a) (.type "tuple")
 | dK {a : Addr} {kvs : List (Key × V)} (e : H a = some (.dK kvs)) : TyOf K H (.ref a) (.type "dict")
 | dT {a : Addr} {kvs : List (List Key × V)} (e : H a = some (.dT kvs)) : TyOf K H (.ref a) (.type "dict")
 | ins {a C dx : Addr} {fs : List (Str × V)} (e : H a = some (.ins C dx fs)) (cl : Cls K C) (ha : PySem.W.findIn K (.ref C) "__class__" = some (some (.builtin "object.__class__")))
   (hn : PySem.W.specialIn K (.builtin "object.__class__") "__get__" = some (some (.builtin "getset_descriptor.__get__"))) (htk : PySem.W.takesIn K (.builtin "object.__class__") = some true)
   (hm : PySem.W.mroIn K C (.type "object") = some true) : TyOf K H (.ref a) (.ref C)
end
end L2
namespace L2
open PySem PySem.Spec PyProof.Rows
structure Room (k : Nat) (A : Around) : Prop where
 hd : A.handled = none
 dp : A.depth + 3 * k + 5 < recursionLimit
 un : A.units + 16 * k + 200 < cLine
theorem Room.mono {j k : Nat} {A : Around} (r : Room k A) (h : j ≤ k) : Room j A := ⟨r.hd, by have := r.dp; omega, by have := r.un; omega⟩
theorem Room.deeper {k : Nat} {A : Around} (r : Room (k + 1) A) (env : Env) : Room k (A.deeper env) :=
 ⟨r.hd, by have := r.dp; show A.depth + 1 + 3 * k + 5 < _; omega, by have := r.un; show A.units + 3 + 16 * k + 200 < _; omega⟩
theorem Room.in1 {k : Nat} {A : Around} (r : Room (k + 1) A) : Room k A.in1 :=
 ⟨r.hd, by have := r.dp; show A.depth + 3 * k + 5 < _; omega, by have := r.un; show A.units + 1 + 16 * k + 200 < _; omega⟩
theorem Room.depth {k : Nat} {A : Around} (r : Room k A) : A.depth < recursionLimit := by have := r.dp; omega
theorem Room.units {k : Nat} {A : Around} (r : Room k A) : A.units + 64 < cLine := by have := r.un; omega
noncomputable def tNil : TA := fun _ H Q => Q [] H
noncomputable def tCons (ta : TE) (tr : TA) : TA := fun σ H Q => ta σ H fun x H1 => tr σ H1 fun xs H2 => Q (x :: xs) H2
section
variable {X : Cx} {e : Expr} {es : List Expr} {te : TE} {t : TA} {pos : Pos}
theorem pa_nil : PA X [] tNil := fun _ _ _ _ H Q I h => Calls.spliced_nil ⟨[], H, I, .nil, h⟩
theorem pa_cons (ha : PE X e te) (hr : PA X es t) (hs : starEach (e :: es) X.env = (false, eval e X.env) :: starEach es X.env := by rfl) : PA X (e :: es) (tCons te t) := by
 intro pos pins s σ H Q I h
 rw [hs]
 show wpAny _ _ (spliced ((false, eval e X.env) :: backTo pos (starEach es X.env))) _ _ s
 refine Calls.spliced_cons (thn (ha pins s σ H _ I h) fun u s1 ⟨x, H1, I1, r1, q1⟩ => ?_)
 exact thn (hr pos pins s1 σ H1 _ I1 q1) fun us s2 ⟨xs, H2, I2, r2, q2⟩ => ⟨x :: xs, H2, I2, .cons r1 r2, q2⟩
noncomputable def tTup (t : TA) : TE := fun σ H Q => t σ H fun xs H1 => xs.length ≤ sizeLine ∧ ∀ p, H1 p = none → Q (.ref p) (upd H1 p (.tup xs))
noncomputable def tLst (t : TA) : TE := fun σ H Q => t σ H fun xs H1 => xs.length ≤ sizeLine ∧ ∀ p, H1 p = none → Q (.ref p) (upd H1 p (.lst xs))
theorem pe_tup {x1} (h : PA X es t) : PE X (.Tuple es x1 pos) (tTup t) := by
 intro pins s σ H Q I hq
 refine wpAny_Tuple_spliced (thn (h pos pins s σ H _ I hq) fun us s1 ⟨xs, H1, I1, r, z, q⟩ => ⟨by rw [← r.length]; exact z, ?_⟩)
 have hf : H1 s1.heap.objs.size = none := I1.hok.fresh (Nat.le_refl _)
 refine ⟨.ref s1.heap.objs.size, upd H1 s1.heap.objs.size (.tup xs), I1.laid (t' := s1.toks) (fun b u e => Heap.get?_push_of_some _ e) (Nat.le_refl _) ?_, rfl, q _ hf⟩
 exact ⟨z, us, r, ⟨_, Heap.get?_push_size _ rfl, rfl, _, rfl⟩⟩
theorem pe_lst (h : PA X es t) : PE X (.List es pos) (tLst t) := by
 intro pins s σ H Q I hq
 refine wpAny_List_spliced (thn (h pos pins s σ H _ I hq) fun us s1 ⟨xs, H1, I1, r, z, q⟩ => ⟨by rw [← r.length]; exact z, ?_⟩)
 have hf : H1 s1.heap.objs.size = none := I1.hok.fresh (Nat.le_refl _)
 refine ⟨.ref s1.heap.objs.size, upd H1 s1.heap.objs.size (.lst xs), I1.laid (t' := s1.toks) (fun b u e => Heap.get?_push_of_some _ e) (Nat.le_refl _) ?_, rfl, q _ hf⟩
 exact ⟨z, us, 0, r, Heap.get?_push_size _ rfl⟩
end
noncomputable abbrev Sp := List V → Hp → VK → XK → Prop
noncomputable abbrev CXT := List Env → Hp → Shared → XK → Value → Shared → Prop
structure Env0 (P : Program) (w : World) (K : PySem.W.Frag) (mg : Str → Option Value) (base : Heap) (A : Around) (outer : List Env) (s : Shared) (H : Hp) : Prop where
 frames : A.frames = some outer
 mod : Mod K mg base
 bs : ∀ b o, base.get? b = some o → s.heap.get? b = some o ∧ H b = none
 bsz : base.objs.size ≤ s.heap.objs.size
 funs : s.heap.FunFrames base outer
 frf : ∀ b ∈ frs outer, H b = none
 hok : HOk P w H s.heap
 bare : AllBare s.gens
noncomputable def CE (outer : List Env) (P : Program) (w : World) (H : Hp) (s : Shared) (Q : VK) (u : Value) (s' : Shared) : Prop :=
 ∃ v H', s'.os = s.os ∧ AllBare s'.gens ∧ Un (frs outer) [] H H' s.heap s'.heap ∧ HOk P w H' s'.heap ∧ RelV v u ∧ Q v H'
noncomputable def CR (CX : CXT) (outer : List Env) (P : Program) (w : World) (H : Hp) (s : Shared) (Q : VK) (E : XK) (r : Result) (s' : Shared) : Prop :=
 match r with
 | .ok (.ret u) => CE outer P w H s Q u s'
 | .ok _ => False
 | .error e => CX outer H s E e s'
structure FnOk (P : Program) (w : World) (K : PySem.W.Frag) (mg : Str → Option Value) (base : Heap) (CX : CXT) (k : Nat) (f : Addr) (fd : FuncData) (ps : List Str) (sp : Sp) : Prop where
 len : ∀ vs H Q E, sp vs H Q E → vs.length = ps.length
 run : ∀ (A : Around) (outer : List Env) (s : Shared) (H : Hp) (args : Args) (us : List Value) (vs : List V) (Q : VK) (E : XK), Room k A → Env0 P w K mg base A outer s H → BindsTo s fd args (ps.zip us) → Vals vs us → sp vs H Q E →
  codeAny (model P w) A (.call (.ref f) args) (CR CX outer P w H s Q E) s
theorem FnOk.mono {P : Program} {w : World} {K : PySem.W.Frag} {mg : Str → Option Value} {base : Heap} {CX : CXT} {j k : Nat} {f : Addr} {fd : FuncData} {ps : List Str} {sp : Sp} (F : FnOk P w K mg base CX j f fd ps sp) (h : j ≤ k) :
  FnOk P w K mg base CX k f fd ps sp := ⟨F.len, fun A outer s H args us vs Q E hr => F.run A outer s H args us vs Q E (hr.mono h)⟩
theorem FnOk.imp {P : Program} {w : World} {K : PySem.W.Frag} {mg : Str → Option Value} {base : Heap} {CX : CXT} {k : Nat} {f : Addr} {fd : FuncData} {ps : List Str} {sp sp' : Sp} (F : FnOk P w K mg base CX k f fd ps sp)
  (h : ∀ vs H Q E, sp' vs H Q E → sp vs H Q E) : FnOk P w K mg base CX k f fd ps sp' :=
 ⟨fun vs H Q E q => F.len vs H Q E (h _ _ _ _ q), fun A outer s H args us vs Q E hr he hb hv hs => F.run A outer s H args us vs Q E hr he hb hv (h _ _ _ _ hs)⟩
theorem Env0.in1 {P : Program} {w : World} {K : PySem.W.Frag} {mg : Str → Option Value} {base : Heap} {A : Around} {outer : List Env} {s : Shared} {H : Hp} (e : Env0 P w K mg base A outer s H) :
  Env0 P w K mg base A.in1 outer s H := ⟨e.frames, e.mod, e.bs, e.bsz, e.funs, e.frf, e.hok, e.bare⟩
section
variable {X : Cx} {pins : List (Addr × Obj)} {σ : St} {H : Hp} {s s' : Shared}
theorem Inv.env0 (I : Inv X pins σ H s) : Env0 X.prog X.w X.K X.mg X.base X.A X.stack s H :=
 ⟨I.ok.frames, I.ok.mod, I.bs, Nat.le_trans I.ok.bsz I.sz, I.stack, I.stkFree, I.hok, I.bare⟩
theorem Inv.after {Q : VK} {u : Value} (I : Inv X pins σ H s) (h : CE X.stack X.prog X.w H s Q u s') : EP X pins σ Q u s' := by
 obtain ⟨v, H', os, bare, un, hok, r, q⟩ := h
 obtain ⟨hh, g, d, t, os'⟩ := s'
 obtain rfl : os' = s.os := os
 exact ⟨v, H', I.call (h' := hh) (g' := g) (d' := d) (t' := t) (ch := []) un hok bare (fun b z => absurd z (by simp)), r, q⟩
end
noncomputable def tCall (sp : Sp) (dvs : List V) (E : XK) (t : TA) : TE := fun σ H Q => t σ H fun vs H1 => sp (vs ++ dvs) H1 Q E
noncomputable def Binds (K : PySem.W.Frag) (fd : FuncData) (ps : List Str) (ds : List Value) : Prop :=
 ∀ (s : Shared) (us : List Value), K.In s.heap → (us ++ ds).length = ps.length → BindsTo s fd ⟨us, []⟩ (ps.zip (us ++ ds))
theorem Binds.all {K : PySem.W.Frag} {fd : FuncData} {ps : List Str} (h : ∀ us : List Value, us.length = ps.length → bindArgs fd ⟨us, []⟩ = pure (ps.zip us)) : Binds K fd ps [] := fun s us _ hl => by
 rw [List.append_nil] at hl ⊢
 exact .of_eq (h us hl)
noncomputable def Passes (CX : CXT) (X : Cx) (E : XK) : Prop := ∀ (pins : List (Addr × Obj)) (σ : St) (H : Hp) (s : Shared) (e : Value) (s' : Shared), Inv X pins σ H s → CX X.stack H s E e s' → X.xe e s'
section
variable {X : Cx} {CX : CXT} {k : Nat} {f C : Addr} {fd : FuncData} {ps : List Str} {sp : Sp} {dvs : List V} {ds : List Value} {E : XK} {x m : Str} {p pos apos : Pos} {e o : Expr} {es : List Expr} {ta : TE} {t : TA}
theorem run_fn {pins : List (Addr × Obj)} {σ : St} {H : Hp} {s : Shared} {Q : VK} {us : List Value} {vs : List V} (F : FnOk X.prog X.w X.K X.mg X.base CX k f fd ps sp) (hr : Room k X.A) (hb : Binds X.K fd ps ds) (hd : Vals dvs ds) (hx : Passes CX X E)
  (I : Inv X pins σ H s) (r : Vals vs us) (h : sp (vs ++ dvs) H Q E) : wpAny (model X.prog X.w) X.A (call (.ref f) us) (EP X pins σ Q) X.xe s := by
 have r2 : Vals (vs ++ dvs) (us ++ ds) := r.append hd
 have hl : (us ++ ds).length = ps.length := by rw [← r2.length]; exact F.len _ _ _ _ h
 refine wpAny_call (codeAny_mono (F.run X.A X.stack s H ⟨us, []⟩ (us ++ ds) (vs ++ dvs) Q E hr I.env0 (hb s us I.kIn hl) r2 h) fun r s' hq => ?_)
 cases r with
 | error e => exact hx pins σ H s e s' I hq
 | ok fl =>
  cases fl with
  | ret u => exact I.after hq
  | next => exact False.elim hq
  | brk => exact False.elim hq
  | cont => exact False.elim hq
theorem pe_call (F : FnOk X.prog X.w X.K X.mg X.base CX k f fd ps sp) (hr : Room k X.A) (hg : Gl X x) (hm : X.mg x = some (.ref f)) (hk : PySem.W.keepIn X.K (.ref f) = true) (hb : Binds X.K fd ps ds) (hd : Vals dvs ds) (hx : Passes CX X E)
  (ha : PA X (e :: es) t) (hdb : (x == ("__debug__" : Str)) = false := by decide) (he : starEach (e :: es) X.env = (false, eval e X.env) :: starEach es X.env := by rfl) (hpl : (backTo pos (starEach es X.env)).any (·.1) = false := by rfl) :
  PE X (.Call (.Name x p) (e :: es) [] pos) (tCall sp dvs E t) := by
 intro pins s σ H Q I h
 refine wpAny_Call_Name_kw (ld_glob I hg hm ?_ hdb)
 refine PySem.W.callWith_K (h₀ := X.base) I.ok.mod.kin hk (thn (ha pos pins s σ H _ I h) fun us s1 ⟨vs, H1, I1, r, q⟩ => ⟨I1.kIn, ?_⟩) he hpl
 exact run_fn F hr hb hd hx I1 r q
theorem pe_call0 (F : FnOk X.prog X.w X.K X.mg X.base CX k f fd ps sp) (hr : Room k X.A) (hg : Gl X x) (hm : X.mg x = some (.ref f)) (hk : PySem.W.keepIn X.K (.ref f) = true) (hb : Binds X.K fd ps ds) (hd : Vals dvs ds) (hx : Passes CX X E)
  (hdb : (x == ("__debug__" : Str)) = false := by decide) : PE X (.Call (.Name x p) [] [] pos) (tCall sp dvs E tNil) := by
 intro pins s σ H Q I h
 refine wpAny_Call_Name_kw (ld_glob I hg hm ?_ hdb)
 exact PySem.W.callWith_K0 I.kIn hk (run_fn (us := []) F hr hb hd hx I .nil h)
structure Mk (K : PySem.W.Frag) (C f : Addr) : Prop where
 makes : PySem.W.makesIn K C = true
 init : PySem.W.findIn K (.ref C) "__init__" = some (some (.ref f))
 fn : PySem.W.isFn K (.ref f) = true
 kp : PySem.W.keepIn K (.ref C) = true
end
section
variable {X : Cx} {CX : CXT} {k : Nat} {f C : Addr} {fd : FuncData} {ps ks : List Str} {sp : Sp} {E : XK} {x m : Str} {p pos apos kpos : Pos} {e o : Expr} {es : List Expr} {kws : List Keyword} {te ta : TE} {t tk : TA} {nm : Option Str}
structure KBinds (K : PySem.W.Frag) (fd : FuncData) (ps ks : List Str) (g : List Value → List Value → List Value) (gV : List V → List V → List V) : Prop where
 to : ∀ (s : Shared) (us ws : List Value), K.In s.heap → (g us ws).length = ps.length → BindsTo s fd ⟨us, ks.zip ws⟩ (ps.zip (g us ws))
 rel : ∀ {vs : List V} {us : List Value} {zs : List V} {ws : List Value}, Vals vs us → Vals zs ws → Vals (gV vs zs) (g us ws)
variable {g : List Value → List Value → List Value} {gV : List V → List V → List V}
end
structure FnScope (N P : List Str) (sc : Scope) : Prop where
 kind : sc.kind = .function
 co : sc.isCoroutine = false
 gen : sc.isGenerator = false
 nd : N.Nodup
 pre : N.take P.length = P
 par : ∀ x ∈ P, sc.names.lookup x = some .local ∨ sc.names.lookup x = some .cell
 nofree : ∀ y ∈ sc.names, y.2 ≠ .free
theorem bindL_out {kindOf : Str → Option NameKind} {x : Str} : ∀ {binds : List (Str × Value)} {m : Str → Option Value}, (∀ v, (x, v) ∉ binds) → bindL kindOf binds m x = m x
 | [], _, _ => rfl
 | (n, v) :: r, m, h => by
  unfold bindL
  rw [bindL_out fun w hw => h w (List.mem_cons_of_mem _ hw)]
  split
  ·have : x ≠ n := by rintro rfl; exact h v List.mem_cons_self
   simp [this]
  ·rfl
theorem bindC_out {kindOf : Str → Option NameKind} {x : Str} : ∀ {binds : List (Str × Value)} {m : Str → Option Value}, (∀ v, (x, v) ∉ binds) → bindC kindOf binds m x = m x
 | [], _, _ => rfl
 | (n, v) :: r, m, h => by
  unfold bindC
  rw [bindC_out fun w hw => h w (List.mem_cons_of_mem _ hw)]
  split
  ·rfl
  ·have : x ≠ n := by rintro rfl; exact h v List.mem_cons_self
   simp [this]
theorem bindL_get {kindOf : Str → Option NameKind} {x : Str} {v : Value} : ∀ {P : List Str} {vs : List Value} {i : Nat} {m : Str → Option Value}, P.Nodup → P[i]? = some x → vs[i]? = some v → kindOf x = some .local →
  bindL kindOf (P.zip vs) m x = some v
 | [], _, _, _, _, h, _, _ => by simp at h
 | _ :: _, [], _, _, _, _, h, _ => by simp at h
 | p :: P, w :: vs, 0, m, nd, h1, h2, hk => by
  simp at h1 h2; subst h1; subst h2
  show bindL kindOf ((p, w) :: P.zip vs) m p = _
  unfold bindL
  rw [bindL_out fun v hv => (List.nodup_cons.mp nd).1 (List.of_mem_zip hv).1, if_pos hk]
  simp
 | p :: P, w :: vs, i + 1, m, nd, h1, h2, hk => by
  show bindL kindOf ((p, w) :: P.zip vs) m x = _
  unfold bindL
  exact bindL_get (i := i) (List.nodup_cons.mp nd).2 (by simpa using h1) (by simpa using h2) hk
theorem bindC_get {kindOf : Str → Option NameKind} {x : Str} {v : Value} : ∀ {P : List Str} {vs : List Value} {i : Nat} {m : Str → Option Value}, P.Nodup → P[i]? = some x → vs[i]? = some v → kindOf x ≠ some .local →
  bindC kindOf (P.zip vs) m x = some v
 | [], _, _, _, _, h, _, _ => by simp at h
 | _ :: _, [], _, _, _, _, h, _ => by simp at h
 | p :: P, w :: vs, 0, m, nd, h1, h2, hk => by
  simp at h1 h2; subst h1; subst h2
  show bindC kindOf ((p, w) :: P.zip vs) m p = _
  unfold bindC
  rw [bindC_out fun v hv => (List.nodup_cons.mp nd).1 (List.of_mem_zip hv).1, if_neg hk]
  simp
 | p :: P, w :: vs, i + 1, m, nd, h1, h2, hk => by
  show bindC kindOf ((p, w) :: P.zip vs) m x = _
  unfold bindC
  exact bindC_get (i := i) (List.nodup_cons.mp nd).2 (by simpa using h1) (by simpa using h2) hk
noncomputable def start (N : List Str) (vs : List V) : St := vs.map some ++ List.replicate (N.length - vs.length) none
noncomputable def cxOf (CX : CXT) (P : Program) (w : World) (K : PySem.W.Frag) (mg : Str → Option Value) (base : Heap) (N : List Str) (qual : Str) (scope : Scope) (f : Addr) (cd : Value) (A : Around) (outer : List Env) (s : Shared) (H : Hp) (E : XK) : Cx where
 prog := P
 w := w
 K := K
 mg := mg
 base := base
 A := A.deeper (envOfC qual scope s.heap.objs.size f cd)
 N := N
 s₀ := s
 H₀ := H
 env := envOfC qual scope s.heap.objs.size f cd
 outer := outer
 stack := envOfC qual scope s.heap.objs.size f cd :: outer
 ex := []
 calm := true
 fn := fun x => decide (x ∉ lamCaps)
 pn := []
 xe := fun e s' => wpAny (model P w) (A.deeper (envOfC qual scope s.heap.objs.size f cd)) (leaving (envOfC qual scope s.heap.objs.size f cd) e) (fun _ s'' => CX outer H s E e s'') (fun e' s'' => CX outer H s E e' s'') s'
theorem cell_has {sc : Scope} {n : Nat} {x : Str} (h : sc.names.lookup x = some .cell) : ∃ c, (cellsFrom n sc.names []).lookup x = some c := by
 have q := PySem.W.cellsFrom_some sc.names n [] (.inl h)
 exact Option.isSome_iff_exists.mp q
theorem inv_start {CX : CXT} {P : Program} {w : World} {K : PySem.W.Frag} {mg : Str → Option Value} {base : Heap} {N ps : List Str} {qual : Str} {scope : Scope} {f : Addr} {cd : Value} {A : Around} {outer : List Env} {s s1 : Shared} {H : Hp} {E : XK} {us : List Value} {vs : List V}
  (S : FnScope N ps scope) (hd : A.handled = none) (e0 : Env0 P w K mg base A outer s H) (hl : vs.length = ps.length) (r : Vals vs us)
  (x : InCallC s s.heap.objs.size (bindL (envOfC qual scope s.heap.objs.size f cd).kindOf (ps.zip us) fun _ => none) (cellsFrom (s.heap.objs.size + 1) scope.names []) (bindC (envOfC qual scope s.heap.objs.size f cd).kindOf (ps.zip us) fun _ => none) s1) :
  Inv (cxOf CX P w K mg base N qual scope f cd A outer s H E) [] (start N vs) H s1 := by
 have hpl : ps.length ≤ N.length := by have := congrArg List.length S.pre; rw [List.length_take] at this; omega
 obtain ⟨h1, tk, rfl, hk⟩ := x.done
 have noA : ∀ b : Addr, b ∉ (cxOf CX P w K mg base N qual scope f cd A outer s H E).ex := fun b z => absurd (show b ∈ ([] : List Addr) from z) (by simp)
 refine ⟨⟨e0.mod, S.kind, rfl, rfl, Nat.le_refl _, fun y z c h1 h2 => ?_, fun y hy => ?_, fun y c _ h => ?_, fun _ => hd, Around.frames_deeper e0.frames, .inr ⟨rfl, rfl⟩, fun b z => absurd z (noA b), e0.bs, e0.bsz, fun b _ _ => noA b, fun b z => absurd z (noA b), e0.funs, e0.frf⟩,
  rfl, e0.bare, Un.kept hk, ⟨_, x.toInCall.ns, fun i y v h1 h2 h3 => ?_⟩, fun y c h => ⟨_, x.cell y c h⟩, e0.hok.fresh (Nat.le_refl _), fun y c h => ?_, fun p hp => absurd (show p ∈ ([] : List (Addr × Obj)) from hp) (by simp), e0.hok.kept hk, ?_⟩
 ·exact name_of_addr x.apart (PySem.mem_of_lookup h1) (PySem.mem_of_lookup h2)
 ·have hy : scope.names.lookup y = some .cell ∨ scope.names.lookup y = some .free := hy
  rcases hy with hy | hy
  ·exact cell_has hy
  ·exact absurd rfl (S.nofree _ (PySem.mem_of_lookup hy))
 ·exact Nat.le_of_lt (x.above y c (PySem.mem_of_lookup h))
 ·have hi : i < vs.length := by
   unfold start at h2
   by_cases hi : i < vs.length
   ·exact hi
   ·rw [List.getElem?_append_right (by simpa using hi)] at h2
    rw [List.getElem?_replicate] at h2
    split at h2 <;> cases h2
  have ha : vs[i]? = some v := by
   unfold start at h2
   rw [List.getElem?_append_left (by simpa using hi), List.getElem?_map] at h2
   cases e : vs[i]? with
   | none => rw [e] at h2; cases h2
   | some a => rw [e] at h2; cases h2; rfl
  obtain ⟨u, hu, rv⟩ := r.get ha
  have hp : ps[i]? = some y := by
   rw [← S.pre, List.getElem?_take_of_lt (by omega)]; exact h1
  have ndP : ps.Nodup := by rw [← S.pre]; exact S.nd.sublist (List.take_sublist _ _)
  refine ⟨u, rv, ?_⟩
  rcases S.par y (List.mem_of_getElem? hp) with k | k
  ·exact .inl ⟨k, bindL_get ndP hp hu k⟩
  ·obtain ⟨c, e⟩ := cell_has (n := s.heap.objs.size + 1) k
   refine .inr ⟨.inl k, c, e, ?_⟩
   have q := x.cell y c e
   rw [bindC_get ndP hp hu (by show scope.names.lookup y ≠ _; rw [k]; decide)] at q
   exact q
 ·exact .inl (e0.hok.fresh (Nat.le_of_lt (x.above y c (PySem.mem_of_lookup h))))
 ·unfold start
  show _ = N.length
  rw [List.length_append, List.length_map, List.length_replicate]
  omega
theorem fn_of {CX : CXT} {P : Program} {w : World} {K : PySem.W.Frag} {mg : Str → Option Value} {base : Heap} {k : Nat} {f : Addr} {name qual : Str} {params : Arguments} {body : List Stmt} {scope : Scope} {dV kV doc pm cdv ct oc : Value} {an od : Option Addr}
  {osl : Array (Option Value)} {N ps : List Str} {sp : Sp} (lk : K.lookup f = some ⟨oc, od, .func (PySem.W.fnOf name qual params body scope dV kV doc pm an cdv ct), osl⟩) (hcd : PySem.W.codeIn K cdv qual = true) (S : FnScope N ps scope)
  (len : ∀ vs H Q E, sp vs H Q E → vs.length = ps.length)
  (hbody : ∀ (A : Around) (outer : List Env) (s : Shared) (H : Hp) (vs : List V) (Q : VK) (E : XK), Room k (A.deeper (envOfC qual scope s.heap.objs.size f cdv)) → sp vs H Q E →
   ∃ t, PSs (cxOf CX P w K mg base N qual scope f cdv A outer s H E) body t ∧ t { nx := fun _ H' => Q .non H', rt := Q } (start N vs) H) :
  FnOk P w K mg base CX (k + 1) f (PySem.W.fnOf name qual params body scope dV kV doc pm an cdv ct) ps sp := by
 refine ⟨len, fun A outer s H args us vs Q E hr e0 hb r hsp => ?_⟩
 have hl := len _ _ _ _ hsp
 have KX : K.In s.heap := e0.mod.kin.keeps fun b o e => (e0.bs b o e).1
 have lim : s.heap.NoLimit := e0.mod.nolimit.keeps fun b o e => (e0.bs b o e).1
 have hkind : ∀ y ∈ ps.zip us, scope.names.lookup y.1 = some .local ∨ (scope.names.lookup y.1 = some .cell ∧ ((cellsFrom (s.heap.objs.size + 1) scope.names []).lookup y.1).isSome = true) := fun ⟨n, v⟩ hy => by
  rcases S.par n (List.of_mem_zip hy).1 with q | q
  ·exact .inl q
  ·exact .inr ⟨q, PySem.W.cellsFrom_some _ _ _ (.inl q)⟩
 refine codeAny_call_function hr.depth (KX _ _ lk) rfl S.co S.gen rfl (PySem.W.codeRec_of KX hcd) (hb _ _ _ _ ?_)
 refine wpAny_newFunctionEnv_cells S.kind hkind fun env he s1 x => ?_
 subst he
 refine ⟨lim.keeps x.toInCall.keep, codeAny_func ?_⟩
 obtain ⟨t, ht, hq⟩ := hbody A outer s H vs Q E (hr.deeper _) hsp
 have I : Inv (cxOf CX P w K mg base N qual scope f cdv A outer s H E) [] (start N vs) H s1 := inv_start S hr.hd e0 hl r x
 refine wpAny_mono (ht [] s1 (start N vs) H _ I hq) (fun fl s' hs => ?_) fun e s' hs => hs
 have fin : ∀ {σ' : St} {H' : Hp} {v : V} {u : Value}, Inv (cxOf CX P w K mg base N qual scope f cdv A outer s H E) [] σ' H' s' → RelV v u → Q v H' → CE outer P w H s Q u s' :=
  fun {σ' H' v u} J rv q => ⟨v, H', J.os, J.bare, J.base, J.hok, rv, q⟩
 cases fl with
 | ret u =>
  obtain ⟨v, σ', H', J, rv, q⟩ := hs
  exact fin J rv q
 | next =>
  obtain ⟨σ', H', J, q⟩ := hs
  exact fin (v := V.non) (u := Value.none) J rfl q
 | brk =>
  obtain ⟨_, _, _, q⟩ := hs
  exact False.elim q
 | cont =>
  obtain ⟨_, _, _, q⟩ := hs
  exact False.elim q
end L2
namespace L2
open PySem PySem.Spec PyProof.Rows
section
variable {X : Cx} {x : Str} {p pos : Pos} {e : Expr} {es : List Expr} {t : TA} {id T : String} {r : List V → Hp → VK → Prop}
noncomputable def tCB (r : List V → Hp → VK → Prop) (t : TA) : TE := fun σ H Q => t σ H fun vs H1 => r vs H1 Q
theorem pe_callB (hc : CallR X (.builtin id) r) (hg : Gl X x) (hm : X.mg x = none) (hv : bootBuiltins x = some (.builtin id)) (ha : PA X (e :: es) t) (hn : x ≠ "__name__" := by decide) (hdb : (x == ("__debug__" : Str)) = false := by decide)
  (he : starEach (e :: es) X.env = (false, eval e X.env) :: starEach es X.env := by rfl) (hpl : (backTo pos (starEach es X.env)).any (·.1) = false := by rfl) : PE X (.Call (.Name x p) (e :: es) [] pos) (tCB r t) := by
 intro pins s σ H Q I h
 refine wpAny_Call_Name_kw (ld_blt I hg hm hv ?_ hn hdb)
 exact PyProof.Rows.callWith_builtin1 (thn (ha pos pins s σ H _ I h) fun us s1 ⟨vs, H1, I1, r1, q1⟩ => hc pins s1 σ H1 vs us Q I1 r1 q1) he hpl
theorem pe_callTy (hc : CallR X (.type T) r) (hg : Gl X x) (hm : X.mg x = none) (hv : bootBuiltins x = some (.type T)) (ha : PA X (e :: es) t) (hn : x ≠ "__name__" := by decide) (hdb : (x == ("__debug__" : Str)) = false := by decide)
  (he : starEach (e :: es) X.env = (false, eval e X.env) :: starEach es X.env := by rfl) (hpl : (backTo pos (starEach es X.env)).any (·.1) = false := by rfl) : PE X (.Call (.Name x p) (e :: es) [] pos) (tCB r t) := by
 intro pins s σ H Q I h
 refine wpAny_Call_Name_kw (ld_blt I hg hm hv ?_ hn hdb)
 exact PyProof.Rows.callWith_type1 (thn (ha pos pins s σ H _ I h) fun us s1 ⟨vs, H1, I1, r1, q1⟩ => hc pins s1 σ H1 vs us Q I1 r1 q1) he hpl
end
end L2
namespace HT
open PySem PyProof.Rows
section
open PySem.SeqAt
open PySem.AutoSeq1 (wpAny_loadPart')
open PySem.MeetsSeq PySem.MeetsSeq2 PySem.MeetsSeq3
end
section
variable {prog : Program} {w : World} {A : Around} {E : Value → Shared → Prop} {s : Shared}
theorem cat_tup {t b : Addr} {vs ws : List Value} {Q : Value → Shared → Prop} (ht : IsTup s.heap t vs.toArray) (hb : IsTup s.heap b ws.toArray) (hv : vs ≠ [])
  (h1 : ws = [] → Q (.ref t) s) (h2 : ws ≠ [] → Q (.ref s.heap.objs.size) { s with heap := s.heap.push { cls := .type "tuple", data := .seq (vs ++ ws).toArray } })
  (hsz : vs.length + ws.length ≤ sizeLine) : wpAny (model prog w) A (binaryOp .Add (.ref t) (.ref b)) Q E s := by
 obtain ⟨⟨cls, dd, data, sl⟩, ho, hc, n, hd⟩ := id ht
 obtain ⟨⟨cls2, dd2, data2, sl2⟩, ho2, hc2, n2, hd2⟩ := id hb
 simp only at hc hd hc2 hd2
 subst hc hd hc2 hd2
 have e : vs.toArray ++ ws.toArray = (vs ++ ws).toArray := by simp
 by_cases hw : ws = []
 ·exact concat_meets ⟨_, ho, rfl⟩ ⟨_, ho2, rfl⟩ noFill_tuple_add seq_tuple_add PySem.F.slot_tuple_add PySem.F.entry_tuple_add (PySem.F.args_tuple_add_2 _ _)
   (tuple_addW1 t b vs.toArray ws.toArray n n2 dd dd2 sl sl2 (by simpa using hv) (by simp [hw])) ⟨ho, ho2, h1 hw⟩
 ·refine concat_meets ⟨_, ho, rfl⟩ ⟨_, ho2, rfl⟩ noFill_tuple_add seq_tuple_add PySem.F.slot_tuple_add PySem.F.entry_tuple_add (PySem.F.args_tuple_add_2 _ _)
   (tuple_addW2 t b vs.toArray ws.toArray n n2 dd dd2 sl sl2 (by simpa using hv) (by simpa using hw) (by rw [List.size_toArray, List.size_toArray]; exact hsz)) ⟨ho, ho2, ?_⟩
  rw [e]
  exact h2 hw
noncomputable def sIx (n d : Nat) : Option Int → Nat
 | none => d
 | some v => if v < 0 then (v + (n : Int)).toNat else min v.toNat n
theorem sIx_none (n d : Nat) : sIx n d none = d := rfl
theorem sIx_nat (n d k : Nat) : sIx n d (some (k : Int)) = min k n := by
 show (if (k : Int) < 0 then ((k : Int) + (n : Int)).toNat else min (k : Int).toNat n) = min k n
 rw [if_neg (by omega), Int.toNat_natCast]
theorem sIx_le (n d : Nat) (hd : d ≤ n) (o : Option Int) : sIx n d o ≤ n := by
 cases o with
 | none => exact hd
 | some v =>
  show (if v < 0 then (v + (n : Int)).toNat else min v.toNat n) ≤ n
  by_cases hv : v < 0
  ·rw [if_pos hv]; omega
  ·rw [if_neg hv]; exact Nat.min_le_right _ _
theorem clip_eq (v : Int) (n d : Nat) : (if v < 0 then max (v + (n : Int)) 0 else min v (n : Int)) = ((sIx n d (some v) : Nat) : Int) := by
 show (if v < 0 then max (v + (n : Int)) 0 else min v (n : Int)) = (((if v < 0 then (v + (n : Int)).toNat else min v.toNat n) : Nat) : Int)
 by_cases hv : v < 0
 ·simp only [if_pos hv]; omega
 ·simp only [if_neg hv]; omega
theorem adjust_gen (lo hi : Option Int) (n : Nat) : Builtin.Slice.sliceAdjust lo hi 1 (n : Int) = (((sIx n 0 lo : Nat) : Int), ((sIx n n hi : Nat) : Int)) := by
 have h1 : ¬ ((1 : Int) < 0) := by omega
 unfold Builtin.Slice.sliceAdjust
 simp only [h1, if_false]
 refine Prod.ext ?_ ?_
 ·cases lo with
  | none => rfl
  | some v => exact clip_eq v n 0
 ·cases hi with
  | none => rfl
  | some v => exact clip_eq v n n
theorem places_gen (i j : Nat) : Builtin.Slice.slicePlaces (i : Int) (j : Int) 1 = j - i := by
 unfold Builtin.Slice.slicePlaces
 have h1 : (1 : Int) > 0 := by omega
 simp only [h1, if_true, Int.ediv_one]
 split <;> omega
theorem slicePart_ {v : Value} {o : Option Int} {Q : Option Int → Shared → Prop} (p : IsPart v o) (h : Q o s) : wpAny (model prog w) A (Builtin.Slice.slicePartIndex v) Q E s := by
 cases p with
 | none => exact slicePart_none h
 | int i t => exact slicePart_int h
theorem sliceApplied_gen {sl : Addr} {vl vu : Value} {lo hi : Option Int} {n : Nat} {Q : Int × Int × Nat → Shared → Prop} (hs : s.heap.IsSliceOf sl vl vu .none) (pl : IsPart vl lo) (pu : IsPart vu hi)
  (h : Q (((sIx n 0 lo : Nat) : Int), 1, sIx n n hi - sIx n 0 lo) s) : wpAny (model prog w) A (Builtin.Slice.sliceApplied (.ref sl) (pure (n : Int))) Q E s := by
 obtain ⟨os, hos, hcs, hds⟩ := id hs
 unfold Builtin.Slice.sliceApplied Builtin.Slice.sliceFields
 refine wpAny_bind (wpAny_bind (wpAny_field hos hds (x := vl) rfl (wpAny_bind (wpAny_field hos hds (x := vu) rfl (wpAny_bind (wpAny_field hos hds (x := .none) rfl (wpAny_pure ?_)))))))
 refine wpAny_bind (slicePart_none ?_)
 show wpAny _ _ (if ((1 : Int) == 0) = true then _ else _) _ _ s
 rw [if_neg (by decide)]
 refine wpAny_bind (slicePart_ pl (wpAny_bind (slicePart_ pu (wpAny_bind (wpAny_pure ?_)))))
 show wpAny _ _ (match Builtin.Slice.sliceAdjust lo hi 1 (n : Int) with | (lo, hi) => pure (lo, (1 : Int), Builtin.Slice.slicePlaces lo hi 1)) _ _ s
 rw [adjust_gen lo hi n]
 show wpAny _ _ (pure (((sIx n 0 lo : Nat) : Int), (1 : Int), Builtin.Slice.slicePlaces ((sIx n 0 lo : Nat) : Int) ((sIx n n hi : Nat) : Int) 1)) _ _ s
 rw [places_gen]
 exact wpAny_pure h
theorem pick_gen (xs : Array Value) (i k : Nat) : ((List.range k).filterMap fun (m : Nat) => xs[((i : Int) + (m : Int) * 1).toNat]?).toArray = ((xs.toList.drop i).take k).toArray := by
 have e : (fun (m : Nat) => xs[((i : Int) + (m : Int) * 1).toNat]?) = fun m => xs[i + m]? := by
  funext m
  have : ((i : Int) + (m : Int) * 1).toNat = i + m := by omega
  rw [this]
 rw [e]
 have := pick_run xs i k
 rw [List.filterMap_map] at this
 have e2 : ((fun x => xs[x]?) ∘ fun x => i + x) = fun m => xs[i + m]? := rfl
 rw [e2] at this
 rw [this]
theorem getItem_tuple_cut {t sl : Addr} {items : Array Value} {vl vu : Value} {lo hi : Option Int} {Q : Value → Shared → Prop} (ht : IsTup s.heap t items) (hs : s.heap.IsSliceOf sl vl vu .none) (pl : IsPart vl lo) (pu : IsPart vu hi)
  (hw : ¬ (sIx items.size 0 lo = 0 ∧ sIx items.size items.size hi = items.size))
  (h : Q (.ref s.heap.objs.size) { s with heap := s.heap.push { cls := .type "tuple", data := .seq ((items.toList.drop (sIx items.size 0 lo)).take (sIx items.size items.size hi - sIx items.size 0 lo)).toArray } })
  (hsz : items.size ≤ sizeLine) : wpAny (model prog w) A (getItem (.ref t) (.ref sl)) Q E s := by
 have htake : sizeOk (.seq ((items.toList.drop (sIx items.size 0 lo)).take (sIx items.size items.size hi - sIx items.size 0 lo)).toArray) := by
  show ((items.toList.drop (sIx items.size 0 lo)).take (sIx items.size items.size hi - sIx items.size 0 lo)).toArray.size ≤ sizeLine
  rw [List.size_toArray, List.length_take, List.length_drop, Array.length_toList]
  omega
 have hj : sIx items.size items.size hi ≤ items.size := sIx_le _ _ (Nat.le_refl _) hi
 obtain ⟨os, hos, hcs, hds⟩ := id hs
 have hTs : s.TypeIs (.ref sl) "slice" := ⟨os, hos, hcs⟩
 unfold getItem
 try with_reducible refine wpAny_holding ?_
 first | refine wpAny_bind (wpAny_pure ?_) | skip
 refine wpAny_bind (wpAny_sequenceKey ht.typeIs (by decide) ?_)
 refine wpAny_bind (wpAny_callSpecial?_slot (name := Str.ofString "__getitem__") ht.typeIs PyProof.Rows.slot_tuple_getitem
  (wpAny_call_entry PyProof.Rows.slot_tuple_getitem ht.typeIs entry_tuple_getitem ?_ (args_tuple_getitem _ _)))
 show wpAny _ _ (Builtin.Tuple.tupleItemsOf (.ref t) >>= _) _ _ s
 refine wpAny_bind (tupleItemsOf_ ht ?_)
 refine wpAny_bind (wpAny_typeOf hTs ?_)
 rw [if_pos (by decide)]
 refine wpAny_bind (sliceApplied_gen hs pl pu ?_)
 have hno : ¬ ((((sIx items.size 0 lo : Nat) : Int) == 0 && (1 : Int) == 1 && (sIx items.size items.size hi - sIx items.size 0 lo) == items.size) = true) := by
  intro q
  rw [Bool.and_eq_true, Bool.and_eq_true] at q
  have q1 : ((sIx items.size 0 lo : Nat) : Int) = 0 := eq_of_beq q.1.1
  have q2 : sIx items.size items.size hi - sIx items.size 0 lo = items.size := eq_of_beq q.2
  exact hw ⟨by omega, by omega⟩
 show wpAny _ _ (if (((sIx items.size 0 lo : Nat) : Int) == 0 && (1 : Int) == 1 && (sIx items.size items.size hi - sIx items.size 0 lo) == items.size) = true then _ else _) _ _ s
 rw [if_neg hno, pick_gen]
 first
  | exact wpAny_bind (m := Builtin.Tuple.tupleExact _) (wpAny_newObj_type (wpAny_pure ⟨_, rfl, wpAny_pure h⟩) htake)
  | exact wpAny_bind (m := Builtin.Tuple.tupleExact _) (wpAny_newObj_type (wpAny_bind (wpAny_pure (wpAny_pure ⟨_, rfl, wpAny_pure h⟩))) htake)
  | exact wpAny_bind (wpAny_bind (m := Builtin.Tuple.tupleExact _) (wpAny_newObj_type (wpAny_pure (wpAny_pure ⟨_, rfl, wpAny_pure h⟩)) htake))
  | exact wpAny_bind (wpAny_bind (m := Builtin.Tuple.tupleExact _) (wpAny_newObj_type (wpAny_pure ⟨_, rfl, wpAny_pure h⟩) htake))
end
end HT
namespace L2
open PySem PySem.Spec PyProof.Rows
noncomputable abbrev TO := St → Hp → (Option Int → Hp → Prop) → Prop
noncomputable def PO (X : Cx) (e : Option Expr) (t : TO) : Prop :=
 ∀ (pins : List (Addr × Obj)) (s : Shared) (σ : St) (H : Hp) (Q : Option Int → Hp → Prop), Inv X pins σ H s → t σ H Q →
  wpAny (model X.prog X.w) X.A (evalPart e X.env) (fun u s' => ∃ o H', Inv X pins σ H' s' ∧ IsPart u o ∧ Q o H') X.xe s
noncomputable def tNoPart : TO := fun _ H Q => Q none H
noncomputable def tPart (t : TE) : TO := fun σ H Q => t σ H fun x H1 => ∃ i, x = .int i ∧ Q (some i) H1
section
variable {X : Cx} {e : Expr} {te : TE} {lo hi : Option Expr} {tl th : TO} {pos p2 : Pos}
theorem po_none : PO X none tNoPart := by
 intro pins s σ H Q I h
 rw [evalPart_none]
 exact wpAny_pure ⟨none, H, I, .none, h⟩
theorem po_some (h : PE X e te) : PO X (some e) (tPart te) := by
 intro pins s σ H Q I hw
 rw [evalPart_some]
 refine thn (h pins s σ H _ I hw) fun u s1 ⟨x, H1, I1, r1, q1⟩ => ?_
 obtain ⟨i, rfl, q⟩ := q1
 obtain ⟨t, rfl⟩ := r1
 exact ⟨some i, H1, I1, .int i t, q⟩
noncomputable def SlR (X : Cx) (r : V → Option Int → Option Int → Hp → VK → Prop) : Prop :=
 ∀ (pins : List (Addr × Obj)) (s : Shared) (σ : St) (H : Hp) (x : V) (v vl vu : Value) (lo hi : Option Int) (sl : Addr) (Q : VK), Inv X pins σ H s → RelV x v → s.heap.IsSliceOf sl vl vu .none → IsPart vl lo → IsPart vu hi → r x lo hi H Q →
  ∃ T id, typeLookup (.type T) "__getitem__" = pure (some (.builtin id)) ∧ s.TypeIs v T ∧ wpAny (model X.prog X.w) X.A (getItem v (.ref sl)) (EP X pins σ Q) X.xe s
theorem SlR.or {r r' : V → Option Int → Option Int → Hp → VK → Prop} (h : SlR X r) (h' : SlR X r') : SlR X (fun x lo hi H Q => r x lo hi H Q ∨ r' x lo hi H Q) := by
 intro pins s σ H x v vl vu lo hi sl Q I rx hs pl pu q
 rcases q with q | q
 ·exact h pins s σ H x v vl vu lo hi sl Q I rx hs pl pu q
 ·exact h' pins s σ H x v vl vu lo hi sl Q I rx hs pl pu q
noncomputable def tSl (r : V → Option Int → Option Int → Hp → VK → Prop) (te : TE) (tl th : TO) : TE := fun σ H Q => te σ H fun x H1 => tl σ H1 fun l H2 => th σ H2 fun u H3 => r x l u H3 Q
theorem pe_slice {r : V → Option Int → Option Int → Hp → VK → Prop} (hr : SlR X r) (he : PE X e te) (hl : PO X lo tl) (hu : PO X hi th) : PE X (.Subscript e (.Slice lo hi none p2) pos) (tSl r te tl th) := by
 intro pins s σ H Q I h
 refine Subscript_ (thn (he pins s σ H _ I h) fun v s1 ⟨x, H1, I1, r1, q1⟩ => ?_)
 refine wpAny_Slice (thn (hl pins s1 σ H1 _ I1 q1) fun vl s2 ⟨l, H2, I2, pl, q2⟩ => thn (hu pins s2 σ H2 _ I2 q2) fun vu s3 ⟨u, H3, I3, pu, q3⟩ => ?_)
 rw [evalPart_none]
 refine wpAny_pure ?_
 have I4 : Inv X pins σ H3 { s3 with heap := s3.heap.push { cls := .type "slice", data := .fields #[vl, vu, .none] } } := I3.kept (t' := s3.toks) fun b ob q => Heap.get?_push_of_some _ q
 obtain ⟨T, id, hT, ht, hg⟩ := hr pins { s3 with heap := s3.heap.push { cls := .type "slice", data := .fields #[vl, vu, .none] } } σ H3 x v vl vu l u s3.heap.objs.size Q I4 r1 (Heap.IsSliceOf.new ..) pl pu q3
 show wpAny (model X.prog X.w) X.A (subscriptTail e (.Slice lo hi none p2) v (.ref s3.heap.objs.size)) (EP X pins σ Q) X.xe { s3 with heap := s3.heap.push { cls := .type "slice", data := .fields #[vl, vu, .none] } }
 exact tail_any (ops := [.ref s3.heap.objs.size, v]) ht hT hg (by with_unfolding_all rfl)
noncomputable def cutV (xs : List V) (lo hi : Option Int) : List V := (xs.drop (HT.sIx xs.length 0 lo)).take (HT.sIx xs.length xs.length hi - HT.sIx xs.length 0 lo)
theorem cutV_length (xs : List V) (lo hi : Option Int) : (cutV xs lo hi).length ≤ xs.length := by
 unfold cutV
 rw [List.length_take, List.length_drop]
 omega
noncomputable def rSlT (K : PySem.W.Frag) : V → Option Int → Option Int → Hp → VK → Prop := fun x lo hi H Q => ∃ a xs, x = .ref a ∧ SqT K H a xs ∧
 ¬ (HT.sIx xs.length 0 lo = 0 ∧ HT.sIx xs.length xs.length hi = xs.length) ∧ ∀ p, H p = none → Q (.ref p) (upd H p (.tup (cutV xs lo hi)))
theorem sl_tup : SlR X (rSlT X.K) := by
 intro pins s σ H x v vl vu lo hi sl Q I rx hs pl pu h
 obtain ⟨a, xs, rfl, hx, hw, q⟩ := h
 cases rx
 obtain ⟨its, r, ht, hz⟩ := I.tuple hx
 have hlen : its.toArray.size = xs.length := by rw [List.size_toArray]; exact r.length.symm
 refine ⟨"tuple", _, PyProof.Rows.slot_tuple_getitem.lookup, ht.typeIs, ?_⟩
 refine HT.getItem_tuple_cut ht hs pl pu (by rw [hlen]; exact hw) ?_ (by rw [hlen]; exact hz)
 rw [hlen]
 refine ⟨.ref s.heap.objs.size, _, I.laid (t' := s.toks) (o := .tup (cutV xs lo hi)) (fun b ob q => Heap.get?_push_of_some _ q) (Nat.le_refl _) ?_, rfl, q _ (I.hok.fresh (Nat.le_refl _))⟩
 exact ⟨Nat.le_trans (cutV_length xs lo hi) hz, _, (r.drop (HT.sIx xs.length 0 lo)).take (HT.sIx xs.length xs.length hi - HT.sIx xs.length 0 lo), IsTup.new _ _⟩
noncomputable def rCatT (K : PySem.W.Frag) : R2 := fun x y H Q => ∃ a b xs ys, x = .ref a ∧ y = .ref b ∧ SqT K H a xs ∧ SqT K H b ys ∧ xs ≠ [] ∧ xs.length + ys.length ≤ sizeLine ∧
 (ys = [] → Q (.ref a) H) ∧ (ys ≠ [] → ∀ p, H p = none → Q (.ref p) (upd H p (.tup (xs ++ ys))))
theorem Vals.nil_iff {xs : List V} {us : List Value} (r : Vals xs us) : us = [] ↔ xs = [] := by
 cases r with
 | nil => simp
 | cons _ _ => simp
theorem op_catT : OpR X (binaryOp .Add) (rCatT X.K) := by
 intro pins s σ H x y v u Q I rx ry h
 obtain ⟨a, b, xs, ys, rfl, rfl, ha, hb, hx, hz, q1, q2⟩ := h
 cases rx
 cases ry
 obtain ⟨its, r1, p1, _⟩ := I.tuple ha
 obtain ⟨its2, r2, p2, _⟩ := I.tuple hb
 refine HT.cat_tup p1 p2 (fun z => hx (r1.nil_iff.mp z)) (fun z => ⟨.ref a, H, I, rfl, q1 (r2.nil_iff.mp z)⟩) (fun z => ?_) (by rw [← r1.length, ← r2.length]; exact hz)
 refine ⟨.ref s.heap.objs.size, _, I.laid (t' := s.toks) (o := .tup (xs ++ ys)) (fun b ob q => Heap.get?_push_of_some _ q) (Nat.le_refl _) ?_, rfl, q2 (fun w => z (r2.nil_iff.mpr w)) _ (I.hok.fresh (Nat.le_refl _))⟩
 exact ⟨by rw [List.length_append]; exact hz, _, r1.append r2, IsTup.new _ _⟩
end
end L2
namespace L2
open PySem PySem.Spec PyProof.Rows
noncomputable def ixN (n : Nat) (i : Int) : Option Nat := if 0 ≤ i then (if i < n then some i.toNat else none) else if -(n : Int) ≤ i then some (i + n).toNat else none
noncomputable def atI {α : Type} (xs : List α) (i : Int) : Option α := (ixN xs.length i).bind fun j => xs[j]?
theorem ixN_seq {n : Nat} {i : Int} {j : Nat} (h : ixN n i = some j) : seqIndex? i n = some j ∧ j < n ∧ -(n : Int) ≤ i ∧ i < n := by
 unfold ixN at h
 by_cases h0 : 0 ≤ i
 ·rw [if_pos h0] at h
  by_cases h1 : i < n
  ·rw [if_pos h1] at h
   have e : i.toNat = j := Option.some.inj h
   exact ⟨by rw [seqIndex_of h0 h1, e], by omega, by omega, h1⟩
  ·rw [if_neg h1] at h; cases h
 ·rw [if_neg h0] at h
  by_cases h1 : -(n : Int) ≤ i
  ·rw [if_pos h1] at h
   have e : (i + n).toNat = j := Option.some.inj h
   exact ⟨by rw [seqIndex_neg (by omega) h1, e], by omega, h1, by omega⟩
  ·rw [if_neg h1] at h; cases h
theorem atI_get {α : Type} {xs : List α} {i : Int} {v : α} (h : atI xs i = some v) : ∃ j, seqIndex? i xs.length = some j ∧ xs[j]? = some v ∧ j < xs.length ∧ -(xs.length : Int) ≤ i ∧ i < xs.length := by
 unfold atI at h
 cases e : ixN xs.length i with
 | none => rw [e] at h; cases h
 | some j =>
  rw [e] at h
  obtain ⟨h1, h2, h3, h4⟩ := ixN_seq e
  exact ⟨j, h1, h, h2, h3, h4⟩
theorem atI_nat {α : Type} {xs : List α} {j : Nat} {v : α} (h : xs[j]? = some v) : atI xs (j : Int) = some v := by
 have hj : j < xs.length := (List.getElem?_eq_some_iff.mp h).1
 have e : ixN xs.length (j : Int) = some j := by
  unfold ixN
  rw [if_pos (by omega), if_pos (by omega)]; simp
 unfold atI; rw [e]; exact h
noncomputable def PlainIx (b : Expr) : Prop := ∀ o i, subscripted b false o i = operate [o, i] (getItem o i)
noncomputable def IxR (X : Cx) (r : R2) : Prop :=
 ∀ (value slice : Expr) (pins : List (Addr × Obj)) (s : Shared) (σ : St) (H : Hp) (x y : V) (v u : Value) (Q : VK), Inv X pins σ H s → RelV x v → RelV y u → r x y H Q →
  subscripted slice false v u = operate [v, u] (getItem v u) → wpAny (model X.prog X.w) X.A (subscriptTail value slice v u) (EP X pins σ Q) X.xe s
noncomputable def MtR (X : Cx) (id : String) (r : V → List V → Hp → VK → Prop) : Prop :=
 ∀ (pins : List (Addr × Obj)) (s : Shared) (σ : St) (H : Hp) (x : V) (xs : List V) (v : Value) (us : List Value) (Q : VK), Inv X pins σ H s → RelV x v → Vals xs us → r x xs H Q →
  wpAny (model X.prog X.w) X.A (call (.builtin id) (v :: us)) (EP X pins σ Q) X.xe s
section
variable {X : Cx} {a b : Expr} {ta tb : TE} {pos : Pos}
theorem IxR.or {r r' : R2} (h : IxR X r) (h' : IxR X r') : IxR X (fun x y H Q => r x y H Q ∨ r' x y H Q) := by
 intro value slice pins s σ H x y v u Q I rx ry q hs
 rcases q with q | q
 ·exact h value slice pins s σ H x y v u Q I rx ry q hs
 ·exact h' value slice pins s σ H x y v u Q I rx ry q hs
theorem MtR.or {id : String} {r r' : V → List V → Hp → VK → Prop} (h : MtR X id r) (h' : MtR X id r') : MtR X id (fun x xs H Q => r x xs H Q ∨ r' x xs H Q) := by
 intro pins s σ H x xs v us Q I rx rs q
 rcases q with q | q
 ·exact h pins s σ H x xs v us Q I rx rs q
 ·exact h' pins s σ H x xs v us Q I rx rs q
theorem pe_ix {r : R2} (hr : IxR X r) (ha : PE X a ta) (hb : PE X b tb) (hs : PlainIx b) : PE X (.Subscript a b pos) (tOp r ta tb) := by
 intro pins s σ H Q I h
 exact Subscript_ (binT ha hb I h fun v u s2 x y H2 I2 rx ry q => hr a b pins s2 σ H2 x y v u Q I2 rx ry q (hs _ _))
noncomputable def rIxL (K : PySem.W.Frag) : R2 := fun x y H Q => ∃ p xs i v, x = .ref p ∧ y = .int i ∧ SqL K H p xs ∧ atI xs i = some v ∧ Q v H
noncomputable def rIxT (K : PySem.W.Frag) : R2 := fun x y H Q => ∃ p xs i v, x = .ref p ∧ y = .int i ∧ SqT K H p xs ∧ atI xs i = some v ∧ Q v H
noncomputable def rIxS : R2 := fun x y H Q => ∃ z i c, x = .str z ∧ y = .int i ∧ z.length ≤ sizeLine ∧ atI z.cps.toList i = some c ∧ Q (.str ⟨#[c]⟩) H
theorem ix_list : IxR X (rIxL X.K) := by
 intro value slice pins s σ H x y v u Q I rx ry h hs
 obtain ⟨p, xs, i, z, rfl, rfl, hq, he, q⟩ := h
 cases rx
 obtain ⟨t, rfl⟩ := ry
 obtain ⟨its, r, pl, hz⟩ := I.list hq
 obtain ⟨j, h1, h2, h3, h4, h5⟩ := atI_get he
 obtain ⟨w, ew, rw'⟩ := r.get h2
 have hl := r.length
 have hn := line63
 have fin : EP X pins σ Q w s := ⟨z, H, I, rw', q⟩
 by_cases h0 : 0 ≤ i
 ·have hj : i.toNat = j := by
   rw [seqIndex_of h0 h5] at h1
   exact Option.some.inj h1
  exact item_listR pl.isList h0 (by omega) (by rw [hj]; simpa using ew) fin hs
 ·have hj : (i + (its.toArray.size : Int)).toNat = j := by
   rw [seqIndex_neg (by omega) h4] at h1
   rw [List.size_toArray, ← hl]
   exact Option.some.inj h1
  exact subscriptTail_builtinR (x := w) pl.isList.typeIs slot_list_getitem.lookup
   (wpAny_getItem_list_neg (Q := fun r s' => r = w ∧ EP X pins σ Q r s') pl.isList (by omega) (by rw [List.size_toArray] <;> omega) (by omega) (by rw [hj]; simpa using ew) ⟨rfl, fin⟩) hs
theorem ix_tup : IxR X (rIxT X.K) := by
 intro value slice pins s σ H x y v u Q I rx ry h hs
 obtain ⟨p, xs, i, z, rfl, rfl, hq, he, q⟩ := h
 cases rx
 obtain ⟨t, rfl⟩ := ry
 obtain ⟨its, r, pl, hz⟩ := I.tuple hq
 obtain ⟨j, h1, h2, h3, h4, h5⟩ := atI_get he
 obtain ⟨w, ew, rw'⟩ := r.get h2
 have hl := r.length
 have hn := line63
 have fin : EP X pins σ Q w s := ⟨z, H, I, rw', q⟩
 exact subscriptTail_builtinR (x := w) pl.typeIs slot_tuple_getitem.lookup
  (getItem_tuple (j := j) (Q := fun r s' => r = w ∧ EP X pins σ Q r s') pl (by omega) (by omega) (by rw [List.size_toArray, ← hl]; exact h1) (by simpa using ew) ⟨rfl, fin⟩) hs
theorem ix_str : IxR X rIxS := by
 intro value slice pins s σ H x y v u Q I rx ry h hs
 obtain ⟨z, i, c, rfl, rfl, hz, he, q⟩ := h
 obtain ⟨t, rfl⟩ := rx
 obtain ⟨t', rfl⟩ := ry
 obtain ⟨j, h1, h2, h3, h4, h5⟩ := atI_get he
 have hl : z.cps.toList.length = z.length := by simp [Str.length]
 rw [hl] at h1 h4 h5
 have hn := line63
 exact tail_any (typeIs_str s z t) slot_str_getitem.lookup (getItem_str (c := c) (by
  have e1 : decide (i < -(2 ^ 63 : Int)) = false := decide_eq_false (by omega)
  have e2 : decide (i ≥ 2 ^ 63) = false := decide_eq_false (by omega)
  rw [e1, e2, Bool.or_false]) (by rw [h1]; simpa using h2) ⟨.str ⟨#[c]⟩, H, I.tok _, ⟨_, rfl⟩, q⟩) hs
noncomputable def rIx (K : PySem.W.Frag) : R2 := fun x y H Q => rIxL K x y H Q ∨ rIxT K x y H Q ∨ rIxS x y H Q
theorem ix_seq : IxR X (rIx X.K) := ix_list.or (ix_tup.or ix_str)
theorem Inv.lst {pins : List (Addr × Obj)} {σ : St} {H : Hp} {s : Shared} {p : Addr} {xs : List V} (I : Inv X pins σ H s) (h : H p = some (.lst xs)) :
  ∃ (its : List Value) (n : Nat), Vals xs its ∧ s.heap.get? p = some { cls := .type "list", data := .seq its.toArray n } ∧ xs.length ≤ sizeLine := by
 obtain ⟨z, its, n, r, e⟩ := I.hok p _ h
 exact ⟨its, n, r, e, z⟩
theorem slice_bounds (lo hi : Option Int) (n : Nat) : (sliceBounds lo hi none n).1 = ((HT.sIx n 0 lo : Nat) : Int) ∧ (sliceBounds lo hi none n).2.1 = ((HT.sIx n n hi : Nat) : Int) ∧ (sliceBounds lo hi none n).2.2 = 1 := by
 refine ⟨?_, ?_, rfl⟩
 ·cases lo with
  | none => simp [sliceBounds, HT.sIx]
  | some i =>
   simp only [sliceBounds, HT.sIx, Option.getD_none, show (1 : Int) > 0 by decide, if_true]
   by_cases h : i < 0
   ·simp only [h, if_true] <;> omega
   ·simp only [h, if_false] <;> omega
 ·cases hi with
  | none => simp [sliceBounds, HT.sIx]
  | some i =>
   simp only [sliceBounds, HT.sIx, Option.getD_none, show (1 : Int) > 0 by decide, if_true]
   by_cases h : i < 0
   ·simp only [h, if_true] <;> omega
   ·simp only [h, if_false] <;> omega
theorem slicePick_cut (its : List Value) (lo hi : Option Int) : slicePick its.toArray lo hi none = ((its.drop (HT.sIx its.length 0 lo)).take (HT.sIx its.length its.length hi - HT.sIx its.length 0 lo)).toArray := by
 obtain ⟨h1, h2, h3⟩ := slice_bounds lo hi its.toArray.size
 unfold slicePick
 rw [h1, h2, h3]
 simp only [sliceRange_one, pick_run, List.size_toArray] <;> rfl
noncomputable def rSlL (K : PySem.W.Frag) : V → Option Int → Option Int → Hp → VK → Prop := fun x lo hi H Q => ∃ a xs, x = .ref a ∧ SqL K H a xs ∧ ∀ p, H p = none → Q (.ref p) (upd H p (.lst (cutV xs lo hi)))
theorem sl_list : SlR X (rSlL X.K) := by
 intro pins s σ H x v vl vu lo hi sl Q I rx hs pl pu h
 obtain ⟨a, xs, rfl, hx, q⟩ := h
 cases rx
 obtain ⟨its, r, ht, hz⟩ := I.list hx
 have hlen := r.length
 refine ⟨"list", _, slot_list_getitem.lookup, ht.isList.typeIs, ?_⟩
 refine wpAny_getItem_list_slice ht.isList hs pl pu .none (by simp) ?_ (by rw [List.size_toArray] <;> omega)
 rw [slicePick_cut, ← hlen]
 refine ⟨.ref s.heap.objs.size, _, I.laid (t' := s.toks) (o := .lst (cutV xs lo hi)) (fun b ob q => Heap.get?_push_of_some _ q) (Nat.le_refl _) ?_, rfl, q _ (I.hok.fresh (Nat.le_refl _))⟩
 exact ⟨Nat.le_trans (cutV_length xs lo hi) hz, _, 0, (r.drop (HT.sIx xs.length 0 lo)).take (HT.sIx xs.length xs.length hi - HT.sIx xs.length 0 lo), Heap.get?_push_size _ rfl⟩
theorem CallR.or {f : Value} {r r' : List V → Hp → VK → Prop} (h : CallR X f r) (h' : CallR X f r') : CallR X f (fun xs H Q => r xs H Q ∨ r' xs H Q) := by
 intro pins s σ H xs us Q I rs q
 rcases q with q | q
 ·exact h pins s σ H xs us Q I rs q
 ·exact h' pins s σ H xs us Q I rs q
theorem call_list_of : CallR X (.type "list") (fun xs H Q => ∃ p ys, xs = [.ref p] ∧ (SqL X.K H p ys ∨ SqT X.K H p ys) ∧ ∀ l, H l = none → Q (.ref l) (upd H l (.lst ys))) := by
 intro pins s σ H xs us Q I r h
 obtain ⟨p, ys, rfl, hq, q⟩ := h
 obtain ⟨u, rfl, rx⟩ := vals1 r
 cases rx
 have fin : ∀ (its : List Value), Vals ys its → ys.length ≤ sizeLine → ∀ (h' : Heap) (c' : Nat), (∀ b o', s.heap.get? b = some o' → h'.get? b = some o') →
   h'.get? s.heap.objs.size = some { cls := .type "list", dict := none, data := .seq its.toArray c', slots := #[] } → EP X pins σ Q (.ref s.heap.objs.size) { s with heap := h' } := fun its r' hz h' c' kp e =>
  ⟨.ref s.heap.objs.size, _, I.laid (t' := s.toks) kp (Nat.le_refl _) (show ObjOk X.prog X.w _ h' _ (.lst ys) from ⟨hz, its, c', r', e⟩), rfl, q _ (I.hok.fresh (Nat.le_refl _))⟩
 rcases hq with hq | hq
 ·obtain ⟨its, r', pl, hz⟩ := I.list hq
  have hlen := r'.length
  obtain ⟨o, ho, hc, n, hd⟩ := pl.isList
  exact call_list_seq p (.inl rfl) ho hc hd (fun h' c' kp e => fin its r' hz h' c' kp e) (by simp only [List.size_toArray] <;> omega)
 ·obtain ⟨its, r', pl, hz⟩ := I.tuple hq
  have hlen := r'.length
  obtain ⟨o, ho, hc, n, hd⟩ := pl
  exact call_list_seq p (.inr rfl) ho hc hd (fun h' c' kp e => fin its r' hz h' c' kp e) (by simp only [List.size_toArray] <;> omega)
theorem call_tuple_of : CallR X (.type "tuple") (fun xs H Q => ∃ p ys, xs = [.ref p] ∧ ((SqL X.K H p ys ∧ ∀ l, H l = none → Q (.ref l) (upd H l (.tup ys))) ∨ (SqT X.K H p ys ∧ Q (.ref p) H))) := by
 intro pins s σ H xs us Q I r h
 obtain ⟨p, ys, rfl, h⟩ := h
 obtain ⟨u, rfl, rx⟩ := vals1 r
 cases rx
 rcases h with ⟨hq, q⟩ | ⟨hq, q⟩
 ·obtain ⟨its, r', pl, hz⟩ := I.list hq
  have hlen := r'.length
  refine call_tuple_list pl.isList (fun h' kp => ?_) (by simp only [List.size_toArray] <;> omega)
  have I1 : Inv X pins σ H { s with heap := h' } := I.kept (t' := s.toks) kp
  have I2 : Inv X pins σ (upd H h'.objs.size (.tup ys)) { s with heap := h'.push { cls := .type "tuple", data := .seq its.toArray } } :=
   I1.laid (t' := s.toks) (fun b o e => Heap.get?_push_of_some _ e) (Nat.le_refl _) (show ObjOk X.prog X.w _ _ _ (.tup ys) from ⟨hz, its, r', IsTup.new _ _⟩)
  exact ⟨.ref h'.objs.size, _, I2, rfl, q _ (I1.hok.fresh (Nat.le_refl _))⟩
 ·obtain ⟨its, r', pl, hz⟩ := I.tuple hq
  exact call_tuple_same pl ⟨.ref p, H, I, rfl, q⟩
noncomputable def tyV (K : PySem.W.Frag) (T : String) (x : V) (H : Hp) : Prop := match x with
 | .str _ => T = "str"
 | .int _ => T = "int"
 | .ref p => (T = "list" ∧ ∃ xs, SqL K H p xs) ∨ (T = "tuple" ∧ ∃ o, K.lookup p = some o ∧ o.cls = .type "tuple" ∧ o.dict = none) ∨
   (T = "dict" ∧ ((∃ kvs, H p = some (.dK kvs)) ∨ ∃ kvs, H p = some (.dT kvs))) ∨ (T = "set" ∧ ∃ S n, H p = some (.set S n))
 | _ => False
theorem tyV_is {pins : List (Addr × Obj)} {σ : St} {H : Hp} {s : Shared} {T : String} {x : V} {v : Value} (I : Inv X pins σ H s) (r : RelV x v) (ty : tyV X.K T x H) :
  s.TypeIs v T ∧ ∀ a, v = .ref a → ∃ ob, s.heap.get? a = some ob ∧ ob.dict = none := by
 cases x with
 | str z =>
  obtain ⟨t, rfl⟩ := r
  cases (show T = "str" from ty)
  exact ⟨typeIs_str s z t, fun _ e => nomatch e⟩
 | int i =>
  obtain ⟨t, rfl⟩ := r
  cases (show T = "int" from ty)
  exact ⟨typeIs_int s i t, fun _ e => nomatch e⟩
 | ref p =>
  cases r
  rcases ty with ⟨rfl, xs, hq⟩ | ⟨rfl, o, hk, hc, hd⟩ | ⟨rfl, hk⟩ | ⟨rfl, S, n, hk⟩
  ·obtain ⟨its, _, pl, _⟩ := I.list hq
   refine ⟨pl.isList.typeIs, fun a e => ?_⟩
   cases e
   obtain ⟨o, n, e, c, hd, _⟩ := pl
   exact ⟨o, e, hd⟩
  ·refine ⟨⟨o, I.kIn p o hk, hc⟩, fun a e => ?_⟩
   cases e
   exact ⟨o, I.kIn _ o hk, hd⟩
  ·have z : ∃ o, s.heap.get? p = some o ∧ o.ExactDict := by
    rcases hk with ⟨kvs, hk⟩ | ⟨kvs, hk⟩
    ·obtain ⟨_, _, _, _, o, _, _, e, ex, _⟩ := I.hok p _ hk
     exact ⟨o, e, ex⟩
    ·obtain ⟨_, _, _, _, o, _, _, e, ex, _⟩ := I.hok p _ hk
     exact ⟨o, e, ex⟩
   obtain ⟨o, e, ex⟩ := z
   refine ⟨⟨o, e, ex.1⟩, fun a e2 => ?_⟩
   cases e2
   exact ⟨o, e, ex.2.1⟩
  ·obtain ⟨o, _, _, _, e, ex, _⟩ := I.hok p _ hk
   refine ⟨⟨o, e, ex.1⟩, fun a e2 => ?_⟩
   cases e2
   exact ⟨o, e, ex.2.1⟩
 | _ => exact False.elim ty
noncomputable def tBM (K : PySem.W.Frag) (T : String) (r : V → List V → Hp → VK → Prop) (to : TE) (t : TA) : TE := fun σ H Q => to σ H fun x H1 => tyV K T x H1 ∧ t σ H1 fun xs H2 => r x xs H2 Q
variable {o e : Expr} {es : List Expr} {to : TE} {t : TA} {name : Str} {apos cpos : Pos} {T id : String} {r : V → List V → Hp → VK → Prop}
theorem pe_bm (pa : PlainAttrs T) (slot : Slot T name id) (hty : typeOf (.builtin id) = pure (.type "method_descriptor")) (hm : MtR X id r) (ho : PE X o to) (ha : PA X (e :: es) t)
  (hbase : attributeBase o name X.env (eval o X.env) = eval o X.env := by rfl)
  (hfew : ((backTo cpos (starEach (e :: es) X.env)).all (fun x => !x.1) && (backToKw cpos (keywordEach [] X.env)).all (fun x => x.1.isSome)
   && decide ((e :: es).length + ([] : List Keyword).length + (if ([] : List Keyword).isEmpty then 0 else 1) < 30)) = true := by rfl)
  (hline : (apos.endLine == cpos.line) = true := by rfl) (hs : starEach (e :: es) X.env = (false, eval e X.env) :: starEach es X.env := by rfl) (hplain : (backTo cpos (starEach es X.env)).any (·.1) = false := by rfl) :
  PE X (.Call (.Attribute o name apos) (e :: es) [] cpos) (tBM X.K T r to t) := by
 intro pins s σ H Q I h
 refine wpAny_Call_method_late hbase hfew hline rfl (thn (ho pins s σ H _ I h) fun v s1 ⟨x, H1, I1, r1, ty, q1⟩ => ?_)
 obtain ⟨h1, h2⟩ := tyV_is I1 r1 ty
 refine ⟨T, id, pa, slot, hty, h1, h2, ?_⟩
 have hA := ha cpos pins s1 σ H1 _ I1 q1
 rw [hs] at hA ⊢
 refine Calls.callWith_builtin (by show (false || (backTo cpos (starEach es X.env)).any (·.1)) = false; rw [hplain] <;> rfl) (Calls.evalArgs_plain ?_)
 exact thn hA fun us s2 ⟨vs, H2, I2, r2, q2⟩ => hm pins s2 σ H2 x vs v us Q I2 r1 r2 q2
end
end L2
namespace L2
open PySem PySem.Spec PyProof.Rows
noncomputable def MtM (X : Cx) (id : String) (r : V → List V → Hp → VK → Prop) : Prop :=
 ∀ (pins : List (Addr × Obj)) (s : Shared) (σ : St) (H : Hp) (x : V) (xs : List V) (v : Value) (us : List Value) (Q : VK), Inv X pins σ H s → RelV x v → Vals xs us → r x xs H Q →
  wpAny (model X.prog X.w) X.A (call (.builtin id) (v :: us)) (EP X pins σ Q) X.xe s
theorem Vals.one : ∀ {x : V} {us : List Value}, Vals [x] us → ∃ u, us = [u] ∧ RelV x u
 | _, _, .cons r .nil => ⟨_, rfl, r⟩
theorem Vals.two : ∀ {x y : V} {us : List Value}, Vals [x, y] us → ∃ u v, us = [u, v] ∧ RelV x u ∧ RelV y v
 | _, _, _, .cons r (.cons q .nil) => ⟨_, _, rfl, r, q⟩
theorem Vals.zero : ∀ {us : List Value}, Vals [] us → us = []
 | _, .nil => rfl
theorem Vals.eraseIdx : ∀ {xs : List V} {us : List Value} (i : Nat), Vals xs us → Vals (xs.eraseIdx i) (us.eraseIdx i)
 | _, _, _, .nil => .nil
 | _, _, 0, .cons _ t => t
 | _, _, i + 1, .cons r t => .cons r (Vals.eraseIdx i t)
section
variable {X : Cx} {pins : List (Addr × Obj)} {σ : St} {H : Hp} {s : Shared} {l b : Addr} {xs ys zs : List V}
theorem Inv.lset {its its' : List Value} {n : Nat} {f : Array Value → Array Value} {t' : Nat} (I : Inv X pins σ H s) (hH : H l = some (.lst xs))
  (e : s.heap.get? l = some { cls := .type "list", data := .seq its.toArray n }) (hf : f its.toArray = its'.toArray) (hv : Vals ys its') (hz : ys.length ≤ sizeLine) :
  Inv X pins σ (upd H l (.lst ys)) { s with heap := s.heap.update l (Obj.mapSeq f), toks := t' } := by
 have q := PySem.IsL.update e f
 rw [hf] at q
 refine I.write (x := l) (e := l) (by rw [hH]; exact trivial) (.inl rfl) (fun b' u hb hu => (Heap.get?_update_other s.heap (Obj.mapSeq f) (Ne.symm hb)).trans hu) ⟨_, q⟩ ?_
 exact ⟨hz, its', _, hv, q⟩
theorem Inv.lnew {its : List Value} {t' : Nat} (I : Inv X pins σ H s) (hv : Vals ys its) (hz : ys.length ≤ sizeLine) :
  Inv X pins σ (upd H s.heap.objs.size (.lst ys)) { s with heap := s.heap.push { cls := .type "list", data := .seq its.toArray }, toks := t' } :=
 I.laid (fun _ _ q => Heap.get?_push_of_some _ q) (Nat.le_refl _) ⟨hz, its, 0, hv, Heap.get?_push_size _ rfl⟩
theorem Inv.fresh (I : Inv X pins σ H s) : H s.heap.objs.size = none := I.hok.fresh (Nat.le_refl _)
theorem Inv.lstM (I : Inv X pins σ H s) (hH : H l = some (.lst xs)) : xs.length ≤ sizeLine ∧ ∃ (its : List Value) (n : Nat), Vals xs its ∧ xs.length = its.length ∧ s.heap.get? l = some { cls := .type "list", data := .seq its.toArray n } := by
 obtain ⟨z, its, n, r, e⟩ := I.hok l _ hH
 exact ⟨z, its, n, r, r.length, e⟩
theorem notLongL {n : Nat} (h : n ≤ sizeLine) : Builtin.List.listTooLong n = false := by
 unfold Builtin.List.listTooLong
 exact decide_eq_false (by omega)
end
section
variable {X : Cx}
noncomputable def rAppend : V → List V → Hp → VK → Prop := fun x vs H Q => ∃ l xs y, x = .ref l ∧ vs = [y] ∧ H l = some (.lst xs) ∧ xs.length < sizeLine ∧ Q .non (upd H l (.lst (xs ++ [y])))
theorem mt_append : MtM X "list.append" rAppend := by
 intro pins s σ H x vs v us Q I rx rv h
 obtain ⟨l, xs, y, rfl, rfl, hH, hz, q⟩ := h
 cases rx
 obtain ⟨u, rfl, ru⟩ := rv.one
 obtain ⟨z, its, n, r, hl, e⟩ := I.lstM hH
 refine call_meets F.slot_list_append ⟨_, e, rfl⟩ F.entry_list_append (F.args_list_append_2 _ _) (PySem.list_append l its.toArray n u (by rw [List.size_toArray]; omega)) ⟨e, ?_⟩
 refine ⟨.non, _, I.lset (its' := its ++ [u]) hH e (by simp) (r.append (.cons ru .nil)) ?_, rfl, q⟩
 rw [List.length_append, List.length_singleton]
 omega
end
section
variable {prog : Program} {w : World} {A : Around} {E : Value → Shared → Prop} {s : Shared}
end
section
variable {X : Cx}
end
end L2
namespace L2
open PySem PySem.Spec PyProof.Rows
section
variable {κ : Type} [DecidableEq κ]
noncomputable def valV (kvs : List (κ × V)) (k : κ) : Option V := (kvs.find? fun kv => decide (kv.1 = k)).map (·.2)
noncomputable def putK (kvs : List (κ × V)) (k : κ) (v : V) : List (κ × V) :=
 if (kvs.any fun kv => decide (kv.1 = k)) = true then kvs.map (fun kv => if kv.1 = k then (kv.1, v) else kv) else kvs ++ [(k, v)]
noncomputable def dropK (kvs : List (κ × V)) (k : κ) : List (κ × V) := kvs.filter fun kv => decide (kv.1 ≠ k)
theorem valV_nil {k : κ} : valV ([] : List (κ × V)) k = none := rfl
theorem valV_pos {p : κ × V} {r : List (κ × V)} {k : κ} (e : p.1 = k) : valV (p :: r) k = some p.2 := by simp [valV, List.find?_cons, e]
theorem valV_neg {p : κ × V} {r : List (κ × V)} {k : κ} (e : ¬ p.1 = k) : valV (p :: r) k = valV r k := by simp [valV, List.find?_cons, e]
theorem valV_any (k : κ) : ∀ kvs : List (κ × V), (kvs.any fun kv => decide (kv.1 = k)) = (valV kvs k).isSome
 | [] => rfl
 | p :: r => by
  rw [List.any_cons]
  by_cases e : p.1 = k
  ·simp only [valV_pos e, decide_eq_true e, Bool.true_or, Option.isSome_some]
  ·rw [valV_neg e, decide_eq_false e, Bool.false_or]; exact valV_any k r
theorem RelO.isSome_eq {o : Option V} {u : Option Value} (r : RelO o u) : o.isSome = u.isSome := by
 cases o with
 | none => cases u with
  | none => rfl
  | some _ => exact (show False from r).elim
 | some _ => cases u with
  | none => exact (show False from r).elim
  | some _ => rfl
theorem RelO.getD {o : Option V} {u : Option Value} {d : V} {d' : Value} (r : RelO o u) (rd : RelV d d') : RelV (o.getD d) (u.getD d') := by
 cases o with
 | none => cases u with
  | none => exact rd
  | some _ => exact (show False from r).elim
 | some _ => cases u with
  | none => exact (show False from r).elim
  | some _ => exact r
theorem KV.val {kvs : List (κ × V)} {vs : List (κ × Value)} (r : KV kvs vs) (k : κ) : RelO (valV kvs k) (valueAt vs k) := by
 unfold KV at r
 induction r with
 | nil => exact True.intro
 | @cons p q ps qs h t ih =>
  obtain ⟨h1, h2⟩ := h
  by_cases e : p.1 = k
  ·have e' : q.1 = k := h1.symm.trans e
   have b : valueAt (q :: qs) k = some q.2 := by simp [valueAt, List.find?_cons, e']
   rw [valV_pos e, b]; exact h2
  ·have e' : ¬ q.1 = k := fun z => e (h1.trans z)
   have b : valueAt (q :: qs) k = valueAt qs k := by simp [valueAt, List.find?_cons, e']
   rw [valV_neg e, b]; exact ih
theorem KV.any {kvs : List (κ × V)} {vs : List (κ × Value)} (r : KV kvs vs) (k : κ) : (kvs.any fun kv => decide (kv.1 = k)) = vs.any fun kv => decide (kv.1 = k) := by
 unfold KV at r
 induction r with
 | nil => rfl
 | cons h t ih => rw [List.any_cons, List.any_cons, ih, h.1]
theorem KV.repl {kvs : List (κ × V)} {vs : List (κ × Value)} (r : KV kvs vs) (k : κ) {y : V} {u : Value} (ry : RelV y u) :
  KV (kvs.map fun kv => if kv.1 = k then (kv.1, y) else kv) (vs.map fun kv => if kv.1 = k then (kv.1, u) else kv) := by
 unfold KV at r ⊢
 induction r with
 | nil => exact .nil
 | @cons p q ps qs h t ih =>
  rw [List.map_cons, List.map_cons]
  refine .cons ?_ ih
  obtain ⟨h1, h2⟩ := h
  by_cases e : p.1 = k
  ·rw [if_pos e, if_pos (h1.symm.trans e)]; exact ⟨h1, ry⟩
  ·rw [if_neg e, if_neg (fun z => e (h1.trans z))]; exact ⟨h1, h2⟩
theorem KV.put {kvs : List (κ × V)} {vs : List (κ × Value)} (r : KV kvs vs) (k : κ) {y : V} {u : Value} (ry : RelV y u) : KV (putK kvs k y) (stored vs k u) := by
 unfold putK stored
 rw [r.any k]
 by_cases e : (vs.any fun kv => decide (kv.1 = k)) = true
 ·rw [if_pos e, if_pos e]; exact r.repl k ry
 ·rw [if_neg e, if_neg e]; exact Paired.snoc r ⟨rfl, ry⟩
theorem KV.drop {kvs : List (κ × V)} {vs : List (κ × Value)} (r : KV kvs vs) (k : κ) : KV (dropK kvs k) (without vs k) := by
 unfold KV at r ⊢
 unfold dropK without
 induction r with
 | nil => exact .nil
 | @cons p q ps qs h t ih =>
  obtain ⟨h1, h2⟩ := h
  rw [List.filter_cons, List.filter_cons]
  by_cases e : p.1 = k
  ·have a : ¬ decide (p.1 ≠ k) = true := by simp [e]
   have b : ¬ decide (q.1 ≠ k) = true := by simp [h1.symm.trans e]
   rw [if_neg a, if_neg b]; exact ih
  ·have e' : ¬ q.1 = k := fun z => e (h1.trans z)
   have a : decide (p.1 ≠ k) = true := by simp [e]
   have b : decide (q.1 ≠ k) = true := by simp [e']
   rw [if_pos a, if_pos b]; exact .cons ⟨h1, h2⟩ ih
theorem KV.keys {kvs : List (κ × V)} {vs : List (κ × Value)} (r : KV kvs vs) : kvs.map (·.1) = vs.map (·.1) := by
 unfold KV at r
 induction r with
 | nil => rfl
 | cons h t ih => rw [List.map_cons, List.map_cons, ih, h.1]
theorem KV.length {kvs : List (κ × V)} {vs : List (κ × Value)} (r : KV kvs vs) : kvs.length = vs.length := Paired.length r
end
noncomputable abbrev KT (H : Hp) : List (List Key × V) → List (List Key × Addr × Value) → Prop := Paired fun p q => p.1 = q.1 ∧ H q.2.1 = some (.tup (p.1.map kV)) ∧ RelV p.2 q.2.2
theorem KT.val {H : Hp} {kvs : List (List Key × V)} {xs : List (List Key × Addr × Value)} (r : KT H kvs xs) (k : List Key) : RelO (valV kvs k) ((atKey xs k).map (·.2)) := by
 induction r with
 | nil => exact True.intro
 | @cons p q ps qs h t ih =>
  obtain ⟨h1, _, h2⟩ := h
  by_cases e : p.1 = k
  ·have e' : q.1 = k := h1.symm.trans e
   have b : atKey (q :: qs) k = some q.2 := by simp [atKey, List.find?_cons, e']
   rw [valV_pos e, b]; exact h2
  ·have e' : ¬ q.1 = k := fun z => e (h1.trans z)
   have b : atKey (q :: qs) k = atKey qs k := by simp [atKey, List.find?_cons, e']
   rw [valV_neg e, b]; exact ih
theorem KT.repl {H : Hp} {kvs : List (List Key × V)} {xs : List (List Key × Addr × Value)} (r : KT H kvs xs) (k : List Key) {y : V} {u : Value} (ry : RelV y u) :
  KT H (kvs.map fun kv => if kv.1 = k then (kv.1, y) else kv) (xs.map (putAt k u)) := by
 induction r with
 | nil => exact .nil
 | @cons p q ps qs h t ih =>
  rw [List.map_cons, List.map_cons]
  refine .cons ?_ ih
  obtain ⟨h1, h2, h3⟩ := h
  unfold putAt
  by_cases e : p.1 = k
  ·rw [if_pos e, if_pos (h1.symm.trans e)]; exact ⟨h1, h2, ry⟩
  ·rw [if_neg e, if_neg (fun z => e (h1.trans z))]; exact ⟨h1, h2, h3⟩
theorem KT.put {H : Hp} {kvs : List (List Key × V)} {xs : List (List Key × Addr × Value)} (r : KT H kvs xs) (k : List Key) {b : Addr} {y : V} {u : Value} (hb : H b = some (.tup (k.map kV))) (ry : RelV y u) :
  KT H (putK kvs k y) (storedH xs k b u) := by
 have e : (kvs.any fun kv => decide (kv.1 = k)) = (atKey xs k).isSome := by
  rw [valV_any, (r.val k).isSome_eq, Option.isSome_map]
 unfold putK storedH
 rw [e]
 by_cases q : (atKey xs k).isSome = true
 ·rw [if_pos q, if_pos q]; exact r.repl k ry
 ·rw [if_neg q, if_neg q]; exact Paired.snoc r ⟨rfl, hb, ry⟩
theorem KT.keeps {H H' : Hp} {kvs : List (List Key × V)} {xs : List (List Key × Addr × Value)} (r : KT H kvs xs) (ht : ∀ b ys, H b = some (.tup ys) → H' b = some (.tup ys)) : KT H' kvs xs :=
 Paired.mapP r fun _ _ z => ⟨z.1, ht _ _ z.2.1, z.2.2⟩
section
variable {P : Program} {w : World} {H : Hp} {h : Heap} {a : Addr}
end
noncomputable def DGet (H : Hp) (a : Addr) (y : V) (r : Option V) : Prop :=
 (∃ kvs k, Rd H a (.dK kvs) ∧ y = kV k ∧ r = valV kvs k) ∨ ∃ kvs k b, Rd H a (.dT kvs) ∧ y = .ref b ∧ H b = some (.tup (k.map kV)) ∧ r = valV kvs k
noncomputable def DPut (H : Hp) (a : Addr) (y v : V) (H' : Hp) : Prop :=
 (∃ kvs k, H a = some (.dK kvs) ∧ y = kV k ∧ kvs.length < sizeLine ∧ H' = upd H a (.dK (putK kvs k v))) ∨
 ∃ kvs k b, H a = some (.dT kvs) ∧ y = .ref b ∧ H b = some (.tup (k.map kV)) ∧ kvs.length < sizeLine ∧ H' = upd H a (.dT (putK kvs k v))
theorem DGet.k {H : Hp} {a : Addr} {kvs : List (Key × V)} {k : Key} (e : H a = some (.dK kvs)) : DGet H a (kV k) (valV kvs k) := .inl ⟨kvs, k, .inl e, rfl, rfl⟩
theorem DGet.t {H : Hp} {a b : Addr} {kvs : List (List Key × V)} {k : List Key} (e : H a = some (.dT kvs)) (eb : H b = some (.tup (k.map kV))) : DGet H a (.ref b) (valV kvs k) := .inr ⟨kvs, k, b, .inl e, rfl, eb, rfl⟩
theorem DPut.k {H : Hp} {a : Addr} {kvs : List (Key × V)} {k : Key} {v : V} (e : H a = some (.dK kvs)) (hl : kvs.length < sizeLine) : DPut H a (kV k) v (upd H a (.dK (putK kvs k v))) := .inl ⟨kvs, k, e, rfl, hl, rfl⟩
theorem DPut.t {H : Hp} {a b : Addr} {kvs : List (List Key × V)} {k : List Key} {v : V} (e : H a = some (.dT kvs)) (eb : H b = some (.tup (k.map kV))) (hl : kvs.length < sizeLine) :
  DPut H a (.ref b) v (upd H a (.dT (putK kvs k v))) := .inr ⟨kvs, k, b, e, rfl, eb, hl, rfl⟩
section
variable {X : Cx} {pins : List (Addr × Obj)} {σ : St} {H : Hp} {s : Shared} {a : Addr} {y v : V} {u r : Value} {o : Option V} {A : Around} {E : Value → Shared → Prop}
end
section
variable {X : Cx} {pins : List (Addr × Obj)} {σ : St} {H : Hp} {s : Shared} {a : Addr} {kvs : List (Key × V)} {k : Key} {u : Value} {A : Around} {E : Value → Shared → Prop}
end
section
variable {X : Cx} {o i e value : Expr} {pos pos' tpos : Pos} {td ty tv : TE}
end
section
variable {X : Cx} {pos : Pos}
end
noncomputable abbrev VV : List (V × V) → List (Value × Value) → Prop := Paired fun p q => RelV p.1 q.1 ∧ RelV p.2 q.2
structure M1 (X : Cx) (o : Expr) (m : Str) (apos : Pos) (e : Expr) (cpos : Pos) : Prop where
 base : attributeBase o m X.env (eval o X.env) = eval o X.env
 few : ((backTo cpos (starEach [e] X.env)).all (fun x => !x.1) && (backToKw cpos (keywordEach [] X.env)).all (fun x => x.1.isSome)
  && decide (([e] : List Expr).length + ([] : List Keyword).length + (if ([] : List Keyword).isEmpty then 0 else 1) < 30)) = true
 line : (apos.endLine == cpos.line) = true
 trees : backTo cpos (starEach [e] X.env) = [(false, eval e X.env)]
structure M2 (X : Cx) (o : Expr) (m : Str) (apos : Pos) (e f : Expr) (cpos : Pos) : Prop where
 base : attributeBase o m X.env (eval o X.env) = eval o X.env
 few : ((backTo cpos (starEach [e, f] X.env)).all (fun x => !x.1) && (backToKw cpos (keywordEach [] X.env)).all (fun x => x.1.isSome)
  && decide (([e, f] : List Expr).length + ([] : List Keyword).length + (if ([] : List Keyword).isEmpty then 0 else 1) < 30)) = true
 line : (apos.endLine == cpos.line) = true
 trees : backTo cpos (starEach [e, f] X.env) = [(false, eval e X.env), (false, eval f X.env)]
section
variable {X : Cx} {pins : List (Addr × Obj)} {σ : St} {H : Hp} {s : Shared} {a : Addr} {y d : V} {u r : Value} {o : Option V} {A : Around} {E : Value → Shared → Prop}
end
section
variable {X : Cx} {o e f : Expr} {apos cpos : Pos} {td ty tx : TE}
end
section
variable {X : Cx} {pins : List (Addr × Obj)} {σ : St} {H : Hp} {s : Shared} {a : Addr} {kvs : List (Key × V)} {A : Around} {E : Value → Shared → Prop}
end
section
variable {X : Cx} {pins : List (Addr × Obj)} {σ : St} {H : Hp} {s : Shared} {a : Addr} {y : V} {u : Value} {A : Around} {E : Value → Shared → Prop}
end
end L2
namespace Att
open PySem PySem.W PySem.Calls PyProof.Rows
theorem ints_of_wellAll {P : Params} {h : Heap} : ∀ (ns : List Int) (vs : List Value), WellAll P h vs (ns.map WData.int) → IntsAre vs ns := by
 intro ns
 induction ns with
 | nil =>
  intro vs w
  rw [List.map_nil] at w
  cases w
  exact .nil
 | cons n ns ih =>
  intro vs w
  rw [List.map_cons] at w
  cases w with
  | cons a b =>
   cases a
   exact .cons _ _ (ih _ b)
theorem script_of {l : OpenLaw} {n : Nat} (hn : l.most = some n) {P : Params} {h : Heap} {args : List WData} {vals : List Value}
  (hpre : l.row.toRowW.claim.pre args = true) (hwl : WellAll P h vals args) :
  ∃ a vs ns, vals = [Value.ref a] ∧ args = [WData.list (ns.map WData.int)] ∧ h.get? a = some { cls := .type "list", data := .seq vs.toArray } ∧ IntsAre vs ns ∧ ns.length ≤ n := by
 have hsh : WShape.hasAll [] args [.list .int] = true := (pre_splitW hpre).1
 have hc : l.pre.holds [] { args := args } = true := (pre_splitW hpre).2
 obtain ⟨d, r, rfl, h1, h2⟩ := hasAllW_cons hsh
 obtain rfl := hasAllW_nil h2
 obtain ⟨xs, rfl, h3⟩ := hasW_list h1
 obtain ⟨ns, rfl⟩ := items_int h3
 have hlen : ns.length ≤ n := by
  unfold OpenLaw.pre at hc
  have h4 : (WTm.not (.lt (.lit (.int (n : Int))) (.len (.arg 0)))).holds [] { args := [.list (ns.map .int)] } = true := by
   have h4 := (holds_andW hc).1
   rw [hn] at h4
   exact h4
  have h5 := condW_of h4 (w_not (w_lt w_lit (w_len_list (w_arg rfl))))
  rw [List.length_map] at h5
  refine Nat.le_of_not_lt fun q => ?_
  have q' : (n : Int) < ((ns.length : Nat) : Int) := by omega
  first
   | (rw [decide_eq_true q'] at h5; exact absurd h5 (by decide))
   | (simp at h5; omega)
 cases hwl with
 | cons w1 w2 =>
  cases w2
  cases w1 with
  | list ho hall => exact ⟨_, _, ns, rfl, rfl, ho, ints_of_wellAll ns _ hall, hlen⟩
theorem post_true (l : OpenLaw) (args : List WData) : l.row.toRowW.claim.post args (.bool true) args = true :=
 postW_of (r := l.row.toRowW) (X := (true == true))
  (show WShape.has [] (.bool true) .bool = true by first | rfl | decide | simp [WShape.has, WShape.arms, WShape.armsAll])
  (show (WTm.eq .res (.lit (.bool true))).value [] { args := args, res := some (.bool true), after := args } = some (.bool (true == true)) from w_eq_bool (w_res rfl) w_lit) rfl
theorem attach_call {l : OpenLaw} {n : Nat} {q : Program} {loose : List Str} {XP : (Str → Option Value) → Heap → Prop} {YP : World → Heap → Prop} {d : DefRec}
  (hn : l.most = some n) (hdf : d.params.defaults = [])
  (call : ∀ (w : World) (s₀ s₁ : Shared) (mg mb : Str → Option Value) (fa : Addr) (o : Obj) (pm cd doc : Value) (a : Addr) (vs : List Value) (ns : List Int),
   Ground q loose [] XP w s₀ mg mb s₁.heap → YP w s₁.heap →
   s₁.heap.get? fa = some o → o.data = .func (docDef d.name d.params d.body d.scope pm cd doc) → s₁.heap.CodeRec cd d.name → mg d.name = some (.ref fa) →
   s₁.heap.get? a = some { cls := .type "list", data := .seq vs.toArray } → IntsAre vs ns → ns.length ≤ n → s₁.gens = #[] →
   codeAny (model l.prog w) callerA (.call (.ref fa) ⟨[.ref a], []⟩) (fun r s' => r = .ok (.ret (.bool true)) ∧ OldK s₁.heap s'.heap ∧ s'.os = s₁.os ∧ AllBare s'.gens) s₁) :
  WalkO q loose XP YP l.row.toRowW d [] (fun f vs => PySem.call f vs) := by
 intro w s₀ s₁ mg mb G Y fa o pm cd doc dV kV ho hd hcd hD hmg hg args vals as hpre hlay hrd hwl hlo
 obtain rfl : dV = .none := Dflts.none hD hdf
 obtain rfl : kV = .none := Dflts.noKw hD
 obtain ⟨a, vs, ns, rfl, rfl, hobj, hints, hlen⟩ := script_of hn hpre hwl
 refine enter_call (codeAny_mono (call w s₀ s₁ mg mb fa o pm cd doc a vs ns G Y ho (fd_plain hd) hcd hmg hobj hints hlen hg) fun r s' hq => ?_)
 obtain ⟨rfl, h2, h3, h4⟩ := hq
 exact ⟨.inl ⟨.bool true, .bool true, [], rfl, fun _ => rfl, .bool true, post_true l _, fun _ => ⟨List.Pairwise.nil, fun _ hm => (nomatch hm)⟩⟩, h2, h3, h4⟩
section
variable {prog : Program} {w : World} {A : Around} {E : Value → Shared → Prop} {s : Shared} {K : Frag}
end
end Att
namespace L2
open PySem PySem.Spec PyProof.Rows
theorem vals_ints : ∀ {vs : List Value} {ns : List Int}, IntsAre vs ns → Vals (ns.map V.int) vs
 | _, _, .nil => .nil
 | _, _, .cons n t h => .cons ⟨t, rfl⟩ (vals_ints h)
end L2
namespace L2
open PySem PySem.Spec PyProof.Rows
noncomputable abbrev KOf {K : PySem.W.Frag} {h : Heap} (_ : K.In h) : PySem.W.Frag := K
end L2
namespace L2
open PySem PySem.Spec PyProof.Rows
def b8 (s : Stmt) : Arguments := match s with
 | .FunctionDef _ a _ _ _ _ _ _ _ _ => a
 | _ => { posonlyargs := [], args := [], vararg := none, kwonlyargs := [], kw_defaults := [], kwarg := none, defaults := [] }
def ao (s : Stmt) : List Stmt := match s with
 | .FunctionDef _ _ b _ _ _ _ _ _ _ => b
 | _ => []
def aj (s : Stmt) : Scope := match s with
 | .FunctionDef _ _ _ _ _ _ sc _ _ _ => sc
 | _ => { kind := .function, names := [], isGenerator := false, isCoroutine := false }
noncomputable abbrev CX0 : CXT := fun _ _ _ _ _ _ => False
noncomputable abbrev E0 : XK := fun _ _ _ => False
structure Fun (K : PySem.W.Frag) (x qual : Str) (st : Stmt) (f : Addr) (fd : FuncData) : Prop where
 ex : ∃ (oc : Value) (od : Option Addr) (kV doc pm : Value) (an : Option Addr) (cdv ct : Value) (osl : Array (Option Value)),
  fd = PySem.W.fnOf x qual (b8 st) (ao st) (aj st) .none kV doc pm an cdv ct ∧ K.lookup f = some ⟨oc, od, .func fd, osl⟩ ∧ PySem.W.codeIn K cdv qual = true
 kp : PySem.W.keepIn K (.ref f) = true
section
variable {P : Program} {w : World} {K : PySem.W.Frag} {mg : Str → Option Value} {base : Heap}
theorem Fun.ok {x qual : Str} {st : Stmt} {f : Addr} {fd : FuncData} {N ps : List Str} {k : Nat} {sp : Sp} (F : Fun K x qual st f fd) (S : FnScope N ps (aj st)) (len : ∀ vs H Q E, sp vs H Q E → vs.length = ps.length)
  (hbody : ∀ (cdv : Value) (A : Around) (outer : List Env) (s : Shared) (H : Hp) (vs : List V) (Q : VK) (E : XK), Room k (A.deeper (envOfC qual (aj st) s.heap.objs.size f cdv)) → sp vs H Q E →
   ∃ t, PSs (cxOf CX0 P w K mg base N qual (aj st) f cdv A outer s H E).nox (ao st) t ∧ t { nx := fun _ H' => Q .non H', rt := Q } (start N vs) H) : FnOk P w K mg base CX0 (k + 1) f fd ps sp := by
 obtain ⟨oc, od, kV, doc, pm, an, cdv, ct, osl, rfl, lk, hcd⟩ := F.ex
 refine fn_of lk hcd S len fun A outer s H vs Q E hr hsp => ?_
 obtain ⟨t, h, q⟩ := hbody cdv A outer s H vs Q E hr hsp
 exact ⟨t, h.nox, q⟩
theorem Fun.binds {x qual : Str} {st : Stmt} {f : Addr} {fd : FuncData} {ps : List Str} (F : Fun K x qual st f fd)
  (h : ∀ (kV doc pm : Value) (an : Option Addr) (cdv ct : Value) (us : List Value), us.length = ps.length → bindArgs (PySem.W.fnOf x qual (b8 st) (ao st) (aj st) .none kV doc pm an cdv ct) ⟨us, []⟩ = pure (ps.zip us)) : Binds K fd ps [] := by
 obtain ⟨oc, od, kV, doc, pm, an, cdv, ct, osl, rfl, lk, hcd⟩ := F.ex
 exact .all (h kV doc pm an cdv ct)
theorem fun_mk {x qual : Str} {st : Stmt} {f : Addr} {oc : Value} {od an : Option Addr} {osl : Array (Option Value)} {kV doc pm cdv ct : Value} (l : K.lookup f = some ⟨oc, od, .func (PySem.W.fnOf x qual (b8 st) (ao st) (aj st) .none kV doc pm an cdv ct), osl⟩)
  (c : PySem.W.codeIn K cdv qual = true) (k : PySem.W.keepIn K (.ref f) = true) : Fun K x qual st f (PySem.W.fnOf x qual (b8 st) (ao st) (aj st) .none kV doc pm an cdv ct) := ⟨⟨oc, od, kV, doc, pm, an, cdv, ct, osl, rfl, l, c⟩, k⟩
end
section
variable {X : Cx}
end
noncomputable def Same (H H' : Hp) : Prop := ∀ b o, H b = some o → H' b = some o
theorem Same.refl (H : Hp) : Same H H := fun _ _ h => h
theorem Same.trans {H H1 H2 : Hp} (a : Same H H1) (b : Same H1 H2) : Same H H2 := fun c o h => b c o (a c o h)
theorem Same.free {H H' : Hp} (e : Same H H') {l : Addr} (h : H' l = Option.none) : H l = Option.none := by
 cases q : H l with
 | none => rfl
 | some o =>
  rw [e l o q] at h
  cases h
theorem Same.seq {K : PySem.W.Frag} {H H' : Hp} {a : Addr} {xs : List V} (e : Same H H') (h : SqL K H a xs) : SqL K H' a xs := by
 rcases h with (h | ⟨o, h⟩) | h
 ·exact .inl (.inl (e _ _ h))
 ·exact .inl (.inr ⟨o, e _ _ h⟩)
 ·exact .inr h
section
variable {κ : Type} [DecidableEq κ]
end
end L2
end
section
namespace Pu
open PySem
noncomputable def tbs : List (Addr × Addr × Str) := [(81, 77, "is_columns.<locals>.<lambda>"), (129, 127, "choices.<locals>.<lambda>")]
end Pu
end
section
namespace Pu
open PySem PySem.Spec PyProof.Rows L2
noncomputable abbrev St := L2.St
structure KA where
 K : PySem.W.Frag
 A : Str → Addr
instance : CoeOut KA PySem.W.Frag := ⟨KA.K⟩
noncomputable def adr (mg : Str → Option Value) (x : Str) : Addr := match mg x with
 | some (.ref a) => a
 | _ => 0
noncomputable abbrev kx (X : Cx) : KA := ⟨X.K, adr X.mg⟩
noncomputable abbrev EK := Str → Hp → Prop
noncomputable abbrev ek (K : KA) (E : XK) : EK := fun c H => E (.ref (K.A c)) none H
inductive D where
 | non
 | bl (b : Bool)
 | int (i : Int)
 | str (x : Str)
 | tup (ds : List D)
 | lst (ds : List D)
 | dct (t : Bool) (kvs : List (D × D))
 | obj (e : Expr) (fs : List (Str × D))
 | fn (f : Str)
noncomputable def kD : Key → D
 | .inl i => .int i
 | .inr x => .str x
noncomputable def cx : List (Str × NameKind) → List Str
 | [] => []
 | (n, k) :: r => if k = .free then n :: cx r else cx r
noncomputable def LamAt (H : Hp) (e : Expr) (a : Addr) (vs : List (Str × V)) : Prop := match e with
 | .Lambda params body scope _ => ∃ (qual : Str) (pm : Value) (c' : Addr) (ctv : Value) (cl : List (Str × Addr)) (oc : Obj) (cvs : Array Value) (t : Tok),
   H a = some (.frz (PySem.W.kla_obj "<lambda>" qual params body scope cl pm c' ctv) (.own 0)) ∧ H c' = some (.frz oc (.own 0)) ∧ oc.data = .fields cvs ∧ cvs[1]? = some (.str qual t) ∧
   (∀ x y c, cl.lookup x = some c → cl.lookup y = some c → x = y) ∧ (∀ y, (y, NameKind.free) ∈ scope.names → ∃ c, cl.lookup y = some c) ∧ (∀ y c, cl.lookup y = some c → (y, NameKind.free) ∈ scope.names) ∧
   (∀ y c, cl.lookup y = some c → ∃ o v u, H c = some (.frz o (.own 0)) ∧ o.data = .cell (some u) ∧ (y, v) ∈ vs ∧ RelV v u) ∧ vs.map (·.1) = cx scope.names
 | _ => False
theorem LamAt.mono {H H' : Hp} (q : Same H H') {e : Expr} {a : Addr} {vs : List (Str × V)} (h : LamAt H e a vs) : LamAt H' e a vs := by
 unfold LamAt at h ⊢
 split at h
 ·obtain ⟨qual, pm, c', ctv, cl, oc, cvs, t, h1, h2, h3, h4, h5, h6, h7, h8, h9⟩ := h
  refine ⟨qual, pm, c', ctv, cl, oc, cvs, t, q _ _ h1, q _ _ h2, h3, h4, h5, h6, h7, fun y c z => ?_, h9⟩
  obtain ⟨o, v, u, z1, z2⟩ := h8 y c z
  exact ⟨o, v, u, q _ _ z1, z2⟩
 ·exact h.elim
mutual
noncomputable def Den (K : KA) (H : Hp) : D → V → Prop
 | .non, v => v = .non
 | .bl b, v => v = .bl b
 | .int i, v => v = .int i
 | .str x, v => v = .str x
 | .tup ds, v => ∃ a vs, v = .ref a ∧ H a = some (.tup vs) ∧ DenL K H ds vs
 | .lst ds, v => ∃ a vs, v = .ref a ∧ SqL K H a vs ∧ DenL K H ds vs
 | .dct t kvs, v => ∃ a, v = .ref a ∧ ((t = false ∧ ∃ es, H a = some (.dK es) ∧ DenK K H kvs es) ∨ (t = true ∧ ∃ es, H a = some (.dT es) ∧ DenT K H kvs es))
 | .obj e fs, v => ∃ a vs, v = .ref a ∧ LamAt H e a vs ∧ DenF K H fs vs
 | .fn f, v => v = .ref (K.A f)
noncomputable def DenL (K : KA) (H : Hp) : List D → List V → Prop
 | [], vs => vs = []
 | d :: ds, vs => ∃ v r, vs = v :: r ∧ Den K H d v ∧ DenL K H ds r
noncomputable def DenF (K : KA) (H : Hp) : List (Str × D) → List (Str × V) → Prop
 | [], vs => vs = []
 | (n, d) :: ds, vs => ∃ v r, vs = (n, v) :: r ∧ Den K H d v ∧ DenF K H ds r
noncomputable def DenK (K : KA) (H : Hp) : List (D × D) → List (Key × V) → Prop
 | [], vs => vs = []
 | (k, d) :: ds, vs => ∃ k' v r, vs = (k', v) :: r ∧ k = kD k' ∧ Den K H d v ∧ DenK K H ds r
noncomputable def DenT (K : KA) (H : Hp) : List (D × D) → List (List Key × V) → Prop
 | [], vs => vs = []
 | (k, d) :: ds, vs => ∃ k' v r, vs = (k', v) :: r ∧ k = .tup (k'.map kD) ∧ Den K H d v ∧ DenT K H ds r
end
theorem SqL.mono {K : KA} {H H' : Hp} {a : Addr} {xs : List V} (e : Same H H') (h : SqL K H a xs) : SqL K H' a xs := e.seq h
theorem SqT.mono {K : KA} {H H' : Hp} {a : Addr} {xs : List V} (e : Same H H') (h : SqT K H a xs) : SqT K H' a xs := by
 rcases h with (h | ⟨o, h⟩) | h
 ·exact .inl (.inl (e _ _ h))
 ·exact .inl (.inr ⟨o, e _ _ h⟩)
 ·exact .inr h
mutual
theorem Den.mono {K : KA} {H H' : Hp} (e : Same H H') : ∀ {d : D} {v : V}, Den K H d v → Den K H' d v
 | .non, _, h => h
 | .bl _, _, h => h
 | .int _, _, h => h
 | .str _, _, h => h
 | .tup _, _, ⟨a, vs, h1, h2, h3⟩ => ⟨a, vs, h1, e _ _ h2, DenL.mono e h3⟩
 | .lst _, _, ⟨a, vs, h1, h2, h3⟩ => ⟨a, vs, h1, SqL.mono e h2, DenL.mono e h3⟩
 | .dct _ _, _, ⟨a, h1, h2⟩ => ⟨a, h1, h2.elim (fun ⟨z, es, q1, q2⟩ => .inl ⟨z, es, e _ _ q1, DenK.mono e q2⟩) fun ⟨z, es, q1, q2⟩ => .inr ⟨z, es, e _ _ q1, DenT.mono e q2⟩⟩
 | .obj _ _, _, ⟨a, vs, h1, h2, h3⟩ => ⟨a, vs, h1, h2.mono e, DenF.mono e h3⟩
 | .fn _, _, h => h
theorem DenL.mono {K : KA} {H H' : Hp} (e : Same H H') : ∀ {ds : List D} {vs : List V}, DenL K H ds vs → DenL K H' ds vs
 | [], _, h => h
 | _ :: _, _, ⟨v, r, h1, h2, h3⟩ => ⟨v, r, h1, Den.mono e h2, DenL.mono e h3⟩
theorem DenF.mono {K : KA} {H H' : Hp} (e : Same H H') : ∀ {ds : List (Str × D)} {vs : List (Str × V)}, DenF K H ds vs → DenF K H' ds vs
 | [], _, h => h
 | (_, _) :: _, _, ⟨v, r, h1, h2, h3⟩ => ⟨v, r, h1, Den.mono e h2, DenF.mono e h3⟩
theorem DenK.mono {K : KA} {H H' : Hp} (e : Same H H') : ∀ {ds : List (D × D)} {vs : List (Key × V)}, DenK K H ds vs → DenK K H' ds vs
 | [], _, h => h
 | (_, _) :: _, _, ⟨k, v, r, h1, h0, h2, h3⟩ => ⟨k, v, r, h1, h0, Den.mono e h2, DenK.mono e h3⟩
theorem DenT.mono {K : KA} {H H' : Hp} (e : Same H H') : ∀ {ds : List (D × D)} {vs : List (List Key × V)}, DenT K H ds vs → DenT K H' ds vs
 | [], _, h => h
 | (_, _) :: _, _, ⟨k, v, r, h1, h0, h2, h3⟩ => ⟨k, v, r, h1, h0, Den.mono e h2, DenT.mono e h3⟩
end
section
variable {K : KA} {G H : Hp}
theorem DenL.length : ∀ {ds : List D} {vs : List V}, DenL K H ds vs → ds.length = vs.length
 | [], _, h => by rw [show _ = [] from h]; rfl
 | _ :: _, _, ⟨v, r, h1, _, h3⟩ => by rw [h1, List.length_cons, List.length_cons, DenL.length h3]
theorem DenL.get : ∀ {ds : List D} {vs : List V} {i : Nat} {d : D}, DenL K H ds vs → ds[i]? = some d → ∃ v, vs[i]? = some v ∧ Den K H d v
 | [], _, _, _, _, e => by simp at e
 | _ :: _, _, 0, _, ⟨v, r, h1, h2, _⟩, e => by
  simp at e; subst e; subst h1; exact ⟨v, rfl, h2⟩
 | _ :: _, _, i + 1, _, ⟨v, r, h1, _, h3⟩, e => by
  obtain ⟨w, q1, q2⟩ := DenL.get (i := i) h3 (by simpa using e)
  subst h1
  exact ⟨w, by simpa using q1, q2⟩
theorem DenL.append : ∀ {ds es : List D} {vs ws : List V}, DenL K H ds vs → DenL K H es ws → DenL K H (ds ++ es) (vs ++ ws)
 | [], _, _, _, h, q => by rw [show _ = [] from h]; exact q
 | _ :: _, _, _, _, ⟨v, r, h1, h2, h3⟩, q => ⟨v, r ++ _, by rw [h1]; rfl, h2, DenL.append h3 q⟩
theorem DenL.one {d : D} {v : V} (h : Den K H d v) : DenL K H [d] [v] := ⟨v, [], rfl, h, rfl⟩
theorem DenL.drop : ∀ (n : Nat) {ds : List D} {vs : List V}, DenL K H ds vs → DenL K H (ds.drop n) (vs.drop n)
 | 0, _, _, h => h
 | _ + 1, [], _, h => by rw [show _ = [] from h]; exact rfl
 | n + 1, _ :: _, _, ⟨v, r, h1, _, h3⟩ => by subst h1; exact DenL.drop n h3
theorem DenL.take : ∀ (n : Nat) {ds : List D} {vs : List V}, DenL K H ds vs → DenL K H (ds.take n) (vs.take n)
 | 0, _, _, _ => rfl
 | _ + 1, [], _, h => by rw [show _ = [] from h]; exact rfl
 | n + 1, _ :: _, _, ⟨v, r, h1, h2, h3⟩ => by subst h1; exact ⟨v, r.take n, rfl, h2, DenL.take n h3⟩
theorem DenL.eraseIdx : ∀ (n : Nat) {ds : List D} {vs : List V}, DenL K H ds vs → DenL K H (ds.eraseIdx n) (vs.eraseIdx n)
 | _, [], _, h => by rw [show _ = [] from h]; exact rfl
 | 0, _ :: _, _, ⟨v, r, h1, _, h3⟩ => by subst h1; exact h3
 | n + 1, _ :: _, _, ⟨v, r, h1, h2, h3⟩ => by subst h1; exact ⟨v, r.eraseIdx n, rfl, h2, DenL.eraseIdx n h3⟩
theorem DenL.set {d : D} {v : V} (q : Den K H d v) : ∀ (n : Nat) {ds : List D} {vs : List V}, DenL K H ds vs → DenL K H (ds.set n d) (vs.set n v)
 | _, [], _, h => by rw [show _ = [] from h]; exact rfl
 | 0, _ :: _, _, ⟨_, r, h1, _, h3⟩ => by subst h1; exact ⟨v, r, rfl, q, h3⟩
 | n + 1, _ :: _, _, ⟨w, r, h1, h2, h3⟩ => by subst h1; exact ⟨w, r.set n v, rfl, h2, DenL.set q n h3⟩
end
noncomputable def nfz : HO → Bool
 | .frz _ _ => false
 | _ => true
structure Ext (G H G' H' : Hp) : Prop where
 gg : Same G G'
 hh : Same H H'
 gh : Same G' H'
 fr : ∀ a o, H a = some o → G a = none → nfz o = true → G' a = none
theorem Ext.refl {G H : Hp} (h : Same G H) : Ext G H G H := ⟨Same.refl G, Same.refl H, h, fun _ _ _ q _ => q⟩
theorem Ext.trans {G H G1 H1 G2 H2 : Hp} (a : Ext G H G1 H1) (b : Ext G1 H1 G2 H2) : Ext G H G2 H2 :=
 ⟨a.gg.trans b.gg, a.hh.trans b.hh, b.gh, fun x o h g z => b.fr x o (a.hh x o h) (a.fr x o h g z) z⟩
theorem cy {H : Hp} {p : Addr} (h : H p = none) (o : HO) : Same H (upd H p o) := fun b u q => by rw [ak (am q h)]; exact q
theorem Ext.new {G H : Hp} {p : Addr} (h : Same G H) (o : HO) (n : H p = none) : Ext G H (upd G p o) (upd H p o) := by
 have ng : G p = none := by
  cases e : G p with
  | none => rfl
  | some u => rw [h p u e] at n; cases n
 refine ⟨cy ng o, cy n o, fun b u q => ?_, fun a u q g _ => ?_⟩
 ·by_cases e : b = p
  ·subst e; rw [bg] at q ⊢; exact q
  ·rw [ak e] at q ⊢; exact h b u q
 ·rw [ak (am q n)]; exact g
theorem Ext.own {G H : Hp} {p : Addr} (h : Same G H) (o : HO) (n : H p = none) : Ext G H G (upd H p o) := by
 refine ⟨Same.refl G, cy n o, fun b u q => ?_, fun a u q g _ => g⟩
 exact cy n o b u (h b u q)
theorem Ext.known {G H : Hp} {p : Addr} {o : Obj} {u : HO} (h : Same G H) (e : H p = some (.frz o u)) : Ext G H (upd G p (.frz o u)) H := by
 refine ⟨fun b v q => ?_, Same.refl H, fun b v q => ?_, fun a v q g z => ?_⟩
 ·by_cases hb : b = p
  ·subst hb; rw [bg, ← e]; exact h b v q
  ·rw [ak hb]; exact q
 ·by_cases hb : b = p
  ·subst hb; rw [bg] at q; rw [e]; exact q
  ·rw [ak hb] at q; exact h b v q
 ·by_cases hb : a = p
  ·subst hb; rw [e] at q; cases q; cases z
  ·rw [ak hb]; exact g
noncomputable def Arg (K : KA) (G H : Hp) (d : D) (v : V) : Prop :=
 Den K G d v ∨ (∃ ds a vs, d = .lst ds ∧ v = .ref a ∧ SqL K H a vs ∧ DenL K G ds vs) ∨
  ∃ t kvs a, d = .dct t kvs ∧ v = .ref a ∧ ((t = false ∧ ∃ es, H a = some (.dK es) ∧ DenK K G kvs es) ∨ (t = true ∧ ∃ es, H a = some (.dT es) ∧ DenT K G kvs es))
theorem Arg.ext {K : KA} {G H G' H' : Hp} {d : D} {v : V} (e : Ext G H G' H') (h : Arg K G H d v) : Arg K G' H' d v := by
 rcases h with h | ⟨ds, a, vs, h1, h2, h3, h4⟩ | ⟨t, kvs, a, h1, h2, h3⟩
 ·exact .inl (h.mono e.gg)
 ·exact .inr (.inl ⟨ds, a, vs, h1, h2, SqL.mono e.hh h3, h4.mono e.gg⟩)
 ·exact .inr (.inr ⟨t, kvs, a, h1, h2, h3.elim (fun ⟨z, es, q1, q2⟩ => .inl ⟨z, es, e.hh _ _ q1, q2.mono e.gg⟩) fun ⟨z, es, q1, q2⟩ => .inr ⟨z, es, e.hh _ _ q1, q2.mono e.gg⟩⟩)
theorem Arg.lst {K : KA} {G H : Hp} {ds : List D} {v : V} (s : Same G H) (h : Arg K G H (.lst ds) v) : ∃ a vs, v = .ref a ∧ SqL K H a vs ∧ DenL K G ds vs := by
 rcases h with ⟨a, vs, h1, h2, h3⟩ | ⟨ds', a, vs, h1, h2, h3, h4⟩ | ⟨t, kvs, a, h1, _⟩
 ·exact ⟨a, vs, h1, SqL.mono s h2, h3⟩
 ·cases h1; exact ⟨a, vs, h2, h3, h4⟩
 ·cases h1
theorem Arg.tup0 {K : KA} {G H : Hp} {ds : List D} {v : V} (s : Same G H) (h : Arg K G H (.tup ds) v) : ∃ a vs, v = .ref a ∧ H a = some (.tup vs) ∧ DenL K G ds vs := by
 rcases h with ⟨a, vs, h1, h2, h3⟩ | ⟨ds', a, vs, h1, _⟩ | ⟨t, kvs, a, h1, _⟩
 ·exact ⟨a, vs, h1, s _ _ h2, h3⟩
 ·cases h1
 ·cases h1
theorem Arg.tup {K : KA} {G H : Hp} {ds : List D} {v : V} (s : Same G H) (h : Arg K G H (.tup ds) v) : ∃ a vs, v = .ref a ∧ SqT K H a vs ∧ DenL K G ds vs := by
 obtain ⟨a, vs, h1, h2, h3⟩ := h.tup0 s
 exact ⟨a, vs, h1, .inl (.inl h2), h3⟩
theorem Arg.int {K : KA} {G H : Hp} {i : Int} {v : V} (h : Arg K G H (.int i) v) : v = .int i := by
 rcases h with h | ⟨ds', a, vs, h1, _⟩ | ⟨t, kvs, a, h1, _⟩
 ·exact h
 ·cases h1
 ·cases h1
theorem Arg.bl {K : KA} {G H : Hp} {i : Bool} {v : V} (h : Arg K G H (.bl i) v) : v = .bl i := by
 rcases h with h | ⟨ds', a, vs, h1, _⟩ | ⟨t, kvs, a, h1, _⟩
 ·exact h
 ·cases h1
 ·cases h1
theorem Arg.str {K : KA} {G H : Hp} {i : Str} {v : V} (h : Arg K G H (.str i) v) : v = .str i := by
 rcases h with h | ⟨ds', a, vs, h1, _⟩ | ⟨t, kvs, a, h1, _⟩
 ·exact h
 ·cases h1
 ·cases h1
theorem Arg.non {K : KA} {G H : Hp} {v : V} (h : Arg K G H .non v) : v = .non := by
 rcases h with h | ⟨ds', a, vs, h1, _⟩ | ⟨t, kvs, a, h1, _⟩
 ·exact h
 ·cases h1
 ·cases h1
theorem Arg.fn {K : KA} {G H : Hp} {f : Str} {v : V} (h : Arg K G H (.fn f) v) : v = .ref (K.A f) := by
 rcases h with h | ⟨ds', a, vs, h1, _⟩ | ⟨t, kvs, a, h1, _⟩
 ·exact h
 ·cases h1
 ·cases h1
inductive Res where
 | ok (d : D)
 | er (c : Str)
 | st
noncomputable def Res.bind (r : Res) (f : D → Res) : Res := match r with
 | .ok d => f d
 | .er c => .er c
 | .st => .st
noncomputable def Res.of (o : Option D) : Res := match o with
 | some d => .ok d
 | none => .st
inductive ResL where
 | ok (ds : List D)
 | er (c : Str)
 | st
inductive Sl where
 | no
 | pu (d : D)
 | bo (d : D)
 | ow (ds : List D)
 | od (t : Bool) (kvs : List (D × D))
noncomputable abbrev En := List Sl
noncomputable def SlOk (K : KA) (B G H : Hp) : Sl → Option V → Prop
 | .no, _ => True
 | .pu d, o => ∃ v, o = some v ∧ Den K G d v
 | .bo d, o => ∃ v, o = some v ∧ Arg K G B d v
 | .ow ds, o => ∃ a vs, o = some (.ref a) ∧ H a = some (.lst vs) ∧ DenL K G ds vs
 | .od false kvs, o => ∃ a es, o = some (.ref a) ∧ H a = some (.dK es) ∧ DenK K G kvs es
 | .od true kvs, o => ∃ a es, o = some (.ref a) ∧ H a = some (.dT es) ∧ DenT K G kvs es
noncomputable def Sl.own : Sl → Bool
 | .ow _ => true
 | .od _ _ => true
 | _ => false
noncomputable def GOk (H : Hp) : Prop := ∀ p ∈ tbs, H p.2.1 = some (.tbl (p.2.2))
theorem GOk.same {H H' : Hp} (e : Same H H') (h : GOk H) : GOk H' := fun p hp => e _ _ (h p hp)
structure EnvR (K : KA) (B G H : Hp) (σ : St) (δ : En) : Prop where
 bh : Same B H
 gh : Same G H
 len : σ.length = δ.length
 sl : ∀ (i : Nat) s, δ[i]? = some s → ∃ o, σ[i]? = some o ∧ SlOk K B G H s o
 own : ∀ (i : Nat) s a, δ[i]? = some s → s.own = true → σ[i]? = some (some (V.ref a)) → G a = none ∧ B a = none
 dis : ∀ (i j : Nat) s t a, δ[i]? = some s → δ[j]? = some t → s.own = true → t.own = true → σ[i]? = some (some (V.ref a)) → σ[j]? = some (some (V.ref a)) → i = j
 gb : GOk B
theorem argG {K : KA} {G G' H : Hp} {d : D} {v : V} (e : Same G G') (h : Arg K G H d v) : Arg K G' H d v := by
 rcases h with h | ⟨ds, a, vs, h1, h2, h3, h4⟩ | ⟨t, kvs, a, h1, h2, h3⟩
 ·exact .inl (h.mono e)
 ·exact .inr (.inl ⟨ds, a, vs, h1, h2, h3, h4.mono e⟩)
 ·exact .inr (.inr ⟨t, kvs, a, h1, h2, h3.elim (fun ⟨z, es, q1, q2⟩ => .inl ⟨z, es, q1, q2.mono e⟩) fun ⟨z, es, q1, q2⟩ => .inr ⟨z, es, q1, q2.mono e⟩⟩)
theorem argH {K : KA} {G H H' : Hp} {d : D} {v : V} (e : Same H H') (h : Arg K G H d v) : Arg K G H' d v := by
 rcases h with h | ⟨ds, a, vs, h1, h2, h3, h4⟩ | ⟨t, kvs, a, h1, h2, h3⟩
 ·exact .inl h
 ·exact .inr (.inl ⟨ds, a, vs, h1, h2, SqL.mono e h3, h4⟩)
 ·exact .inr (.inr ⟨t, kvs, a, h1, h2, h3.elim (fun ⟨z, es, q1, q2⟩ => .inl ⟨z, es, e _ _ q1, q2⟩) fun ⟨z, es, q1, q2⟩ => .inr ⟨z, es, e _ _ q1, q2⟩⟩)
theorem SlOk.ext {K : KA} {B G H G' H' : Hp} (e : Ext G H G' H') {s : Sl} {o : Option V} (h : SlOk K B G H s o) : SlOk K B G' H' s o := by
 cases s with
 | no => trivial
 | pu d => obtain ⟨v, h1, h2⟩ := h; exact ⟨v, h1, h2.mono e.gg⟩
 | bo d => obtain ⟨v, h1, h2⟩ := h; exact ⟨v, h1, argG e.gg h2⟩
 | ow ds => obtain ⟨a, vs, h1, h2, h3⟩ := h; exact ⟨a, vs, h1, e.hh _ _ h2, h3.mono e.gg⟩
 | od t kvs =>
  cases t with
  | false => obtain ⟨a, vs, h1, h2, h3⟩ := h; exact ⟨a, vs, h1, e.hh _ _ h2, h3.mono e.gg⟩
  | true => obtain ⟨a, vs, h1, h2, h3⟩ := h; exact ⟨a, vs, h1, e.hh _ _ h2, h3.mono e.gg⟩
theorem SlOk.ref {K : KA} {B G H : Hp} {s : Sl} {o : Option V} (h : SlOk K B G H s o) (q : s.own = true) : ∃ a, o = some (V.ref a) ∧ ∃ u, H a = some u ∧ nfz u = true := by
 cases s with
 | no => cases q
 | pu d => cases q
 | bo d => cases q
 | ow ds => obtain ⟨a, vs, h1, h2, _⟩ := h; exact ⟨a, h1, _, h2, rfl⟩
 | od t kvs =>
  cases t with
  | false => obtain ⟨a, vs, h1, h2, _⟩ := h; exact ⟨a, h1, _, h2, rfl⟩
  | true => obtain ⟨a, vs, h1, h2, _⟩ := h; exact ⟨a, h1, _, h2, rfl⟩
theorem EnvR.ext {K : KA} {B G H G' H' : Hp} {σ : St} {δ : En} (e : Ext G H G' H') (r : EnvR K B G H σ δ) : EnvR K B G' H' σ δ where
 bh := r.bh.trans e.hh
 gb := r.gb
 gh := e.gh
 len := r.len
 sl := fun i s h => by
  obtain ⟨o, q1, q2⟩ := r.sl i s h
  exact ⟨o, q1, q2.ext e⟩
 own := fun i s a h1 h2 h3 => by
  obtain ⟨g, b⟩ := r.own i s a h1 h2 h3
  obtain ⟨o, q1, q2⟩ := r.sl i s h1
  rw [h3] at q1
  cases q1
  obtain ⟨a', z, u, q3, q4⟩ := q2.ref h2
  cases z
  exact ⟨e.fr a u q3 g q4, b⟩
 dis := r.dis
noncomputable def ResP (E : EK) (G H : Hp) (r : Res) (P : D → Prop) : Prop := match r with
 | .ok d => P d
 | .er c => ∀ G' H', Ext G H G' H' → E c H'
 | .st => False
noncomputable def ResLP (E : EK) (G H : Hp) (r : ResL) (P : List D → Prop) : Prop := match r with
 | .ok ds => P ds
 | .er c => ∀ G' H', Ext G H G' H' → E c H'
 | .st => False
section
variable {E : EK} {G H G' H' : Hp}
theorem ResP.mono {r : Res} {P P' : D → Prop} (h : ResP E G H r P) (f : ∀ d, r = .ok d → P d → P' d) : ResP E G H r P' := by
 cases r with
 | ok d => exact f d rfl h
 | er c => exact h
 | st => exact h
theorem ResP.ext {r : Res} {P : D → Prop} (e : Ext G H G' H') (h : ResP E G H r P) : ResP E G' H' r P := by
 cases r with
 | ok d => exact h
 | er c => exact fun G2 H2 e2 => h G2 H2 (e.trans e2)
 | st => exact h
theorem ResP.bind {r : Res} {f : D → Res} {P : D → Prop} (h : ResP E G H (r.bind f) P) : ResP E G H r fun d => ResP E G H (f d) P := by
 cases r with
 | ok d => exact h
 | er c => exact h
 | st => exact h
theorem ResP.of {o : Option D} {P : D → Prop} (h : ResP E G H (Res.of o) P) : ∃ d, o = some d ∧ P d := by
 cases o with
 | some d => exact ⟨d, rfl, h⟩
 | none => exact h.elim
theorem ResLP.mono {r : ResL} {P P' : List D → Prop} (h : ResLP E G H r P) (f : ∀ d, r = .ok d → P d → P' d) : ResLP E G H r P' := by
 cases r with
 | ok d => exact f d rfl h
 | er c => exact h
 | st => exact h
theorem ResLP.ext {r : ResL} {P : List D → Prop} (e : Ext G H G' H') (h : ResLP E G H r P) : ResLP E G' H' r P := by
 cases r with
 | ok d => exact h
 | er c => exact fun G2 H2 e2 => h G2 H2 (e.trans e2)
 | st => exact h
end
noncomputable def ArgM (K : KA) (G H : Hp) (m : Bool) (d : D) (v : V) : Prop := match m with
 | true => Arg K G H d v
 | false => Den K G d v
noncomputable def ArgsM (K : KA) (G H : Hp) : List Bool → List D → List V → Prop
 | [], ds, vs => ds = [] ∧ vs = []
 | m :: ms, ds, vs => ∃ d dr v vr, ds = d :: dr ∧ vs = v :: vr ∧ ArgM K G H m d v ∧ ArgsM K G H ms dr vr
theorem ArgM.ext {K : KA} {G H G' H' : Hp} (e : Ext G H G' H') : ∀ {m : Bool} {d : D} {v : V}, ArgM K G H m d v → ArgM K G' H' m d v
 | true, _, _, h => Arg.ext e h
 | false, _, _, h => Den.mono e.gg h
theorem ArgsM.ext {K : KA} {G H G' H' : Hp} (e : Ext G H G' H') : ∀ {ms : List Bool} {ds : List D} {vs : List V}, ArgsM K G H ms ds vs → ArgsM K G' H' ms ds vs
 | [], _, _, h => h
 | _ :: _, _, _, ⟨d, dr, v, vr, h1, h2, h3, h4⟩ => ⟨d, dr, v, vr, h1, h2, h3.ext e, h4.ext e⟩
theorem ArgsM.length {K : KA} {G H : Hp} : ∀ {ms : List Bool} {ds : List D} {vs : List V}, ArgsM K G H ms ds vs → ds.length = ms.length ∧ vs.length = ms.length
 | [], _, _, ⟨h1, h2⟩ => by rw [h1, h2]; exact ⟨rfl, rfl⟩
 | _ :: _, _, _, ⟨d, dr, v, vr, h1, h2, h3, h4⟩ => by
  obtain ⟨q1, q2⟩ := h4.length
  rw [h1, h2, List.length_cons, List.length_cons, List.length_cons, q1, q2]
  exact ⟨rfl, rfl⟩
section
variable (K : KA) (B : Hp) (E : EK)
noncomputable def tPu (g : En → Res) : TE := fun σ H Q => ∃ G δ, EnvR K B G H σ δ ∧ ResP E G H (g δ) fun d => ∀ v G' H', Ext G H G' H' → Den K G' d v → Q v H'
noncomputable def tAr (g : En → Res) : TE := fun σ H Q => ∃ G δ, EnvR K B G H σ δ ∧ ResP E G H (g δ) fun d => ∀ v G' H', Ext G H G' H' → Arg K G' H' d v → Q v H'
noncomputable def tOw (g : En → Res) : TE := fun σ H Q => ∃ G δ, EnvR K B G H σ δ ∧ ResP E G H (g δ) fun d => ∃ ds, d = .lst ds ∧
 ∀ a vs G' H', Ext G H G' H' → H a = none → G' a = none → H' a = some (.lst vs) → DenL K G' ds vs → Q (.ref a) H'
noncomputable def tTe (g : En → Res) : TT := fun σ H Q => ∃ G δ, EnvR K B G H σ δ ∧ ResP E G H (g δ) fun d => ∃ b, d = .bl b ∧ ∀ G' H', Ext G H G' H' → Q b H'
noncomputable def tAl (ms : List Bool) (g : En → ResL) : TA := fun σ H Q => ∃ G δ, EnvR K B G H σ δ ∧ ResLP E G H (g δ) fun ds => ∀ vs G' H', Ext G H G' H' → ArgsM K G' H' ms ds vs → Q vs H'
end
noncomputable abbrev PuE (X : Cx) (B : Hp) (E : EK) (e : Expr) (g : En → Res) : Prop := PE X e (tPu (kx X) B E g)
noncomputable abbrev ArE (X : Cx) (B : Hp) (E : EK) (e : Expr) (g : En → Res) : Prop := PE X e (tAr (kx X) B E g)
noncomputable abbrev OwE (X : Cx) (B : Hp) (E : EK) (e : Expr) (g : En → Res) : Prop := PE X e (tOw (kx X) B E g)
noncomputable abbrev PuT (X : Cx) (B : Hp) (E : EK) (e : Expr) (g : En → Res) : Prop := PT X e (tTe (kx X) B E g)
noncomputable abbrev PuW (X : Cx) (B : Hp) (E : EK) (e : Expr) (g : En → Res) : Prop := PW X e (tTe (kx X) B E g)
noncomputable abbrev ArL (X : Cx) (B : Hp) (E : EK) (ms : List Bool) (es : List Expr) (g : En → ResL) : Prop := PA X es (tAl (kx X) B E ms g)
theorem PE.imp {X : Cx} {e : Expr} {t t' : TE} (h : PE X e t) (i : ∀ σ H Q, t' σ H Q → t σ H Q) : PE X e t' := fun pins s σ H Q I q => h pins s σ H Q I (i σ H Q q)
theorem PT.imp {X : Cx} {e : Expr} {t t' : TT} (h : PT X e t) (i : ∀ σ H Q, t' σ H Q → t σ H Q) : PT X e t' := fun pins s σ H Q I q => h pins s σ H Q I (i σ H Q q)
theorem PW.imp {X : Cx} {e : Expr} {t t' : TT} (h : PW X e t) (i : ∀ σ H Q, t' σ H Q → t σ H Q) : PW X e t' := fun wh pins s σ H Q I q => h wh pins s σ H Q I (i σ H Q q)
theorem PA.imp {X : Cx} {e : List Expr} {t t' : TA} (h : PA X e t) (i : ∀ σ H Q, t' σ H Q → t σ H Q) : PA X e t' := fun pos pins s σ H Q I q => h pos pins s σ H Q I (i σ H Q q)
section
variable {X : Cx} {B : Hp} {E : EK} {e a b c : Expr} {es : List Expr} {g h k : En → Res} {pos : Pos}
noncomputable def gVar (i : Nat) : En → Res := fun δ => match δ[i]? with
 | some (.pu d) => .ok d
 | _ => .st
noncomputable def gArg (i : Nat) : En → Res := fun δ => match δ[i]? with
 | some (.pu d) => .ok d
 | some (.bo d) => .ok d
 | some (.ow ds) => .ok (.lst ds)
 | some (.od t kvs) => .ok (.dct t kvs)
 | _ => .st
noncomputable def gC (d : D) : En → Res := fun _ => .ok d
theorem EnvR.var {K : KA} {G H : Hp} {σ : St} {δ : En} {i : Nat} {d : D} (R : EnvR K B G H σ δ) (h : δ[i]? = some (.pu d)) : ∃ v, σ[i]? = some (some v) ∧ Den K G d v := by
 obtain ⟨o, q1, v, q2, q3⟩ := R.sl i _ h
 exact ⟨v, by rw [q1, q2], q3⟩
theorem EnvR.arg {K : KA} {G H : Hp} {σ : St} {δ : En} {i : Nat} {d : D} (R : EnvR K B G H σ δ) (h : gArg i δ = .ok d) : ∃ v, σ[i]? = some (some v) ∧ Arg K G H d v := by
 unfold gArg at h
 cases e : δ[i]? with
 | none => rw [e] at h; cases h
 | some s =>
  rw [e] at h
  obtain ⟨o, q1, q2⟩ := R.sl i _ e
  cases s with
  | no => cases h
  | pu d' =>
   cases h
   obtain ⟨v, q2, q3⟩ := q2
   exact ⟨v, by rw [q1, q2], .inl q3⟩
  | bo d' =>
   cases h
   obtain ⟨v, q2, q3⟩ := q2
   exact ⟨v, by rw [q1, q2], argH R.bh q3⟩
  | ow ds =>
   cases h
   obtain ⟨a, vs, q2, q3, q4⟩ := q2
   exact ⟨.ref a, by rw [q1, q2], .inr (.inl ⟨ds, a, vs, rfl, rfl, SqL.of q3, q4⟩)⟩
  | od t kvs =>
   cases h
   cases t with
   | false =>
    obtain ⟨a, vs, q2, q3, q4⟩ := q2
    exact ⟨.ref a, by rw [q1, q2], .inr (.inr ⟨false, kvs, a, rfl, rfl, .inl ⟨rfl, vs, q3, q4⟩⟩)⟩
   | true =>
    obtain ⟨a, vs, q2, q3, q4⟩ := q2
    exact ⟨.ref a, by rw [q1, q2], .inr (.inr ⟨true, kvs, a, rfl, rfl, .inr ⟨rfl, vs, q3, q4⟩⟩)⟩
theorem pu_var (i : Nat) {x : Str} (h : PE X (.Name x pos) (tVar i)) : PuE X B E (.Name x pos) (gVar i) := PE.imp h fun σ H Q ⟨G, δ, R, q⟩ => by
 unfold gVar at q
 cases e : δ[i]? with
 | none => rw [e] at q; exact q.elim
 | some s =>
  rw [e] at q
  cases s with
  | pu d =>
   obtain ⟨v, q1, q2⟩ := R.var e
   exact ⟨v, q1, q v G H (Ext.refl R.gh) q2⟩
  | no => exact q.elim
  | bo d => exact q.elim
  | ow d => exact q.elim
  | od t d => exact q.elim
theorem ar_var (i : Nat) {x : Str} (h : PE X (.Name x pos) (tVar i)) : ArE X B E (.Name x pos) (gArg i) := PE.imp h fun σ H Q ⟨G, δ, R, q⟩ => by
 cases e : gArg i δ with
 | ok d =>
  rw [e] at q
  obtain ⟨v, q1, q2⟩ := R.arg e
  exact ⟨v, q1, q v G H (Ext.refl R.gh) q2⟩
 | er c =>
  unfold gArg at e
  split at e <;> cases e
 | st => rw [e] at q; exact q.elim
theorem pu_ar (h : PuE X B E e g) : ArE X B E e g := PE.imp h fun σ H Q ⟨G, δ, R, q⟩ => ⟨G, δ, R, q.mono fun d _ q v G' H' x y => q v G' H' x (.inl y)⟩
theorem pu_const {v : V} {d : D} (h : PE X e (tC v)) (r : ∀ H, Den (kx X) H d v) : PuE X B E e (gC d) := PE.imp h fun σ H Q ⟨G, δ, R, q⟩ => q v G H (Ext.refl R.gh) (r G)
theorem pu_int {i j} : PuE X B E (.Constant (.int i) j pos) (gC (.int i)) := pu_const pe_int fun _ => rfl
theorem pu_bl {b j} : PuE X B E (.Constant (.bool b) j pos) (gC (.bl b)) := pu_const pe_bl fun _ => rfl
theorem pu_non {j} : PuE X B E (.Constant .none j pos) (gC .non) := pu_const pe_non fun _ => rfl
theorem pu_str {x j} : PuE X B E (.Constant (.str x) j pos) (gC (.str x)) := pu_const pe_str fun _ => rfl
theorem pu_gstr {x y : Str} {t : Tok} (hg : Gl X x) (hm : X.mg x = some (.str y t)) (hd : (x == ("__debug__" : Str)) = false := by decide) : PuE X B E (.Name x pos) (gC (.str y)) := pu_const (v := .str y) (pe_glob hg hm ⟨t, rfl⟩ hd) fun _ => rfl
theorem adr_of {mg : Str → Option Value} {x : Str} {f : Addr} (h : mg x = some (.ref f)) : adr mg x = f := by unfold adr; rw [h]
theorem pu_gfn {x : Str} {f : Addr} (hg : Gl X x) (hm : X.mg x = some (.ref f)) (hd : (x == ("__debug__" : Str)) = false := by decide) : PuE X B E (.Name x pos) (gC (.fn x)) := pu_const (pe_glob (v := .ref f) hg hm rfl hd) fun _ => by show V.ref f = V.ref (adr X.mg x); rw [adr_of hm]
noncomputable def g1 (f : D → Option D) (g : En → Res) : En → Res := fun δ => (g δ).bind fun x => Res.of (f x)
noncomputable def g2 (f : D → D → Option D) (g h : En → Res) : En → Res := fun δ => (g δ).bind fun x => (h δ).bind fun y => Res.of (f x y)
noncomputable def Prim2 (K : KA) (f : D → D → Option D) (r : R2) : Prop := ∀ G H x y dx dy d, Same G H → Arg K G H dx x → Arg K G H dy y → f dx dy = some d →
 ∀ Q : VK, (∀ v G' H', Ext G H G' H' → Den K G' d v → Q v H') → r x y H Q
noncomputable def Prim1 (K : KA) (f : D → Option D) (r : V → Hp → VK → Prop) : Prop := ∀ G H x dx d, Same G H → Arg K G H dx x → f dx = some d →
 ∀ Q : VK, (∀ v G' H', Ext G H G' H' → Den K G' d v → Q v H') → r x H Q
theorem op2 {K : KA} {f : D → D → Option D} {r : R2} (hp : Prim2 K f r) {σ : St} {H : Hp} {Q : VK} (q : tPu K B E (g2 f g h) σ H Q) : tOp r (tAr K B E g) (tAr K B E h) σ H Q := by
 obtain ⟨G, δ, R, q⟩ := q
 refine ⟨G, δ, R, (ResP.bind q).mono fun dx _ qx x G1 H1 e1 ax => ⟨G1, δ, R.ext e1, ((ResP.bind qx).ext e1).mono fun dy _ qy y G2 H2 e2 ay => ?_⟩⟩
 obtain ⟨d, ed, qd⟩ := ResP.of qy
 exact hp G2 H2 x y dx dy d e2.gh (ax.ext e2) ay ed Q fun v G' H' e3 dn => qd v G' H' ((e1.trans e2).trans e3) dn
theorem op1 {K : KA} {f : D → Option D} {r : V → Hp → VK → Prop} (hp : Prim1 K f r) {σ : St} {H : Hp} {Q : VK} (q : tPu K B E (g1 f g) σ H Q) : tUn r (tAr K B E g) σ H Q := by
 obtain ⟨G, δ, R, q⟩ := q
 refine ⟨G, δ, R, (ResP.bind q).mono fun dx _ qx x G1 H1 e1 ax => ?_⟩
 obtain ⟨d, ed, qd⟩ := ResP.of qx
 exact hp G1 H1 x dx d e1.gh ax ed Q fun v G' H' e3 dn => qd v G' H' (e1.trans e3) dn
theorem pu_op {op : Operator} {f : D → D → Option D} {r : R2} (ho : OpR X (binaryOp op) r) (hp : Prim2 (kx X) f r) (ha : ArE X B E a g) (hb : ArE X B E b h) : PuE X B E (.BinOp a op b pos) (g2 f g h) :=
 PE.imp (pe_op ho ha hb) fun σ H Q q => op2 hp q
theorem pu_un {op : UnaryOp} {f : D → Option D} {r : V → Hp → VK → Prop} (ho : UnR X (unaryOp op) r) (hp : Prim1 (kx X) f r) (ha : ArE X B E a g) : PuE X B E (.UnaryOp op a pos) (g1 f g) :=
 PE.imp (pe_un ho ha) fun σ H Q q => op1 hp q
theorem pu_cmp {op : CmpOp} {f : D → D → Option D} {r : R2} (ho : OpR X (compareOp op) r) (hp : Prim2 (kx X) f r) (ha : ArE X B E a g) (hb : ArE X B E b h) (hm : behindInMarks op b = false) : PuE X B E (.Compare a [op] [b] pos) (g2 f g h) :=
 PE.imp (pe_cmpR ho ha hb hm) fun σ H Q q => op2 hp q
theorem pt_cmp' {op : CmpOp} {f : D → D → Option D} {r : R2} (ho : OpR X (compareOp op) r) (hp : Prim2 (kx X) f r) (hb' : ∀ x y d, f x y = some d → ∃ b, d = .bl b) (ha : ArE X B E a g) (hb : ArE X B E b h) (hm : behindInMarks op b = false) : PuT X B E (.Compare a [op] [b] pos) (g2 f g h) :=
 PT.imp (pt_cmpR ho ha hb hm) fun σ H Q ⟨G, δ, R, q⟩ => op2 hp ⟨G, δ, R, q.mono fun d ed ⟨b, eb, qb⟩ v G' H' e3 dn => by
  subst eb
  exact ⟨b, dn, qb G' H' e3⟩⟩
noncomputable def truD : D → Option Bool
 | .non => some false
 | .bl b => some b
 | .int i => some (i != 0)
 | .str x => if x.length ≤ sizeLine then some ((x.length : Int) != 0) else none
 | .tup ds => some !ds.isEmpty
 | .lst ds => some !ds.isEmpty
 | _ => none
noncomputable def bD (o : Option Bool) : Option D := o.map .bl
theorem isEmpty_den {K : KA} {G : Hp} {ds : List D} {vs : List V} (h : DenL K G ds vs) : (!ds.isEmpty) = !vs.isEmpty := by
 have q := h.length
 cases ds <;> cases vs <;> first | rfl | (simp at q)
theorem tru_arg {K : KA} {G H : Hp} {d : D} {v : V} {b : Bool} (s : Same G H) (h : Arg K G H d v) (e : truD d = some b) : TruV K v H b := by
 cases d with
 | non => rw [h.non]; cases e; rfl
 | bl i => rw [h.bl]; cases e; rfl
 | int i => rw [h.int]; cases e; rfl
 | str x =>
  rw [h.str]
  have e' : (if x.length ≤ sizeLine then some ((x.length : Int) != 0) else none) = some b := e
  by_cases hx : x.length ≤ sizeLine
  ·rw [if_pos hx] at e'; cases e'; exact ⟨hx, rfl⟩
  ·rw [if_neg hx] at e'; cases e'
 | tup ds =>
  obtain ⟨a, vs, rfl, q1, q2⟩ := h.tup s
  cases e
  exact .inr (.inl ⟨vs, q1, isEmpty_den q2⟩)
 | lst ds =>
  obtain ⟨a, vs, rfl, q1, q2⟩ := h.lst s
  cases e
  exact .inl ⟨vs, q1, isEmpty_den q2⟩
 | dct _ _ => cases e
 | obj _ _ => cases e
 | fn _ => cases e
theorem pt_tru (ha : ArE X B E a g) (he : ∀ whole, isTrue a X.env whole = (do let v ← whole; standAt a.pos; holding [v] (truthy v)) := by intro _; rfl) : PuT X B E a (g1 (fun d => bD (truD d)) g) :=
 PT.imp (pt_truth ha he) fun σ H Q ⟨G, δ, R, q⟩ => ⟨G, δ, R, (ResP.bind q).mono fun dx _ qx x G1 H1 e1 ax => by
  obtain ⟨d, ed, b, eb, qb⟩ := ResP.of qx
  dsimp only at ed
  cases et : truD dx with
  | none => rw [et] at ed; cases ed
  | some b' =>
   rw [et] at ed
   cases ed
   cases eb
   exact ⟨b, tru_arg e1.gh ax et, qb G1 H1 e1⟩⟩
noncomputable def gIf (c a b : En → Res) : En → Res := fun δ => (c δ).bind fun d => match d with
 | .bl true => a δ
 | .bl false => b δ
 | _ => .st
noncomputable def gNot (c : En → Res) : En → Res := fun δ => (c δ).bind fun d => match d with
 | .bl b => .ok (.bl !b)
 | _ => .st
noncomputable def gAnd (a b : En → Res) : En → Res := gIf a b (gC (.bl false))
noncomputable def gOr (a b : En → Res) : En → Res := gIf a (gC (.bl true)) b
theorem ifP {K : KA} {P : D → Prop} {c : En → Res} {δ : En} {a b : En → Res} {G H : Hp} (q : ResP E G H (gIf c a b δ) P) :
  ResP E G H (c δ) fun d => ∃ t, d = .bl t ∧ (t = true → ResP E G H (a δ) P) ∧ (t = false → ResP E G H (b δ) P) :=
 (ResP.bind q).mono fun d _ q => by
  cases d with
  | bl t => cases t with
   | true => exact ⟨true, rfl, fun _ => q, fun z => by cases z⟩
   | false => exact ⟨false, rfl, fun z => (by cases z), fun _ => q⟩
  | non => exact q.elim
  | int _ => exact q.elim
  | str _ => exact q.elim
  | tup _ => exact q.elim
  | lst _ => exact q.elim
  | dct _ _ => exact q.elim
  | obj _ _ => exact q.elim
  | fn _ => exact q.elim
theorem pt_not' (ha : PuT X B E a g) : PuT X B E (.UnaryOp .Not a pos) (gNot g) := PT.imp (pt_not ha) fun σ H Q ⟨G, δ, R, q⟩ => ⟨G, δ, R, (ResP.bind q).mono fun d _ q => by
 cases d with
 | bl t =>
  obtain ⟨b, eb, qb⟩ := q
  cases eb
  exact ⟨t, rfl, qb⟩
 | non => exact q.elim
 | int _ => exact q.elim
 | str _ => exact q.elim
 | tup _ => exact q.elim
 | lst _ => exact q.elim
 | dct _ _ => exact q.elim
 | obj _ _ => exact q.elim
 | fn _ => exact q.elim⟩
theorem pw_and1' (ha : PuT X B E a g) : PuW X B E (.BoolOp .And [a] pos) g := pw_and1 ha
theorem pw_or1' (ha : PuT X B E a g) : PuW X B E (.BoolOp .Or [a] pos) g := pw_or1 ha
theorem pw_and' {rest : List Expr} (ha : PuT X B E a g) (hb : PuW X B E (.BoolOp .And (b :: rest) pos) h) : PuW X B E (.BoolOp .And (a :: b :: rest) pos) (gAnd g h) :=
 PW.imp (pw_and ha hb) fun σ H Q ⟨G, δ, R, q⟩ => ⟨G, δ, R, (ifP (K := (kx X)) q).mono fun d _ ⟨t, ed, qt⟩ => ⟨t, ed, fun G1 H1 e1 => by
  cases t with
  | true => exact ⟨G1, δ, R.ext e1, ((qt.1 rfl).ext e1).mono fun d _ ⟨b, eb, qb⟩ => ⟨b, eb, fun G2 H2 e2 => qb G2 H2 (e1.trans e2)⟩⟩
  | false =>
   obtain ⟨b, eb, qb⟩ := (qt.2 rfl)
   cases eb
   exact qb G1 H1 e1⟩⟩
theorem pw_or' {rest : List Expr} (ha : PuT X B E a g) (hb : PuW X B E (.BoolOp .Or (b :: rest) pos) h) : PuW X B E (.BoolOp .Or (a :: b :: rest) pos) (gOr g h) :=
 PW.imp (pw_or ha hb) fun σ H Q ⟨G, δ, R, q⟩ => ⟨G, δ, R, (ifP (K := (kx X)) q).mono fun d _ ⟨t, ed, qt⟩ => ⟨t, ed, fun G1 H1 e1 => by
  cases t with
  | false => exact ⟨G1, δ, R.ext e1, ((qt.2 rfl).ext e1).mono fun d _ ⟨b, eb, qb⟩ => ⟨b, eb, fun G2 H2 e2 => qb G2 H2 (e1.trans e2)⟩⟩
  | true =>
   obtain ⟨b, eb, qb⟩ := (qt.1 rfl)
   cases eb
   exact qb G1 H1 e1⟩⟩
theorem pt_w (h : PuW X B E e g) : PuT X B E e g := PW.pt h
theorem pu_one {op} (h : PuE X B E a g) : PuE X B E (.BoolOp op [a] pos) g := pe_one h
theorem pu_and {rest : List Expr} (ha : PuE X B E a g) (hb : PuE X B E (.BoolOp .And (b :: rest) pos) h) : PuE X B E (.BoolOp .And (a :: b :: rest) pos) (gAnd g h) :=
 PE.imp (pe_and ha hb) fun σ H Q ⟨G, δ, R, q⟩ => ⟨G, δ, R, (ifP (K := (kx X)) q).mono fun d _ ⟨t, ed, qt⟩ v G1 H1 e1 dn => by
  subst ed
  refine ⟨t, dn, ?_⟩
  cases t with
  | true => exact ⟨G1, δ, R.ext e1, ((qt.1 rfl).ext e1).mono fun d _ qb v G2 H2 e2 dn => qb v G2 H2 (e1.trans e2) dn⟩
  | false => exact (qt.2 rfl) _ G1 H1 e1 rfl⟩
theorem pu_or {rest : List Expr} (ha : PuE X B E a g) (hb : PuE X B E (.BoolOp .Or (b :: rest) pos) h) : PuE X B E (.BoolOp .Or (a :: b :: rest) pos) (gOr g h) :=
 PE.imp (pe_or ha hb) fun σ H Q ⟨G, δ, R, q⟩ => ⟨G, δ, R, (ifP (K := (kx X)) q).mono fun d _ ⟨t, ed, qt⟩ v G1 H1 e1 dn => by
  subst ed
  refine ⟨t, dn, ?_⟩
  cases t with
  | false => exact ⟨G1, δ, R.ext e1, ((qt.2 rfl).ext e1).mono fun d _ qb v G2 H2 e2 dn => qb v G2 H2 (e1.trans e2) dn⟩
  | true => exact (qt.1 rfl) _ G1 H1 e1 rfl⟩
theorem pu_not (ha : PuE X B E a g) : PuE X B E (.UnaryOp .Not a pos) (gNot g) := PE.imp (pe_not ha) fun σ H Q ⟨G, δ, R, q⟩ => ⟨G, δ, R, (ResP.bind q).mono fun d _ q v G1 H1 e1 dn => by
 cases d with
 | bl t => exact ⟨t, dn, q _ G1 H1 e1 rfl⟩
 | non => exact q.elim
 | int _ => exact q.elim
 | str _ => exact q.elim
 | tup _ => exact q.elim
 | lst _ => exact q.elim
 | dct _ _ => exact q.elim
 | obj _ _ => exact q.elim
 | fn _ => exact q.elim⟩
theorem pu_if {c : Expr} (hc : PuT X B E c k) (ha : PuE X B E a g) (hb : PuE X B E b h) : PuE X B E (.IfExp c a b pos) (gIf k g h) :=
 PE.imp (pe_ifExp hc ha hb) fun σ H Q ⟨G, δ, R, q⟩ => ⟨G, δ, R, (ifP (K := (kx X)) q).mono fun d _ ⟨t, ed, qt⟩ => ⟨t, ed, fun G1 H1 e1 => by
  cases t with
  | true => exact ⟨G1, δ, R.ext e1, ((qt.1 rfl).ext e1).mono fun d _ qb v G2 H2 e2 dn => qb v G2 H2 (e1.trans e2) dn⟩
  | false => exact ⟨G1, δ, R.ext e1, ((qt.2 rfl).ext e1).mono fun d _ qb v G2 H2 e2 dn => qb v G2 H2 (e1.trans e2) dn⟩⟩⟩
noncomputable def gNil : En → ResL := fun _ => .ok []
noncomputable def aa (g : En → Res) (r : En → ResL) : En → ResL := fun δ => match g δ with
 | .ok d => (match r δ with
  | .ok ds => .ok (d :: ds)
  | .er c => .er c
  | .st => .st)
 | .er c => .er c
 | .st => .st
theorem consP {G H : Hp} {δ : En} {r : En → ResL} {P : List D → Prop} (q : ResLP E G H (aa g r δ) P) : ResP E G H (g δ) fun d => ResLP E G H (r δ) fun ds => P (d :: ds) := by
 unfold aa at q
 cases e : g δ with
 | ok d =>
  rw [e] at q
  cases e2 : r δ with
  | ok ds => rw [e2] at q; exact q
  | er c => rw [e2] at q; exact q
  | st => rw [e2] at q; exact q
 | er c => rw [e] at q; exact q
 | st => rw [e] at q; exact q
theorem al_nil : ArL X B E [] [] gNil := PA.imp pa_nil fun σ H Q ⟨G, δ, R, q⟩ => q [] G H (Ext.refl R.gh) ⟨rfl, rfl⟩
theorem gd {ms : List Bool} {r : En → ResL} (ha : ArE X B E e g) (hr : ArL X B E ms es r) (hs : starEach (e :: es) X.env = (false, eval e X.env) :: starEach es X.env := by rfl) : ArL X B E (true :: ms) (e :: es) (aa g r) :=
 PA.imp (pa_cons ha hr hs) fun σ H Q ⟨G, δ, R, q⟩ => ⟨G, δ, R, (consP q).mono fun d _ q x G1 H1 e1 ax => ⟨G1, δ, R.ext e1, (q.ext e1).mono fun ds _ q vs G2 H2 e2 al =>
  q (x :: vs) G2 H2 (e1.trans e2) ⟨d, ds, x, vs, rfl, rfl, ax.ext e2, al⟩⟩⟩
theorem al_consP {ms : List Bool} {r : En → ResL} (ha : PuE X B E e g) (hr : ArL X B E ms es r) (hs : starEach (e :: es) X.env = (false, eval e X.env) :: starEach es X.env := by rfl) : ArL X B E (false :: ms) (e :: es) (aa g r) :=
 PA.imp (pa_cons ha hr hs) fun σ H Q ⟨G, δ, R, q⟩ => ⟨G, δ, R, (consP q).mono fun d _ q x G1 H1 e1 ax => ⟨G1, δ, R.ext e1, (q.ext e1).mono fun ds _ q vs G2 H2 e2 al =>
  q (x :: vs) G2 H2 (e1.trans e2) ⟨d, ds, x, vs, rfl, rfl, ax.mono e2.gg, al⟩⟩⟩
noncomputable def allF : List Bool → Bool
 | [] => true
 | b :: r => !b && allF r
theorem ArgsM.den {K : KA} {G H : Hp} : ∀ {ms : List Bool} {ds : List D} {vs : List V}, allF ms = true → ArgsM K G H ms ds vs → DenL K G ds vs
 | [], _, _, _, ⟨h1, h2⟩ => by subst h1; subst h2; exact rfl
 | true :: _, _, _, h, _ => by simp [allF] at h
 | false :: ms, _, _, h, ⟨d, dr, v, vr, h1, h2, h3, h4⟩ => by
  subst h1; subst h2
  exact ⟨v, vr, rfl, h3, ArgsM.den (by simpa [allF] using h) h4⟩
noncomputable def gTup (r : En → ResL) : En → Res := fun δ => match r δ with
 | .ok ds => if ds.length ≤ sizeLine then .ok (.tup ds) else .st
 | .er c => .er c
 | .st => .st
noncomputable def gLst (r : En → ResL) : En → Res := fun δ => match r δ with
 | .ok ds => if ds.length ≤ sizeLine then .ok (.lst ds) else .st
 | .er c => .er c
 | .st => .st
theorem tupP {G H : Hp} {δ : En} {r : En → ResL} {P : D → Prop} (q : ResP E G H (gTup r δ) P) : ResLP E G H (r δ) fun ds => ds.length ≤ sizeLine ∧ P (.tup ds) := by
 unfold gTup at q
 cases e : r δ with
 | ok ds =>
  rw [e] at q
  by_cases hl : ds.length ≤ sizeLine
  ·simp only [if_pos hl] at q; exact ⟨hl, q⟩
  ·simp only [if_neg hl] at q; exact q.elim
 | er c => rw [e] at q; exact q
 | st => rw [e] at q; exact q
theorem lstP {G H : Hp} {δ : En} {r : En → ResL} {P : D → Prop} (q : ResP E G H (gLst r δ) P) : ResLP E G H (r δ) fun ds => ds.length ≤ sizeLine ∧ P (.lst ds) := by
 unfold gLst at q
 cases e : r δ with
 | ok ds =>
  rw [e] at q
  by_cases hl : ds.length ≤ sizeLine
  ·simp only [if_pos hl] at q; exact ⟨hl, q⟩
  ·simp only [if_neg hl] at q; exact q.elim
 | er c => rw [e] at q; exact q
 | st => rw [e] at q; exact q
theorem DenL.upd {K : KA} {G : Hp} {p : Addr} {ds : List D} {vs : List V} (h : DenL K G ds vs) (n : G p = none) (o : HO) : DenL K (upd G p o) ds vs := h.mono (cy n o)
theorem fy {G H : Hp} {p : Addr} (s : Same G H) (n : H p = none) : G p = none := by
 cases e : G p with
 | none => rfl
 | some u => rw [s p u e] at n; cases n
theorem den_newT {K : KA} {G H : Hp} {p : Addr} {ds : List D} {vs : List V} (s : Same G H) (n : H p = none) (h : DenL K G ds vs) : Den K (upd G p (.tup vs)) (.tup ds) (.ref p) :=
 ⟨p, vs, rfl, bg, h.upd (fy s n) _⟩
theorem den_newL {K : KA} {G H : Hp} {p : Addr} {ds : List D} {vs : List V} (s : Same G H) (n : H p = none) (h : DenL K G ds vs) : Den K (upd G p (.lst vs)) (.lst ds) (.ref p) :=
 ⟨p, vs, rfl, SqL.of bg, h.upd (fy s n) _⟩
theorem pu_tup {x1} {ms : List Bool} {r : En → ResL} (hm : allF ms = true) (h : ArL X B E ms es r) : PuE X B E (.Tuple es x1 pos) (gTup r) :=
 PE.imp (pe_tup h) fun σ H Q ⟨G, δ, R, q⟩ => ⟨G, δ, R, (tupP q).mono fun ds _ ⟨hl, q⟩ vs G1 H1 e1 al => by
  have dl := al.den hm
  refine ⟨by rw [← dl.length]; exact hl, fun p hp => q _ (upd G1 p (.tup vs)) _ (e1.trans (Ext.new e1.gh _ hp)) (den_newT e1.gh hp dl)⟩⟩
theorem ow_lst {ms : List Bool} {r : En → ResL} (hm : allF ms = true) (h : ArL X B E ms es r) : OwE X B E (.List es pos) (gLst r) :=
 PE.imp (pe_lst h) fun σ H Q ⟨G, δ, R, q⟩ => ⟨G, δ, R, (lstP q).mono fun ds _ ⟨hl, ds', ed, q⟩ vs G1 H1 e1 al => by
  cases ed
  have dl := al.den hm
  refine ⟨by rw [← dl.length]; exact hl, fun p hp => q p vs G1 _ (e1.trans (Ext.own e1.gh _ hp)) (fy e1.hh hp) (fy e1.gh hp) bg dl⟩⟩
theorem Ext.freeze {G H G' H' : Hp} {a : Addr} {vs : List V} (e : Ext G H G' H') (hn : H a = none) (gn : G' a = none) (h : H' a = some (.lst vs)) : Ext G H (upd G' a (.lst vs)) H' := by
 refine ⟨e.gg.trans (cy gn _), e.hh, fun b u q => ?_, fun b u q g z => ?_⟩
 ·by_cases z : b = a
  ·subst z; rw [bg] at q; rw [h]; exact q
  ·rw [ak z] at q; exact e.gh b u q
 ·rw [ak (am q hn)]; exact e.fr b u q g z
noncomputable def IsL (g : En → Res) : Prop := ∀ δ d, g δ = .ok d → ∃ ds, d = .lst ds
theorem isL_lst {r : En → ResL} : IsL (gLst r) := fun δ d h => by
 unfold gLst at h
 cases e : r δ with
 | ok ds =>
  rw [e] at h
  by_cases hl : ds.length ≤ sizeLine
  ·simp only [if_pos hl] at h; cases h; exact ⟨ds, rfl⟩
  ·simp only [if_neg hl] at h; cases h
 | er c => rw [e] at h; cases h
 | st => rw [e] at h; cases h
theorem ow_pu (h : OwE X B E e g) (hl : IsL g) : PuE X B E e g := PE.imp h fun σ H Q ⟨G, δ, R, q⟩ => ⟨G, δ, R, q.mono fun d ed q => by
 obtain ⟨ds, rfl⟩ := hl δ d ed
 exact ⟨ds, rfl, fun a vs G' H' e1 hn gn hh dl => q _ (upd G' a (.lst vs)) H' (e1.freeze hn gn hh) ⟨a, vs, rfl, SqL.of bg, dl.mono (cy gn _)⟩⟩⟩
theorem pu_lst {ms : List Bool} {r : En → ResL} (hm : allF ms = true) (h : ArL X B E ms es r) : PuE X B E (.List es pos) (gLst r) := ow_pu (ow_lst hm h) isL_lst
end
inductive Out where
 | nx (δ : En)
 | bk (δ : En)
 | ct (δ : En)
 | rt (d : D)
 | er (c : Str)
 | st
noncomputable def OutP (K : KA) (G0 B : Hp) (E : EK) (G : Hp) (o : Out) (D : Ends) : Prop := match o with
 | .nx δ => ∀ σ' G' H', Same G G' → EnvR K B G' H' σ' δ → Ext G0 B G' H' → D.nx σ' H'
 | .bk δ => ∀ σ' G' H', Same G G' → EnvR K B G' H' σ' δ → Ext G0 B G' H' → D.bk σ' H'
 | .ct δ => ∀ σ' G' H', Same G G' → EnvR K B G' H' σ' δ → Ext G0 B G' H' → D.ct σ' H'
 | .rt d => ∀ v G' H', Ext G0 B G' H' → Den K G' d v → D.rt v H'
 | .er c => ∀ G' H', Ext G0 B G' H' → E c H'
 | .st => False
noncomputable def tSt (K : KA) (G0 B : Hp) (E : EK) (F : En → Out) : TS := fun D σ H => ∃ G δ, EnvR K B G H σ δ ∧ Ext G0 B G H ∧ OutP K G0 B E G (F δ) D
noncomputable abbrev PuS (X : Cx) (G0 B : Hp) (E : EK) (st : Stmt) (F : En → Out) : Prop := PS X st (tSt (kx X) G0 B E F)
noncomputable abbrev PuSs (X : Cx) (G0 B : Hp) (E : EK) (st : List Stmt) (F : En → Out) : Prop := PSs X st (tSt (kx X) G0 B E F)
theorem PS.imp {X : Cx} {st : Stmt} {t t' : TS} (h : PS X st t) (i : ∀ D σ H, t' D σ H → t D σ H) : PS X st t' := fun pins s σ H D I q => h pins s σ H D I (i D σ H q)
theorem PSs.imp {X : Cx} {st : List Stmt} {t t' : TS} (h : PSs X st t) (i : ∀ D σ H, t' D σ H → t D σ H) : PSs X st t' := fun pins s σ H D I q => h pins s σ H D I (i D σ H q)
theorem OutP.same {K : KA} {G0 B : Hp} {E : EK} {G G1 : Hp} {o : Out} {D : Ends} (s : Same G G1) (h : OutP K G0 B E G o D) : OutP K G0 B E G1 o D := by
 cases o with
 | nx δ => exact fun σ' G' H' q => h σ' G' H' (s.trans q)
 | bk δ => exact fun σ' G' H' q => h σ' G' H' (s.trans q)
 | ct δ => exact fun σ' G' H' q => h σ' G' H' (s.trans q)
 | rt d => exact h
 | er c => exact h
 | st => exact h
noncomputable def Res.then (r : Res) (f : D → Out) : Out := match r with
 | .ok d => f d
 | .er c => .er c
 | .st => .st
theorem thenP {K : KA} {G0 B : Hp} {E : EK} {G H : Hp} {r : Res} {f : D → Out} {D : Ends} (e : Ext G0 B G H) (h : OutP K G0 B E G (r.then f) D) : ResP E G H r fun d => OutP K G0 B E G (f d) D := by
 cases r with
 | ok d => exact h
 | er c => exact fun G' H' q => h G' H' (e.trans q)
 | st => exact h
section
variable {X : Cx} {G0 B : Hp} {E : EK} {e c : Expr} {st : Stmt} {rest ss tt : List Stmt} {F F1 F2 : En → Out} {g : En → Res} {pos : Pos}
noncomputable def sNil : En → Out := fun δ => .nx δ
noncomputable def sSeq (F1 F2 : En → Out) : En → Out := fun δ => match F1 δ with
 | .nx δ' => F2 δ'
 | o => o
theorem ss_nil : PuSs X G0 B E [] sNil := PSs.imp pss_nil fun D σ H ⟨G, δ, R, e, q⟩ => q σ G H (Same.refl G) R e
theorem seqP {K : KA} {D : Ends} {σ : St} {H : Hp} (q : tSt K G0 B E (sSeq F1 F2) D σ H) : tSeq (tSt K G0 B E F1) (tSt K G0 B E F2) D σ H := by
 obtain ⟨G, δ, R, e, q⟩ := q
 refine ⟨G, δ, R, e, ?_⟩
 unfold sSeq at q
 cases ef : F1 δ with
 | nx δ' =>
  rw [ef] at q
  exact fun σ' G' H' s R' e' => ⟨G', δ', R', e', OutP.same s q⟩
 | bk δ' => rw [ef] at q; exact q
 | ct δ' => rw [ef] at q; exact q
 | rt d => rw [ef] at q; exact q
 | er c => rw [ef] at q; exact q
 | st => rw [ef] at q; exact q
theorem ss_cons (h1 : PuS X G0 B E st F1) (h2 : PuSs X G0 B E rest F2) : PuSs X G0 B E (st :: rest) (sSeq F1 F2) := PSs.imp (pss_cons h1 h2) fun D σ H q => seqP q
theorem ss_one (h1 : PuS X G0 B E st F1) : PuSs X G0 B E [st] F1 := pss_one h1
noncomputable def sPass : En → Out := fun δ => .nx δ
noncomputable def sBreak : En → Out := fun δ => .bk δ
noncomputable def sCont : En → Out := fun δ => .ct δ
theorem s_pass : PuS X G0 B E (.Pass pos) sPass := PS.imp ps_pass fun D σ H ⟨G, δ, R, e, q⟩ => q σ G H (Same.refl G) R e
theorem s_break : PuS X G0 B E (.Break pos) sBreak := PS.imp ps_break fun D σ H ⟨G, δ, R, e, q⟩ => q σ G H (Same.refl G) R e
theorem s_cont : PuS X G0 B E (.Continue pos) sCont := PS.imp ps_continue fun D σ H ⟨G, δ, R, e, q⟩ => q σ G H (Same.refl G) R e
theorem s_doc {x j pos pos'} : PuS X G0 B E (.Expr (.Constant (.str x) j pos) pos') sPass := PS.imp ps_doc fun D σ H ⟨G, δ, R, e, q⟩ => q σ G H (Same.refl G) R e
noncomputable def sRet (g : En → Res) : En → Out := fun δ => (g δ).then .rt
theorem s_ret (h : PuE X B E e g) : PuS X G0 B E (.Return (some e) pos) (sRet g) := PS.imp (ps_ret h) fun D σ H ⟨G, δ, R, e, q⟩ => ⟨G, δ, R, (thenP e q).mono fun d _ q v G' H' e1 dn => q v G' H' (e.trans e1) dn⟩
noncomputable def sIf (c : En → Res) (a b : En → Out) : En → Out := fun δ => (c δ).then fun d => match d with
 | .bl true => a δ
 | .bl false => b δ
 | _ => .st
theorem s_if (hc : PuT X B E c g) (ha : PuSs X G0 B E ss F1) (hb : PuSs X G0 B E tt F2) : PuS X G0 B E (.If c ss tt pos) (sIf g F1 F2) :=
 PS.imp (ps_if hc ha hb) fun D σ H ⟨G, δ, R, e, q⟩ => ⟨G, δ, R, (thenP e q).mono fun d _ q => by
  cases d with
  | bl t => cases t with
   | true => exact ⟨true, rfl, fun G1 H1 e1 => ⟨G1, δ, R.ext e1, e.trans e1, OutP.same e1.gg q⟩⟩
   | false => exact ⟨false, rfl, fun G1 H1 e1 => ⟨G1, δ, R.ext e1, e.trans e1, OutP.same e1.gg q⟩⟩
  | non => exact q.elim
  | int _ => exact q.elim
  | str _ => exact q.elim
  | tup _ => exact q.elim
  | lst _ => exact q.elim
  | dct _ _ => exact q.elim
  | obj _ _ => exact q.elim
  | fn _ => exact q.elim⟩
theorem EnvR.set {K : KA} {G H : Hp} {σ : St} {δ : En} {i : Nat} {d : D} {v : V} (R : EnvR K B G H σ δ) (h : Den K G d v) : EnvR K B G H (σ.set i (some v)) (δ.set i (.pu d)) where
 bh := R.bh
 gb := R.gb
 gh := R.gh
 len := by rw [List.length_set, List.length_set]; exact R.len
 sl := fun j s q => by
  by_cases z : i = j
  ·subst z
   have hl : i < δ.length := by
    have := (List.getElem?_eq_some_iff.mp q).1
    rwa [List.length_set] at this
   rw [List.getElem?_set_self hl] at q
   cases q
   exact ⟨some v, List.getElem?_set_self (by rw [R.len]; exact hl), v, rfl, h⟩
  ·rw [List.getElem?_set_ne z] at q ⊢
   exact R.sl j s q
 own := fun j s a q1 q2 q3 => by
  by_cases z : i = j
  ·subst z
   have hl : i < δ.length := by
    have := (List.getElem?_eq_some_iff.mp q1).1
    rwa [List.length_set] at this
   rw [List.getElem?_set_self hl] at q1
   cases q1
   cases q2
  ·rw [List.getElem?_set_ne z] at q1 q3
   exact R.own j s a q1 q2 q3
 dis := fun j k s t a q1 q2 q3 q4 q5 q6 => by
  have hj : i ≠ j := by
   rintro rfl
   have hl : i < δ.length := by
    have := (List.getElem?_eq_some_iff.mp q1).1
    rwa [List.length_set] at this
   rw [List.getElem?_set_self hl] at q1
   cases q1
   cases q3
  have hk : i ≠ k := by
   rintro rfl
   have hl : i < δ.length := by
    have := (List.getElem?_eq_some_iff.mp q2).1
    rwa [List.length_set] at this
   rw [List.getElem?_set_self hl] at q2
   cases q2
   cases q4
  rw [List.getElem?_set_ne hj] at q1 q5
  rw [List.getElem?_set_ne hk] at q2 q6
  exact R.dis j k s t a q1 q2 q3 q4 q5 q6
noncomputable def sSet (i : Nat) (g : En → Res) : En → Out := fun δ => (g δ).then fun d => .nx (δ.set i (.pu d))
theorem s_set {i : Nat} {x : Str} {pos' : Pos} (h : PuE X B E e g) (hs : PS X (.Assign [.Name x pos'] e pos) (tAsg (tPu (kx X) B E g) (gName i))) : PuS X G0 B E (.Assign [.Name x pos'] e pos) (sSet i g) :=
 PS.imp hs fun D σ H ⟨G, δ, R, e, q⟩ => ⟨G, δ, R, (thenP e q).mono fun d _ q v G' H' e1 dn => q _ G' H' e1.gg ((R.ext e1).set dn) (e.trans e1)⟩
theorem EnvR.setO {K : KA} {G H G' H' : Hp} {σ : St} {δ : En} {i : Nat} {ds : List D} {a : Addr} {vs : List V} (R : EnvR K B G H σ δ) (e : Ext G H G' H') (hn : H a = none) (gn : G' a = none) (hh : H' a = some (.lst vs)) (dl : DenL K G' ds vs) :
  EnvR K B G' H' (σ.set i (some (.ref a))) (δ.set i (.ow ds)) := by
 have R' := R.ext e
 have bn : B a = none := fy R.bh hn
 have oth : ∀ (j : Nat) s, δ[j]? = some s → s.own = true → σ[j]? = some (some (.ref a)) → False := fun j s q1 q2 q3 => by
  obtain ⟨o, z1, z2⟩ := R.sl j s q1
  rw [q3] at z1
  cases z1
  obtain ⟨a', z, u, z3, _⟩ := z2.ref q2
  cases z
  rw [hn] at z3
  cases z3
 have at_i : ∀ {s : Sl}, (δ.set i (.ow ds))[i]? = some s → s = .ow ds ∧ i < δ.length := fun q => by
  have hl : i < δ.length := by
   have := (List.getElem?_eq_some_iff.mp q).1
   rwa [List.length_set] at this
  rw [List.getElem?_set_self hl] at q
  cases q
  exact ⟨rfl, hl⟩
 refine ⟨R'.bh, R'.gh, by rw [List.length_set, List.length_set]; exact R.len, fun j s q => ?_, fun j s b q1 q2 q3 => ?_, fun j k s t b q1 q2 q3 q4 q5 q6 => ?_, R.gb⟩
 ·by_cases z : i = j
  ·subst z
   obtain ⟨rfl, hl⟩ := at_i q
   exact ⟨some (.ref a), List.getElem?_set_self (by rw [R.len]; exact hl), a, vs, rfl, hh, dl⟩
  ·rw [List.getElem?_set_ne z] at q ⊢
   exact R'.sl j s q
 ·by_cases z : i = j
  ·subst z
   obtain ⟨rfl, hl⟩ := at_i q1
   rw [List.getElem?_set_self (by rw [R.len]; exact hl)] at q3
   cases q3
   exact ⟨gn, bn⟩
  ·rw [List.getElem?_set_ne z] at q1 q3
   exact R'.own j s b q1 q2 q3
 ·by_cases zj : i = j
  ·subst zj
   obtain ⟨rfl, hl⟩ := at_i q1
   rw [List.getElem?_set_self (by rw [R.len]; exact hl)] at q5
   cases q5
   by_cases zk : i = k
   ·exact zk
   ·rw [List.getElem?_set_ne zk] at q2 q6
    exact (oth k t q2 q4 q6).elim
  ·rw [List.getElem?_set_ne zj] at q1 q5
   by_cases zk : i = k
   ·subst zk
    obtain ⟨rfl, hl⟩ := at_i q2
    rw [List.getElem?_set_self (by rw [R.len]; exact hl)] at q6
    cases q6
    exact (oth j s q1 q3 q5).elim
   ·rw [List.getElem?_set_ne zk] at q2 q6
    exact R'.dis j k s t b q1 q2 q3 q4 q5 q6
noncomputable def sSetO (i : Nat) (g : En → Res) : En → Out := fun δ => (g δ).then fun d => match d with
 | .lst ds => .nx (δ.set i (.ow ds))
 | _ => .st
theorem s_setO {i : Nat} {x : Str} {pos' : Pos} (h : OwE X B E e g) (hs : PS X (.Assign [.Name x pos'] e pos) (tAsg (tOw (kx X) B E g) (gName i))) : PuS X G0 B E (.Assign [.Name x pos'] e pos) (sSetO i g) :=
 PS.imp hs fun D σ H ⟨G, δ, R, e, q⟩ => ⟨G, δ, R, (thenP e q).mono fun d _ q => by
  cases d with
  | lst ds => exact ⟨ds, rfl, fun a vs G' H' e1 hn gn hh dl => q _ G' H' e1.gg (R.setO e1 hn gn hh dl) (e.trans e1)⟩
  | non => exact q.elim
  | bl _ => exact q.elim
  | int _ => exact q.elim
  | str _ => exact q.elim
  | tup _ => exact q.elim
  | dct _ _ => exact q.elim
  | obj _ _ => exact q.elim
  | fn _ => exact q.elim⟩
theorem EnvR.wr {K : KA} {G H : Hp} {σ : St} {δ : En} {i : Nat} {ds es : List D} {a : Addr} {vs ws : List V} (R : EnvR K B G H σ δ) (hi : δ[i]? = some (.ow ds)) (hs : σ[i]? = some (some (.ref a))) (ha : H a = some (.lst vs)) (dl : DenL K G es ws) :
  EnvR K B G (upd H a (.lst ws)) σ (δ.set i (.ow es)) := by
 obtain ⟨gn, bn⟩ := R.own i _ a hi rfl hs
 have hl : i < δ.length := (List.getElem?_eq_some_iff.mp hi).1
 have sb : ∀ {F : Hp}, F a = none → Same F H → Same F (upd H a (.lst ws)) := fun fn s b u q => by
  rw [ak (am q fn)]; exact s b u q
 have ownEq : ∀ {j : Nat} {s : Sl}, (δ.set i (.ow es))[j]? = some s → s.own = true → ∃ s', δ[j]? = some s' ∧ s'.own = true := fun {j s} q o => by
  by_cases z : i = j
  ·subst z; exact ⟨_, hi, rfl⟩
  ·rw [List.getElem?_set_ne z] at q; exact ⟨s, q, o⟩
 refine ⟨sb bn R.bh, sb gn R.gh, by rw [List.length_set]; exact R.len, fun j s q => ?_, fun j s b q1 q2 q3 => ?_, fun j k s t b q1 q2 q3 q4 q5 q6 => ?_, R.gb⟩
 ·by_cases z : i = j
  ·subst z
   rw [List.getElem?_set_self hl] at q
   cases q
   exact ⟨_, hs, a, ws, rfl, bg, dl⟩
  ·rw [List.getElem?_set_ne z] at q
   obtain ⟨o, z1, z2⟩ := R.sl j s q
   refine ⟨o, z1, ?_⟩
   cases s with
   | no => trivial
   | pu d => exact z2
   | bo d => exact z2
   | ow fs =>
    obtain ⟨b, us, y1, y2, y3⟩ := z2
    have nb : b ≠ a := by
     rintro rfl
     subst y1
     exact z (R.dis i j _ _ b hi q rfl rfl hs z1)
    exact ⟨b, us, y1, by rw [ak nb]; exact y2, y3⟩
   | od t fs =>
    cases t with
    | false =>
     obtain ⟨b, us, y1, y2, y3⟩ := z2
     have nb : b ≠ a := by
      rintro rfl
      rw [ha] at y2
      cases y2
     exact ⟨b, us, y1, by rw [ak nb]; exact y2, y3⟩
    | true =>
     obtain ⟨b, us, y1, y2, y3⟩ := z2
     have nb : b ≠ a := by
      rintro rfl
      rw [ha] at y2
      cases y2
     exact ⟨b, us, y1, by rw [ak nb]; exact y2, y3⟩
 ·obtain ⟨s', z1, z2⟩ := ownEq q1 q2
  exact R.own j s' b z1 z2 q3
 ·obtain ⟨s', z1, z2⟩ := ownEq q1 q3
  obtain ⟨t', y1, y2⟩ := ownEq q2 q4
  exact R.dis j k s' t' b z1 y1 z2 y2 q5 q6
theorem Ext.wr {G H : Hp} {a : Addr} {o : HO} (e : Ext G0 B G H) (gn : G a = none) (bn : B a = none) : Ext G0 B G (upd H a o) :=
 ⟨e.gg, fun b u q => by rw [ak (am q bn)]; exact e.hh b u q, fun b u q => by rw [ak (am q gn)]; exact e.gh b u q, e.fr⟩
noncomputable def itemsD : D → Option (List D)
 | .lst ds => some ds
 | .tup ds => some ds
 | _ => none
noncomputable def turns (tg : D → En → Option En) (F : En → Out) : List D → En → Out
 | [], δ => .nx δ
 | d :: r, δ => match tg d δ with
  | none => .st
  | some δ1 => match F δ1 with
   | .nx δ' => turns tg F r δ'
   | .ct δ' => turns tg F r δ'
   | .bk δ' => .nx δ'
   | .rt d => .rt d
   | .er c => .er c
   | .st => .st
end
section
variable {X : Cx} {G0 B : Hp} {E : EK} {e c tg iter : Expr} {st : Stmt} {rest ss tt : List Stmt} {F F1 F2 : En → Out} {g : En → Res} {pos : Pos}
noncomputable def gBo (i : Nat) : En → Res := fun δ => match δ[i]? with
 | some (.pu d) => .ok d
 | some (.bo d) => .ok d
 | _ => .st
noncomputable def tBo (K : KA) (B : Hp) (E : EK) (g : En → Res) : TE := fun σ H Q => ∃ G δ, EnvR K B G H σ δ ∧ ResP E G H (g δ) fun d => ∀ v G' H', Ext G H G' H' → Arg K G' B d v → Q v H'
noncomputable abbrev BoE (X : Cx) (B : Hp) (E : EK) (e : Expr) (g : En → Res) : Prop := PE X e (tBo (kx X) B E g)
theorem bo_var (i : Nat) {x : Str} (h : PE X (.Name x pos) (tVar i)) : BoE X B E (.Name x pos) (gBo i) := PE.imp h fun σ H Q ⟨G, δ, R, q⟩ => by
 unfold gBo at q
 cases e : δ[i]? with
 | none => rw [e] at q; exact q.elim
 | some s =>
  rw [e] at q
  obtain ⟨o, q1, q2⟩ := R.sl i _ e
  cases s with
  | pu d =>
   obtain ⟨v, q3, q4⟩ := q2
   exact ⟨v, by rw [q1, q3], q v G H (Ext.refl R.gh) (.inl q4)⟩
  | bo d =>
   obtain ⟨v, q3, q4⟩ := q2
   exact ⟨v, by rw [q1, q3], q v G H (Ext.refl R.gh) q4⟩
  | no => exact q.elim
  | ow d => exact q.elim
  | od t d => exact q.elim
theorem bo_pu (h : PuE X B E e g) : BoE X B E e g := PE.imp h fun σ H Q ⟨G, δ, R, q⟩ => ⟨G, δ, R, q.mono fun d _ q v G' H' x y => q v G' H' x (.inl y)⟩
noncomputable def ItOk (K : KA) (J : It) (ds : List D) (S : Hp → Hp → Prop) : Prop := ∀ (i : Nat) G H, S G H → Same G H →
 (∀ d, ds[i]? = some d → J.go i H ∧ ∀ x H', J.yld i H x H' → ∃ G', Ext G H G' H' ∧ Den K G' d x) ∧ (ds.length ≤ i → J.stop i H)
noncomputable def tIt (K : KA) (B : Hp) (E : EK) (g : En → ResL) : TI := fun σ H R => ∃ G δ, EnvR K B G H σ δ ∧ ResLP E G H (g δ) fun ds => ∀ J G' H', Ext G H G' H' → ItOk K J ds (fun G2 H2 => Same G' G2 ∧ Same B H2) → R J H'
noncomputable def tIc (K : KA) (B : Hp) (E : EK) (g : En → ResL) : TI := fun σ H R => ∃ G δ, EnvR K B G H σ δ ∧ ResLP E G H (g δ) fun ds => ∀ J G' H', Ext G H G' H' → ItOk K J ds (fun G2 H2 => Ext G' H' G2 H2) → R J H'
noncomputable abbrev PuI (X : Cx) (B : Hp) (E : EK) (tg iter : Expr) (g : En → ResL) : Prop := PI X tg iter (tIt (kx X) B E g)
noncomputable abbrev PuIc (X : Cx) (B : Hp) (E : EK) (tg iter : Expr) (g : En → ResL) : Prop := PI X tg iter (tIc (kx X) B E g)
theorem PI.imp {wi wi' : TI} (h : PI X tg iter wi) (i : ∀ σ H R, wi' σ H R → wi σ H R) : PI X tg iter wi' := fun pins s σ H R I q => h pins s σ H R I (i σ H R q)
theorem itl_ok {K : KA} {a : Addr} {G1 : Hp} {ds : List D} {vs : List V} {S : Hp → Hp → Prop} (h : ∀ G H, S G H → Same G H → SqL K H a vs ∧ Same G1 G) (dl : DenL K G1 ds vs) : ItOk K (Itl K a) ds S := fun i G H hS sg => by
 obtain ⟨q, g⟩ := h G H hS sg
 refine ⟨fun d ed => ?_, fun hl => ⟨vs, q, by rw [← dl.length]; exact hl⟩⟩
 obtain ⟨v, ev, dv⟩ := dl.get ed
 refine ⟨⟨vs, v, q, ev⟩, fun x H' ⟨e, y⟩ => ?_⟩
 subst e
 have z := y vs q
 rw [ev] at z
 cases z
 exact ⟨G, Ext.refl sg, dv.mono g⟩
theorem itt_ok {K : KA} {a : Addr} {G1 : Hp} {ds : List D} {vs : List V} {S : Hp → Hp → Prop} (h : ∀ G H, S G H → Same G H → SqT K H a vs ∧ Same G1 G) (dl : DenL K G1 ds vs) : ItOk K (Itt K a) ds S := fun i G H hS sg => by
 obtain ⟨q, g⟩ := h G H hS sg
 refine ⟨fun d ed => ?_, fun hl => ⟨vs, q, by rw [← dl.length]; exact hl⟩⟩
 obtain ⟨v, ev, dv⟩ := dl.get ed
 refine ⟨⟨vs, v, q, ev⟩, fun x H' ⟨e, y⟩ => ?_⟩
 subst e
 have z := y vs q
 rw [ev] at z
 cases z
 exact ⟨G, Ext.refl sg, dv.mono g⟩
noncomputable def d8 (lo : Int) (n : Nat) : List D := (List.range n).map fun (i : Nat) => .int (lo + i)
noncomputable def dj (r : En → ResL) : En → ResL := fun δ => match r δ with
 | .ok [.int j] => if -(2 ^ 62) ≤ j ∧ j < 2 ^ 62 then .ok (d8 0 j.toNat) else .st
 | .ok [.int i, .int j] => if (-(2 ^ 62) ≤ i ∧ i < 2 ^ 62) ∧ (-(2 ^ 62) ≤ j ∧ j < 2 ^ 62) then .ok (d8 i (j - i).toNat) else .st
 | .ok _ => .st
 | .er c => .er c
 | .st => .st
theorem itr_ok {K : KA} {lo : Int} {n : Nat} {S : Hp → Hp → Prop} : ItOk K (Itr lo n) (d8 lo n) S := fun i G H hS sg => by
 refine ⟨fun d ed => ?_, fun hl => ?_⟩
 ·unfold d8 at ed
  rw [List.getElem?_map] at ed
  cases e : (List.range n)[i]? with
  | none => rw [e] at ed; cases ed
  | some j =>
   rw [e] at ed
   have hi : i < n := by
    have := (List.getElem?_eq_some_iff.mp e).1
    rwa [List.length_range] at this
   rw [List.getElem?_range hi] at e
   cases e
   cases ed
   exact ⟨hi, fun x H' ⟨z, y⟩ => by subst z; exact ⟨G, Ext.refl sg, y⟩⟩
 ·unfold d8 at hl
  rw [List.length_map, List.length_range] at hl
  exact hl
theorem ArgsM.one {K : KA} {G H : Hp} {m : Bool} {d : D} {vs : List V} (h : ArgsM K G H [m] [d] vs) : ∃ v, vs = [v] ∧ Arg K G H d v := by
 obtain ⟨d', dr, v, vr, h1, h2, h3, h4, h5⟩ := h
 cases h1
 subst h5
 refine ⟨v, h2, ?_⟩
 cases m
 ·exact .inl h3
 ·exact h3
theorem ArgsM.two {K : KA} {G H : Hp} {m m' : Bool} {d d' : D} {vs : List V} (h : ArgsM K G H [m, m'] [d, d'] vs) : ∃ v u, vs = [v, u] ∧ Arg K G H d v ∧ Arg K G H d' u := by
 obtain ⟨d1, dr, v, vr, h1, h2, h3, h4⟩ := h
 cases h1
 obtain ⟨u, z, au⟩ := ArgsM.one h4
 subst z
 refine ⟨v, u, h2, ?_, au⟩
 cases m
 ·exact .inl h3
 ·exact h3
theorem rangeP {G H : Hp} {δ : En} {r : En → ResL} {P : List D → Prop} (q : ResLP E G H (dj r δ) P) : ResLP E G H (r δ) fun ds =>
  (∃ j, ds = [.int j] ∧ -(2 ^ 62) ≤ j ∧ j < 2 ^ 62 ∧ P (d8 0 j.toNat)) ∨ ∃ i j, ds = [.int i, .int j] ∧ (-(2 ^ 62) ≤ i ∧ i < 2 ^ 62 ∧ -(2 ^ 62) ≤ j ∧ j < 2 ^ 62) ∧ P (d8 i (j - i).toNat) := by
 unfold dj at q
 cases e : r δ with
 | ok ds =>
  rw [e] at q
  show _ ∨ _
  split at q
  ·rename_i z
   cases z
   split at q
   ·rename_i hc; exact .inl ⟨_, rfl, hc.1, hc.2, q⟩
   ·exact q.elim
  ·rename_i z
   cases z
   split at q
   ·rename_i hc; exact .inr ⟨_, _, rfl, ⟨hc.1.1, hc.1.2, hc.2.1, hc.2.2⟩, q⟩
   ·exact q.elim
  ·exact q.elim
  ·rename_i z; cases z
  ·rename_i z; cases z
 | er c => rw [e] at q; exact q
 | st => rw [e] at q; exact q
theorem pi_rng1 {a : Expr} {m : Bool} {r : En → ResL} {p : Pos} (hg : Gl X "range") (hm : X.mg "range" = none) (ha : ArL X B E [m] [a] r) (hs : starEach [a] X.env = [(false, eval a X.env)] := by rfl) : PuI X B E tg (.Call (.Name "range" p) [a] [] pos) (dj r) :=
 PI.imp (pi_range1 hg hm ha hs) fun σ H R ⟨G, δ, Rr, q⟩ => ⟨G, δ, Rr, (rangeP q).mono fun ds _ q vs G1 H1 e1 al => by
  rcases q with ⟨j, rfl, h1, h2, q⟩ | ⟨i, j, rfl, _⟩
  ·obtain ⟨v, rfl, av⟩ := ArgsM.one al
   exact ⟨j, by rw [av.int], h1, h2, q _ G1 H1 e1 itr_ok⟩
  ·have := al.length.1; simp at this⟩
theorem pi_rng2 {a b : Expr} {m m' : Bool} {r : En → ResL} {p : Pos} (hg : Gl X "range") (hm : X.mg "range" = none) (ha : ArL X B E [m, m'] [a, b] r) (hs : starEach [a, b] X.env = [(false, eval a X.env), (false, eval b X.env)] := by rfl) (hs2 : starEach [b] X.env = [(false, eval b X.env)] := by rfl) : PuI X B E tg (.Call (.Name "range" p) [a, b] [] pos) (dj r) :=
 PI.imp (pi_range2 hg hm ha hs hs2) fun σ H R ⟨G, δ, Rr, q⟩ => ⟨G, δ, Rr, (rangeP q).mono fun ds _ q vs G1 H1 e1 al => by
  rcases q with ⟨j, rfl, h1, h2, q⟩ | ⟨i, j, rfl, h1, q⟩
  ·have := al.length.1; simp at this
  ·obtain ⟨v, u, rfl, av, au⟩ := ArgsM.two al
   exact ⟨i, j, by rw [av.int, au.int], h1, q _ G1 H1 e1 itr_ok⟩⟩
theorem pic_of {r : En → ResL} (h : PuI X B E tg iter r) : PuIc X B E tg iter r := PI.imp h fun σ H R ⟨G, δ, Rr, q⟩ => ⟨G, δ, Rr, q.mono fun ds _ q J G' H' e ok => q J G' H' e fun i G2 H2 x sg => ok i G2 H2 ⟨x.gg, (Rr.bh.trans e.hh).trans x.hh⟩ sg⟩
structure TgOk (X : Cx) (B : Hp) (tge : Expr) (gl : TG) (tgD : D → En → Option En) : Prop where
 pg : PG X tge gl
 ok : ∀ {G H : Hp} {σ : St} {δ δ' : En} {d : D} {v : V} {Q : St → Hp → Prop}, EnvR (kx X) B G H σ δ → Den (kx X) G d v → tgD d δ = some δ' → (∀ σ', EnvR (kx X) B G H σ' δ' → Q σ' H) → gl v σ H Q
noncomputable def dz (i : Nat) : D → En → Option En := fun d δ => some (δ.set i (.pu d))
theorem tg_name {i : Nat} {x : Str} {p : Pos} (h : PG X (.Name x p) (gName i)) : TgOk X B (.Name x p) (gName i) (dz i) := ⟨h, fun R dn e q => by
 cases e
 exact q _ (R.set dn)⟩
noncomputable def sFor (tgD : D → En → Option En) (r : En → ResL) (F : En → Out) : En → Out := fun δ => match r δ with
 | .ok ds => turns tgD F ds δ
 | .er c => .er c
 | .st => .st
theorem forP {K : KA} {tgD : D → En → Option En} {r : En → ResL} {G H : Hp} {δ : En} {D : Ends} (e : Ext G0 B G H) (q : OutP K G0 B E G (sFor tgD r F δ) D) : ResLP E G H (r δ) fun ds => OutP K G0 B E G (turns tgD F ds δ) D := by
 unfold sFor at q
 cases er : r δ with
 | ok ds => rw [er] at q; exact q
 | er c => rw [er] at q; exact fun G' H' x => q G' H' (e.trans x)
 | st => rw [er] at q; exact q
theorem s_for {gl : TG} {tgD : D → En → Option En} {r : En → ResL} (hp : PassesOwn (model X.prog X.w) X.A X.env X.xe) (hc : X.calm = true) (hi : PuI X B E tg iter r) (hg : TgOk X B tg gl tgD) (hb : PuSs X G0 B E ss F)
  (hs : ∀ x, foldedSetIterable iter X.env x = pure x := by intro _; rfl) : PuS X G0 B E (.For tg iter ss [] pos) (sFor tgD r F) :=
 PS.imp (ps_for hp hc hi hg.pg hb hs) fun D σ H ⟨G, δ, R, e, q⟩ => ⟨G, δ, R, (forP e q).mono fun ds _ q J G1 H1 e1 ok => by
  refine ⟨fun i m σ H => m = ds.length - i ∧ i ≤ ds.length ∧ ∃ G2 δ2, Same G1 G2 ∧ EnvR (kx X) B G2 H σ δ2 ∧ Ext G0 B G2 H ∧ OutP (kx X) G0 B E G2 (turns tgD F (ds.drop i) δ2) D,
   ⟨ds.length, by simp, Nat.zero_le _, G1, δ, Same.refl G1, R.ext e1, e.trans e1, OutP.same e1.gg q⟩, ?_⟩
  rintro i m σ2 H2 ⟨rfl, hi2, G2, δ2, s2, R2, x2, q2⟩
  obtain ⟨okg, oks⟩ := ok i G2 H2 ⟨s2, R2.bh⟩ R2.gh
  by_cases hl : i < ds.length
  ·obtain ⟨go, yl⟩ := okg ds[i] (by simp [hl])
   rw [List.drop_eq_getElem_cons hl] at q2
   refine .inr ⟨go, fun σ' H' => i + 1 ≤ ds.length ∧ ∃ G3 δ3, Same G1 G3 ∧ EnvR (kx X) B G3 H' σ' δ3 ∧ Ext G0 B G3 H' ∧ OutP (kx X) G0 B E G3 (turns tgD F (ds.drop (i + 1)) δ3) D,
    fun σ' H' ⟨n1, n2⟩ => ⟨ds.length - (i + 1), by omega, rfl, n1, n2⟩, fun x H3 y => ?_⟩
   obtain ⟨G3, e3, dn⟩ := yl x H3 y
   unfold turns at q2
   cases et : tgD ds[i] δ2 with
   | none => rw [et] at q2; exact q2.elim
   | some δ3 =>
    rw [et] at q2
    dsimp only at q2
    refine hg.ok (R2.ext e3) dn et fun σ3 R3 => ⟨G3, δ3, R3, x2.trans e3, ?_⟩
    have s3 : Same G1 G3 := s2.trans e3.gg
    cases ef : F δ3 with
    | nx δ4 =>
     rw [ef] at q2
     exact fun σ' G' H' s R' x' => ⟨hl, G', δ4, s3.trans s, R', x', OutP.same (e3.gg.trans s) q2⟩
    | ct δ4 =>
     rw [ef] at q2
     exact fun σ' G' H' s R' x' => ⟨hl, G', δ4, s3.trans s, R', x', OutP.same (e3.gg.trans s) q2⟩
    | bk δ4 =>
     rw [ef] at q2
     exact fun σ' G' H' s R' x' => q2 σ' G' H' (e3.gg.trans s) R' x'
    | rt d => rw [ef] at q2; exact q2
    | er c => rw [ef] at q2; exact q2
    | st => rw [ef] at q2; exact q2
  ·have z : i = ds.length := by omega
   subst z
   rw [List.drop_length] at q2
   exact .inl ⟨oks (Nat.le_refl _), q2 σ2 G2 H2 (Same.refl G2) R2 x2⟩⟩
noncomputable def cu : List Bool → List D → En
 | _, [] => []
 | true :: ms, d :: ds => .bo d :: cu ms ds
 | false :: ms, d :: ds => .pu d :: cu ms ds
 | [], _ :: _ => []
noncomputable def outR : Out → Res
 | .rt d => .ok d
 | .nx _ => .ok .non
 | .er c => .er c
 | _ => .st
noncomputable def fnD (ms : List Bool) (n : Nat) (F : En → Out) (ds : List D) : Res := outR (F (cu ms ds ++ List.replicate (n - ds.length) .no))
noncomputable def spPu (K : KA) (ms : List Bool) (f : List D → Res) : Sp := fun vs H Q E => vs.length = ms.length ∧ GOk H ∧ ∃ G ds, Same G H ∧ ArgsM K G H ms ds vs ∧ ResP (ek K E) G H (f ds) fun d => ∀ v G' H', Ext G H G' H' → Den K G' d v → Q v H'
theorem entry_len {K : KA} {G H : Hp} : ∀ {ms : List Bool} {ds : List D} {vs : List V}, ArgsM K G H ms ds vs → (cu ms ds).length = vs.length
 | [], _, _, ⟨h1, h2⟩ => by subst h1; subst h2; rfl
 | m :: ms, _, _, ⟨d, dr, v, vr, h1, h2, h3, h4⟩ => by
  subst h1; subst h2
  have ih := entry_len h4
  cases m <;> simp only [cu, List.length_cons, ih]
theorem entry_get {K : KA} {G H : Hp} : ∀ {ms : List Bool} {ds : List D} {vs : List V}, ArgsM K G H ms ds vs → ∀ (i : Nat) s, (cu ms ds)[i]? = some s → s.own = false ∧ ∃ v, vs[i]? = some v ∧ SlOk K H G H s (some v)
 | [], _, _, ⟨h1, h2⟩, i, s, q => by subst h1; simp [cu] at q
 | m :: ms, _, _, ⟨d, dr, v, vr, h1, h2, h3, h4⟩, i, s, q => by
  subst h1; subst h2
  cases i with
  | zero =>
   cases m with
   | true =>
    simp only [cu, List.getElem?_cons_zero, Option.some.injEq] at q
    subst q
    exact ⟨rfl, v, rfl, v, rfl, h3⟩
   | false =>
    simp only [cu, List.getElem?_cons_zero, Option.some.injEq] at q
    subst q
    exact ⟨rfl, v, rfl, v, rfl, h3⟩
  | succ i =>
   cases m with
   | true =>
    simp only [cu, List.getElem?_cons_succ] at q
    obtain ⟨q1, u, q2, q3⟩ := entry_get h4 i s q
    exact ⟨q1, u, by simpa using q2, q3⟩
   | false =>
    simp only [cu, List.getElem?_cons_succ] at q
    obtain ⟨q1, u, q2, q3⟩ := entry_get h4 i s q
    exact ⟨q1, u, by simpa using q2, q3⟩
theorem envR_start {K : KA} {G H : Hp} {ms : List Bool} {ds : List D} {vs : List V} {N : List Str} (gb : GOk H) (s : Same G H) (al : ArgsM K G H ms ds vs) : EnvR K H G H (L2.start N vs) (cu ms ds ++ List.replicate (N.length - ds.length) .no) := by
 have l1 := entry_len al
 obtain ⟨l2, l3⟩ := al.length
 have key : ∀ (i : Nat) t, (cu ms ds ++ List.replicate (N.length - ds.length) Sl.no)[i]? = some t → t = .no ∨ (i < vs.length ∧ (cu ms ds)[i]? = some t) := fun i t q => by
  by_cases z : i < (cu ms ds).length
  ·rw [List.getElem?_append_left z] at q
   exact .inr ⟨by rw [← l1]; exact z, q⟩
  ·rw [List.getElem?_append_right (by omega)] at q
   have := List.mem_of_getElem? q
   exact .inl (List.eq_of_mem_replicate this)
 refine ⟨Same.refl H, s, ?_, fun i t q => ?_, fun i t a q1 q2 q3 => ?_, fun i j t u a q1 q2 q3 q4 q5 q6 => ?_, gb⟩
 ·unfold L2.start
  rw [List.length_append, List.length_append, List.length_map, List.length_replicate, List.length_replicate, l1, l2, l3]
 ·rcases key i t q with rfl | ⟨hi, qe⟩
  ·have hl : i < (L2.start N vs).length := by
    have := (List.getElem?_eq_some_iff.mp q).1
    rw [List.length_append, List.length_replicate, l1] at this
    unfold L2.start
    rw [List.length_append, List.length_map, List.length_replicate]
    omega
   exact ⟨_, List.getElem?_eq_getElem hl, trivial⟩
  ·obtain ⟨_, v, ev, ok⟩ := entry_get al i t qe
   refine ⟨some v, ?_, ok⟩
   unfold L2.start
   rw [List.getElem?_append_left (by rw [List.length_map]; exact hi), List.getElem?_map, ev]
   rfl
 ·rcases key i t q1 with rfl | ⟨hi, qe⟩
  ·cases q2
  ·obtain ⟨z, _⟩ := entry_get al i t qe
   rw [z] at q2
   cases q2
 ·rcases key i t q1 with rfl | ⟨hi, qe⟩
  ·cases q3
  ·obtain ⟨z, _⟩ := entry_get al i t qe
   rw [z] at q3
   cases q3
theorem outP_of {K : KA} {G H : Hp} {E : EK} {Q : VK} {o : Out} (s : Same G H) (h : ResP E G H (outR o) fun d => ∀ v G' H', Ext G H G' H' → Den K G' d v → Q v H') :
  OutP K G H E G o { nx := fun _ H' => Q .non H', rt := Q } := by
 cases o with
 | nx δ => exact fun σ' G' H' _ _ e => h .non G' H' e rfl
 | bk δ => exact h.elim
 | ct δ => exact h.elim
 | rt d => exact fun v G' H' e dn => h v G' H' e dn
 | er c => exact h
 | st => exact h
end
section
variable {P : Program} {w : World} {Kf : PySem.W.Frag} {mg : Str → Option Value} {base : Heap}
end
section
variable {X : Cx} {B : Hp} {E : EK} {e : Expr} {es : List Expr} {pos p : Pos} {x : Str}
noncomputable def bp (f : List D → Res) (r : En → ResL) : En → Res := fun δ => match r δ with
 | .ok ds => f ds
 | .er c => .er c
 | .st => .st
theorem callP {G H : Hp} {δ : En} {r : En → ResL} {f : List D → Res} {P : D → Prop} (q : ResP E G H (bp f r δ) P) : ResLP E G H (r δ) fun ds => ResP E G H (f ds) P := by
 unfold bp at q
 cases e : r δ with
 | ok ds => rw [e] at q; exact q
 | er c => rw [e] at q; exact q
 | st => rw [e] at q; exact q
theorem pu_call {CX : CXT} {k : Nat} {f : Addr} {fd : FuncData} {ps : List Str} {ms : List Bool} {fD : List D → Res} {r : En → ResL} {E : XK} (F : FnOk X.prog X.w X.K X.mg X.base CX k f fd ps (spPu (kx X) ms fD)) (hr : Room k X.A) (hg : Gl X x) (hm : X.mg x = some (.ref f)) (hk : PySem.W.keepIn X.K (.ref f) = true)
  (hb : Binds X.K fd ps []) (hx : Passes CX X E) (ha : ArL X B (ek (kx X) E) ms (e :: es) r) (hdb : (x == ("__debug__" : Str)) = false := by decide) (he : starEach (e :: es) X.env = (false, eval e X.env) :: starEach es X.env := by rfl) (hpl : (backTo pos (starEach es X.env)).any (·.1) = false := by rfl) :
  PuE X B (ek (kx X) E) (.Call (.Name x p) (e :: es) [] pos) (bp fD r) :=
 PE.imp (pe_call F hr hg hm hk hb .nil hx ha hdb he hpl) fun σ H Q ⟨G, δ, R, q⟩ => ⟨G, δ, R, (callP q).mono fun ds _ q vs G1 H1 e1 al =>
  ⟨by rw [List.append_nil]; exact al.length.2, R.gb.same (R.bh.trans e1.hh), G1, ds, e1.gh, by rw [List.append_nil]; exact al, (q.ext e1).mono fun d _ q v G' H' e2 dn => q v G' H' (e1.trans e2) dn⟩⟩
theorem pu_call0 {CX : CXT} {k : Nat} {f : Addr} {fd : FuncData} {ps : List Str} {fD : List D → Res} {E : XK} (F : FnOk X.prog X.w X.K X.mg X.base CX k f fd ps (spPu (kx X) [] fD)) (hr : Room k X.A) (hg : Gl X x) (hm : X.mg x = some (.ref f)) (hk : PySem.W.keepIn X.K (.ref f) = true)
  (hb : Binds X.K fd ps []) (hx : Passes CX X E) (hdb : (x == ("__debug__" : Str)) = false := by decide) : PuE X B (ek (kx X) E) (.Call (.Name x p) [] [] pos) (fun _ => fD []) :=
 PE.imp (pe_call0 F hr hg hm hk hb .nil hx hdb) fun σ H Q ⟨G, δ, R, q⟩ => ⟨rfl, R.gb.same R.bh, G, [], R.gh, ⟨rfl, rfl⟩, q⟩
end
mutual
noncomputable def toPy : D → Option PyData
 | .non => some .none
 | .bl b => some (.bool b)
 | .int i => some (.int i)
 | .str x => some (.str x)
 | .tup ds => match d5 ds with
  | some ps => some (.tuple ps)
  | none => none
 | .lst ds => match d5 ds with
  | some ps => some (.list ps)
  | none => none
 | .dct _ _ => none
 | .obj _ _ => none
 | .fn _ => none
noncomputable def d5 : List D → Option (List PyData)
 | [] => some []
 | d :: ds => match toPy d with
  | some p => (match d5 ds with
   | some ps => some (p :: ps)
   | none => none)
  | none => none
end
section
variable {X : Cx} {pins : List (Addr × Obj)} {σ : St} {G H : Hp} {s : Shared}
mutual
theorem reads_of (I : Inv X pins σ H s) (sg : Same G H) : ∀ {d : D} {v : V} {u : Value} {p : PyData}, Den (kx X) G d v → RelV v u → toPy d = some p → ∃ as, Reads s.heap u p as
 | .non, v, u, p, h, r, e => by
  cases (show v = .non from h); cases (show u = Value.none from r); cases e
  exact ⟨_, Reads.none⟩
 | .bl b, v, u, p, h, r, e => by
  cases (show v = .bl b from h); cases (show u = Value.bool b from r); cases e
  exact ⟨_, Reads.bool b⟩
 | .int i, v, u, p, h, r, e => by
  cases (show v = .int i from h)
  obtain ⟨t, q⟩ := (show ∃ t, u = Value.int i t from r); cases q; cases e
  exact ⟨_, Reads.int i t⟩
 | .str x, v, u, p, h, r, e => by
  cases (show v = .str x from h)
  obtain ⟨t, q⟩ := (show ∃ t, u = Value.str x t from r); cases q; cases e
  exact ⟨_, Reads.str x t⟩
 | .tup ds, v, u, p, h, r, e => by
  obtain ⟨a, vs, rfl, sq, dl⟩ := h
  cases (show u = Value.ref a from r)
  unfold toPy at e
  cases e2 : d5 ds with
  | none => rw [e2] at e; cases e
  | some ps =>
   rw [e2] at e
   cases e
   obtain ⟨its, rv, ⟨o, ho, hc, n, hd⟩, _⟩ := I.tuple (SqT.of (sg _ _ sq))
   obtain ⟨as, ra⟩ := readsL_of I sg dl rv e2
   exact ⟨as, Reads.tuple ho hc hd (by simpa using ra)⟩
 | .lst ds, v, u, p, h, r, e => by
  obtain ⟨a, vs, rfl, sq, dl⟩ := h
  cases (show u = Value.ref a from r)
  unfold toPy at e
  cases e2 : d5 ds with
  | none => rw [e2] at e; cases e
  | some ps =>
   rw [e2] at e
   cases e
   obtain ⟨its, rv, pl, _⟩ := I.list (SqL.mono sg sq)
   obtain ⟨o, ho, hc, n, hd⟩ := pl.isList
   obtain ⟨as, ra⟩ := readsL_of I sg dl rv e2
   exact ⟨_, Reads.list ho hc hd (by simpa using ra)⟩
 | .dct _ _, _, _, _, _, _, e => by cases e
 | .obj _ _, _, _, _, _, _, e => by cases e
 | .fn _, _, _, _, _, _, e => by cases e
theorem readsL_of (I : Inv X pins σ H s) (sg : Same G H) : ∀ {ds : List D} {vs : List V} {us : List Value} {ps : List PyData}, DenL (kx X) G ds vs → Vals vs us → d5 ds = some ps → ∃ as, ReadsAll s.heap us ps as
 | [], vs, us, ps, h, r, e => by
  cases (show vs = [] from h); cases r; cases e
  exact ⟨_, ReadsAll.nil⟩
 | d :: ds, vs, us, ps, h, r, e => by
  obtain ⟨v, vr, rfl, dv, dl⟩ := h
  cases r with
  | cons rv rr =>
   unfold d5 at e
   cases e1 : toPy d with
   | none => rw [e1] at e; cases e
   | some p =>
    rw [e1] at e
    dsimp only at e
    cases e2 : d5 ds with
    | none => rw [e2] at e; cases e
    | some ps' =>
     rw [e2] at e
     cases e
     obtain ⟨as, ra⟩ := reads_of I sg dv rv e1
     obtain ⟨bs, rb⟩ := readsL_of I sg dl rr e2
     exact ⟨_, ReadsAll.cons ra rb⟩
end
theorem dg (I : Inv X pins σ H s) (sg : Same G H) {d : D} {v : V} {u : Value} {p : PyData} (h : Arg (kx X) G H d v) (r : RelV v u) (e : toPy d = some p) : ∃ as, Reads s.heap u p as := by
 rcases h with h | ⟨ds, a, vs, rfl, rfl, sq, dl⟩ | ⟨t, kvs, a, rfl, _⟩
 ·exact reads_of I sg h r e
 ·cases (show u = Value.ref a from r)
  unfold toPy at e
  cases e2 : d5 ds with
  | none => rw [e2] at e; cases e
  | some ps =>
   rw [e2] at e
   cases e
   obtain ⟨its, rv, pl, _⟩ := I.list sq
   obtain ⟨o, ho, hc, n, hd⟩ := pl.isList
   obtain ⟨as, ra⟩ := readsL_of I sg dl rv e2
   exact ⟨_, Reads.list ho hc hd (by simpa using ra)⟩
 ·cases e
end
noncomputable def eqD (d e : D) : Option Bool := match toPy d, toPy e with
 | some p, some q => if SeqAt.shaped p && SeqAt.shaped q then some (PyData.eqv p q) else none
 | _, _ => none
noncomputable def pyEq (d e : D) : Option D := (eqD d e).map .bl
noncomputable def pyNe (d e : D) : Option D := (eqD d e).map fun b => .bl !b
theorem eqD_some {d e : D} {b : Bool} (h : eqD d e = some b) : ∃ p q, toPy d = some p ∧ toPy e = some q ∧ SeqAt.shaped p = true ∧ SeqAt.shaped q = true ∧ b = PyData.eqv p q := by
 unfold eqD at h
 cases e1 : toPy d with
 | none => rw [e1] at h; cases h
 | some p =>
  cases e2 : toPy e with
  | none => rw [e1, e2] at h; cases h
  | some q =>
   rw [e1, e2] at h
   dsimp only at h
   by_cases hs : (SeqAt.shaped p && SeqAt.shaped q) = true
   ·rw [if_pos hs] at h
    cases h
    rw [Bool.and_eq_true] at hs
    exact ⟨p, q, rfl, rfl, hs.1, hs.2, rfl⟩
   ·rw [if_neg hs] at h; cases h
section
variable {X : Cx} {B : Hp} {E : EK} {e a b : Expr} {es : List Expr} {g h : En → Res} {pos : Pos}
noncomputable def rEqD (K : KA) (neg : Bool) : R2 := fun x y H Q => ∃ G dx dy b, Same G H ∧ Arg K G H dx x ∧ Arg K G H dy y ∧ eqD dx dy = some b ∧ Q (.bl (if neg then !b else b)) H
theorem op_eqD (hu : X.A.units + 64 < cLine) : OpR X (compareOp .Eq) (rEqD (kx X) false) := by
 intro pins s σ H x y v u Q I rx ry q
 obtain ⟨G, dx, dy, b, sg, ax, ay, eb, q⟩ := q
 obtain ⟨p, p', e1, e2, s1, s2, rfl⟩ := eqD_some eb
 obtain ⟨as, ra⟩ := dg I sg ax rx e1
 obtain ⟨bs, rb⟩ := dg I sg ay ry e2
 exact eq_dataH ra rb s1 s2 hu ⟨.bl (PyData.eqv p p'), H, I, rfl, q⟩
theorem op_neD (hu : X.A.units + 64 < cLine) : OpR X (compareOp .NotEq) (rEqD (kx X) true) := by
 intro pins s σ H x y v u Q I rx ry q
 obtain ⟨G, dx, dy, b, sg, ax, ay, eb, q⟩ := q
 obtain ⟨p, p', e1, e2, s1, s2, rfl⟩ := eqD_some eb
 obtain ⟨as, ra⟩ := dg I sg ax rx e1
 obtain ⟨bs, rb⟩ := dg I sg ay ry e2
 exact ne_dataH ra rb s1 s2 hu ⟨.bl (!PyData.eqv p p'), H, I, rfl, q⟩
theorem prim_eq {K : KA} : Prim2 K pyEq (rEqD K false) := fun G H x y dx dy d sg ax ay ed Q q => by
 unfold pyEq at ed
 cases e : eqD dx dy with
 | none => rw [e] at ed; cases ed
 | some b => rw [e] at ed; cases ed; exact ⟨G, dx, dy, b, sg, ax, ay, e, q _ G H (Ext.refl sg) rfl⟩
theorem prim_ne {K : KA} : Prim2 K pyNe (rEqD K true) := fun G H x y dx dy d sg ax ay ed Q q => by
 unfold pyNe at ed
 cases e : eqD dx dy with
 | none => rw [e] at ed; cases ed
 | some b => rw [e] at ed; cases ed; exact ⟨G, dx, dy, b, sg, ax, ay, e, q _ G H (Ext.refl sg) rfl⟩
theorem map_bl {o : Option Bool} {d : D} {f : Bool → Bool} (h : (o.map fun b => D.bl (f b)) = some d) : ∃ b, d = .bl b := by
 cases o with
 | none => cases h
 | some b => cases h; exact ⟨_, rfl⟩
noncomputable def pyI (f : Int → Int → Option D) : D → D → Option D
 | .int i, .int j => f i j
 | _, _ => none
noncomputable def pySub : D → D → Option D := pyI fun i j => some (.int (i - j))
noncomputable def pyMod : D → D → Option D := pyI fun i j => if 0 < j then some (.int (i % j)) else none
noncomputable def pyFdiv : D → D → Option D := pyI fun i j => if 0 < j ∧ j < 1073741824 then some (.int (i / j)) else none
noncomputable def pyPow : D → D → Option D := pyI fun i j => if 0 ≤ j ∧ j ≤ 1000000 ∧ i.natAbs < 2 ^ 64 then some (.int (i ^ j.toNat)) else none
theorem prim_I {K : KA} {f : Int → Int → Option D} {C : Int → Int → Prop} {r : Int → Int → V} (hf : ∀ i j d, f i j = some d → C i j ∧ ∀ G, Den K G d (r i j)) : Prim2 K (pyI f) (rI C r) := fun G H x y dx dy d sg ax ay ed Q q => by
 cases dx with
 | int i =>
  cases dy with
  | int j =>
   obtain ⟨c, dn⟩ := hf i j d ed
   exact ⟨i, j, ax.int, ay.int, c, q _ G H (Ext.refl sg) (dn G)⟩
  | _ => cases ed
 | _ => cases ed
theorem prim_I0 {K : KA} {f : Int → Int → Option D} {r : Int → Int → V} (hf : ∀ i j d, f i j = some d → ∀ G, Den K G d (r i j)) : Prim2 K (pyI f) (rI0 r) := fun G H x y dx dy d sg ax ay ed Q q => by
 cases dx with
 | int i =>
  cases dy with
  | int j => exact ⟨i, j, ax.int, ay.int, q _ G H (Ext.refl sg) (hf i j d ed G)⟩
  | _ => cases ed
 | _ => cases ed
theorem pu_sub (ha : ArE X B E a g) (hb : ArE X B E b h) : PuE X B E (.BinOp a .Sub b pos) (g2 pySub g h) := pu_op op_sub (prim_I0 fun i j d e G => by cases e; rfl) ha hb
theorem pu_mod (ha : ArE X B E a g) (hb : ArE X B E b h) : PuE X B E (.BinOp a .Mod b pos) (g2 pyMod g h) := pu_op op_mod (prim_I fun i j d e => by
 by_cases hj : 0 < j
 ·rw [if_pos hj] at e; cases e; exact ⟨hj, fun _ => rfl⟩
 ·rw [if_neg hj] at e; cases e) ha hb
theorem pu_fdiv (ha : ArE X B E a g) (hb : ArE X B E b h) : PuE X B E (.BinOp a .FloorDiv b pos) (g2 pyFdiv g h) := pu_op op_fdiv (prim_I fun i j d e => by
 by_cases hj : 0 < j ∧ j < 1073741824
 ·rw [if_pos hj] at e; cases e; exact ⟨hj, fun _ => rfl⟩
 ·rw [if_neg hj] at e; cases e) ha hb
theorem pu_pow (ha : ArE X B E a g) (hb : ArE X B E b h) : PuE X B E (.BinOp a .Pow b pos) (g2 pyPow g h) := pu_op op_pow (prim_I fun i j d e => by
 by_cases hj : 0 ≤ j ∧ j ≤ 1000000 ∧ i.natAbs < 2 ^ 64
 ·rw [if_pos hj] at e; cases e; exact ⟨hj, fun _ => rfl⟩
 ·rw [if_neg hj] at e; cases e) ha hb
noncomputable def pyCmp (f : Int → Int → Bool) : D → D → Option D := pyI fun i j => some (.bl (f i j))
noncomputable def pyLe : D → D → Option D := pyCmp fun i j => decide (i ≤ j)
noncomputable def pyGt : D → D → Option D := pyCmp fun i j => decide (j < i)
noncomputable def pyGe : D → D → Option D := pyCmp fun i j => decide (j ≤ i)
noncomputable def pyLtI : D → D → Option D := pyCmp fun i j => decide (i < j)
theorem prim_cmp {K : KA} {f : Int → Int → Bool} : Prim2 K (pyCmp f) (rI0 fun i j => .bl (f i j)) := prim_I0 fun i j d e G => by cases e; rfl
theorem cmp_bl {f : Int → Int → Bool} : ∀ x y d, pyCmp f x y = some d → ∃ b, d = .bl b := fun x y d h => by
 cases x <;> cases y <;> first | (cases h; exact ⟨_, rfl⟩) | cases h
noncomputable def gChain (f f' : D → D → Option D) (g h k : En → Res) : En → Res := fun δ => (g δ).bind fun x => (h δ).bind fun y => (Res.of (f x y)).bind fun z => match z with
 | .bl true => (k δ).bind fun w => Res.of (f' y w)
 | .bl false => .ok (.bl false)
 | _ => .st
theorem chainP {K : KA} {k : En → Res} {f f' : D → D → Option D} {r r' : R2} (hp : Prim2 K f r) (hp' : Prim2 K f' r') {σ : St} {H : Hp} {Q : VK} (q : tPu K B E (gChain f f' g h k) σ H Q) : tChain r r' (tAr K B E g) (tAr K B E h) (tAr K B E k) σ H Q := by
 obtain ⟨G, δ, R, q⟩ := q
 refine ⟨G, δ, R, (ResP.bind q).mono fun dx _ qx x G1 H1 e1 ax => ⟨G1, δ, R.ext e1, ((ResP.bind qx).ext e1).mono fun dy _ qy y G2 H2 e2 ay => ?_⟩⟩
 have e12 := e1.trans e2
 obtain ⟨d, ed, qd⟩ := ResP.of (ResP.bind qy)
 refine hp G2 H2 x y dx dy d e2.gh (ax.ext e2) ay ed _ fun v G3 H3 e3 dn => ?_
 cases d with
 | bl t =>
  refine ⟨t, dn, ?_⟩
  cases t with
  | true =>
   show tAr K B E k σ H3 _
   refine ⟨G3, δ, R.ext (e12.trans e3), ((ResP.bind qd).ext (e12.trans e3)).mono fun dw _ qw w G4 H4 e4 aw => ?_⟩
   obtain ⟨d', ed', qd'⟩ := ResP.of qw
   exact hp' G4 H4 y w dy dw d' e4.gh ((ay.ext e3).ext e4) aw ed' Q fun v G5 H5 e5 dn => qd' v G5 H5 (((e12.trans e3).trans e4).trans e5) dn
  | false => exact qd _ G3 H3 (e12.trans e3) rfl
 | non => exact qd.elim
 | int _ => exact qd.elim
 | str _ => exact qd.elim
 | tup _ => exact qd.elim
 | lst _ => exact qd.elim
 | dct _ _ => exact qd.elim
 | obj _ _ => exact qd.elim
 | fn _ => exact qd.elim
theorem pu_chain {c : Expr} {k : En → Res} {op op' : CmpOp} {f f' : D → D → Option D} {r r' : R2} (ho : OpR X (compareOp op) r) (hp : Prim2 (kx X) f r) (ho' : OpR X (compareOp op') r') (hp' : Prim2 (kx X) f' r') (ha : ArE X B E a g) (hb : ArE X B E b h) (hc : ArE X B E c k)
  (hm : lastMarks [op, op'] [b, c] = false := by with_unfolding_all rfl) : PuE X B E (.Compare a [op, op'] [b, c] pos) (gChain f f' g h k) := PE.imp (pe_chain ho ho' ha hb hc hm) fun σ H Q q => chainP hp hp' q
theorem pt_chain' {c : Expr} {k : En → Res} {op op' : CmpOp} {f f' : D → D → Option D} {r r' : R2} (ho : OpR X (compareOp op) r) (hp : Prim2 (kx X) f r) (ho' : OpR X (compareOp op') r') (hp' : Prim2 (kx X) f' r') (hb1 : ∀ x y d, f' x y = some d → ∃ b, d = .bl b) (ha : ArE X B E a g) (hb : ArE X B E b h) (hc : ArE X B E c k)
  (hm : lastMarks [op, op'] [b, c] = false := by with_unfolding_all rfl) : PuT X B E (.Compare a [op, op'] [b, c] pos) (gChain f f' g h k) :=
 PT.imp (pt_chain ho ho' ha hb hc hm) fun σ H Q ⟨G, δ, R, q⟩ => chainP hp hp' ⟨G, δ, R, q.mono fun d ed ⟨b, eb, qb⟩ v G' H' e3 dn => by
  subst eb
  exact ⟨b, dn, qb G' H' e3⟩⟩
noncomputable def cf : D → D → Option D
 | .int i, .int j => some (.int (i + j))
 | .str x, .str y => if x.length + y.length ≤ sizeLine then some (.str (x ++ y)) else none
 | .lst xs, .lst ys => if xs.length + ys.length ≤ sizeLine then some (.lst (xs ++ ys)) else none
 | .tup xs, .tup ys => if xs.length + ys.length ≤ sizeLine then some (.tup (xs ++ ys)) else none
 | _, _ => none
noncomputable def rAddD (K : KA) : R2 := fun x y H Q => ∃ G dx dy d, Same G H ∧ Arg K G H dx x ∧ Arg K G H dy y ∧ cf dx dy = some d ∧ ∀ v G' H', Ext G H G' H' → Den K G' d v → Q v H'
theorem add_seqL {prog : Program} {w : World} {A : Around} {E : Value → Shared → Prop} {s : Shared} {l b : Addr} {its its2 : List Value} {Q : Value → Shared → Prop} (hl : PlainL s.heap l its.toArray) (hb : PlainL s.heap b its2.toArray) (hz : its.length + its2.length ≤ sizeLine)
  (h : Q (.ref s.heap.objs.size) { s with heap := s.heap.push { cls := .type "list", data := .seq (its ++ its2).toArray } }) : wpAny (model prog w) A (binaryOp .Add (.ref l) (.ref b)) Q E s := by
 obtain ⟨⟨cls, dd, data, sl⟩, n, ho, c, d, q⟩ := hl
 obtain ⟨⟨cls2, dd2, data2, sl2⟩, n2, ho2, c2, d2, q2⟩ := hb
 simp only at c d q c2 d2 q2
 subst c d q c2 d2 q2
 have ea : its.toArray ++ its2.toArray = (its ++ its2).toArray := by simp
 refine concat_meets ⟨_, ho, rfl⟩ ⟨_, ho2, rfl⟩ noFill_list_add seq_list_add PySem.F.slot_list_add PySem.F.entry_list_add (PySem.F.args_list_add_2 _ _) (list_addW l b its.toArray its2.toArray n n2 _ _ sl sl2 (by simpa using hz)) ⟨ho, ho2, ?_⟩
 rw [ea]
 exact h
theorem cat_tup0 {prog : Program} {w : World} {A : Around} {E : Value → Shared → Prop} {s : Shared} {t b : Addr} {vs ws : List Value} {Q : Value → Shared → Prop} (ht : IsTup s.heap t vs.toArray) (hb : IsTup s.heap b ws.toArray) (hv : vs = []) (h1 : Q (.ref b) s) :
  wpAny (model prog w) A (binaryOp .Add (.ref t) (.ref b)) Q E s := by
 obtain ⟨⟨cls, dd, data, sl⟩, ho, hc, n, hd⟩ := id ht
 obtain ⟨⟨cls2, dd2, data2, sl2⟩, ho2, hc2, n2, hd2⟩ := id hb
 simp only at hc hd hc2 hd2
 subst hc hd hc2 hd2
 exact concat_meets ⟨_, ho, rfl⟩ ⟨_, ho2, rfl⟩ noFill_tuple_add seq_tuple_add PySem.F.slot_tuple_add PySem.F.entry_tuple_add (PySem.F.args_tuple_add_2 _ _)
  (tuple_addW0 t b vs.toArray ws.toArray n n2 dd dd2 sl sl2 (by simp [hv])) ⟨ho, ho2, h1⟩
theorem op_addD : OpR X (binaryOp .Add) (rAddD (kx X)) := by
 intro pins s σ H x y v u Q I rx ry q
 obtain ⟨G, dx, dy, d, sg, ax, ay, ed, q⟩ := q
 unfold cf at ed
 split at ed
 ·cases ed
  rw [ax.int] at rx
  rw [ay.int] at ry
  exact op_add pins s σ H _ _ _ _ Q I rx ry ⟨_, _, rfl, rfl, q _ G H (Ext.refl sg) rfl⟩
 ·split at ed
  ·rename_i hz
   cases ed
   rw [ax.str] at rx
   rw [ay.str] at ry
   exact op_add_str pins s σ H _ _ _ _ Q I rx ry ⟨_, _, rfl, rfl, hz, q _ G H (Ext.refl sg) rfl⟩
  ·cases ed
 ·split at ed
  ·rename_i xs ys hz
   cases ed
   obtain ⟨l, vs, rfl, sq, dl⟩ := ax.lst sg
   obtain ⟨b, ws, rfl, sq2, dl2⟩ := ay.lst sg
   cases rx
   cases ry
   obtain ⟨its, rv, pl, _⟩ := I.list sq
   obtain ⟨its2, rv2, pl2, _⟩ := I.list sq2
   have l1 := dl.length; have l2 := dl2.length; have l3 := rv.length; have l4 := rv2.length
   refine add_seqL pl pl2 (by omega) ⟨.ref _, _, I.lnew (t' := s.toks) (rv.append rv2) (by rw [List.length_append]; omega), rfl, ?_⟩
   exact q _ (upd G s.heap.objs.size (.lst (vs ++ ws))) _ (Ext.new sg _ I.fresh) (den_newL sg I.fresh (dl.append dl2))
  ·cases ed
 ·split at ed
  ·rename_i xs ys hz
   cases ed
   obtain ⟨l, vs, rfl, sq, dl⟩ := ax.tup sg
   obtain ⟨b, ws, rfl, sq2, dl2⟩ := ay.tup sg
   have l1 := dl.length; have l2 := dl2.length
   by_cases hx : vs = []
   ·cases rx
    cases ry
    obtain ⟨its, rv, p1, _⟩ := I.tuple sq
    obtain ⟨its2, rv2, p2, _⟩ := I.tuple sq2
    refine cat_tup0 p1 p2 (rv.nil_iff.mpr hx) ⟨.ref b, H, I, rfl, ?_⟩
    subst hx
    have : xs = [] := by cases xs with
     | nil => rfl
     | cons _ _ => simp at l1
    subst this
    rcases ay with ad | ⟨_, _, _, z, _⟩ | ⟨_, _, _, z, _⟩
    ·exact q _ G H (Ext.refl sg) ad
    ·cases z
    ·cases z
   ·refine op_catT pins s σ H _ _ _ _ Q I rx ry ⟨l, b, vs, ws, rfl, rfl, sq, sq2, hx, by omega, fun z => ?_, fun z p hp => ?_⟩
    ·subst z
     have : ys = [] := by cases ys with
      | nil => rfl
      | cons _ _ => simp at l2
     subst this
     rw [List.append_nil] at q
     rcases ax with ad | ⟨_, _, _, z, _⟩ | ⟨_, _, _, z, _⟩
     ·exact q _ G H (Ext.refl sg) ad
     ·cases z
     ·cases z
    ·exact q _ (upd G p (.tup (vs ++ ws))) _ (Ext.new sg _ hp) (den_newT sg hp (dl.append dl2))
  ·cases ed
 ·cases ed
theorem prim_add {K : KA} : Prim2 K cf (rAddD K) := fun G H x y dx dy d sg ax ay ed Q q => ⟨G, dx, dy, d, sg, ax, ay, ed, q⟩
theorem pu_add (ha : ArE X B E a g) (hb : ArE X B E b h) : PuE X B E (.BinOp a .Add b pos) (g2 cf g h) := pu_op op_addD prim_add ha hb
noncomputable def pyIx : D → D → Option D
 | .lst xs, .int i => atI xs i
 | .tup xs, .int i => atI xs i
 | .str z, .int i => if z.length ≤ sizeLine then (match atI z.cps.toList i with
  | some c => some (.str ⟨#[c]⟩)
  | none => none) else none
 | _, _ => none
theorem DenL.atI {K : KA} {G : Hp} {ds : List D} {vs : List V} {i : Int} {d : D} (dl : DenL K G ds vs) (h : atI ds i = some d) : ∃ v, atI vs i = some v ∧ Den K G d v := by
 unfold L2.atI at h ⊢
 rw [dl.length] at h
 cases e : ixN vs.length i with
 | none => rw [e] at h; cases h
 | some j =>
  rw [e] at h
  exact dl.get h
theorem prim_ix {K : KA} : Prim2 K pyIx (rIx K) := fun G H x y dx dy d sg ax ay ed Q q => by
 unfold pyIx at ed
 split at ed
 ·obtain ⟨l, vs, rfl, sq, dl⟩ := ax.lst sg
  obtain ⟨v, ev, dv⟩ := dl.atI ed
  exact .inl ⟨l, vs, _, v, rfl, ay.int, sq, ev, q _ G H (Ext.refl sg) dv⟩
 ·obtain ⟨l, vs, rfl, sq, dl⟩ := ax.tup sg
  obtain ⟨v, ev, dv⟩ := dl.atI ed
  exact .inr (.inl ⟨l, vs, _, v, rfl, ay.int, sq, ev, q _ G H (Ext.refl sg) dv⟩)
 ·split at ed
  ·rename_i hz
   split at ed
   ·rename_i c ec
    cases ed
    exact .inr (.inr ⟨_, _, c, ax.str, ay.int, hz, ec, q _ G H (Ext.refl sg) rfl⟩)
   ·cases ed
  ·cases ed
 ·cases ed
theorem pu_ix (ha : ArE X B E a g) (hb : ArE X B E b h) (hs : PlainIx b := by intro _ _; rfl) : PuE X B E (.Subscript a b pos) (g2 pyIx g h) := PE.imp (pe_ix ix_seq ha hb hs) fun σ H Q q => op2 prim_ix q
theorem cb1 {K : KA} {f : D → Option D} {rr : List V → Hp → VK → Prop} (hp : ∀ G H x dx d, Same G H → Arg K G H dx x → f dx = some d → ∀ Q : VK, (∀ v G' H', Ext G H G' H' → Den K G' d v → Q v H') → rr [x] H Q) {σ : St} {H : Hp} {Q : VK} (q : tPu K B E (g1 f g) σ H Q) :
  tCB rr (tAl K B E [true] (aa g gNil)) σ H Q := by
 obtain ⟨G, δ, R, q⟩ := q
 refine ⟨G, δ, R, ?_⟩
 unfold aa
 unfold g1 at q
 cases e : g δ with
 | ok dx =>
  rw [e] at q
  obtain ⟨d, ed, qd⟩ := ResP.of (show ResP E G H (Res.of (f dx)) _ from q)
  intro vs G1 H1 e1 al
  obtain ⟨v, rfl, av⟩ := ArgsM.one al
  exact hp G1 H1 v dx d e1.gh av ed Q fun v G' H' e2 dn => qd v G' H' (e1.trans e2) dn
 | er c => rw [e] at q; exact q
 | st => rw [e] at q; exact q
noncomputable def pyLen : D → Option D
 | .str x => if x.length ≤ sizeLine then some (.int x.length) else none
 | .tup ds => some (.int ds.length)
 | .lst ds => some (.int ds.length)
 | _ => none
theorem pu_len {p : Pos} (hg : Gl X "len") (hm : X.mg "len" = none) (ha : ArE X B E e g) (he : starEach [e] X.env = (false, eval e X.env) :: starEach [] X.env := by rfl) (hpl : (backTo pos (starEach [] X.env)).any (·.1) = false := by rfl) : PuE X B E (.Call (.Name "len" p) [e] [] pos) (g1 pyLen g) :=
 PE.imp (pe_callB call_len hg hm PySem.boot_len (gd ha al_nil he) (by decide) (by decide) he hpl) fun σ H Q q => cb1 (fun G H x dx d sg ax ed Q q => by
  unfold pyLen at ed
  split at ed
  ·split at ed
   ·rename_i hz
    cases ed
    rw [ax.str]
    exact ⟨_, _, rfl, ⟨hz, rfl⟩, q _ G H (Ext.refl sg) rfl⟩
   ·cases ed
  ·cases ed
   obtain ⟨l, vs, rfl, sq, dl⟩ := ax.tup sg
   exact ⟨_, _, rfl, .inr ⟨vs, sq, dl.length⟩, q _ G H (Ext.refl sg) rfl⟩
  ·cases ed
   obtain ⟨l, vs, rfl, sq, dl⟩ := ax.lst sg
   exact ⟨_, _, rfl, .inl ⟨vs, sq, dl.length⟩, q _ G H (Ext.refl sg) rfl⟩
  ·cases ed) q
noncomputable def tyD : D → Option String
 | .non => some "NoneType"
 | .bl _ => some "bool"
 | .int _ => some "int"
 | .str _ => some "str"
 | .tup _ => some "tuple"
 | .lst _ => some "list"
 | .dct _ _ => some "dict"
 | _ => none
noncomputable def isT (t c : String) : Bool := t == c || (t == "bool" && c == "int")
noncomputable def dc (c : String) (d : D) : Option D := match tyD d with
 | some t => some (.bl (isT t c))
 | none => none
end
theorem ne_succ {a b : Nat} (h : a < b) : a ≠ b + 1 := by omega
theorem ne_succ' {b : Nat} : b + 1 ≠ b := by omega
instance : Inhabited D := ⟨.non⟩
theorem compLoop_all {prog : Program} {w : World} {A : Around} {R : Result → Shared → Prop} {s : Shared} {elt target iter : Expr} {ifs : List Expr} {scope : Scope} {pos : Pos} {it acc : Value} {env : Env} (I : Nat → Shared → Prop)
  (turn : ∀ n s, I n s → wpAny (model prog w) A (pyNext it) (fun r s₁ => match r with
   | none => R (.ok .next) s₁
   | some v => wpAny (model prog w) A (letOwnedTupleGo target it v) (fun _ s₁ => wpAny (model prog w) A (assign target env v) (fun _ s₂ =>
     wpAny (model prog w) A (forIn ifs true fun c r => if r = true then do let ok ← isTrue c env (eval c env); pure (ForInStep.yield ok) else pure (ForInStep.yield r)) (fun ok s₃ =>
      if ok = true then wpAny (model prog w) A (eval elt env) (fun x s₄ =>
       wpAny (model prog w) A (call (.builtin "list.append") [acc, x]) (fun _ s₅ => ∃ m, m < n ∧ I m s₅) (notedBy (model prog w) A env fun e s' => R (.error e) s') s₄) (notedBy (model prog w) A env fun e s' => R (.error e) s') s₃
      else ∃ m, m < n ∧ I m s₃) (notedBy (model prog w) A env fun e s' => R (.error e) s') s₂) (notedBy (model prog w) A env fun e s' => R (.error e) s') s₁) (notedBy (model prog w) A env fun e s' => R (.error e) s') s₁) (notedBy (model prog w) A env fun e s' => R (.error e) s') s)
  (n : Nat) (h : I n s) :
  codeAny (model prog w) A (.compLoop (.ListComp elt [⟨target, iter, ifs, 0⟩] scope pos) 0 it acc env) R s := by
 refine codeAny_loop rfl I (fun n s hI => ?_) n h
 show wpAny _ A ((compTurn (.ListComp elt [⟨target, iter, ifs, 0⟩] scope pos) 0 it acc env).onRaise (fun x => do noteFrame x env; theTreesLotGoes x)) _ _ s
 refine wpAny_noted ?_
 rw [compTurn_list]
 refine wpAny_bind (wpAny_standAt (wpAny_bind (wpAny_mono (turn n s hI) (fun r s₁ h₁ => ?_) fun _ _ h' => h')))
 cases r with
 | none => exact wpAny_pure h₁
 | some v =>
  refine wpAny_bind (wpAny_mono h₁ (fun _ s₁' h₁ => ?_) fun _ _ h' => h')
  refine wpAny_bind (wpAny_mono h₁ (fun _ s₂ h₂ => wpAny_bind (wpAny_mono h₂ (fun ok s₃ h₃ => ?_) fun _ _ h' => h')) fun _ _ h' => h')
  cases ok with
  | false => exact wpAny_pure ⟨rfl, h₃⟩
  | true =>
   exact wpAny_bind (wpAny_bind (wpAny_mono h₃ (fun x s₄ h₄ => wpAny_bind (wpAny_mono h₄ (fun _ s₅ h₅ => wpAny_pure (wpAny_pure ⟨rfl, h₅⟩)) fun _ _ h' => h')) fun _ _ h' => h'))
noncomputable def closGo (env : Env) : List (Str × NameKind) → List (Str × Addr) → Option (List (Str × Addr))
 | [], cs => some cs
 | (n, k) :: r, cs => if k = .free then (match env.cells.lookup n with
  | some c => closGo env r ((n, c) :: cs)
  | none => none) else closGo env r cs
theorem closGo_eq (env : Env) : ∀ (names : List (Str × NameKind)) (cs cl : List (Str × Addr)), closGo env names cs = some cl →
  (forIn names cs fun x (c : List (Str × Addr)) => (if (x.2 == NameKind.free) = true then do let a ← cellOf env x.1; pure (ForInStep.yield ((x.1, a) :: c)) else pure (ForInStep.yield c) : Sem _)) = pure cl
 | [], cs, cl, h => by cases h; rfl
 | (n, k) :: r, cs, cl, h => by
  unfold closGo at h
  rw [List.forIn_cons]
  by_cases hk : k = .free
  ·subst hk
   simp only [if_true] at h
   cases hc : env.cells.lookup n with
   | none => rw [hc] at h; cases h
   | some c =>
    rw [hc] at h
    have : cellOf env n = pure c := by unfold cellOf; rw [hc]
    simp only [beq_self_eq_true, if_true, this, pure_bind]
    exact closGo_eq env r _ cl h
  ·rw [if_neg hk] at h
   have hb : (k == NameKind.free) = false := by simpa using hk
   simp only [hb, Bool.false_eq_true, if_false, pure_bind]
   exact closGo_eq env r _ cl h
theorem closureFor_eq {scope : Scope} {env : Env} {cl : List (Str × Addr)} (h : closGo env scope.names [] = some cl) : closureFor scope env = pure cl := by
 have q := closGo_eq env scope.names [] cl h
 unfold closureFor
 exact (congrArg (fun t => t >>= fun cs => pure cs) q).trans (pure_bind _ _)
theorem closGo_mem (env : Env) : ∀ (names : List (Str × NameKind)) (cs cl : List (Str × Addr)), closGo env names cs = some cl → (∀ p ∈ cs, env.cells.lookup p.1 = some p.2) → ∀ p ∈ cl, env.cells.lookup p.1 = some p.2
 | [], cs, cl, h, q => by cases h; exact q
 | (n, k) :: r, cs, cl, h, q => by
  unfold closGo at h
  by_cases hk : k = .free
  ·subst hk
   simp only [if_true] at h
   cases hc : env.cells.lookup n with
   | none => rw [hc] at h; cases h
   | some c =>
    rw [hc] at h
    refine closGo_mem env r _ cl h fun p hp => ?_
    rcases List.mem_cons.mp hp with rfl | hp
    ·exact hc
    ·exact q p hp
  ·rw [if_neg hk] at h
   exact closGo_mem env r _ cl h q
theorem d9 {β : Type} : ∀ {l : List (Str × β)} {x : Str} {c : β}, l.lookup x = some c → (x, c) ∈ l
 | [], _, _, h => by simp at h
 | (n, b) :: r, x, c, h => by
  rw [List.lookup_cons] at h
  by_cases e : x = n
  ·subst e
   simp only [beq_self_eq_true] at h
   cases h
   exact List.mem_cons_self
  ·have hb : (x == n) = false := by simpa using e
   rw [hb] at h
   exact List.mem_cons_of_mem _ (d9 h)
noncomputable def eu (X : Cx) (scope : Scope) (cl : List (Str × Addr)) (N : List Str) (x : Str) (C : Addr) (s₀ : Shared) (H₀ : Hp) (ex : List Addr) (pn : List (Addr × Obj)) : Cx where
 prog := X.prog
 w := X.w
 K := (kx X)
 mg := X.mg
 base := X.base
 A := X.A
 N := N
 s₀ := s₀
 H₀ := H₀
 env := compEnvC scope cl C X.env
 outer := X.stack
 stack := X.stack
 ex := ex
 fn := fun y => decide (y = x)
 calm := X.calm
 pn := pn
 xe := fun _ _ => False
structure CapOk (X : Cx) (scope : Scope) (cl : List (Str × Addr)) (y : Str) (i : Nat) : Prop where
 at_ : X.N[i]? = some y
 vis : Vis X.env.scope y
 nloc : X.env.kindOf y ≠ some .local
 cell : ∃ c, cl.lookup y = some c
 kind : (relabel scope X.env).names.lookup y = some .cell ∨ (relabel scope X.env).names.lookup y = some .free
noncomputable def Caps (X : Cx) (scope : Scope) (cl : List (Str × Addr)) : List Str → List Nat → Prop
 | [], ix => ix = []
 | y :: M, ix => ∃ i r, ix = i :: r ∧ CapOk X scope cl y i ∧ Caps X scope cl M r
theorem Caps.get {X : Cx} {scope : Scope} {cl : List (Str × Addr)} : ∀ {M : List Str} {ix : List Nat}, Caps X scope cl M ix → ∀ (j : Nat) y, M[j]? = some y → ∃ i, ix[j]? = some i ∧ CapOk X scope cl y i
 | [], _, _, j, y, h => by simp at h
 | _ :: _, _, ⟨i, r, h1, h2, h3⟩, 0, y, h => by
  simp at h; subst h; subst h1; exact ⟨i, rfl, h2⟩
 | _ :: _, _, ⟨i, r, h1, h2, h3⟩, j + 1, y, h => by
  subst h1
  obtain ⟨k, q1, q2⟩ := Caps.get h3 j y (by simpa using h)
  exact ⟨k, by simpa using q1, q2⟩
theorem Caps.length {X : Cx} {scope : Scope} {cl : List (Str × Addr)} : ∀ {M : List Str} {ix : List Nat}, Caps X scope cl M ix → M.length = ix.length
 | [], _, h => by rw [show _ = [] from h]; rfl
 | _ :: _, _, ⟨i, r, h1, h2, h3⟩ => by rw [h1, List.length_cons, List.length_cons, Caps.length h3]
structure CompOk (X : Cx) (scope : Scope) (cl : List (Str × Addr)) (x : Str) (M : List Str) (ix : List Nat) : Prop where
 clos : closGo X.env scope.names [] = some cl
 kind : scope.kind = .function
 ncell : ∀ y ∈ scope.names, y.2 ≠ .cell
 names : ∀ y ∈ scope.names, y.2 = .local → scope.names.lookup y.1 = some .local
 loc : scope.names.lookup x = some .local
 xcl : cl.lookup x = none
 nd : (x :: M).Nodup
 ixd : ix.Nodup
 cap : Caps X scope cl M ix
section
variable {X : Cx} {scope : Scope} {cl : List (Str × Addr)} {x : Str} {M : List Str} {ix : List Nat} {pins : List (Addr × Obj)} {σ : St} {H : Hp} {s : Shared} {fp : List Addr}
theorem closGo_free (env : Env) : ∀ (names : List (Str × NameKind)) (cs cl : List (Str × Addr)), closGo env names cs = some cl → ∀ y, ((∃ c, cs.lookup y = some c) ∨ (y, NameKind.free) ∈ names) → ∃ c, cl.lookup y = some c
 | [], cs, cl, h, y, q => by
  cases h
  rcases q with q | q
  ·exact q
  ·simp at q
 | (n, k) :: r, cs, cl, h, y, q => by
  unfold closGo at h
  by_cases hk : k = .free
  ·subst hk
   simp only [if_true] at h
   cases hc : env.cells.lookup n with
   | none => rw [hc] at h; cases h
   | some c =>
    rw [hc] at h
    refine closGo_free env r _ cl h y ?_
    by_cases e : y = n
    ·subst e
     exact .inl ⟨c, by simp⟩
    ·rcases q with ⟨c', q⟩ | q
     ·refine .inl ⟨c', ?_⟩
      have hb : (y == n) = false := by simpa using e
      rw [List.lookup_cons, hb]
      exact q
     ·rcases List.mem_cons.mp q with z | z
      ·cases z; exact absurd rfl e
      ·exact .inr z
  ·rw [if_neg hk] at h
   refine closGo_free env r _ cl h y ?_
   rcases q with q | q
   ·exact .inl q
   ·rcases List.mem_cons.mp q with z | z
    ·cases z; exact absurd rfl hk
    ·exact .inr z
theorem CompOk.free (O : CompOk X scope cl x M ix) : ∀ y, (y, NameKind.free) ∈ scope.names → ∃ c, cl.lookup y = some c := fun y h => closGo_free X.env _ _ cl O.clos y (.inr h)
theorem CompOk.cells (O : CompOk X scope cl x M ix) {y : Str} {c : Addr} (h : cl.lookup y = some c) : X.env.cells.lookup y = some c :=
 closGo_mem X.env _ _ cl O.clos (fun p hp => by simp at hp) (y, c) (d9 h)
theorem kind_relabel {env : Env} {scope : Scope} {y : Str} (h : (relabel scope env).names.lookup y = some .cell ∨ (relabel scope env).names.lookup y = some .free) (hn : ∀ z ∈ scope.names, z.2 ≠ .cell) : (y, NameKind.free) ∈ scope.names := by
 have key : ∃ k, (y, k) ∈ (relabel scope env).names ∧ (k = .cell ∨ k = .free) := by
  rcases h with h | h
  ·exact ⟨_, d9 h, .inl rfl⟩
  ·exact ⟨_, d9 h, .inr rfl⟩
 obtain ⟨k, hm, hk⟩ := key
 obtain ⟨⟨n, k'⟩, hm', e⟩ := List.mem_map.mp hm
 by_cases hc : (k' == NameKind.free && env.scope.kind == .function && env.kindOf n == some .cell) = true
 ·simp only [hc, if_true] at e
  cases e
  have : k' = .free := by
   simp only [Bool.and_eq_true] at hc
   simpa using hc.1.1
  subst this
  exact hm'
 ·simp only [hc, if_false] at e
  cases e
  rcases hk with hk | hk
  ·exact absurd hk (hn _ hm')
  ·subst hk; exact hm'
theorem comp_ok (O : CompOk X scope cl x M ix) (I : Inv X pins σ H s) (hf : ∀ b ∈ fp, FpOk X pins H b) (hfs : ∀ b ∈ fp, b < s.heap.objs.size) {h1 : Heap} (hk : ∀ b o, s.heap.get? b = some o → h1.get? b = some o) (hz : h1.objs.size = s.heap.objs.size + 1) {tk : Nat} :
  (eu X scope cl (x :: M) x (s.heap.objs.size + 1) { s with heap := h1, toks := tk } (upd H s.heap.objs.size (.lst [])) fp (X.pn ++ pins)).Ok := by
 have fresh : H s.heap.objs.size = none := I.hok.fresh (Nat.le_refl _)
 have old : ∀ {b : Addr} {o : Obj}, s.heap.get? b = some o → b ≠ s.heap.objs.size := fun e z => by
  have := Heap.lt_size e
  rw [z] at this
  exact Nat.lt_irrefl _ this
 have cne : ∀ y c, cl.lookup y = some c → c < s.heap.objs.size := fun y c e => by
  obtain ⟨v, q⟩ := I.cell y c (O.cells e)
  exact q.lt
 have kO := I.ok
 refine ⟨kO.mod, O.kind, kO.glob, kO.blt, ?_, ?_, ?_, ?_, kO.hd, kO.frames, .inl rfl, ?_, ?_, ?_, ?_, ?_, ?_, ?_⟩
 ·show h1.objs.size ≤ s.heap.objs.size + 1
  omega
 ·intro a b c h1 h2
  exact kO.inj a b c (O.cells h1) (O.cells h2)
 ·intro y hy
  have := kind_relabel (env := X.env) (scope := scope) (y := y) hy O.ncell
  exact O.free _ this
 ·intro y c hy hc
  have : y = x := of_decide_eq_true hy
  subst this
  rw [show (eu X scope cl (y :: M) y (s.heap.objs.size + 1) { s with heap := h1, toks := tk } (upd H s.heap.objs.size (.lst [])) fp (X.pn ++ pins)).env.cells = cl from rfl, O.xcl] at hc
  cases hc
 ·intro b hb
  have := hfs b hb
  refine ⟨?_, fun y c e => ?_⟩
  ·exact ne_succ this
  ·exact (hf b hb).2.2.2.2.1 y c (O.cells e)
 ·intro b o e
  obtain ⟨q1, q2⟩ := I.bs b o e
  refine ⟨hk b o q1, ?_⟩
  show upd H s.heap.objs.size (.lst []) b = none
  rw [ak (old q1)]
  exact q2
 ·show X.base.objs.size ≤ h1.objs.size
  have := kO.bsz
  have := I.sz
  omega
 ·intro b o e hb
  rcases (hf b hb).2.2.2.1 with q | q
  ·exact kO.noex b o e q
  ·exact absurd (Nat.lt_of_lt_of_le (Heap.lt_size e) (Nat.le_trans kO.bsz q)) (Nat.lt_irrefl _)
 ·intro b hb hfb
  rcases List.mem_cons.mp (I.stkSub b hfb) with e | e
  ·exact (hf b hb).2.1 e
  ·exact (hf b hb).2.2.1 e
 ·exact I.stack.of_keeps fun b o e _ => ⟨o, hk b o e, rfl⟩
 ·intro b hb
  show upd H s.heap.objs.size (.lst []) b = none
  have q := I.stkFree b hb
  obtain ⟨_, o, ho, _⟩ := I.stack.mem hb
  rw [ak (old ho)]
  exact q
noncomputable def fi (σ : St) (ix : List Nat) (o : Option V) : St := o :: ix.map fun i => (σ[i]?).join
theorem compSt_len {σ : St} {o : Option V} (O : CompOk X scope cl x M ix) : (fi σ ix o).length = (x :: M).length := by
 unfold fi
 rw [List.length_cons, List.length_cons, List.length_map, O.cap.length]
theorem comp_inv (O : CompOk X scope cl x M ix) (I : Inv X pins σ H s) (hf : ∀ b ∈ fp, FpOk X pins H b) (hfs : ∀ b ∈ fp, b < s.heap.objs.size) {h1 h2 : Heap} (hk : ∀ b o, s.heap.get? b = some o → h1.get? b = some o) (hz : h1.objs.size = s.heap.objs.size + 1) {tk tk2 : Nat}
  (ha : h1.get? s.heap.objs.size = some { cls := .type "list", data := .seq #[] 0 }) (hk2 : ∀ b o, h1.get? b = some o → h2.get? b = some o) {m : Str → Option Value} (hn : h2.Ns (s.heap.objs.size + 1) m) :
  Inv (eu X scope cl (x :: M) x (s.heap.objs.size + 1) { s with heap := h1, toks := tk } (upd H s.heap.objs.size (.lst [])) fp (X.pn ++ pins)) [] (fi σ ix none) (upd H s.heap.objs.size (.lst [])) { s with heap := h2, toks := tk2 } := by
 have fresh : H s.heap.objs.size = none := I.hok.fresh (Nat.le_refl _)
 have old : ∀ {b : Addr} {o : Obj}, s.heap.get? b = some o → b ≠ s.heap.objs.size := fun e z => by
  have := Heap.lt_size e
  rw [z] at this
  exact Nat.lt_irrefl _ this
 have hn1 : h1.get? (s.heap.objs.size + 1) = none := Heap.get?_none_of_le (by omega)
 have frC : H (s.heap.objs.size + 1) = none := I.hok.fresh (Nat.le_succ _)
 refine ⟨comp_ok O I hf hfs hk hz, rfl, I.bare, Un.kept hk2, ⟨m, hn, ?_⟩, ?_, ?_, ?_, ?_, ?_, compSt_len O⟩
 ·intro i y v hi hv _
  cases i with
  | zero => simp [fi] at hv
  | succ j =>
   have hy : M[j]? = some y := by simpa [eu] using hi
   obtain ⟨k, hk', C⟩ := O.cap.get j y hy
   have hv' : ((ix.map fun i => (σ[i]?).join)[j]?) = some (some v) := by simpa [fi] using hv
   rw [List.getElem?_map, hk'] at hv'
   have hs : (σ[k]?).join = some v := by simpa using hv'
   have hs' : σ[k]? = some (some v) := by
    cases e : σ[k]? with
    | none => rw [e] at hs; simp at hs
    | some o => rw [e] at hs; simp at hs; rw [hs]
   obtain ⟨mX, _, hl⟩ := I.loc
   obtain ⟨u, r, lk⟩ := hl k y v C.at_ hs' C.vis
   refine ⟨u, r, .inr ⟨C.kind, ?_⟩⟩
   rcases lk with ⟨q, _⟩ | ⟨_, c, hc, hcell⟩
   ·exact absurd q C.nloc
   ·obtain ⟨c', hc'⟩ := C.cell
    have := O.cells hc'
    rw [hc] at this
    cases this
    exact ⟨c, hc', hcell.keeps fun b o e => hk2 b o (hk b o e)⟩
 ·intro y c hc
  obtain ⟨v, q⟩ := I.cell y c (O.cells hc)
  exact ⟨v, q.keeps fun b o e => hk2 b o (hk b o e)⟩
 ·show upd H s.heap.objs.size (.lst []) (s.heap.objs.size + 1) = none
  rw [ak ne_succ']
  exact frC
 ·intro y c hc
  obtain ⟨v, q⟩ := I.cell y c (O.cells hc)
  have hne : (eu X scope cl (x :: M) x (s.heap.objs.size + 1) { s with heap := h1, toks := tk } (upd H s.heap.objs.size (.lst [])) fp (X.pn ++ pins)).fn y = false := decide_eq_false fun z => by
   subst z
   have hc' : cl.lookup y = some c := hc
   rw [O.xcl] at hc'; cases hc'
  rcases I.freeC y c (O.cells hc) with fr | ⟨_, o, fr⟩
  ·refine .inl ?_
   show upd H s.heap.objs.size (.lst []) c = none
   rw [ak (Nat.ne_of_lt q.lt)]
   exact fr
  ·refine .inr ⟨hne, o, ?_⟩
   show upd H s.heap.objs.size (.lst []) c = _
   rw [ak (Nat.ne_of_lt q.lt)]
   exact fr
 ·intro p hp
  have hp' : p ∈ X.pn ++ pins := by simpa [eu] using hp
  obtain ⟨q1, q2, q3, q4, q5⟩ := I.pin p hp'
  refine ⟨hk2 _ _ (hk _ _ q1), ?_, ?_, ?_, q5⟩
  ·show upd H s.heap.objs.size (.lst []) p.1 = none
   rw [ak (old q1)]
   exact q2
  ·exact ne_succ (Heap.lt_size q1)
  ·intro hfb
   rcases List.mem_cons.mp (I.stkSub p.1 hfb) with e | e
   ·exact q3 e
   ·exact q4 e
 ·refine I.hok.laid (fun b o e => hk2 b o (hk b o e)) (Nat.le_refl _) ⟨Nat.zero_le _, [], 0, .nil, hk2 _ _ ha⟩
end
noncomputable def compL (f : D → Option (Option D)) : List D → Option (List D)
 | [] => some []
 | d :: r => match f d with
  | none => none
  | some o => match compL f r with
   | none => none
   | some ys => some (o.toList ++ ys)
noncomputable def cr (ix : List Nat) (δ : En) (s : Sl) : En := s :: ix.map fun i => (δ[i]?).getD .no
noncomputable def turnD (ix : List Nat) (t : En → Res) (g : En → Res) (δ : En) (d : D) : Option (Option D) := match t (cr ix δ (.pu d)) with
 | .ok (.bl true) => (match g (cr ix δ (.pu d)) with
  | .ok y => some (some y)
  | _ => none)
 | .ok (.bl false) => some none
 | _ => none
noncomputable def ci (r : En → ResL) (ix : List Nat) (t : En → Res) (g : En → Res) : En → Res := fun δ => match r δ with
 | .ok ds => if ds.length ≤ sizeLine then (match compL (turnD ix t g δ) ds with
  | some ys => .ok (.lst ys)
  | none => .st) else .st
 | .er c => .er c
 | .st => .st
theorem isL_comp {r : En → ResL} {ix : List Nat} {t g : En → Res} : IsL (ci r ix t g) := fun δ d h => by
 unfold ci at h
 split at h
 ·split at h
  ·split at h
   ·cases h; exact ⟨_, rfl⟩
   ·cases h
  ·cases h
 ·cases h
 ·cases h
theorem compP {E : EK} {G H : Hp} {r : En → ResL} {ix : List Nat} {t g : En → Res} {δ : En} {P : D → Prop} (q : ResP E G H (ci r ix t g δ) P) :
  ResLP E G H (r δ) fun ds => ds.length ≤ sizeLine ∧ ∃ ys, compL (turnD ix t g δ) ds = some ys ∧ P (.lst ys) := by
 unfold ci at q
 cases e : r δ with
 | ok ds =>
  rw [e] at q
  dsimp only at q
  by_cases hl : ds.length ≤ sizeLine
  ·rw [if_pos hl] at q
   cases e2 : compL (turnD ix t g δ) ds with
   | none => rw [e2] at q; exact q.elim
   | some ys => rw [e2] at q; exact ⟨hl, ys, e2, q⟩
  ·rw [if_neg hl] at q; exact q.elim
 | er c => rw [e] at q; exact q
 | st => rw [e] at q; exact q
theorem compEn_env {K : KA} {B G H : Hp} {σ : St} {δ : En} {ix : List Nat} {s : Sl} {o : Option V} (R : EnvR K B G H σ δ) (nd : ix.Nodup) (ok : SlOk K B G H s o) (no : s.own = false) : EnvR K B G H (fi σ ix o) (cr ix δ s) := by
 have key : ∀ (j : Nat) t, (ix.map fun i => (δ[i]?).getD Sl.no)[j]? = some t → ∃ i, ix[j]? = some i ∧ ((t = .no) ∨ δ[i]? = some t) ∧ (ix.map fun i => (σ[i]?).join)[j]? = some ((σ[i]?).join) := fun j t h => by
  rw [List.getElem?_map] at h
  cases e : ix[j]? with
  | none => rw [e] at h; cases h
  | some i =>
   rw [e] at h
   refine ⟨i, rfl, ?_, by rw [List.getElem?_map, e]; rfl⟩
   cases e2 : δ[i]? with
   | none => rw [Option.map_some, e2] at h; cases h; exact .inl rfl
   | some u => rw [Option.map_some, e2] at h; cases h; exact .inr rfl
 have jo : ∀ (i : Nat) a, (σ[i]?).join = some (V.ref a) → σ[i]? = some (some (.ref a)) := fun i a h => by
  cases e : σ[i]? with
  | none => rw [e] at h; simp at h
  | some o => rw [e] at h; simp at h; rw [h]
 refine ⟨R.bh, R.gh, ?_, fun j t h => ?_, fun j t a h1 h2 h3 => ?_, fun j k t u a h1 h2 h3 h4 h5 h6 => ?_, R.gb⟩
 ·unfold fi cr; rw [List.length_cons, List.length_cons, List.length_map, List.length_map]
 ·cases j with
  | zero =>
   have : t = s := by simpa [cr] using h.symm
   subst this
   exact ⟨o, rfl, ok⟩
  | succ j =>
   obtain ⟨i, q1, q2, q3⟩ := key j t (by simpa [cr] using h)
   refine ⟨_, by simpa [fi] using q3, ?_⟩
   rcases q2 with rfl | q2
   ·trivial
   ·obtain ⟨o', z1, z2⟩ := R.sl i t q2
    rw [z1]
    exact z2
 ·cases j with
  | zero =>
   have : t = s := by simpa [cr] using h1.symm
   subst this
   rw [no] at h2
   cases h2
  | succ j =>
   obtain ⟨i, q1, q2, q3⟩ := key j t (by simpa [cr] using h1)
   have h3' : (ix.map fun i => (σ[i]?).join)[j]? = some (some (.ref a)) := by simpa [fi] using h3
   rw [q3] at h3'
   rcases q2 with rfl | q2
   ·cases h2
   ·exact R.own i t a q2 h2 (jo i a (Option.some.inj h3'))
 ·cases j with
  | zero =>
   have : t = s := by simpa [cr] using h1.symm
   subst this
   rw [no] at h3
   cases h3
  | succ j =>
   cases k with
   | zero =>
    have : u = s := by simpa [cr] using h2.symm
    subst this
    rw [no] at h4
    cases h4
   | succ k =>
    obtain ⟨i, q1, q2, q3⟩ := key j t (by simpa [cr] using h1)
    obtain ⟨i', y1, y2, y3⟩ := key k u (by simpa [cr] using h2)
    have h5' : (ix.map fun i => (σ[i]?).join)[j]? = some (some (.ref a)) := by simpa [fi] using h5
    have h6' : (ix.map fun i => (σ[i]?).join)[k]? = some (some (.ref a)) := by simpa [fi] using h6
    rw [q3] at h5'
    rw [y3] at h6'
    rcases q2 with rfl | q2
    ·cases h3
    ·rcases y2 with rfl | y2
     ·cases h4
     ·have z := R.dis i i' t u a q2 y2 h3 h4 (jo i a (Option.some.inj h5')) (jo i' a (Option.some.inj h6'))
      subst z
      have lj : j < ix.length := (List.getElem?_eq_some_iff.mp q1).1
      rw [(List.getElem?_inj lj nd).mp (q1.trans y1.symm)]
section
variable {X : Cx} {B : Hp} {E : EK} {scope : Scope} {cl : List (Str × Addr)} {x : Str} {M : List Str} {ix : List Nat} {elt iter : Expr} {ifs : List Expr} {px pos : Pos} {r : En → ResL} {t g : En → Res}
noncomputable abbrev EF : EK := fun _ _ => False
structure BlockOk (X : Cx) (B : Hp) (E : EK) (scope : Scope) (cl : List (Str × Addr)) (x : Str) (M : List Str) (px : Pos) (elt : Expr) (ifs : List Expr) (t g : En → Res) : Prop where
 test : (ifs = [] ∧ t = gC (.bl true)) ∨ ∃ c, ifs = [c] ∧ ∀ C s₀ H₀ ex pn, PuT (eu X scope cl (x :: M) x C s₀ H₀ ex pn) B EF c t
 elt : ∀ C s₀ H₀ ex pn, PuE (eu X scope cl (x :: M) x C s₀ H₀ ex pn) B EF elt g
theorem tg_comp (O : CompOk X scope cl x M ix) (C s₀ H₀ ex pn) : PG (eu X scope cl (x :: M) x C s₀ H₀ ex pn) (.Name x px) (gName 0) :=
 pg_name (i := 0) O.nd rfl (.inl (lookup_relabel_local O.loc)) (.inl (decide_eq_true rfl))
theorem ResP.ok0 {G H : Hp} {r : Res} {P : D → Prop} (d : D) (e : r = .ok d) (h : P d) : ResP EF G H r P := by rw [e]; exact h
theorem comp_run (O : CompOk X scope cl x M ix) (hc : X.calm = true) (Bk : BlockOk X B E scope cl x M px elt ifs t g) {pins : List (Addr × Obj)} {σ : St} {δ : En} {G H : Hp} {s : Shared} {it : Addr} {fp : List Addr} {tn : Nat → Heap → Prop} {J : It} {ds ys : List D}
  (I : Inv X pins σ H s) (T : Turn X.prog X.w (kx X) (.Name x px) J fp it tn) (st : tn 0 s.heap) (hf : ∀ b ∈ fp, FpOk X pins H b) (R : EnvR (kx X) B G H σ δ) (ok : ItOk (kx X) J ds (fun G2 H2 => Ext G H G2 H2)) (hl : ds.length ≤ sizeLine) (ey : compL (turnD ix t g δ) ds = some ys)
  {RR : Value → Addr → Result → Shared → Prop}
  (fin : ∀ s1 H1 G1 vs m, Inv X pins σ H1 s1 → s1.heap.Ns (s.heap.objs.size + 1) m → H1 (s.heap.objs.size + 1) = none → Ext G H G1 H1 → G1 s.heap.objs.size = none → H1 s.heap.objs.size = some (.lst vs) → DenL (kx X) G1 ys vs → RR (.ref s.heap.objs.size) (s.heap.objs.size + 1) (.ok .next) s1) :
  wpAny (model X.prog X.w) X.A (newList []) (fun acc s₃ => wpAny (model X.prog X.w) X.A (newFunctionEnv scope X.env.globals cl [] X.env.qual none .none (some X.env)) (fun cenv s₄ =>
   codeAny (model X.prog X.w) X.A (.compStart (.ListComp elt [⟨.Name x px, iter, ifs, 0⟩] scope pos) 0 (.ref it) acc { cenv with scope := relabel scope X.env }) (RR acc cenv.locals) s₄) X.xe s₃) X.xe s := by
 have hfs : ∀ b ∈ fp, b < s.heap.objs.size := fun b hb => by
  obtain ⟨o, e, _⟩ := T.obj 0 _ st b hb
  exact Heap.lt_size e
 refine wpAny_newObj_type (wpAny_newFunctionEnv O.ncell (by intro y hy; simp at hy) (fun h₂ hns₂ hsb₂ => ?_) O.kind)
 dsimp only at hns₂ hsb₂ ⊢
 generalize hH2 : s.heap.push { cls := .type "list", dict := none, data := .seq ([] : List Value).toArray } = h₁ at hns₂ hsb₂ ⊢
 have hz : h₁.objs.size = s.heap.objs.size + 1 := by rw [← hH2, Heap.size_push]
 rw [hz] at hns₂ hsb₂ ⊢
 have hk : ∀ b o, s.heap.get? b = some o → h₁.get? b = some o := fun b o e => by rw [← hH2]; exact Heap.get?_push_of_some _ e
 have hk2 : ∀ b o, h₁.get? b = some o → h₂.get? b = some o := fun b o e => by
  have : b < s.heap.objs.size + 1 := by rw [← hz]; exact Heap.lt_size e
  exact hsb₂.extBut b o (Nat.ne_of_lt this) (Heap.get?_push_of_some _ e)
 have ha : h₁.get? s.heap.objs.size = some { cls := .type "list", data := .seq #[] 0 } := by rw [← hH2]; exact Heap.get?_push_size _ rfl
 have I0 := comp_inv (tk := s.toks) (tk2 := s.toks + ([] : List (Str × Value)).length) O I hf hfs hk hz ha hk2 hns₂
 have fresh : H s.heap.objs.size = none := I.hok.fresh (Nat.le_refl _)
 have e0 : Ext G H G (upd H s.heap.objs.size (.lst [])) := Ext.own R.gh _ fresh
 have g0 : G s.heap.objs.size = none := fy R.gh fresh
 have hfC : ∀ {H1 : Hp}, (∀ b ∈ fp, H1 b = none) → ∀ b ∈ fp, FpOk (eu X scope cl (x :: M) x (s.heap.objs.size + 1) { s with heap := h₁, toks := s.toks } (upd H s.heap.objs.size (.lst [])) fp (X.pn ++ pins)) [] H1 b := fun {H1} hn b hb => by
  obtain ⟨f0, f1, f2, f3, f4, f5⟩ := hf b hb
  refine ⟨hn b hb, ?_, ?_, .inl hb, fun y c e => f4 y c (O.cells e), fun p hp => f5 p (by simpa [eu] using hp)⟩
  ·exact ne_succ (hfs b hb)
  ·intro hfb
   rcases List.mem_cons.mp (I.stkSub b hfb) with e | e
   ·exact f1 e
   ·exact f2 e
 have loop : codeAny (model X.prog X.w) X.A (.compLoop (.ListComp elt [⟨.Name x px, iter, ifs, 0⟩] scope pos) 0 (.ref it) (.ref s.heap.objs.size) (compEnvC scope cl (s.heap.objs.size + 1) X.env)) (RR (.ref s.heap.objs.size) (s.heap.objs.size + 1))
   { s with heap := h₂, toks := s.toks + ([] : List (Str × Value)).length } := by
  refine compLoop_all (fun n s1 => ∃ i o H1 G1 vs zs rest, n = ds.length - i ∧ i ≤ ds.length ∧ Inv (eu X scope cl (x :: M) x (s.heap.objs.size + 1) { s with heap := h₁, toks := s.toks } (upd H s.heap.objs.size (.lst [])) fp (X.pn ++ pins)) [] (fi σ ix o) H1 s1 ∧ tn i s1.heap ∧ (∀ b ∈ fp, H1 b = none) ∧
   H1 s.heap.objs.size = some (.lst vs) ∧ G1 s.heap.objs.size = none ∧ Ext G H G1 H1 ∧ DenL (kx X) G1 zs vs ∧ zs.length ≤ i ∧ compL (turnD ix t g δ) (ds.drop i) = some rest ∧ ys = zs ++ rest) ?_ ds.length
   ⟨0, none, _, G, [], [], ys, rfl, Nat.zero_le _, I0, T.keep 0 _ _ st (fun b _ o e => hk2 b o (hk b o e)), fun b hb => by rw [ak (Nat.ne_of_lt (hfs b hb))]; exact (hf b hb).1, bg, g0, e0, rfl, Nat.le_refl _, ey, rfl⟩
  rintro n s1 ⟨i, o, H1, G1, vs, zs, rest, rfl, hi, I1, st1, fr1, ha1, ga1, x1, dl1, zl, er, eys⟩
  obtain ⟨okg, oks⟩ := ok i G1 H1 x1 x1.gh
  by_cases hlt : i < ds.length
  ·obtain ⟨go, yl⟩ := okg ds[i] (by simp [hlt])
   rw [List.drop_eq_getElem_cons hlt] at er
   unfold compL at er
   cases ef : turnD ix t g δ ds[i] with
   | none => rw [ef] at er; cases er
   | some oy =>
   rw [ef] at er
   dsimp only at er
   cases er2 : compL (turnD ix t g δ) (ds.drop (i + 1)) with
   | none => rw [er2] at er; cases er
   | some rest2 =>
   rw [er2] at er
   have er' : rest = oy.toList ++ rest2 := by cases er; rfl
   subst er'
   refine wpAny_mono (T.item (eu X scope cl (x :: M) x (s.heap.objs.size + 1) { s with heap := h₁, toks := s.toks } (upd H s.heap.objs.size (.lst [])) fp (X.pn ++ pins)) rfl rfl rfl hc i [] s1 _ H1 _ I1 (hfC fr1) st1 go) (fun rr s2 ⟨u, hr, h2⟩ => ?_) fun _ _ q => q
   subst hr
   refine wpAny_mono h2 (fun _ s3 ⟨xv, H3, I3, r3, y3, st3, fr3⟩ => ?_) fun _ _ q => q
   obtain ⟨G3, e3, dn⟩ := yl xv H3 y3
   have I3' := I3.pinned (hfC fr3) (T.obj _ _ st3)
   have x3 : Ext G H G3 H3 := x1.trans e3
   have ha3 : H3 s.heap.objs.size = some (.lst vs) := e3.hh _ _ ha1
   have ga3 : G3 s.heap.objs.size = none := e3.fr _ _ ha1 ga1 rfl
   refine wpAny_mono (tg_comp O _ _ _ _ _ _ s3 _ H3 xv u (fun σ' H' => σ' = fi σ ix (some xv) ∧ H' = H3) I3' r3 ⟨rfl, rfl⟩) (fun _ s4 ⟨σ4, H4, I4, e4, e4'⟩ => ?_) fun _ _ q => q.elim
   subst e4 e4'
   have R4 : EnvR (kx X) B G3 H4 (fi σ ix (some xv)) (cr ix δ (.pu ds[i])) := compEn_env (R.ext x3) O.ixd ⟨xv, rfl, dn⟩ rfl
   have next : ∀ {s5 : Shared} {H5 : Hp} {G5 : Hp} {us : List V} {ws : List D}, Inv (eu X scope cl (x :: M) x (s.heap.objs.size + 1) { s with heap := h₁, toks := s.toks } (upd H s.heap.objs.size (.lst [])) fp (X.pn ++ pins)) ([] ++ pinsAt fp s3.heap) (fi σ ix (some xv)) H5 s5 →
     H5 s.heap.objs.size = some (.lst us) → G5 s.heap.objs.size = none → Ext G H G5 H5 → DenL (kx X) G5 ws us → ws = zs ++ oy.toList →
     ∃ m, m < ds.length - i ∧ ∃ i o H1 G1 vs zs rest, m = ds.length - i ∧ i ≤ ds.length ∧ Inv (eu X scope cl (x :: M) x (s.heap.objs.size + 1) { s with heap := h₁, toks := s.toks } (upd H s.heap.objs.size (.lst [])) fp (X.pn ++ pins)) [] (fi σ ix o) H1 s5 ∧ tn i s5.heap ∧ (∀ b ∈ fp, H1 b = none) ∧
      H1 s.heap.objs.size = some (.lst vs) ∧ G1 s.heap.objs.size = none ∧ Ext G H G1 H1 ∧ DenL (kx X) G1 zs vs ∧ zs.length ≤ i ∧ compL (turnD ix t g δ) (ds.drop i) = some rest ∧ ys = zs ++ rest := fun {s5 H5 G5 us ws} I5 ha5 ga5 x5 dl5 ew => by
    refine ⟨ds.length - (i + 1), by omega, i + 1, some xv, H5, G5, us, ws, rest2, rfl, hlt, I5.unpinned, T.keep _ _ _ st3 fun b hb ob e => (I5.pin (b, ob) (List.mem_append_right _ (List.mem_append_right _ (mem_pinsAt hb e)))).1, fun b hb => ?_, ha5, ga5, x5, dl5, ?_, er2, ?_⟩
    ·obtain ⟨ob, e, d⟩ := T.obj _ _ st3 b hb
     exact (I5.pin (b, ob) (List.mem_append_right _ (List.mem_append_right _ (mem_pinsAt hb e)))).2.1
    ·rw [ew, List.length_append]
     have : oy.toList.length ≤ 1 := by cases oy <;> simp
     omega
    ·rw [ew, List.append_assoc]; exact eys
   have val : ∀ {s5 : Shared} {H5 G5 : Hp}, Inv (eu X scope cl (x :: M) x (s.heap.objs.size + 1) { s with heap := h₁, toks := s.toks } (upd H s.heap.objs.size (.lst [])) fp (X.pn ++ pins)) ([] ++ pinsAt fp s3.heap) (fi σ ix (some xv)) H5 s5 → Ext G3 H4 G5 H5 → t (cr ix δ (.pu ds[i])) = .ok (.bl true) →
     wpAny (model X.prog X.w) X.A (eval elt (compEnvC scope cl (s.heap.objs.size + 1) X.env)) (fun xx s₄ =>
       wpAny (model X.prog X.w) X.A (call (.builtin "list.append") [.ref s.heap.objs.size, xx]) (fun _ s₅ => ∃ m, m < ds.length - i ∧ ∃ i o H1 G1 vs zs rest, m = ds.length - i ∧ i ≤ ds.length ∧ Inv (eu X scope cl (x :: M) x (s.heap.objs.size + 1) { s with heap := h₁, toks := s.toks } (upd H s.heap.objs.size (.lst [])) fp (X.pn ++ pins)) [] (fi σ ix o) H1 s₅ ∧ tn i s₅.heap ∧ (∀ b ∈ fp, H1 b = none) ∧
      H1 s.heap.objs.size = some (.lst vs) ∧ G1 s.heap.objs.size = none ∧ Ext G H G1 H1 ∧ DenL (kx X) G1 zs vs ∧ zs.length ≤ i ∧ compL (turnD ix t g δ) (ds.drop i) = some rest ∧ ys = zs ++ rest) (fun _ _ => False) s₄) (fun _ _ => False) s5 := fun {s5 H5 G5} I5 e5 et => by
    unfold turnD at ef
    rw [et] at ef
    dsimp only at ef
    cases eg : g (cr ix δ (.pu ds[i])) with
    | er c => rw [eg] at ef; cases ef
    | st => rw [eg] at ef; cases ef
    | ok y =>
     rw [eg] at ef
     have eo : oy = some y := by cases ef; rfl
     refine wpAny_mono (Bk.elt _ _ _ _ _ _ s5 _ H5 (fun v H6 => ∃ G6, Ext G5 H5 G6 H6 ∧ Den (kx X) G6 y v) I5 ⟨G5, _, R4.ext e5, ResP.ok0 y eg fun v G6 H6 e6 d6 => ⟨G6, e6, d6⟩⟩) (fun xx s6 ⟨v6, H6, I6, r6, G6, e6, d6⟩ => ?_) fun _ _ q => q
     have e56 := e5.trans e6
     have ha6 : H6 s.heap.objs.size = some (.lst vs) := e56.hh _ _ ha3
     have ga6 : G6 s.heap.objs.size = none := e56.fr _ _ ha3 ga3 rfl
     refine wpAny_mono (mt_append (X := eu X scope cl (x :: M) x (s.heap.objs.size + 1) { s with heap := h₁, toks := s.toks } (upd H s.heap.objs.size (.lst [])) fp (X.pn ++ pins)) _ s6 _ H6 (.ref s.heap.objs.size) [v6] (.ref s.heap.objs.size) [xx] (fun _ H7 => H7 = upd H6 s.heap.objs.size (.lst (vs ++ [v6]))) I6 rfl (.cons r6 .nil) ⟨_, vs, v6, rfl, rfl, ha6, ?_, rfl⟩) (fun _ s7 ⟨_, H7, I7, _, e7⟩ => ?_) fun _ _ q => q
     ·have := dl1.length
      omega
     ·subst e7
      exact next I7 bg ga6 ((x3.trans e56).wr ga6 fresh) ((dl1.mono (e3.gg.trans e56.gg)).append (DenL.one d6)) (by rw [eo]; rfl)
   have noE : ∀ {F : Value → Shared → Prop} (v : Value) (s' : Shared), False → F v s' := fun _ _ f => f.elim
   rcases Bk.test with ⟨rfl, rfl⟩ | ⟨c, rfl, ht⟩
   ·refine wpAny_tests_nil ?_
    exact wpAny_mono (val I4 (Ext.refl R4.gh) rfl) (fun xx s6 q6 => wpAny_mono q6 (fun _ _ q => q) noE) noE
   ·refine wpAny_tests_one ?_
    unfold turnD at ef
    cases et : t (cr ix δ (.pu ds[i])) with
    | er c => rw [et] at ef; cases ef
    | st => rw [et] at ef; cases ef
    | ok dt =>
     cases dt with
     | bl bt =>
      refine wpAny_mono (ht _ _ _ _ _ _ s4 _ H4 (fun b H6 => b = bt ∧ ∃ G6, Ext G3 H4 G6 H6) I4 ⟨G3, _, R4, ResP.ok0 (.bl bt) et ⟨bt, rfl, fun G6 H6 e6 => ⟨rfl, G6, e6⟩⟩⟩) (fun b s6 ⟨H6, I6, eb, G6, e6⟩ => ?_) noE
      subst eb
      cases b with
      | true => exact wpAny_mono (val I6 e6 et) (fun xx s7 q7 => wpAny_mono q7 (fun _ _ q => q) noE) noE
      | false =>
       rw [et] at ef
       have eo : oy = none := by cases ef; rfl
       show ∃ m, m < _ ∧ _
       exact next I6 (e6.hh _ _ ha3) (e6.fr _ _ ha3 ga3 rfl) (x3.trans e6) (dl1.mono (e3.gg.trans e6.gg)) (by rw [eo]; simp)
     | non => rw [et] at ef; cases ef
     | int _ => rw [et] at ef; cases ef
     | str _ => rw [et] at ef; cases ef
     | tup _ => rw [et] at ef; cases ef
     | lst _ => rw [et] at ef; cases ef
     | dct _ _ => rw [et] at ef; cases ef
     | obj _ _ => rw [et] at ef; cases ef
     | fn _ => rw [et] at ef; cases ef
  ·have hz2 : i = ds.length := by omega
   subst hz2
   rw [List.drop_length] at er
   have er' : rest = [] := by cases er; rfl
   subst er'
   rw [List.append_nil] at eys
   subst eys
   refine wpAny_mono (T.done (eu X scope cl (x :: M) x (s.heap.objs.size + 1) { s with heap := h₁, toks := s.toks } (upd H s.heap.objs.size (.lst [])) fp (X.pn ++ pins)) rfl rfl rfl hc _ [] s1 _ H1 _ I1 (hfC fr1) st1 (oks (Nat.le_refl _))) (fun rr s2 ⟨hr, I2⟩ => ?_) fun _ _ q => q
   subst hr
   obtain ⟨m2, hm2, _⟩ := I2.loc
   have u1 : Un (frs X.stack) fp H (upd H s.heap.objs.size (.lst [])) s.heap h₁ := Un.laid hk (Nat.le_refl _) fresh
   have u2 : Un (frs X.stack) fp (upd H s.heap.objs.size (.lst [])) H1 h₁ s2.heap := I2.base
   have IX : Inv X pins σ H1 s2 := I.call' I2.os (u1.trans u2) I2.hok I2.bare fun b hb => by
    obtain ⟨f0, f1, f2, f3, f4, f5⟩ := hf b hb
    exact ⟨f3, f1, f4, f5⟩
   exact fin s2 H1 G1 vs m2 IX hm2 I2.free x1 ga1 ha1 dl1
 exact codeAny_compStart_list loop (T.self _ 0 _ _ _ (T.keep 0 _ _ st (fun b _ o e => hk2 b o (hk b o e))) loop)
theorem ow_comp (O : CompOk X scope cl x M ix) (hc : X.calm = true) (Bk : BlockOk X B E scope cl x M px elt ifs t g) (hi : PuIc X B E (.Name x px) iter r)
  (hs : ∀ x, foldedSetIterable iter X.env x = pure x := by intro _; rfl) : OwE X B E (.ListComp elt [⟨.Name x px, iter, ifs, 0⟩] scope pos) (ci r ix t g) := by
 intro pins s σ H Q I q
 rw [eval_ListComp]
 obtain ⟨G, δ, R, q⟩ := q
 refine wpAny_comprehension_free (use := none) rfl hs (closureFor_eq O.clos) O.kind O.names ?_
 refine wpAny_mono (hi pins s σ H (fun J H1 => ∃ G1 ds ys, Ext G H G1 H1 ∧ ItOk (kx X) J ds (fun G2 H2 => Ext G1 H1 G2 H2) ∧ ds.length ≤ sizeLine ∧ compL (turnD ix t g δ) ds = some ys ∧
  ∀ a vs G' H', Ext G H G' H' → H a = none → G' a = none → H' a = some (.lst vs) → DenL (kx X) G' ys vs → Q (.ref a) H') I
  ⟨G, δ, R, (compP q).mono fun ds _ ⟨hl, ys, ey, ds', ed, q⟩ J G1 H1 e1 ok => ⟨G1, ds, ys, e1, ok, hl, ey, by cases ed; exact q⟩⟩) (fun v s1 h1 => wpAny_mono h1 (fun itv s2 h2 => ?_) fun _ _ e => e) fun _ _ e => e
 obtain ⟨it, fp, tn, J, H1, rfl, I1, T, st, hf, G1, ds, ys, e1, ok, hl, ey, q⟩ := h2
 refine comp_run (RR := fun acc C => compPost (model X.prog X.w) X.A X.xe none (EP X pins σ Q) acc C) O hc Bk I1 T st hf (R.ext e1) ok hl ey ?_
 intro s3 H3 G3 vs m I3 hm hC e3 g3 h3 dl
 refine ⟨m, hm, fun h' hs' => ⟨.ref s2.heap.objs.size, H3, ?_, rfl, q _ vs G3 H3 (e1.trans e3) (fy e1.hh (I1.hok.fresh (Nat.le_refl _))) g3 h3 dl⟩⟩
 have hsz : s2.heap.objs.size ≤ s2.heap.objs.size + 1 := Nat.le_succ _
 refine I3.turned (t' := s3.toks) (it := s2.heap.objs.size + 1) (fun b o hb e => hs'.extBut b o hb e) hC ?_ (.inr (Nat.le_trans I1.sz hsz)) ?_ ?_
 ·exact fun z => absurd (Nat.lt_of_lt_of_le I1.lt (Nat.le_trans hsz (Nat.le_of_eq z))) (Nat.lt_irrefl _)
 ·intro y c hc' z
  obtain ⟨v', q'⟩ := I1.cell y c hc'
  exact absurd (Nat.lt_of_lt_of_le q'.lt (Nat.le_trans hsz (Nat.le_of_eq z.symm))) (Nat.lt_irrefl _)
 ·intro p hp z
  exact absurd (Nat.lt_of_lt_of_le (Heap.lt_size (I1.pin p hp).1) (Nat.le_trans hsz (Nat.le_of_eq z.symm))) (Nat.lt_irrefl _)
end
section
variable {K : KA}
theorem kit_int {d : D} {t : String} (h : tyD d = some t) : PySem.W.kitOne K (.type t) (.type "int") = some (isT t "int") := by cases d <;> cases h <;> rfl
theorem kit_bool {d : D} {t : String} (h : tyD d = some t) : PySem.W.kitOne K (.type t) (.type "bool") = some (isT t "bool") := by cases d <;> cases h <;> rfl
theorem kit_str {d : D} {t : String} (h : tyD d = some t) : PySem.W.kitOne K (.type t) (.type "str") = some (isT t "str") := by cases d <;> cases h <;> rfl
theorem kit_list {d : D} {t : String} (h : tyD d = some t) : PySem.W.kitOne K (.type t) (.type "list") = some (isT t "list") := by cases d <;> cases h <;> rfl
theorem kit_tuple {d : D} {t : String} (h : tyD d = some t) : PySem.W.kitOne K (.type t) (.type "tuple") = some (isT t "tuple") := by cases d <;> cases h <;> rfl
theorem kit_dict {d : D} {t : String} (h : tyD d = some t) : PySem.W.kitOne K (.type t) (.type "dict") = some (isT t "dict") := by cases d <;> cases h <;> rfl
end
section
variable {X : Cx} {B : Hp} {E : EK} {e a b : Expr} {es : List Expr} {g h : En → Res} {pos : Pos}
noncomputable def KitT (K : KA) (c : String) : Prop := ∀ {d : D} {t : String}, tyD d = some t → PySem.W.kitOne K (.type t) (.type c) = some (isT t c)
noncomputable def rIsI (K : KA) (c : String) : List V → Hp → VK → Prop := fun xs H Q => ∃ G d x t, xs = [x, .ty c] ∧ Same G H ∧ Arg K G H d x ∧ tyD d = some t ∧ Q (.bl (isT t c)) H
theorem call_isI {c : String} (hk : KitT (kx X) c) : CallR X (.builtin "isinstance") (rIsI (kx X) c) := by
 intro pins s σ H xs us Q I r q
 obtain ⟨G, d, x, t, rfl, sg, ax, et, q⟩ := q
 obtain ⟨u, u2, rfl, ru, ru2⟩ := vals2 r
 cases ru2
 have e := hk et
 have fin : ∀ tk, EP X pins σ Q (.bool (isT t c)) { s with toks := tk } := fun tk => ⟨.bl (isT t c), H, I.tok tk, rfl, q⟩
 cases d with
 | non =>
  cases et; rw [ax.non] at ru; cases ru
  exact PySem.W.kia_one PySem.W.kitx_none I.kIn True.intro e (fun z => nomatch z) fin
 | bl y =>
  cases et; rw [ax.bl] at ru; cases ru
  exact PySem.W.kia_one PySem.W.kitx_bool I.kIn True.intro e (fun z => nomatch z) fin
 | int i =>
  cases et; rw [ax.int] at ru; obtain ⟨t, rfl⟩ := ru
  exact PySem.W.kia_one PySem.W.kitx_int I.kIn True.intro e (fun z => nomatch z) fin
 | str y =>
  cases et; rw [ax.str] at ru; obtain ⟨t, rfl⟩ := ru
  exact PySem.W.kia_one PySem.W.kitx_str I.kIn True.intro e (fun z => nomatch z) fin
 | tup ds =>
  cases et
  obtain ⟨l, vs, rfl, sq, dl⟩ := ax.tup sg
  cases ru
  obtain ⟨its, rv, ⟨o, ho, hc, n, hd⟩, _⟩ := I.tuple sq
  exact PySem.W.kia_one PySem.W.kitx_tuple I.kIn ⟨o, ho, hc⟩ e (fun z => nomatch z) fin
 | lst ds =>
  cases et
  obtain ⟨l, vs, rfl, sq, dl⟩ := ax.lst sg
  cases ru
  obtain ⟨its, rv, pl, _⟩ := I.list sq
  obtain ⟨o, ho, hc, _⟩ := pl.isList
  exact PySem.W.kia_one PySem.W.kitx_list I.kIn ⟨o, ho, hc⟩ e (fun z => nomatch z) fin
 | dct tt kvs =>
  cases et
  have key : ∃ a, x = .ref a ∧ ((∃ es, H a = some (.dK es)) ∨ ∃ es, H a = some (.dT es)) := by
   rcases ax with ⟨a, h1, h2⟩ | ⟨_, _, _, z, _⟩ | ⟨t', kvs', a, z, h1, h2⟩
   ·exact ⟨a, h1, h2.elim (fun ⟨_, es, q, _⟩ => .inl ⟨es, sg _ _ q⟩) fun ⟨_, es, q, _⟩ => .inr ⟨es, sg _ _ q⟩⟩
   ·cases z
   ·exact ⟨a, h1, h2.elim (fun ⟨_, es, q, _⟩ => .inl ⟨es, q⟩) fun ⟨_, es, q, _⟩ => .inr ⟨es, q⟩⟩
  obtain ⟨a, rfl, h2⟩ := key
  cases ru
  rcases h2 with ⟨es, ea⟩ | ⟨es, ea⟩
  ·obtain ⟨_, _, vs, _, p⟩ := (show ObjOk X.prog X.w H s.heap a (.dK es) from I.hok a _ ea)
   obtain ⟨o, es', ep, h1, h2, _⟩ := p
   exact PySem.W.kia_one PySem.W.kitx_dict I.kIn ⟨o, h1, h2.1⟩ e (fun z => nomatch z) fin
  ·obtain ⟨_, _, xs, _, o, es', ep, h1, h2, _⟩ := (show ObjOk X.prog X.w H s.heap a (.dT es) from I.hok a _ ea)
   exact PySem.W.kia_one PySem.W.kitx_dict I.kIn ⟨o, h1, h2.1⟩ e (fun z => nomatch z) fin
 | obj _ _ => cases et
 | fn _ => cases et
theorem pu_isI {c : String} {x : Str} {p p2 : Pos} (hk : KitT (kx X) c) (hg : Gl X "isinstance") (hm : X.mg "isinstance" = none) (hg2 : Gl X x) (hm2 : X.mg x = none) (hv2 : bootBuiltins x = some (.type c)) (ha : ArE X B E e g)
  (hn2 : x ≠ "__name__" := by decide) (hd2 : (x == ("__debug__" : Str)) = false := by decide)
  (he : starEach [e, .Name x p2] X.env = (false, eval e X.env) :: starEach [.Name x p2] X.env := by rfl) (he2 : starEach [.Name x p2] X.env = (false, eval (.Name x p2) X.env) :: starEach [] X.env := by rfl) (hpl : (backTo pos (starEach [.Name x p2] X.env)).any (·.1) = false := by rfl) :
  PuE X B E (.Call (.Name "isinstance" p) [e, .Name x p2] [] pos) (g1 (dc c) g) :=
 PE.imp (pe_callB (call_isI hk) hg hm boot_isinstance (pa_cons ha (pa_cons (pe_bltn (v := .ty c) hg2 hm2 hv2 rfl hn2 hd2) pa_nil he2) he) (by decide) (by decide) he hpl) fun σ H Q ⟨G, δ, R, q⟩ => ⟨G, δ, R, (ResP.bind q).mono fun dx _ qx x G1 H1 e1 ax => by
  obtain ⟨d, ed, qd⟩ := ResP.of qx
  unfold dc at ed
  cases et : tyD dx with
  | none => rw [et] at ed; cases ed
  | some t =>
   rw [et] at ed
   cases ed
   exact ⟨G1, dx, x, t, rfl, e1.gh, ax, et, qd _ G1 H1 e1 rfl⟩⟩
noncomputable def pyInB (d : D) : D → Option Bool
 | .lst xs => match d5 xs, toPy d with
  | some ps, some q => if PyData.canLayAll0 ps && SeqAt.shaped q then some (ps.any fun y => PyData.eqv y q) else none
  | _, _ => none
 | .tup xs => match d5 xs, toPy d with
  | some ps, some q => if PyData.canLayAll0 ps && SeqAt.shaped q then some (ps.any fun y => PyData.eqv y q) else none
  | _, _ => none
 | .str z => match d with
  | .str x => some (!(Builtin.Str.occurrences z x 0 z.length 1).isEmpty)
  | _ => none
 | _ => none
noncomputable def pyIn (d e : D) : Option D := (pyInB d e).map .bl
noncomputable def ft (d e : D) : Option D := (pyInB d e).map fun b => .bl !b
theorem in_some {d : D} {xs : List D} {b : Bool} (h : (match d5 xs, toPy d with
  | some ps, some q => if PyData.canLayAll0 ps && SeqAt.shaped q then some (ps.any fun y => PyData.eqv y q) else none
  | _, _ => none) = some b) : ∃ ps q, d5 xs = some ps ∧ toPy d = some q ∧ PyData.canLayAll0 ps = true ∧ SeqAt.shaped q = true ∧ b = ps.any fun y => PyData.eqv y q := by
 cases e1 : d5 xs with
 | none => rw [e1] at h; cases h
 | some ps =>
  cases e2 : toPy d with
  | none => rw [e1, e2] at h; cases h
  | some q =>
   rw [e1, e2] at h
   dsimp only at h
   by_cases hs : (PyData.canLayAll0 ps && SeqAt.shaped q) = true
   ·rw [if_pos hs] at h
    cases h
    rw [Bool.and_eq_true] at hs
    exact ⟨ps, q, rfl, rfl, hs.1, hs.2, rfl⟩
   ·rw [if_neg hs] at h; cases h
noncomputable def rInD (K : KA) (neg : Bool) : R2 := fun x y H Q => ∃ G dx dy b, Same G H ∧ Arg K G H dx x ∧ Arg K G H dy y ∧ pyInB dx dy = some b ∧ Q (.bl (if neg then !b else b)) H
theorem op_inD (hu : X.A.units + 65 < cLine) : OpR X (compareOp .In) (rInD (kx X) false) := by
 intro pins s σ H x y v u Q I rx ry q
 obtain ⟨G, dx, dy, b, sg, ax, ay, eb, q⟩ := q
 cases dy with
 | lst xs =>
  obtain ⟨ps, p, e1, e2, s1, s2, rfl⟩ := in_some eb
  obtain ⟨as, ra⟩ := dg I sg ax rx e2
  obtain ⟨bs, rb⟩ := dg (p := .list ps) I sg ay ry (by unfold toPy; rw [e1])
  exact SeqAt.in_list_reads rb ra s1 (SeqAt.canLay_of_shaped s2) (room_in_shaped s2 hu) ⟨.bl _, H, I, rfl, q⟩
 | tup xs =>
  obtain ⟨ps, p, e1, e2, s1, s2, rfl⟩ := in_some eb
  obtain ⟨as, ra⟩ := dg I sg ax rx e2
  obtain ⟨bs, rb⟩ := dg (p := .tuple ps) I sg ay ry (by unfold toPy; rw [e1])
  exact SeqAt.in_tuple_reads rb ra s1 (SeqAt.canLay_of_shaped s2) (room_in_shaped s2 hu) ⟨.bl _, H, I, rfl, q⟩
 | str z =>
  cases dx with
  | str w =>
   cases eb
   rw [ax.str] at rx
   rw [ay.str] at ry
   exact op_in_str pins s σ H _ _ _ _ Q I rx ry ⟨_, _, rfl, rfl, q⟩
  | _ => cases eb
 | _ => cases eb
theorem op_notInD (hu : X.A.units + 65 < cLine) : OpR X (compareOp .NotIn) (rInD (kx X) true) := by
 intro pins s σ H x y v u Q I rx ry q
 obtain ⟨G, dx, dy, b, sg, ax, ay, eb, q⟩ := q
 cases dy with
 | lst xs =>
  obtain ⟨ps, p, e1, e2, s1, s2, rfl⟩ := in_some eb
  obtain ⟨as, ra⟩ := dg I sg ax rx e2
  obtain ⟨bs, rb⟩ := dg (p := .list ps) I sg ay ry (by unfold toPy; rw [e1])
  exact SeqAt.notIn_list_reads rb ra s1 (SeqAt.canLay_of_shaped s2) (room_in_shaped s2 hu) ⟨.bl _, H, I, rfl, q⟩
 | tup xs =>
  obtain ⟨ps, p, e1, e2, s1, s2, rfl⟩ := in_some eb
  obtain ⟨as, ra⟩ := dg I sg ax rx e2
  obtain ⟨bs, rb⟩ := dg (p := .tuple ps) I sg ay ry (by unfold toPy; rw [e1])
  exact SeqAt.notIn_tuple_reads rb ra s1 (SeqAt.canLay_of_shaped s2) (room_in_shaped s2 hu) ⟨.bl _, H, I, rfl, q⟩
 | str z =>
  cases dx with
  | str w =>
   cases eb
   rw [ax.str] at rx
   rw [ay.str] at ry
   exact op_notin_str pins s σ H _ _ _ _ Q I rx ry ⟨_, _, rfl, rfl, q⟩
  | _ => cases eb
 | _ => cases eb
theorem prim_in : Prim2 (kx X) pyIn (rInD (kx X) false) := fun G H x y dx dy d sg ax ay ed Q q => by
 unfold pyIn at ed
 cases e : pyInB dx dy with
 | none => rw [e] at ed; cases ed
 | some b => rw [e] at ed; cases ed; exact ⟨G, dx, dy, b, sg, ax, ay, e, q _ G H (Ext.refl sg) rfl⟩
theorem prim_notIn : Prim2 (kx X) ft (rInD (kx X) true) := fun G H x y dx dy d sg ax ay ed Q q => by
 unfold ft at ed
 cases e : pyInB dx dy with
 | none => rw [e] at ed; cases ed
 | some b => rw [e] at ed; cases ed; exact ⟨G, dx, dy, b, sg, ax, ay, e, q _ G H (Ext.refl sg) rfl⟩
noncomputable def pyTuple : D → Option D
 | .lst ds => some (.tup ds)
 | .tup ds => some (.tup ds)
 | _ => none
noncomputable def pyInt : D → Option D
 | .int i => some (.int i)
 | .bl b => some (.int (if b then 1 else 0))
 | _ => none
theorem pu_tuple {p : Pos} (hg : Gl X "tuple") (hm : X.mg "tuple" = none) (ha : ArE X B E e g) (he : starEach [e] X.env = (false, eval e X.env) :: starEach [] X.env := by rfl) (hpl : (backTo pos (starEach [] X.env)).any (·.1) = false := by rfl) : PuE X B E (.Call (.Name "tuple" p) [e] [] pos) (g1 pyTuple g) :=
 PE.imp (pe_callTy call_tuple_of hg hm PyProof.Rows.boot_tuple (gd ha al_nil he) (by decide) (by decide) he hpl) fun σ H Q q => cb1 (fun G H x dx d sg ax ed Q q => by
  unfold pyTuple at ed
  split at ed
  ·cases ed
   obtain ⟨l, vs, rfl, sq, dl⟩ := ax.lst sg
   exact ⟨l, vs, rfl, .inl ⟨sq, fun p hp => q _ (upd G p (.tup vs)) _ (Ext.new sg _ hp) (den_newT sg hp dl)⟩⟩
  ·cases ed
   have ax' := ax
   obtain ⟨l, vs, rfl, sq, dl⟩ := ax.tup sg
   rcases ax' with ad | ⟨_, _, _, z, _⟩ | ⟨_, _, _, z, _⟩
   ·exact ⟨l, vs, rfl, .inr ⟨sq, q _ G H (Ext.refl sg) ad⟩⟩
   ·cases z
   ·cases z
  ·cases ed) q
theorem pu_int1 {p : Pos} (hg : Gl X "int") (hm : X.mg "int" = none) (ha : ArE X B E e g) (he : starEach [e] X.env = (false, eval e X.env) :: starEach [] X.env := by rfl) (hpl : (backTo pos (starEach [] X.env)).any (·.1) = false := by rfl) : PuE X B E (.Call (.Name "int" p) [e] [] pos) (g1 pyInt g) :=
 PE.imp (pe_callTy call_int1 hg hm PyProof.Rows.boot_int (gd ha al_nil he) (by decide) (by decide) he hpl) fun σ H Q q => cb1 (fun G H x dx d sg ax ed Q q => by
  unfold pyInt at ed
  split at ed
  ·cases ed
   rw [ax.int]
   exact .inl ⟨_, rfl, q _ G H (Ext.refl sg) rfl⟩
  ·cases ed
   rw [ax.bl]
   exact .inr ⟨_, rfl, q _ G H (Ext.refl sg) rfl⟩
  ·cases ed) q
end
section
variable {X : Cx} {G0 B : Hp} {E : EK} {e a b : Expr} {es : List Expr} {g h : En → Res} {pos : Pos}
noncomputable def sApp (i : Nat) (g : En → Res) : En → Out := fun δ => match δ[i]? with
 | some (.ow ds) => (g δ).then fun d => if ds.length < sizeLine then .nx (δ.set i (.ow (ds ++ [d]))) else .st
 | _ => .st
theorem EnvR.owAt {K : KA} {G H : Hp} {σ : St} {δ : En} {i : Nat} {ds : List D} (R : EnvR K B G H σ δ) (h : δ[i]? = some (.ow ds)) : ∃ a vs, σ[i]? = some (some (V.ref a)) ∧ H a = some (.lst vs) ∧ DenL K G ds vs ∧ G a = none ∧ B a = none := by
 obtain ⟨o, q1, a, vs, q2, q3, q4⟩ := R.sl i _ h
 subst q2
 obtain ⟨g, b⟩ := R.own i _ a h rfl q1
 exact ⟨a, vs, q1, q3, q4, g, b⟩
theorem s_append {i : Nat} {x : Str} {p apos cpos : Pos} (hv : PE X (.Name x p) (tVar i)) (ha : PuE X B E e g)
  (hbase : attributeBase (.Name x p) "append" X.env (eval (.Name x p) X.env) = eval (.Name x p) X.env := by rfl)
  (hfew : ((backTo cpos (starEach [e] X.env)).all (fun x => !x.1) && (backToKw cpos (keywordEach [] X.env)).all (fun x => x.1.isSome)
   && decide (([e] : List Expr).length + ([] : List Keyword).length + (if ([] : List Keyword).isEmpty then 0 else 1) < 30)) = true := by rfl)
  (hline : (apos.endLine == cpos.line) = true := by rfl) (hs : starEach [e] X.env = (false, eval e X.env) :: starEach [] X.env := by rfl) (hplain : (backTo cpos (starEach [] X.env)).any (·.1) = false := by rfl)
  (hsw : swapsWith (.Call (.Attribute (.Name x p) "append" apos) [e] [] cpos) none pos.line X.env = pure false := by rfl) :
  PuS X G0 B E (.Expr (.Call (.Attribute (.Name x p) "append" apos) [e] [] cpos) pos) (sApp i g) :=
 PS.imp (ps_expr (pe_bm PySem.F.plainAttrs_list PySem.F.slot_list_append PySem.F.type_list_append mt_append hv (al_consP ha al_nil hs) hbase hfew hline hs hplain) hsw) fun D σ H ⟨G, δ, R, ex, q⟩ => by
  unfold sApp at q
  cases ed : δ[i]? with
  | none => rw [ed] at q; exact q.elim
  | some sl =>
   rw [ed] at q
   cases sl with
   | ow ds =>
    dsimp only at q
    obtain ⟨l, vs, q1, q2, q3, q4, q5⟩ := R.owAt ed
    refine ⟨.ref l, q1, .inl ⟨rfl, vs, SqL.of q2⟩, G, δ, R, ?_⟩
    have q' := thenP ex q
    unfold aa
    cases eg : g δ with
    | er c => rw [eg] at q'; exact q'
    | st => rw [eg] at q'; exact q'
    | ok d =>
     rw [eg] at q'
     have q' : OutP (kx X) G0 B E G (if ds.length < sizeLine then .nx (δ.set i (.ow (ds ++ [d]))) else .st) D := q'
     by_cases hl : ds.length < sizeLine
     ·rw [if_pos hl] at q'
      intro ws G1 H1 e1 al
      obtain ⟨d', dr, v, vr, z1, z2, dv, z3, z4⟩ := al
      cases z1
      subst z2 z4
      have h1 := e1.hh _ _ q2
      have g1 := e1.fr _ _ q2 q4 rfl
      refine ⟨l, vs, v, rfl, rfl, h1, by rw [← q3.length]; exact hl, ?_⟩
      exact q' σ G1 _ e1.gg (EnvR.wr (R.ext e1) ed q1 h1 ((q3.mono e1.gg).append (DenL.one dv))) (Ext.wr (ex.trans e1) g1 q5)
     ·rw [if_neg hl] at q'
      exact q'.elim
   | no => exact q.elim
   | pu _ => exact q.elim
   | bo _ => exact q.elim
   | od _ _ => exact q.elim
theorem extend_seqW (T : String) (hT : T = "list" ∨ T = "tuple") (l : Addr) (items : Array Value) (n : Nat) (b : Addr) (items2 : Array Value) (n2 : Nat) (dd2 : Option Addr) (sl2 : Array (Option Value)) (hs0 : ¬(!items.isEmpty && Builtin.List.listTooLong (items.size + items2.size)) = true) (hs1 : items.size ≤ sizeLine) (hs2 : items.size + items2.size ≤ sizeLine + 1) :
  Meets (Builtin.«list.extend» ⟨[.ref l, .ref b], []⟩) (fun _ R s => s.heap.get? l = some { cls := .type "list", dict := none, data := .seq items n, slots := #[] } ∧ s.heap.get? b = some { cls := .type T, dict := dd2, data := .seq items2 n2, slots := sl2 } ∧ R (.ok (.ret Value.none)) { s with heap := s.heap.update l (Obj.mapSeq fun x => x ++ items2), toks := s.toks }) :=
 .of_wp fun prog w A R s h => by
  obtain ⟨hp, g, d, tk, os⟩ := s; obtain ⟨hl, hb, h⟩ := h; have f1 := AutoSeq1.idx_int; have f2 := AutoSeq1.sub_tuple_tuple; have f3 := AutoSeq1.sub_list_list; have f4 := AutoSeq1.sub_tuple_list; have f5 := AutoSeq1.sub_list_tuple;
  have hz' : (items ++ items2).size ≤ sizeLine + 1 := by rw [Array.size_append]; exact hs2
  rcases hT with rfl | rfl
  ·wp_walk using (wpAny_updateSeq hl rfl (hz := hs1) (_hz' := hz')), AutoSeq1.wpAny_loadPart' hl, AutoSeq1.wpAny_loadPart' hb; exact ⟨_, rfl, h⟩
  ·wp_walk using (wpAny_updateSeq hl rfl (hz := hs1) (_hz' := hz')), AutoSeq1.wpAny_loadPart' hl, AutoSeq1.wpAny_loadPart' hb; exact ⟨_, rfl, h⟩
noncomputable def rExtD (K : KA) : V → List V → Hp → VK → Prop := fun x vs H Q => ∃ l b xs zs, x = .ref l ∧ vs = [.ref b] ∧ H l = some (.lst xs) ∧ (SqL K H b zs ∨ SqT K H b zs) ∧ xs.length + zs.length ≤ sizeLine ∧ Q .non (upd H l (.lst (xs ++ zs)))
theorem mt_extD : MtM X "list.extend" (rExtD (kx X)) := by
 intro pins s σ H x vs v us Q I rx rv h
 obtain ⟨l, b, xs, zs, rfl, rfl, hH, hB, hz, q⟩ := h
 cases rx
 obtain ⟨u, rfl, ru⟩ := rv.one
 cases ru
 obtain ⟨z, its, n, r, hl, e⟩ := I.lstM hH
 have key : ∃ T its2 n2 dd2 sl2, (T = "list" ∨ T = "tuple") ∧ Vals zs its2 ∧ s.heap.get? b = some { cls := .type T, dict := dd2, data := .seq its2.toArray n2, slots := sl2 } := by
  rcases hB with hB | hB
  ·obtain ⟨its2, r2, pl, _⟩ := I.list hB
   obtain ⟨⟨cls, dd, data, sl⟩, n2, ho, c, d, q⟩ := pl
   simp only at c d q
   subst c d q
   exact ⟨_, its2, n2, _, sl, .inl rfl, r2, ho⟩
  ·obtain ⟨its2, r2, pl, _⟩ := I.tuple hB
   obtain ⟨⟨cls, dd, data, sl⟩, ho, c, n2, q⟩ := pl
   simp only at c q
   subst c q
   exact ⟨_, its2, n2, _, sl, .inr rfl, r2, ho⟩
 obtain ⟨T, its2, n2, dd2, sl2, hT, r2, e2⟩ := key
 have hl2 := r2.length
 have hsz : its.toArray.size + its2.toArray.size ≤ sizeLine := by rw [List.size_toArray, List.size_toArray]; omega
 have hlong : ¬ (!its.toArray.isEmpty && Builtin.List.listTooLong (its.toArray.size + its2.toArray.size)) = true := by
  rw [notLongL hsz, Bool.and_false]
  exact Bool.false_ne_true
 refine call_meets F.slot_list_extend ⟨_, e, rfl⟩ F.entry_list_extend (F.args_list_extend_2 _ _)
  (extend_seqW T hT l its.toArray n b its2.toArray n2 dd2 sl2 hlong (by rw [List.size_toArray]; omega) (by omega)) ⟨e, e2, ?_⟩
 refine ⟨.non, _, I.lset (its' := its ++ its2) hH e (by simp) (r.append r2) ?_, rfl, q⟩
 rw [List.length_append]
 omega
noncomputable def sExt (i : Nat) (g : En → Res) : En → Out := fun δ => match δ[i]? with
 | some (.ow ds) => (g δ).then fun d => match itemsD d with
  | some es => if ds.length + es.length ≤ sizeLine then .nx (δ.set i (.ow (ds ++ es))) else .st
  | none => .st
 | _ => .st
theorem s_extend {i : Nat} {x : Str} {p apos cpos : Pos} (hv : PE X (.Name x p) (tVar i)) (ha : ArE X B E e g)
  (hbase : attributeBase (.Name x p) "extend" X.env (eval (.Name x p) X.env) = eval (.Name x p) X.env := by rfl)
  (hfew : ((backTo cpos (starEach [e] X.env)).all (fun x => !x.1) && (backToKw cpos (keywordEach [] X.env)).all (fun x => x.1.isSome)
   && decide (([e] : List Expr).length + ([] : List Keyword).length + (if ([] : List Keyword).isEmpty then 0 else 1) < 30)) = true := by rfl)
  (hline : (apos.endLine == cpos.line) = true := by rfl) (hs : starEach [e] X.env = (false, eval e X.env) :: starEach [] X.env := by rfl) (hplain : (backTo cpos (starEach [] X.env)).any (·.1) = false := by rfl)
  (hsw : swapsWith (.Call (.Attribute (.Name x p) "extend" apos) [e] [] cpos) none pos.line X.env = pure false := by rfl) :
  PuS X G0 B E (.Expr (.Call (.Attribute (.Name x p) "extend" apos) [e] [] cpos) pos) (sExt i g) :=
 PS.imp (ps_expr (pe_bm PySem.F.plainAttrs_list PySem.F.slot_list_extend PySem.F.type_list_extend mt_extD hv (gd ha al_nil hs) hbase hfew hline hs hplain) hsw) fun D σ H ⟨G, δ, R, ex, q⟩ => by
  unfold sExt at q
  cases ed : δ[i]? with
  | none => rw [ed] at q; exact q.elim
  | some sl =>
   rw [ed] at q
   cases sl with
   | ow ds =>
    dsimp only at q
    obtain ⟨l, vs, q1, q2, q3, q4, q5⟩ := R.owAt ed
    refine ⟨.ref l, q1, .inl ⟨rfl, vs, SqL.of q2⟩, G, δ, R, ?_⟩
    have q' := thenP ex q
    unfold aa
    cases eg : g δ with
    | er c => rw [eg] at q'; exact q'
    | st => rw [eg] at q'; exact q'
    | ok d =>
     rw [eg] at q'
     cases ei : itemsD d with
     | none =>
      have q' : OutP (kx X) G0 B E G (match itemsD d with
       | some es => if ds.length + es.length ≤ sizeLine then .nx (δ.set i (.ow (ds ++ es))) else .st
       | none => .st) D := q'
      rw [ei] at q'
      exact q'.elim
     | some es =>
      have q' : OutP (kx X) G0 B E G (match itemsD d with
       | some es => if ds.length + es.length ≤ sizeLine then .nx (δ.set i (.ow (ds ++ es))) else .st
       | none => .st) D := q'
      rw [ei] at q'
      dsimp only at q'
      by_cases hl : ds.length + es.length ≤ sizeLine
      ·rw [if_pos hl] at q'
       intro ws G1 H1 e1 al
       obtain ⟨v, rfl, av⟩ := ArgsM.one al
       have h1 := e1.hh _ _ q2
       have g1 := e1.fr _ _ q2 q4 rfl
       have key : ∃ b zs, v = .ref b ∧ (SqL (kx X) H1 b zs ∨ SqT (kx X) H1 b zs) ∧ DenL (kx X) G1 es zs := by
        cases d with
        | lst ds' => cases ei; obtain ⟨b, zs, z1, z2, z3⟩ := av.lst e1.gh; exact ⟨b, zs, z1, .inl z2, z3⟩
        | tup ds' => cases ei; obtain ⟨b, zs, z1, z2, z3⟩ := av.tup e1.gh; exact ⟨b, zs, z1, .inr z2, z3⟩
        | _ => cases ei
       obtain ⟨b, zs, rfl, sq, dl⟩ := key
       have l1 := q3.length
       have l2 := dl.length
       refine ⟨l, b, vs, zs, rfl, rfl, h1, sq, by omega, ?_⟩
       exact q' σ G1 _ e1.gg (EnvR.wr (R.ext e1) ed q1 h1 ((q3.mono e1.gg).append dl)) (Ext.wr (ex.trans e1) g1 q5)
      ·rw [if_neg hl] at q'
       exact q'.elim
   | no => exact q.elim
   | pu _ => exact q.elim
   | bo _ => exact q.elim
   | od _ _ => exact q.elim
end
noncomputable def keyOf : D → Option Key
 | .int i => some (.inl i)
 | .str x => some (.inr x)
 | _ => none
theorem keyOf_kD (k : Key) : keyOf (kD k) = some k := by cases k <;> rfl
noncomputable def lookD : List (D × D) → Key → Option D
 | [], _ => none
 | (k, d) :: r, j => if keyOf k = some j then some d else lookD r j
noncomputable def hasD (kvs : List (D × D)) (j : Key) : Bool := kvs.any fun p => decide (keyOf p.1 = some j)
noncomputable def putD (kvs : List (D × D)) (j : Key) (v : D) : List (D × D) := if hasD kvs j = true then kvs.map (fun p => if keyOf p.1 = some j then (p.1, v) else p) else kvs ++ [(kD j, v)]
section
variable {K : KA} {G : Hp}
theorem DenK.length : ∀ {kvs : List (D × D)} {es : List (Key × V)}, DenK K G kvs es → kvs.length = es.length
 | [], _, h => by rw [show _ = [] from h]; rfl
 | (_, _) :: _, _, ⟨k, v, r, h1, _, _, h3⟩ => by rw [h1, List.length_cons, List.length_cons, DenK.length h3]
theorem DenK.look : ∀ {kvs : List (D × D)} {es : List (Key × V)}, DenK K G kvs es → ∀ j, (∀ d, lookD kvs j = some d → ∃ v, valV es j = some v ∧ Den K G d v) ∧ (lookD kvs j = none → valV es j = none)
 | [], es, h, j => by
  rw [show es = [] from h]
  exact ⟨fun d e => (by cases e), fun _ => valV_nil⟩
 | (k, d) :: r, es, h, j => by
  obtain ⟨k', v, t, rfl, rfl, dv, dt⟩ := h
  obtain ⟨i1, i2⟩ := DenK.look dt j
  unfold lookD
  rw [keyOf_kD]
  by_cases e : k' = j
  ·subst e
   rw [if_pos rfl]
   exact ⟨fun d' z => ⟨v, valV_pos rfl, by cases z; exact dv⟩, fun z => by cases z⟩
  ·rw [if_neg (fun z => e (Option.some.inj z))]
   refine ⟨fun d' z => ?_, fun z => ?_⟩
   ·obtain ⟨u, q1, q2⟩ := i1 d' z
    exact ⟨u, (valV_neg e).trans q1, q2⟩
   ·exact (valV_neg e).trans (i2 z)
theorem DenK.has : ∀ {kvs : List (D × D)} {es : List (Key × V)}, DenK K G kvs es → ∀ j, hasD kvs j = es.any fun kv => decide (kv.1 = j)
 | [], es, h, j => by rw [show es = [] from h]; rfl
 | (k, d') :: r, es, h, j => by
  obtain ⟨k', u, t, rfl, rfl, du, dt⟩ := h
  have ih := DenK.has dt j
  unfold hasD at ih ⊢
  rw [List.any_cons, List.any_cons, ih]
  congr 1
  rw [keyOf_kD]
  by_cases e : k' = j
  ·simp [e]
  ·rw [decide_eq_false e, decide_eq_false fun z => e (Option.some.inj z)]
theorem DenK.repl {d : D} {v : V} (dv : Den K G d v) : ∀ {kvs : List (D × D)} {es : List (Key × V)}, DenK K G kvs es → ∀ j, DenK K G (kvs.map fun p => if keyOf p.1 = some j then (p.1, d) else p) (es.map fun kv => if kv.1 = j then (kv.1, v) else kv)
 | [], es, h, j => by rw [show es = [] from h]; rfl
 | (k, d') :: r, es, h, j => by
  obtain ⟨k', u, t, rfl, rfl, du, dt⟩ := h
  have ih := DenK.repl dv dt j
  rw [List.map_cons, List.map_cons]
  dsimp only
  rw [keyOf_kD]
  by_cases e : k' = j
  ·rw [if_pos e, if_pos (by rw [e])]
   exact ⟨k', v, _, rfl, rfl, dv, ih⟩
  ·rw [if_neg e, if_neg fun z => e (Option.some.inj z)]
   exact ⟨k', u, _, rfl, rfl, du, ih⟩
theorem DenK.snoc {d : D} {v : V} (dv : Den K G d v) : ∀ {kvs : List (D × D)} {es : List (Key × V)}, DenK K G kvs es → ∀ j, DenK K G (kvs ++ [(kD j, d)]) (es ++ [(j, v)])
 | [], es, h, j => by rw [show es = [] from h]; exact ⟨j, v, [], rfl, rfl, dv, rfl⟩
 | (k, d') :: r, es, h, j => by
  obtain ⟨k', u, t, rfl, rfl, du, dt⟩ := h
  exact ⟨k', u, _, rfl, rfl, du, DenK.snoc dv dt j⟩
theorem DenK.put {d : D} {v : V} (dv : Den K G d v) {kvs : List (D × D)} {es : List (Key × V)} (h : DenK K G kvs es) (j : Key) : DenK K G (putD kvs j d) (putK es j v) := by
 unfold putD putK
 rw [h.has j]
 by_cases e : (es.any fun kv => decide (kv.1 = j)) = true
 ·rw [if_pos e, if_pos e]
  exact h.repl dv j
 ·rw [if_neg e, if_neg e]
  exact h.snoc dv j
end
section
variable {X : Cx} {G0 B : Hp} {E : EK} {e a b : Expr} {es : List Expr} {g h k : En → Res} {pos : Pos}
noncomputable def sSetD (i : Nat) : En → Out := fun δ => .nx (δ.set i (.od false []))
end
noncomputable def nst : Expr → Bool
 | .Starred _ _ => false
 | _ => true
theorem bf {e : Expr} {es : List Expr} {env : Env} (h : nst e = true) : starEach (e :: es) env = (false, eval e env) :: starEach es env := by
 cases e <;> first | rfl | cases h
theorem star_any : ∀ {es : List Expr} {env : Env} {pos : Pos}, es.all nst = true → (backTo pos (starEach es env)).any (·.1) = false
 | [], _, _, _ => rfl
 | e :: es, env, pos, h => by
  rw [List.all_cons, Bool.and_eq_true] at h
  rw [bf h.1]
  show ((false || (backTo pos (starEach es env)).any (·.1))) = false
  rw [star_any h.2]; rfl
theorem star_all : ∀ {es : List Expr} {env : Env} {pos : Pos}, es.all nst = true → (backTo pos (starEach es env)).all (fun x => !x.1) = true
 | [], _, _, _ => rfl
 | e :: es, env, pos, h => by
  rw [List.all_cons, Bool.and_eq_true] at h
  rw [bf h.1]
  show ((true && (backTo pos (starEach es env)).all (fun x => !x.1))) = true
  rw [star_all h.2]; rfl
noncomputable def plainT : Expr → Bool
 | .UnaryOp .Not _ _ => false
 | .BoolOp _ _ _ => false
 | .IfExp _ _ _ _ => false
 | .Compare _ _ _ _ => false
 | _ => true
theorem plainT_eq {a : Expr} {env : Env} (h : plainT a = true) : ∀ whole, isTrue a env whole = (do let v ← whole; standAt a.pos; holding [v] (truthy v)) := by
 intro whole
 cases a <;> first | rfl | (cases h; done) | skip
 rename_i op x p
 cases op <;> first | rfl | cases h
noncomputable def plainI : Expr → Bool
 | .Slice _ _ _ _ => false
 | _ => true
theorem plainI_ix {b : Expr} (h : plainI b = true) : PlainIx b := by
 intro o i
 cases b <;> first | rfl | cases h
noncomputable def noSet : Expr → Bool
 | .Set _ _ _ => false
 | _ => true
theorem noSet_marks {op : CmpOp} {b : Expr} (h : noSet b = true) : behindInMarks op b = false := by
 cases b <;> first | rfl | cases h
theorem noSet_iter {e : Expr} {env : Env} (h : noSet e = true) : ∀ x, foldedSetIterable e env x = pure x := by
 intro x
 cases e <;> first | rfl | cases h
theorem noSet_last {op op' : CmpOp} {b c : Expr} (h : noSet c = true) : lastMarks [op, op'] [b, c] = false := noSet_marks h
noncomputable def noComp : Expr → Bool
 | .ListComp _ _ _ _ => false
 | .SetComp _ _ _ _ => false
 | .DictComp _ _ _ _ _ => false
 | _ => true
theorem noComp_swaps {e : Expr} {t : Option Expr} {n : Nat} {env : Env} (h : noComp e = true) : swapsWith e t n env = pure false := by
 cases e <;> first | rfl | cases h
end Pu
end
section
namespace L2
open PySem PySem.Spec PyProof.Rows
structure Noted (fr : List Addr) (e : Addr) (h h' : Heap) : Prop where
 keep : ∀ b o, b ≠ e → b ∉ fr → h.get? b = some o → h'.get? b = some o
 slot : ∀ b o, b ≠ e → h.get? b = some o → ∃ sl, h'.get? b = some { o with slots := sl }
structure Rec (h : Heap) (e T : Addr) (cls : Value) : Prop where
 exc : ∃ oe vs, h.get? e = some oe ∧ oe.cls = cls ∧ oe.data = .fields vs ∧ vs[1]? = some (.ref T)
 tb : ∃ oT ts, h.get? T = some oT ∧ oT.data = .fields ts ∧ ts[3]? = some .none
 ne : T ≠ e
section
variable {M : Model} {A : Around} {E : Value → Shared → Prop} {s : Shared}
theorem note_new {base : Heap} {env : Env} {outer : List Env} {L e : Addr} {oe : Obj} {vs : Array Value} {head : Value} {nx : Bool} {Q : Unit → Shared → Prop}
  (hfr : A.frames = some (env :: outer)) (hl : s.heap.FunFrames base (env :: outer)) (hf : env.frame = some L) (he : s.heap.get? e = some oe) (hd : oe.data = .fields vs) (hsz : 1 < vs.size)
  (h : ∀ h' T, s.heap.objs.size ≤ T → Noted (frs (env :: outer)) e s.heap h' → Rec h' e T oe.cls → Q () { s with heap := h' }) :
  wpAny M A (do let a ← frameOf env; let pl ← entryPlaceOf L nx; let b ← EntryCells.newEntry head a .none (rawInt L) .none pl; setField (.ref e) 1 b) (fun _ s' => wpAny M A (setFlight (.ref e) none) Q E s') E s := by
 have nfr : e ∉ frs (env :: outer) := fun z => by
  obtain ⟨_, u, hu, nf⟩ := hl.mem z
  rw [he] at hu; cases hu; exact nf vs hd
 refine wpAny_bind (wpAny_frameOf_fun hfr hl hf fun h1 k1 => wpAny_bind (wpAny_entryPlaceOf fun pl ipl => ?_))
 unfold EntryCells.newEntry newFields; refine wpAny_bind (wpAny_newObj_type ?_ (ipl.sizeOk5 _ _ _ _ _))
 have g1 : h1.get? e = some oe := (k1.2.1 e nfr).trans he
 generalize hto : ({ cls := Value.type "traceback", dict := none, data := .fields ([head, Value.ref L, Value.none, rawInt L, Value.none] ++ (if pl.isEmpty then List.replicate 6 Value.none else pl)).toArray } : Obj) = tO
 have g2 := Heap.get?_push_of_some (h := h1) tO g1
 refine wpAny_setField g2 hd hsz ?_
 have ne : h1.objs.size ≠ e := Nat.ne_of_gt (Heap.lt_size g1)
 have d3 := Obj.data_mapFields hd (·.setIfInBounds 1 (Value.ref h1.objs.size))
 have g3 := Heap.get?_update_self (Obj.mapFields (·.setIfInBounds 1 (Value.ref h1.objs.size))) g2 (Obj.isFreed_of_fields d3)
 have hfreed : tO.isFreed = false := by rw [← hto]; rfl
 have t3 := (Heap.get?_update_other (h1.push tO) (Obj.mapFields (·.setIfInBounds 1 (Value.ref h1.objs.size))) (Ne.symm ne)).trans (Heap.get?_push_size h1 hfreed)
 have dT : ∃ ts, tO.data = .fields ts ∧ 3 < ts.size := by
  rw [← hto]; exact ⟨_, rfl, by simp only [List.size_toArray, List.length_append, List.length_cons, List.length_nil] <;> omega⟩
 obtain ⟨ts, dT, s3⟩ := dT
 unfold setFlight; refine wpAny_bind (wpAny_field g3 d3 (x := .ref h1.objs.size) (by simp [hsz]) ?_)
 rw [if_pos (show (Value.ref h1.objs.size != Value.none) = true by simp)]
 have all : ∀ b o, b ≠ e → h1.get? b = some o → (((h1.push tO).update e (Obj.mapFields (·.setIfInBounds 1 (Value.ref h1.objs.size)))).update h1.objs.size (Obj.mapFields (·.setIfInBounds 3 ((none : Option Addr).elim Value.none fun f => rawInt f)))).get? b = some o := fun b o hb q => by
  rw [Heap.get?_update_other _ _ (Nat.ne_of_gt (Heap.lt_size q)), Heap.get?_update_other _ _ (Ne.symm hb)]; exact Heap.get?_push_of_some _ q
 refine wpAny_setField t3 dT s3 (h _ h1.objs.size (by rw [k1.1]; exact Nat.le_refl _) ⟨fun b o hb hn q => all b o hb ((k1.2.1 b hn).trans q), fun b o hb q => ?_⟩ ⟨⟨_, _, ?_, ?_, d3, by simp [hsz]⟩, ⟨_, _, Heap.get?_update_self _ t3 (Obj.isFreed_of_fields (Obj.data_mapFields dT _)), Obj.data_mapFields dT _, by simp [s3]⟩, ne⟩)
 ·obtain ⟨sl, q'⟩ := k1.2.2 b o q
  exact ⟨sl, all b _ hb q'⟩
 ·rw [Heap.get?_update_other _ _ ne]; exact g3
 ·exact Obj.cls_mapFields _ _
theorem note {base : Heap} {env : Env} {outer : List Env} {L e : Addr} {oe : Obj} {vs : Array Value} {Q : Unit → Shared → Prop}
  (hfr : A.frames = some (env :: outer)) (hl : s.heap.FunFrames base (env :: outer)) (hf : env.frame = some L) (he : s.heap.get? e = some oe) (hd : oe.data = .fields vs) (hsz : 1 < vs.size)
  (htb : vs[1]? = some .none ∨ ∃ T oT ts, vs[1]? = some (.ref T) ∧ T ≠ e ∧ s.heap.get? T = some oT ∧ oT.data = .fields ts ∧ ts[3]? = some .none)
  (h : ∀ h' T, s.heap.objs.size ≤ T → (∀ b o, b ≠ e → vs[1]? ≠ some (.ref b) → b ∉ frs (env :: outer) → s.heap.get? b = some o → h'.get? b = some o) → (∀ b o, b ≠ e → vs[1]? ≠ some (.ref b) → s.heap.get? b = some o → ∃ sl, h'.get? b = some { o with slots := sl }) → Rec h' e T oe.cls → Q () { s with heap := h' }) :
  wpAny M A (noteFrame (.ref e) env) (fun _ s' => wpAny M A (setFlight (.ref e) none) Q E s') E s := by
 unfold noteFrame
 simp only [hf]
 rcases htb with h1 | ⟨T, oT, ts, h1, hne, hT, hdT, h3⟩
 ·refine wpAny_bind (wpAny_field he hd h1 ?_); rw [if_neg (by decide)]
  exact note_new hfr hl hf he hd hsz fun h' T a b c => h h' T a (fun b' o q _ r z => b.keep b' o q r z) (fun b' o q _ z => b.slot b' o q z) c
 ·refine wpAny_bind (wpAny_field he hd h1 ?_); rw [if_pos (show (Value.ref T != Value.none) = true by simp)]
  refine wpAny_bind (wpAny_field hT hdT h3 ?_); rw [if_neg (show ¬ ((Value.none == rawInt L) = true) by simp [rawInt])]
  refine wpAny_bind (wpAny_setField hT hdT (Array.getElem?_eq_some_iff.mp h3).1 ?_)
  have oth : ∀ b, b ≠ T → (s.heap.update T (Obj.mapFields (·.setIfInBounds 3 Value.none))).get? b = s.heap.get? b := fun b hb => Heap.get?_update_other _ _ (Ne.symm hb)
  have hrec : ∀ b o, s.heap.get? b = some o → (∀ vs, o.data ≠ .fields vs) → b ≠ T := fun b o q nf z => by rw [z, hT] at q; cases q; exact nf ts hdT
  refine note_new hfr (hl.of_keeps fun b o q nf => ⟨o, (oth b (hrec b o q nf)).trans q, rfl⟩) hf ((oth e (Ne.symm hne)).trans he) hd hsz fun h' T' a b c => h h' T' ?_ (fun b' o q r z w => b.keep b' o q z ((oth b' fun y => r (y ▸ h1)).trans w)) (fun b' o q r w => b.slot b' o q ((oth b' fun y => r (y ▸ h1)).trans w)) c
  exact Nat.le_trans (Nat.le_of_eq (Heap.size_update ..).symm) a
theorem leave {base : Heap} {env : Env} {outer : List Env} {L e : Addr} {oe : Obj} {vs : Array Value} {Q : Unit → Shared → Prop}
  (hfr : A.frames = some (env :: outer)) (hl : s.heap.FunFrames base (env :: outer)) (hf : env.frame = some L) (he : s.heap.get? e = some oe) (hd : oe.data = .fields vs) (hsz : 1 < vs.size)
  (htb : vs[1]? = some .none ∨ ∃ T oT ts, vs[1]? = some (.ref T) ∧ T ≠ e ∧ s.heap.get? T = some oT ∧ oT.data = .fields ts ∧ ts[3]? = some .none)
  (h : ∀ h' T, s.heap.objs.size ≤ T → (∀ b o, b ≠ e → vs[1]? ≠ some (.ref b) → b ∉ frs (env :: outer) → s.heap.get? b = some o → h'.get? b = some o) → (∀ b o, b ≠ e → vs[1]? ≠ some (.ref b) → s.heap.get? b = some o → ∃ sl, h'.get? b = some { o with slots := sl }) → Rec h' e T oe.cls → Q () { s with heap := h' }) :
  wpAny M A (leaving env (.ref e)) Q E s := by
 unfold leaving
 exact wpAny_bind (note hfr hl hf he hd hsz htb h)
end
theorem objok_there {P : Program} {w : World} {H : Hp} {h : Heap} {a : Addr} {o : HO} (x : ObjOk P w H h a o) : ∃ u, h.get? a = some u := by
 cases o with
 | lst xs => obtain ⟨_, _, _, _, e⟩ := x; exact ⟨_, e⟩
 | tup xs => obtain ⟨_, _, _, u, e, _⟩ := x; exact ⟨_, e⟩
 | dK kvs => obtain ⟨_, _, _, _, o, _, _, e, _⟩ := x; exact ⟨_, e⟩
 | dT kvs => obtain ⟨_, _, _, _, o, _, _, e, _⟩ := x; exact ⟨_, e⟩
 | set S n => obtain ⟨o, _, _, _, e, _⟩ := x; exact ⟨_, e⟩
 | ins C dx fs => obtain ⟨_, _, _, e, _⟩ := x; exact ⟨_, e⟩
 | own y => exact x
 | xd fs => obtain ⟨_, ⟨_, _, _, e, _⟩, _⟩ := x; exact ⟨_, e⟩
 | rng lo hi => obtain ⟨_, _, _, e⟩ := x; exact ⟨_, e⟩
 | frz ob u => obtain ⟨e, _⟩ := x; exact ⟨_, e⟩
 | tbl q => obtain ⟨ps, e, _⟩ := x; exact ⟨_, e⟩
 | met f y => exact ⟨_, x⟩
 | ext φ => obtain ⟨_, e, _⟩ := x; exact e
theorem hok_none {P : Program} {w : World} {H : Hp} {h : Heap} {a : Addr} (x : HOk P w H h) (e : h.get? a = none) : H a = none := by
 cases q : H a with
 | none => rfl
 | some o =>
  obtain ⟨u, z⟩ := objok_there (x a o q)
  rw [e] at z; cases z
structure ExAt (h0 h : Heap) (H : Hp) (a : Addr) (cls : Value) : Prop where
 new : h0.get? a = none
 free : H a = none
 obj : ∃ oe vs, h.get? a = some oe ∧ oe.cls = cls ∧ oe.data = .fields vs ∧ 1 < vs.size ∧ (vs[1]? = some .none ∨ ∃ T oT ts, vs[1]? = some (.ref T) ∧ h0.get? T = none ∧ T ≠ a ∧ H T = none ∧ h.get? T = some oT ∧ oT.data = .fields ts ∧ ts[3]? = some .none)
noncomputable def CXe (P : Program) (w : World) : CXT := fun outer H s E e s' => ∃ a cls H', e = .ref a ∧ s'.os = s.os ∧ AllBare s'.gens ∧ Un (frs outer) [] H H' s.heap s'.heap ∧ HOk P w H' s'.heap ∧ ExAt s.heap s'.heap H' a cls ∧ E cls none H'
theorem pass_none {P : Program} {w : World} {X : Cx} : Passes (CXe P w) X E0 := fun _ _ _ _ _ _ _ h => by
 obtain ⟨_, _, _, _, _, _, _, _, _, q⟩ := h
 exact q.elim
theorem pass_body {P : Program} {w : World} {K : PySem.W.Frag} {mg : Str → Option Value} {base : Heap} {N : List Str} {qual : Str} {scope : Scope} {f : Addr} {cd : Value} {A : Around} {outer : List Env} {s₀ : Shared} {H₀ : Hp} {E : XK} :
  Passes (CXe P w) (cxOf (CXe P w) P w K mg base N qual scope f cd A outer s₀ H₀ E) E := fun pins σ H s e s' I c => by
 obtain ⟨a, cls, H', rfl, os, bare, un, hok, ex, q⟩ := c
 have J := I.call' os un hok bare (fun b z => absurd z (by simp))
 obtain ⟨oe, vs, he, rfl, hd, hsz, htb⟩ := ex.obj
 show wpAny _ _ (leaving _ (.ref a)) _ _ _
 have tb : vs[1]? = some .none ∨ ∃ T oT ts, vs[1]? = some (.ref T) ∧ T ≠ a ∧ s'.heap.get? T = some oT ∧ oT.data = .fields ts ∧ ts[3]? = some .none := by
  rcases htb with z | ⟨T, oT, ts, z1, _, z2, _, z3, z4, z5⟩
  ·exact .inl z
  ·exact .inr ⟨T, oT, ts, z1, z2, z3, z4, z5⟩
 have tbn : ∀ b, vs[1]? = some (.ref b) → s.heap.get? b = none ∧ H' b = none := fun b z => by
  rcases htb with z' | ⟨T, oT, ts, z1, z0, z2, zf, z3, z4, z5⟩
  ·rw [z'] at z; cases z
  ·rw [z1] at z; cases z; exact ⟨z0, zf⟩
 have nox : ∀ b : Addr, b ∉ (cxOf (CXe P w) P w K mg base N qual scope f cd A outer s₀ H₀ E).ex := fun b z => absurd (show b ∈ ([] : List Addr) from z) (by simp)
 have nw : ∀ b, s.heap.get? b = none → s₀.heap.get? b = none := fun b z => by
  cases r : s₀.heap.get? b with
  | none => rfl
  | some o =>
   obtain ⟨o', r'⟩ := I.base.there b o r (nox b)
   rw [z] at r'; cases r'
 refine leave J.ok.frames J.stack rfl he hd hsz tb fun h' T hT k1 k2 hR => ?_
 have old : ∀ b o, s₀.heap.get? b = some o → b ≠ a ∧ vs[1]? ≠ some (.ref b) := fun b o q => by
  refine ⟨fun z => ?_, fun z => ?_⟩
  ·rw [z, nw a ex.new] at q; cases q
  ·rw [nw b (tbn b z).1] at q; cases q
 have nofr : ∀ b o, s₀.heap.get? b = some o → b ∉ frs outer → b ∉ frs (envOfC qual scope s₀.heap.objs.size f cd :: outer) := fun b o q n z => by
  rcases List.mem_cons.mp (J.stkSub b z) with z | z
  ·have z' : b = s₀.heap.objs.size := z
   exact absurd (z' ▸ Heap.lt_size q) (Nat.lt_irrefl _)
  ·exact n z
 have jb : Un (frs outer) [] H₀ H' s₀.heap s'.heap := J.base
 refine ⟨a, oe.cls, H', rfl, J.os, bare, ⟨fun b o q n hb hx => ?_, fun b o q n hb hx => ?_, jb.free, fun b o q hx => ?_, jb.tups, jb.frzs, jb.tbls⟩, fun b o q => ?_, ⟨nw a ex.new, ex.free, ?_⟩, q⟩
 ·exact k1 b o (old b o q).1 (old b o q).2 (nofr b o q hb) (jb.keep b o q n hb hx)
 ·obtain ⟨sl, e1⟩ := jb.slot b o q n hb hx
  obtain ⟨sl', e2⟩ := k2 b _ (old b o q).1 (old b o q).2 e1
  exact ⟨sl', e2⟩
 ·obtain ⟨o', e1⟩ := jb.there b o q hx
  obtain ⟨sl, e2⟩ := k2 b o' (old b o q).1 (old b o q).2 e1
  exact ⟨_, e2⟩
 ·refine (hok b o q).stay (fun c u hc r => ?_) (fun _ z => z) fun _ _ z => z
  have tr : ∃ v, H' c = some v := by
   rcases hc with rfl | hc
   ·exact ⟨o, q⟩
   ·exact ⟨_, hc⟩
  obtain ⟨v, tr⟩ := tr
  refine k1 c u (fun z => ?_) (fun z => ?_) (fun z => ?_) r
  ·rw [z, ex.free] at tr; cases tr
  ·rw [(tbn c z).2] at tr; cases tr
  ·rw [J.stkFree c z] at tr; cases tr
 ·obtain ⟨⟨oe', vs', x1, x2, x3, x4⟩, ⟨oT, ts, y1, y2, y3⟩, hne⟩ := hR
  exact ⟨oe', vs', x1, x2, x3, (Array.getElem?_eq_some_iff.mp x4).1, .inr ⟨T, oT, ts, x4, Heap.get?_none_of_le (Nat.le_trans J.sz hT), hne, hok.fresh hT, y1, y2, y3⟩⟩
theorem own_at {K : PySem.W.Frag} {h : Heap} {mg : Str → Option Value} {x : Str} {C : Addr} {bmB : List Value} {newId : String} (X : K.In h) (hm : mg x = some (.ref C)) (q : PySem.W.excIn K C bmB newId = true) : OwnCls x C bmB newId mg h := by
 refine ⟨hm, ?_⟩
 unfold PySem.W.excIn at q; split at q
 ·rename_i dd cd sl ho
  split at q
  ·rename_i C' bm k0 k1 k2 k3 n k5 hro hs
   simp only [Bool.and_eq_true, beq_iff_eq, Bool.not_eq_true'] at q; obtain ⟨⟨⟨⟨⟨rfl, rfl⟩, hdel⟩, ht⟩, hk⟩, hni⟩ := q
   obtain ⟨nm, bs, mro, ns, qn, hd, sn, sub, ab, col, del⟩ := cd; dsimp only at hro hdel hk hni
   subst hro hdel
   obtain ⟨l⟩ := sl
   obtain rfl : l = [k0, k1, k2, k3, some (.builtin n), k5] := hs
   exact ⟨bm, ns, nm, qn, bs, hd, sn, sub, ab, col, dd, k0, k1, k2, k3, k5, _, X _ _ ho, .of_isNs (PySem.W.isNs_of_in X hk), PySem.W.nsMap_none_of_in X hk hni, PySem.W.tail_of_in X ht⟩
  ·cases q
 ·cases q
structure ExBase (bmB : List Value) (newId : String) : Prop where
 facts : ∃ Bn inN bmN B nid initId, ExcBaseFacts Bn newId inN bmN ∧ bmB.contains (.type Bn) = true ∧ ExcBaseFacts B nid initId bmB
noncomputable def tRaise (C : Addr) (E : XK) (t : TA) : TS := fun _ σ H => t σ H fun vs H1 => vs.length ≤ sizeLine ∧ E (.ref C) none H1
theorem ps_raise {X : Cx} {x : Str} {C : Addr} {bmB : List Value} {newId : String} {E : XK} {e₀ : Expr} {rest : List Expr} {t : TA} {np cpos pos : Pos} (hc : X.calm = true) (hg : Gl X x) (hm : X.mg x = some (.ref C)) (hx : PySem.W.excIn X.K C bmB newId = true) (B : ExBase bmB newId)
  (hp : Passes (CXe X.prog X.w) X E) (ha : PA X (e₀ :: rest) t) (hdb : (x == ("__debug__" : Str)) = false := by decide) (he : starEach (e₀ :: rest) X.env = (false, eval e₀ X.env) :: starEach rest X.env := by rfl) (hpl : (backTo cpos (starEach rest X.env)).any (·.1) = false := by rfl) :
  PS X (.Raise (some (.Call (.Name x np) (e₀ :: rest) [] cpos)) none pos) (tRaise C E t) := by
 intro pins s σ H D I h
 obtain ⟨Bn, inN, bmN, B', nid, initId, Fn, hBn, FB⟩ := B.facts
 obtain ⟨tl, N, nm, q, bs, hdct, sn, sub, ab, col, dd, k0, k1, k2, k3, k5, mN, hC, hN, hni, T⟩ := (own_at I.ok.mod.kin hm hx).obj
 refine wpAny_Raise_call_subU (C := C) (nm := nm) (q := q) (N := N) (bs := bs) (bm := tl) (hdct := hdct) (sn := sn) (sub := sub) (ab := ab) (col := col) (dd := dd) (k0 := k0) (k1 := k1) (k2 := k2) (k3 := k3) (k5 := k5) Fn hBn FB (mN := mN) (T.hasType FB.hasBase) (I.ok.hd hc)
  (by rw [he]; show (false || (backTo cpos (starEach rest X.env)).any (·.1)) = false; rw [hpl]; rfl) hni (ld_glob I hg hm ⟨rfl, ?_⟩ hdb)
 have h2 := ha cpos pins s σ H _ I h
 rw [he] at h2 ⊢
 refine Calls.evalArgs_plain (wpAny_mono h2 (fun us s2 ⟨vs, H1, I1, r, hl, qE⟩ => ⟨rfl, ?_, I1.bk _ _ hC, hN.keeps I1.bk, T.keeps I1.bk, fun h' e made => ?_⟩) fun _ _ y => y)
 ·show us.length ≤ sizeLine
  rw [← r.length]; exact hl
 ·obtain ⟨tt, ge, _, _⟩ := made.there
  refine hp pins σ H1 s2 (.ref e) _ I1 ⟨e, .ref C, H1, rfl, rfl, I1.bare, Un.kept made.keeps, I1.hok.kept made.keeps, ⟨made.new, hok_none I1.hok made.new, ⟨_, _, ge, rfl, rfl, by simp, .inl (by simp)⟩⟩, qE⟩
section
variable {X : Cx} {pins : List (Addr × Obj)} {σ : St} {H : Hp} {s : Shared}
noncomputable abbrev Cx.marked (X : Cx) (a : Addr) : Cx := { X with A := X.A.mark (some (.ref a)), calm := false }
theorem Cx.Ok.marked (ok : X.Ok) (a : Addr) : (X.marked a).Ok :=
 ⟨ok.mod, ok.kind, ok.glob, ok.blt, ok.above, ok.inj, ok.has, ok.cab, fun z => absurd (show false = true from z) (by decide), ok.frames, ok.stk, ok.exf, ok.bs, ok.bsz, ok.noex, ok.exfs, ok.funs, ok.frf⟩
theorem Inv.marked (I : Inv X pins σ H s) (a : Addr) : Inv (X.marked a) pins σ H s := ⟨I.ok.marked a, I.os, I.bare, I.base, I.loc, I.cell, I.free, I.freeC, I.pin, I.hok, I.len⟩
theorem ExAt.tb {h0 h : Heap} {H : Hp} {a : Addr} {cls : Value} (x : ExAt h0 h H a cls) : ∃ oe vs, h.get? a = some oe ∧ oe.cls = cls ∧ oe.data = .fields vs ∧ 1 < vs.size ∧ (vs[1]? = some .none ∨ ∃ T oT ts, vs[1]? = some (.ref T) ∧ T ≠ a ∧ h.get? T = some oT ∧ oT.data = .fields ts ∧ ts[3]? = some .none) ∧ ∀ b, vs[1]? = some (.ref b) → h0.get? b = none ∧ H b = none := by
 obtain ⟨oe, vs, he, hc, hd, hsz, htb⟩ := x.obj
 refine ⟨oe, vs, he, hc, hd, hsz, ?_, fun b z => ?_⟩
 ·rcases htb with z | ⟨T, oT, ts, z1, _, z2, _, z3, z4, z5⟩
  ·exact .inl z
  ·exact .inr ⟨T, oT, ts, z1, z2, z3, z4, z5⟩
 ·rcases htb with z' | ⟨T, oT, ts, z1, z0, z2, zf, z3, z4, z5⟩
  ·rw [z'] at z; cases z
  ·rw [z1] at z; cases z; exact ⟨z0, zf⟩
end
section
variable {X : Cx} {k : Nat} {f Cy : Addr} {fd : FuncData} {ps : List Str} {sp : Sp} {x y : Str} {p yp cpos epos hpos pos : Pos} {e : Expr} {es : List Expr} {t : TA} {u : TS} {b₀ : Stmt} {suite : List Stmt}
end
section
open PySem.W PySem.Calls
variable {K : PySem.W.Frag} {x t c : Value} {H : Heap → Prop}
end
section
variable {X : Cx} {pins : List (Addr × Obj)} {σ : St} {H : Hp} {s : Shared} {a : Addr} {oe : Obj}
noncomputable abbrev Cx.held (X : Cx) (a : Addr) (oe : Obj) : Cx := { X with A := X.A.mark (some (.ref a)), calm := false, pn := (a, oe) :: X.pn }
theorem Cx.Ok.held (ok : X.Ok) (a : Addr) (oe : Obj) : (X.held a oe).Ok :=
 ⟨ok.mod, ok.kind, ok.glob, ok.blt, ok.above, ok.inj, ok.has, ok.cab, fun z => absurd (show false = true from z) (by decide), ok.frames, ok.stk, ok.exf, ok.bs, ok.bsz, ok.noex, ok.exfs, ok.funs, ok.frf⟩
theorem Inv.held (I : Inv X pins σ H s) (g : s.heap.get? a = some oe) (f : H a = none) (n : a ≠ X.env.locals) (nf : a ∉ X.fs) (nc : ∀ v, oe.data ≠ .cell v) : Inv (X.held a oe) pins σ H s :=
 ⟨I.ok.held a oe, I.os, I.bare, I.base, I.loc, I.cell, I.free, I.freeC, fun p hp => by
  rcases List.mem_cons.mp (show p ∈ (a, oe) :: (X.pn ++ pins) from hp) with rfl | hp
  ·exact ⟨g, f, n, nf, nc⟩
  ·exact I.pin p hp, I.hok, I.len⟩
end
section
variable {X : Cx} {k : Nat} {f Cy : Addr} {fd : FuncData} {ps : List Str} {sp : Sp} {x y r n xT : Str} {T : String} {i j : Nat} {p yp cpos epos hpos pos rp rp2 ip isp np tp icpos ccpos bpos apos : Pos} {e : Expr} {es : List Expr} {t : TA}
end
section
variable {P : Program} {w : World} {K : PySem.W.Frag} {mg : Str → Option Value} {base : Heap}
theorem Fun.okE {x qual : Str} {st : Stmt} {f : Addr} {fd : FuncData} {N ps : List Str} {k : Nat} {sp : Sp} (F : Fun K x qual st f fd) (S : FnScope N ps (aj st)) (len : ∀ vs H Q E, sp vs H Q E → vs.length = ps.length)
  (hbody : ∀ (cdv : Value) (A : Around) (outer : List Env) (s : Shared) (H : Hp) (vs : List V) (Q : VK) (E : XK), fd.code = cdv → Room k (A.deeper (envOfC qual (aj st) s.heap.objs.size f cdv)) → sp vs H Q E →
   ∃ t, PSs (cxOf (CXe P w) P w K mg base N qual (aj st) f cdv A outer s H E) (ao st) t ∧ t { nx := fun _ H' => Q .non H', rt := Q } (start N vs) H) : FnOk P w K mg base (CXe P w) (k + 1) f fd ps sp := by
 obtain ⟨oc, od, kV, doc, pm, an, cdv, ct, osl, rfl, lk, hcd⟩ := F.ex
 exact fn_of lk hcd S len fun A outer s H vs Q E hr hsp => hbody cdv A outer s H vs Q E rfl hr hsp
theorem FnOk.calm {k : Nat} {f : Addr} {fd : FuncData} {ps : List Str} {sp : Sp} (F : FnOk P w K mg base (CXe P w) k f fd ps sp) : FnOk P w K mg base CX0 k f fd ps (fun vs H Q _ => sp vs H Q E0) := by
 refine ⟨fun vs H Q E h => F.len vs H Q E0 h, fun A outer s H args us vs Q E hr e0 hb r h => codeAny_mono (F.run A outer s H args us vs Q E0 hr e0 hb r h) fun rs s' z => ?_⟩
 cases rs with
 | ok fl => cases fl <;> exact z
 | error e =>
  obtain ⟨_, _, _, _, _, _, _, _, _, q⟩ := z
  exact q.elim
end
end L2
namespace Pu
open PySem PySem.Spec PyProof.Rows L2
theorem fn_puE {P : Program} {w : World} {Kf : PySem.W.Frag} {mg : Str → Option Value} {base : Heap} {x qual : Str} {st : Stmt} {f : Addr} {fd : FuncData} {N ps : List Str} {k : Nat} {ms : List Bool} {Fb : En → Out} (F : Fun Kf x qual st f fd) (S : FnScope N ps (aj st)) (hm : ms.length = ps.length)
  (hbody : ∀ (cdv : Value) (A : Around) (outer : List Env) (s : Shared) (H G0 : Hp) (E : XK), fd.code = cdv → Room k (A.deeper (envOfC qual (aj st) s.heap.objs.size f cdv)) →
   PuSs (cxOf (CXe P w) P w Kf mg base N qual (aj st) f cdv A outer s H E) G0 H (ek ⟨Kf, adr mg⟩ E) (ao st) Fb) :
  FnOk P w Kf mg base (CXe P w) (k + 1) f fd ps (spPu ⟨Kf, adr mg⟩ ms (fnD ms N.length Fb)) := by
 refine F.okE S (fun vs H Q E h => h.1.trans hm) fun cdv A outer s H vs Q E hc hr h => ?_
 obtain ⟨hl, gb, G, ds, sg, al, q⟩ := h
 exact ⟨_, hbody cdv A outer s H G E hc hr, G, _, envR_start gb sg al, Ext.refl sg, outP_of sg q⟩
end Pu
end
section
namespace L2
open PySem PySem.Spec PyProof.Rows
section
variable {X : Cx} {k : Nat} {f Cy : Addr} {fd : FuncData} {ps : List Str} {sp : Sp} {x y : Str} {p yp cpos epos hpos pos : Pos} {e : Expr} {es : List Expr} {t : TA} {u : TS} {h₀ : ExceptHandler} {hs : List ExceptHandler}
end
end L2
end
section
namespace Pu
open PySem PySem.Spec PyProof.Rows L2
structure SC where
 N : List Str
 sc : Scope
 td : List Str
 lam : Bool
structure FS where
 ms : List Bool
 f : List D → Res
structure XT where
 exc : Str → Bool
 sub : Str → Str → Bool
 ve : Str → Bool
 nsub : Str → Str → Bool
structure GT where
 fns : Str → Option FS
 gstr : Str → Option Str
 xs : XT
 lam : Expr → List (Str × D) → List D → Res
noncomputable def bnames : List Str := ["len", "list", "tuple", "int", "isinstance", "range", "all", "any", "sorted", "set", "min", "max", "abs", "str", "bool", "dict", "enumerate", "zip", "reversed", "ValueError"]
noncomputable def LamCx (X : Cx) : Prop := ∃ c P, (c, P, X.env.qual ++ "<lambda>") ∈ tbs ∧ X.env.code = .ref c ∧ PySem.W.CodeHd X.base c P ∧
 (∃ bm o, X.mg "__builtins__" = some (.ref bm) ∧ bm ≠ builtinsNs ∧ bm ≠ mainGlobals ∧ X.base.get? bm = some o ∧ o.cls = .type "module" ∧ o.dict = some builtinsNs ∧ o.data = .plain) ∧
 (∀ y c, X.env.cells.lookup y = some c → X.s₀.heap.objs.size ≤ c) ∧ ∀ y ∈ lamCaps, X.fn y = false
structure RoomL (k : Nat) (A : Around) : Prop where
 hd : A.handled = none
 dp : A.depth + 3 * k + 5 < recursionLimit
 un : A.units + 16 * k + 190 < cLine
theorem RoomL.of {k : Nat} {A : Around} (r : Room k A) : RoomL k A := ⟨r.hd, r.dp, by have := r.un; omega⟩
theorem RoomL.in2 {k : Nat} {A : Around} (r : Room k A) : RoomL k A.in1.in1 := ⟨r.hd, r.dp, by have := r.un; show A.units + 1 + 1 + 16 * k + 190 < cLine; omega⟩
theorem RoomL.depth {k : Nat} {A : Around} (r : RoomL k A) : A.depth < recursionLimit := by have := r.dp; omega
theorem RoomL.deeper {k : Nat} {A : Around} (r : RoomL (k + 1) A) (env : Env) : Room k (A.deeper env) :=
 ⟨r.hd, by have := r.dp; show A.depth + 1 + 3 * k + 5 < _; omega, by have := r.un; show A.units + 3 + 16 * k + 200 < _; omega⟩
noncomputable def LamRun (P : Program) (w : World) (K : PySem.W.Frag) (mg : Str → Option Value) (base : Heap) (k : Nat) (e : Expr) (fs : List (Str × D)) (ds : List D) (d : D) : Prop :=
 ∀ (A : Around) (outer : List Env) (s : Shared) (H G : Hp) (a : Addr) (us : List Value) (vs : List V) (Q : VK), RoomL k A → Env0 P w K mg base A outer s H → GOk H → Same G H → Den ⟨K, adr mg⟩ G (.obj e fs) (.ref a) → DenL ⟨K, adr mg⟩ G ds vs → Vals vs us →
  (∀ v G' H', Ext G H G' H' → Den ⟨K, adr mg⟩ G' d v → Q v H') → codeAny (model P w) A (.call (.ref a) ⟨us, []⟩) (CR (CXe P w) outer P w H s Q E0) s
structure XOk (X : Cx) (C : SC) (T : GT) (E : XK) : Prop where
 n : X.N = C.N
 s : X.env.scope = C.sc
 nd : C.N.Nodup
 calm : X.calm = true
 units : X.A.units + 65 < cLine
 fns : ∀ x s, T.fns x = some s → ∃ k f fd ps, Room k X.A ∧ X.mg x = some (.ref f) ∧ PySem.W.keepIn X.K (.ref f) = true ∧ Binds X.K fd ps [] ∧ FnOk X.prog X.w X.K X.mg X.base (CXe X.prog X.w) k f fd ps (spPu (kx X) s.ms s.f)
 gstr : ∀ x y, T.gstr x = some y → ∃ t, X.mg x = some (.str y t)
 bl : ∀ x ∈ bnames, X.mg x = none
 exc : ∀ x, T.xs.exc x = true → ∃ C bm newId, X.mg x = some (.ref C) ∧ PySem.W.excIn X.K C bm newId = true ∧ ExBase bm newId
 sub : ∀ c y, T.xs.sub c y = true → ∃ Cy, X.mg y = some (.ref Cy) ∧ PySem.W.exmOne X.K (.ref (adr X.mg c)) (.ref Cy) = some true
 ve : ∀ c, T.xs.ve c = true → PySem.W.kitCls X.K (.ref (adr X.mg c)) (.type "ValueError") = some true
 nsub : ∀ c y, T.xs.nsub c y = true → ∃ Cy, X.mg y = some (.ref Cy) ∧ PySem.W.exmOne X.K (.ref (adr X.mg c)) (.ref Cy) = some false
 goes : Passes (CXe X.prog X.w) X E
 lamc : C.lam = true → LamCx X
 lams : ∀ e fs ds d, T.lam e fs ds = .ok d → ∃ k, Room k X.A ∧ LamRun X.prog X.w X.K X.mg X.base k e fs ds d
noncomputable def vis (sc : Scope) (x : Str) : Bool := match sc.names.lookup x with
 | some .local => true
 | some .cell => true
 | some .free => true
 | _ => false
theorem vis_ok {sc : Scope} {x : Str} (h : vis sc x = true) : Vis sc x := by
 unfold vis at h
 unfold Vis
 cases e : sc.names.lookup x with
 | none => rw [e] at h; cases h
 | some k => rw [e] at h; cases k <;> first | exact .inl rfl | exact .inr (.inl rfl) | exact .inr (.inr rfl) | cases h
noncomputable def isLoc (sc : Scope) (x : Str) : Bool := match sc.names.lookup x with
 | some .local => true
 | some .cell => true
 | _ => false
theorem isLoc_ok {sc : Scope} {x : Str} (h : isLoc sc x = true) : L2.Loc sc x := by
 unfold isLoc at h
 unfold L2.Loc
 cases e : sc.names.lookup x with
 | none => rw [e] at h; cases h
 | some k => rw [e] at h; cases k <;> first | exact .inl rfl | exact .inr rfl | cases h
noncomputable def okName (x : Str) : Bool := !(x == ("__debug__" : Str)) && !(x == ("__classdict__" : Str))
theorem okName_1 {x : Str} (h : okName x = true) : (x == ("__debug__" : Str)) = false := by
 unfold okName at h
 simp only [Bool.and_eq_true, Bool.not_eq_true'] at h
 exact h.1
theorem okName_2 {x : Str} (h : okName x = true) : (x == ("__classdict__" : Str)) = false := by
 unfold okName at h
 simp only [Bool.and_eq_true, Bool.not_eq_true'] at h
 exact h.2
noncomputable def ixOf (x : Str) : List Str → Nat → Option Nat
 | [], _ => none
 | y :: r, i => if x = y then some i else ixOf x r (i + 1)
theorem ixOf_ok {x : Str} : ∀ {l : List Str} {i j : Nat}, ixOf x l i = some j → i ≤ j ∧ l[j - i]? = some x
 | [], _, _, h => by cases h
 | y :: r, i, j, h => by
  unfold ixOf at h
  by_cases e : x = y
  ·rw [if_pos e] at h
   cases h
   subst e
   exact ⟨Nat.le_refl _, by simp⟩
  ·rw [if_neg e] at h
   obtain ⟨h1, h2⟩ := ixOf_ok h
   refine ⟨by omega, ?_⟩
   rw [show j - i = (j - (i + 1)) + 1 by omega]
   simpa using h2
noncomputable def slot (C : SC) (x : Str) : Option Nat := if vis C.sc x && okName x then ixOf x C.N 0 else none
theorem slot_ok {C : SC} {x : Str} {i : Nat} (h : slot C x = some i) : C.N[i]? = some x ∧ vis C.sc x = true ∧ okName x = true := by
 unfold slot at h
 by_cases e : (vis C.sc x && okName x) = true
 ·rw [if_pos e] at h
  rw [Bool.and_eq_true] at e
  obtain ⟨_, q⟩ := ixOf_ok h
  exact ⟨by simpa using q, e.1, e.2⟩
 ·rw [if_neg e] at h; cases h
noncomputable def isG (C : SC) (x : Str) : Bool := decide (C.sc.names.lookup x = some .globalImplicit) && okName x
section
variable {X : Cx} {C : SC} {T : GT} {B : Hp} {E : EK} {x : Str} {i : Nat} {pos : Pos}
theorem XOk.var {E' : XK} (O : XOk X C T E') (h : slot C x = some i) : PE X (.Name x pos) (tVar i) := by
 obtain ⟨h1, h2, h3⟩ := slot_ok h
 exact pe_var (by rw [O.n]; exact h1) (by rw [O.s]; exact vis_ok h2) (okName_1 h3) (okName_2 h3)
theorem XOk.gl {E' : XK} (O : XOk X C T E') (h : isG C x = true) : Gl X x ∧ (x == ("__debug__" : Str)) = false := by
 unfold isG at h
 rw [Bool.and_eq_true] at h
 refine ⟨?_, okName_1 h.2⟩
 show X.env.scope.names.lookup x = _
 rw [O.s]
 exact of_decide_eq_true h.1
end
noncomputable def gSt : En → Res := fun _ => .st
noncomputable def gStL : En → ResL := fun _ => .st
noncomputable def sSt : En → Out := fun _ => .st
section
variable {X : Cx} {B G0 : Hp} {E : EK} {e tg : Expr} {es : List Expr}
theorem dh : PuE X B E e gSt := fun pins s σ H Q I ⟨G, δ, R, q⟩ => q.elim
theorem ow_st : OwE X B E e gSt := fun pins s σ H Q I ⟨G, δ, R, q⟩ => q.elim
theorem pt_st : PuT X B E e gSt := fun pins s σ H Q I ⟨G, δ, R, q⟩ => q.elim
theorem al_st {ms : List Bool} : ArL X B E ms es gStL := fun pos pins s σ H Q I ⟨G, δ, R, q⟩ => q.elim
theorem s_st {st : Stmt} : PuS X G0 B E st sSt := fun pins s σ H D I ⟨G, δ, R, x, q⟩ => q.elim
end
theorem e8 {y : Str} : ∀ {l : List (Str × NameKind)}, (y, NameKind.free) ∈ l ↔ y ∈ cx l
 | [] => by simp [cx]
 | (n, k) :: r => by
  unfold cx
  by_cases h : k = .free
  ·subst h
   rw [if_pos rfl, List.mem_cons, List.mem_cons, e8]
   constructor
   ·rintro (z | z)
    ·cases z; exact .inl rfl
    ·exact .inr z
   ·rintro (z | z)
    ·subst z; exact .inl rfl
    ·exact .inr z
  ·rw [if_neg h, List.mem_cons, e8]
   constructor
   ·rintro (z | z)
    ·cases z; exact absurd rfl h
    ·exact z
   ·exact .inr
noncomputable def relabelS (scope sc : Scope) : Scope :=
 { scope with names := scope.names.map fun (n, k) => if (k == .free && sc.kind == .function && sc.names.lookup n == some .cell) then (n, .cell) else (n, k) }
noncomputable def slots (C : SC) : List Str → Option (List Nat)
 | [] => some []
 | y :: r => match slot C y, slots C r with
  | some i, some is => some (i :: is)
  | _, _ => none
noncomputable def capOk (C : SC) (scope : Scope) (y : Str) : Bool :=
 (decide (C.sc.names.lookup y = some .cell) || decide (C.sc.names.lookup y = some .free)) &&
 (decide ((relabelS scope C.sc).names.lookup y = some .cell) || decide ((relabelS scope C.sc).names.lookup y = some .free))
noncomputable def compOk (C : SC) (scope : Scope) (x : Str) : Bool :=
 decide (scope.kind = .function) && (scope.names.all fun y => decide (y.2 ≠ .cell)) && (scope.names.all fun y => !decide (y.2 = .local) || decide (scope.names.lookup y.1 = some .local)) &&
 decide (scope.names.lookup x = some .local) && decide ((x :: cx scope.names).Nodup) && (cx scope.names).all (capOk C scope)
theorem slots_ok {C : SC} : ∀ {M : List Str} {ix : List Nat}, slots C M = some ix → ∀ {X : Cx} {scope : Scope} {cl : List (Str × Addr)}, X.N = C.N → X.env.scope = C.sc → (∀ y ∈ M, ∃ c, cl.lookup y = some c) → M.all (capOk C scope) = true → Caps X scope cl M ix
 | [], ix, h, X, scope, cl, _, _, _, _ => by cases h; exact rfl
 | y :: r, ix, h, X, scope, cl, hn, hs, hc, ha => by
  unfold slots at h
  cases e1 : slot C y with
  | none => rw [e1] at h; cases h
  | some i =>
   cases e2 : slots C r with
   | none => rw [e1, e2] at h; cases h
   | some is =>
    rw [e1, e2] at h
    cases h
    rw [List.all_cons, Bool.and_eq_true] at ha
    obtain ⟨q1, q2, q3⟩ := slot_ok e1
    have q4 := ha.1
    unfold capOk at q4
    rw [Bool.and_eq_true, Bool.or_eq_true, Bool.or_eq_true, decide_eq_true_eq, decide_eq_true_eq, decide_eq_true_eq, decide_eq_true_eq] at q4
    refine ⟨i, is, rfl, ⟨by rw [hn]; exact q1, by rw [hs]; exact vis_ok q2, ?_, hc y (List.mem_cons_self), ?_⟩, slots_ok e2 hn hs (fun z hz => hc z (List.mem_cons_of_mem _ hz)) ha.2⟩
    ·show X.env.scope.names.lookup y ≠ _
     rw [hs]
     rcases q4.1 with z | z <;> rw [z] <;> decide
    ·have : relabel scope X.env = relabelS scope C.sc := by
      unfold relabel relabelS
      rw [← hs]
      rfl
     rw [this]
     exact q4.2
theorem slots_nd {C : SC} (nd : C.N.Nodup) : ∀ {M : List Str} {ix : List Nat}, slots C M = some ix → M.Nodup → ix.Nodup ∧ ∀ i ∈ ix, ∃ y ∈ M, C.N[i]? = some y
 | [], ix, h, _ => by cases h; exact ⟨List.nodup_nil, fun i hi => by simp at hi⟩
 | y :: r, ix, h, hM => by
  unfold slots at h
  cases e1 : slot C y with
  | none => rw [e1] at h; cases h
  | some i =>
   cases e2 : slots C r with
   | none => rw [e1, e2] at h; cases h
   | some is =>
    rw [e1, e2] at h
    cases h
    obtain ⟨m1, m2⟩ := List.nodup_cons.mp hM
    obtain ⟨n1, n2⟩ := slots_nd nd e2 m2
    obtain ⟨q1, _, _⟩ := slot_ok e1
    refine ⟨List.nodup_cons.mpr ⟨fun hi => ?_, n1⟩, fun j hj => ?_⟩
    ·obtain ⟨z, hz, ez⟩ := n2 i hi
     rw [q1] at ez
     cases ez
     exact m1 hz
    ·rcases List.mem_cons.mp hj with rfl | hj
     ·exact ⟨y, List.mem_cons_self, q1⟩
     ·obtain ⟨z, hz, ez⟩ := n2 j hj
      exact ⟨z, List.mem_cons_of_mem _ hz, ez⟩
theorem closGo_some (env : Env) : ∀ (names : List (Str × NameKind)) (cs : List (Str × Addr)), (∀ y ∈ cx names, ∃ c, env.cells.lookup y = some c) → ∃ cl, closGo env names cs = some cl
 | [], cs, _ => ⟨cs, rfl⟩
 | (n, k) :: r, cs, h => by
  unfold closGo
  by_cases hk : k = .free
  ·subst hk
   rw [if_pos rfl]
   obtain ⟨c, e⟩ := h n (by unfold cx; rw [if_pos rfl]; exact List.mem_cons_self)
   rw [e]
   exact closGo_some env r _ fun y hy => h y (by unfold cx; rw [if_pos rfl]; exact List.mem_cons_of_mem _ hy)
  ·rw [if_neg hk]
   exact closGo_some env r cs fun y hy => h y (by unfold cx; rw [if_neg hk]; exact hy)
theorem closGo_keys (env : Env) : ∀ (names : List (Str × NameKind)) (cs cl : List (Str × Addr)), closGo env names cs = some cl → ∀ y, (cs.lookup y = none) → y ∉ cx names → cl.lookup y = none
 | [], cs, cl, h, y, q, _ => by cases h; exact q
 | (n, k) :: r, cs, cl, h, y, q, m => by
  unfold closGo at h
  by_cases hk : k = .free
  ·subst hk
   rw [if_pos rfl] at h
   unfold cx at m
   rw [if_pos rfl, List.mem_cons, not_or] at m
   cases hc : env.cells.lookup n with
   | none => rw [hc] at h; cases h
   | some c =>
    rw [hc] at h
    refine closGo_keys env r _ cl h y ?_ m.2
    have hb : (y == n) = false := by simpa using m.1
    rw [List.lookup_cons, hb]
    exact q
  ·rw [if_neg hk] at h
   unfold cx at m
   rw [if_neg hk] at m
   exact closGo_keys env r cs cl h y q m
theorem comp_static {X : Cx} {C : SC} {T : GT} {scope : Scope} {x : Str} {ix : List Nat} {E' : XK} (O : XOk X C T E') (ok : X.Ok) (h : compOk C scope x = true) (hx : slots C (cx scope.names) = some ix) : ∃ cl, CompOk X scope cl x (cx scope.names) ix := by
 unfold compOk at h
 simp only [Bool.and_eq_true, decide_eq_true_eq] at h
 obtain ⟨⟨⟨⟨⟨h1, h2⟩, h3⟩, h4⟩, h5⟩, h6⟩ := h
 have hcells : ∀ y ∈ cx scope.names, ∃ c, X.env.cells.lookup y = some c := fun y hy => by
  have q := List.all_eq_true.mp h6 y hy
  unfold capOk at q
  rw [Bool.and_eq_true, Bool.or_eq_true, decide_eq_true_eq, decide_eq_true_eq, ← O.s] at q
  exact ok.has y q.1
 obtain ⟨cl, hcl⟩ := closGo_some X.env scope.names [] hcells
 obtain ⟨n1, n2⟩ := List.nodup_cons.mp h5
 have hfree : ∀ y ∈ cx scope.names, ∃ c, cl.lookup y = some c := fun y hy => closGo_free X.env _ _ cl hcl y (.inr (e8.mpr hy))
 refine ⟨cl, hcl, h1, fun y hy => ?_, fun y hy e => ?_, h4, closGo_keys X.env _ _ cl hcl x rfl n1, h5, (slots_nd O.nd hx n2).1, slots_ok hx O.n O.s hfree h6⟩
 ·exact of_decide_eq_true (List.all_eq_true.mp h2 y hy)
 ·have q := List.all_eq_true.mp h3 y hy
  rw [decide_eq_true e] at q
  exact of_decide_eq_true (by simpa using q)
noncomputable def compSC (C : SC) (scope : Scope) (x : Str) : SC := ⟨x :: cx scope.names, relabelS scope C.sc, [], false⟩
theorem comp_xok {X : Cx} {C : SC} {T : GT} {scope : Scope} {cl : List (Str × Addr)} {x : Str} {E' : XK} (O : XOk X C T E') (h : compOk C scope x = true) (Cc s₀ H₀ ex pn) : XOk (eu X scope cl (x :: cx scope.names) x Cc s₀ H₀ ex pn) (compSC C scope x) T E0 where
 n := rfl
 s := by
  show relabel scope X.env = _
  unfold relabel
  show _ = relabelS scope C.sc
  unfold relabelS
  rw [← O.s]
  rfl
 nd := by
  unfold compOk at h
  simp only [Bool.and_eq_true, decide_eq_true_eq] at h
  exact h.1.2
 calm := O.calm
 units := O.units
 fns := O.fns
 gstr := O.gstr
 bl := O.bl
 exc := O.exc
 sub := O.sub
 ve := O.ve
 nsub := O.nsub
 goes := pass_none
 lamc := fun h => by cases h
 lams := O.lams
theorem XOk.none {X : Cx} {C : SC} {T : GT} {E : XK} (O : XOk X C T E) : XOk X C T E0 := ⟨O.n, O.s, O.nd, O.calm, O.units, O.fns, O.gstr, O.bl, O.exc, O.sub, O.ve, O.nsub, pass_none, O.lamc, O.lams⟩
theorem XOk.nox {X : Cx} {C : SC} {T : GT} {E : XK} (O : XOk X C T E) : XOk X.nox C T E0 := ⟨O.n, O.s, O.nd, O.calm, O.units, O.fns, O.gstr, O.bl, O.exc, O.sub, O.ve, O.nsub, pass_none, O.lamc, O.lams⟩
end Pu
end
section
namespace L2
open PySem PySem.Spec PyProof.Rows
theorem Inv.chill {X : Cx} {pins : List (Addr × Obj)} {σ : List (Option V)} {H : Hp} {s : Shared} {y : Str} {c : Addr} {o : Obj} (I : Inv X pins σ H s) (hc : X.env.cells.lookup y = some c) (hf : X.fn y = false) (ab : X.s₀.heap.objs.size ≤ c) (ho : s.heap.get? c = some o) (hn : H c = none) :
  Inv X pins σ (upd H c (.frz o (.own 0))) s := by
 have old : ∀ b o, X.s₀.heap.get? b = some o → b ≠ c := fun b o e => Nat.ne_of_lt (Nat.lt_of_lt_of_le (Heap.lt_size e) ab)
 refine ⟨I.ok, I.os, I.bare, ⟨I.base.keep, I.base.slot, fun b o e n hx => ?_, I.base.there, fun b xs e => ?_, fun b o u e => ?_, fun b q e => ?_⟩, I.loc, I.cell, ?_, fun x c' e => ?_, fun p hp => ?_, fun b u e => ?_, I.len⟩
 ·rw [ak (old b o e)]; exact I.base.free b o e n hx
 ·have := I.base.tups b xs e
  rw [ak (am this hn)]; exact this
 ·have := I.base.frzs b o u e
  rw [ak (am this hn)]; exact this
 ·have := I.base.tbls b q e
  rw [ak (am this hn)]; exact this
 ·rw [ak (Ne.symm (I.cne y c hc))]; exact I.free
 ·by_cases z : c' = c
  ·subst z
   have := I.ok.inj _ _ _ e hc
   subst this
   exact .inr ⟨hf, o, bg⟩
  ·rw [ak z]; exact I.freeC x c' e
 ·obtain ⟨q1, q2, q3, q4, q5⟩ := I.pin p hp
  have ne : p.1 ≠ c := fun z => by
   obtain ⟨v, oc, h1, h2⟩ := I.cell y c hc
   rw [z, h1] at q1
   cases q1
   exact q5 v h2
  exact ⟨q1, by rw [ak ne]; exact q2, q3, q4, q5⟩
 ·by_cases z : b = c
  ·subst z
   rw [bg] at e; cases e
   exact ⟨ho, o, ho⟩
  ·rw [ak z] at e
   exact (I.hok b u e).stay (fun _ _ _ q => q) (fun b' q => by rw [ak (am q hn)]; exact q) (fun b' xs q => by rw [ak (am q hn)]; exact q) fun b' o' u' q => by rw [ak (am q hn)]; exact q
end L2
namespace Pu
open PySem PySem.Spec PyProof.Rows L2
section
variable {X : Cx} {pins : List (Addr × Obj)} {σ : St} {s : Shared}
theorem chillL : ∀ (l : List (Str × Addr)), (∀ p ∈ l, X.env.cells.lookup p.1 = some p.2 ∧ X.fn p.1 = false ∧ X.s₀.heap.objs.size ≤ p.2) → ∀ {G H : Hp}, Inv X pins σ H s → Same G H →
  ∃ G' H', Inv X pins σ H' s ∧ Ext G H G' H' ∧ ∀ p ∈ l, ∃ o, G' p.2 = some (.frz o (.own 0)) ∧ s.heap.get? p.2 = some o
 | [], _, G, H, I, sg => ⟨G, H, I, Ext.refl sg, fun p hp => by simp at hp⟩
 | (y, c) :: r, h, G, H, I, sg => by
  obtain ⟨h1, h2, h3⟩ := h (y, c) List.mem_cons_self
  obtain ⟨v, o, ho, hd⟩ := I.cell y c h1
  rcases I.freeC y c h1 with fr | ⟨_, o', fr⟩
  ·obtain ⟨G', H', I', e', q⟩ := chillL r (fun p hp => h p (List.mem_cons_of_mem _ hp)) (I.chill h1 h2 h3 ho fr) (Ext.new sg (.frz o (.own 0)) fr).gh
   refine ⟨G', H', I', (Ext.new sg (.frz o (.own 0)) fr).trans e', fun p hp => ?_⟩
   rcases List.mem_cons.mp hp with rfl | hp
   ·exact ⟨o, e'.gg _ _ bg, ho⟩
   ·exact q p hp
  ·obtain ⟨q1, _⟩ := I.hok c _ fr
   rw [ho] at q1; cases q1
   obtain ⟨G', H', I', e', q⟩ := chillL r (fun p hp => h p (List.mem_cons_of_mem _ hp)) I (Ext.known sg fr).gh
   refine ⟨G', H', I', (Ext.known sg fr).trans e', fun p hp => ?_⟩
   rcases List.mem_cons.mp hp with rfl | hp
   ·exact ⟨o, e'.gg _ _ bg, ho⟩
   ·exact q p hp
end
theorem closGo_from (env : Env) : ∀ (names : List (Str × NameKind)) (cs cl : List (Str × Addr)), closGo env names cs = some cl → ∀ p ∈ cl, p ∈ cs ∨ (p.1, NameKind.free) ∈ names
 | [], cs, cl, h, p, hp => by cases h; exact .inl hp
 | (n, k) :: r, cs, cl, h, p, hp => by
  unfold closGo at h
  by_cases hk : k = .free
  ·subst hk
   simp only [if_true] at h
   cases hc : env.cells.lookup n with
   | none => rw [hc] at h; cases h
   | some c =>
    rw [hc] at h
    rcases closGo_from env r _ cl h p hp with z | z
    ·rcases List.mem_cons.mp z with rfl | z
     ·exact .inr List.mem_cons_self
     ·exact .inl z
    ·exact .inr (List.mem_cons_of_mem _ z)
  ·rw [if_neg hk] at h
   rcases closGo_from env r _ cl h p hp with z | z
   ·exact .inl z
   ·exact .inr (List.mem_cons_of_mem _ z)
noncomputable def capsOf (δ : En) : List Str → List Nat → Option (List (Str × D))
 | [], [] => some []
 | y :: ys, i :: is => match δ[i]?, capsOf δ ys is with
  | some (.pu d), some r => some ((y, d) :: r)
  | _, _ => none
 | _, _ => none
theorem capsOf_den {K : KA} {B G H : Hp} {σ : St} {δ : En} (R : EnvR K B G H σ δ) : ∀ {ys : List Str} {ix : List Nat} {fs : List (Str × D)}, capsOf δ ys ix = some fs →
  ∃ vs : List (Str × V), DenF K G fs vs ∧ vs.map (·.1) = ys ∧ ∀ y v, (y, v) ∈ vs → ∃ (j i : Nat), ys[j]? = some y ∧ ix[j]? = some i ∧ σ[i]? = some (some v)
 | [], [], fs, h => by cases h; exact ⟨[], rfl, rfl, fun y v h => by simp at h⟩
 | [], _ :: _, _, h => by cases h
 | _ :: _, [], _, h => by cases h
 | y :: ys, i :: is, fs, h => by
  unfold capsOf at h
  split at h
  ·rename_i d r e1 e2
   cases h
   obtain ⟨vs, q1, q2, q3⟩ := capsOf_den R e2
   obtain ⟨v, z1, z2⟩ := R.var e1
   refine ⟨(y, v) :: vs, ⟨v, vs, rfl, z2, q1⟩, by rw [List.map_cons, q2], fun y' v' hm => ?_⟩
   rcases List.mem_cons.mp hm with e | hm
   ·cases e; exact ⟨0, i, rfl, rfl, z1⟩
   ·obtain ⟨j, i', a1, a2, a3⟩ := q3 y' v' hm
    exact ⟨j + 1, i', by simpa using a1, by simpa using a2, a3⟩
  ·cases h
noncomputable def lamOk (C : SC) (params : Arguments) (scope : Scope) : Bool :=
 C.lam && params.defaults.isEmpty && params.kw_defaults.isEmpty && decide ((cx scope.names).Nodup) && (cx scope.names).all fun y => decide (C.sc.names.lookup y = some .cell) && decide (y ∈ lamCaps)
noncomputable def gLamI (e : Expr) (ys : List Str) (ix : List Nat) : En → Res := fun δ => match capsOf δ ys ix with
 | some fs => .ok (.obj e fs)
 | none => .st
noncomputable def gLam (C : SC) (params : Arguments) (body : Expr) (scope : Scope) (pos : Pos) : En → Res := if lamOk C params scope then (match slots C (cx scope.names) with
 | some ix => gLamI (.Lambda params body scope pos) (cx scope.names) ix
 | none => gSt) else gSt
theorem trip_ok {H : Hp} {q : Str} (l : List Value) (h : Trip H q l) : TriplesOk l := by
 fun_induction Trip H q l with
 | case1 => trivial
 | case2 _ _ _ _ c' r ih => exact ih h.2
 | case3 => exact h.elim
theorem trip_hit {H : Hp} {q : Str} {pos : Pos} {cv : Value} (l : List Value) (h : Trip H q l) (e : codeAmong pos l = some cv) : ∃ (c' : Addr) (oc : Obj) (vs : Array Value) (t : Tok), cv = .ref c' ∧ H c' = some (.frz oc (.own 0)) ∧ oc.data = .fields vs ∧ vs[1]? = some (.str q t) := by
 fun_induction Trip H q l with
 | case1 => cases e
 | case2 _ _ _ _ c' r ih =>
  unfold codeAmong at e
  split at e
  ·cases e
   obtain ⟨⟨oc, vs, t, e1, e2⟩, _⟩ := h
   exact ⟨c', oc, vs, t, rfl, e1, e2⟩
  ·exact ih h.2 e
 | case3 => exact h.elim
theorem trip_snoc {H : Hp} {q : Str} {i j : Int} {c' : Addr} {oc : Obj} {vs : Array Value} {t : Tok} (l : List Value) (h : Trip H q l) (e1 : H c' = some (.frz oc (.own 0))) (e2 : oc.data = .fields vs) (e3 : vs[1]? = some (.str q t)) : Trip H q (l ++ [rawInt i, rawInt j, .ref c']) := by
 fun_induction Trip H q l with
 | case1 => exact ⟨⟨oc, vs, t, e1, e2, e3⟩, trivial⟩
 | case2 _ _ _ _ c'' r ih => exact ⟨h.1, ih h.2⟩
 | case3 => exact h.elim
section
variable {X : Cx} {C : SC} {T : GT} {B : Hp} {E : EK} {E' : XK} {params : Arguments} {body : Expr} {scope : Scope} {pos : Pos}
theorem pu_lam (O : XOk X C T E') : PuE X B E (.Lambda params body scope pos) (gLam C params body scope pos) := by
 unfold gLam
 cases hl : lamOk C params scope with
 | false => exact dh
 | true =>
 rw [if_pos rfl]
 cases hx : slots C (cx scope.names) with
 | none => exact dh
 | some ix =>
 dsimp only
 intro pins s σ H Q I ⟨G, δ, R, q⟩
 unfold gLamI at q
 cases hf : capsOf δ (cx scope.names) ix with
 | none => rw [hf] at q; exact q.elim
 | some fs =>
 rw [hf] at q
 have q : ∀ v G' H', Ext G H G' H' → Den (kx X) G' (.obj (.Lambda params body scope pos) fs) v → Q v H' := q
 unfold lamOk at hl
 simp only [Bool.and_eq_true, decide_eq_true_eq, List.isEmpty_iff] at hl
 obtain ⟨⟨⟨⟨l1, l2⟩, l3⟩, l4⟩, l5⟩ := hl
 obtain ⟨c, P, hm, hcode, C0, ⟨bm, ob, b1, b2, b3, b4, b5, b6, b7⟩, hab, hfn⟩ := O.lamc l1
 have hfree : ∀ y, (y, NameKind.free) ∈ scope.names → X.env.scope.names.lookup y = some .cell ∧ y ∈ lamCaps := fun y hy => by
  have z := List.all_eq_true.mp l5 y (e8.mp hy)
  rw [Bool.and_eq_true, decide_eq_true_eq, decide_eq_true_eq, ← O.s] at z
  exact z
 have hcells : ∀ y ∈ cx scope.names, ∃ c, X.env.cells.lookup y = some c := fun y hy => I.ok.has y (.inl (hfree y (e8.mpr hy)).1)
 obtain ⟨cl, hcl⟩ := closGo_some X.env scope.names [] hcells
 have clc : ∀ p ∈ cl, X.env.cells.lookup p.1 = some p.2 := closGo_mem X.env _ _ cl hcl fun p hp => by simp at hp
 have clf : ∀ p ∈ cl, (p.1, NameKind.free) ∈ scope.names := fun p hp => (closGo_from X.env _ _ cl hcl p hp).elim (fun z => by simp at z) fun z => z
 obtain ⟨G1, H1, I1, e1, hz⟩ := chillL cl (fun p hp => ⟨clc p hp, hfn _ (hfree _ (clf p hp)).2, hab _ _ (clc p hp)⟩) I R.gh
 have hP : H1 P = some (.tbl (X.env.qual ++ "<lambda>")) := e1.hh _ _ (R.bh _ _ (R.gb _ hm))
 obtain ⟨ps, hPo, tr⟩ := I1.hok P _ hP
 have hns := I1.mod.glob.keeps I1.bk
 have neP : ∀ {b : Addr} {o : Obj}, X.base.get? b = some o → b ≠ P := fun {b o} e z => by
  have := (I1.bs b o e).2
  rw [z, hP] at this; cases this
 have hgP : mainGlobals ≠ P := by
  obtain ⟨o, es, ep, e, _⟩ := I1.mod.glob
  exact neP e
 have hb : s.heap.BuiltinsAt X.mg P := ⟨bm, ob, b1, b2, b3, neP b4, I1.bk _ _ b4, b5, b6, b7⟩
 have hdef : defaultsOf params X.env = ([], []) := by
  obtain ⟨a1, a2, a3, a4, a5, a6, a7⟩ := params
  have z1 : a7 = [] := l2
  have z2 : a5 = [] := l3
  subst z1 z2
  rfl
 obtain ⟨vs, dF, dm, dv⟩ := capsOf_den R hf
 have cells : ∀ {G' : Hp}, Same G1 G' → ∀ y c, cl.lookup y = some c → ∃ o v u, G' c = some (.frz o (.own 0)) ∧ o.data = .cell (some u) ∧ (y, v) ∈ vs ∧ RelV v u := fun {G'} sg y c hc => by
  have hmem := d9 hc
  obtain ⟨o, g1, g2⟩ := hz _ hmem
  have hyf := e8.mp (clf _ hmem)
  have : y ∈ vs.map (·.1) := by rw [dm]; exact hyf
  obtain ⟨⟨y', v⟩, hp, rfl⟩ := List.mem_map.mp this
  obtain ⟨j, i, a1, a2, a3⟩ := dv _ _ hp
  obtain ⟨k1, k2, k3⟩ : X.N[i]? = some y' ∧ vis C.sc y' = true ∧ True := by
   have gen : ∀ {M : List Str} {ix : List Nat}, slots C M = some ix → ∀ {j i : Nat} {y : Str}, M[j]? = some y → ix[j]? = some i → slot C y = some i := by
    intro M
    induction M with
    | nil => intro ix h j i y z; simp at z
    | cons m M ih =>
     intro ix h j i y z1 z2
     unfold slots at h
     cases e1 : slot C m with
     | none => rw [e1] at h; cases h
     | some i0 =>
      cases e2 : slots C M with
      | none => rw [e1, e2] at h; cases h
      | some is =>
       rw [e1, e2] at h
       cases h
       cases j with
       | zero => simp at z1 z2; subst z1; subst z2; exact e1
       | succ j => exact ih e2 (by simpa using z1) (by simpa using z2)
   obtain ⟨m1, m2, m3⟩ := slot_ok (gen hx a1 a2)
   exact ⟨by rw [O.n]; exact m1, m2, trivial⟩
  obtain ⟨m, hn, hl⟩ := I.loc
  obtain ⟨u, ru, lk⟩ := hl i y' v k1 a3 (by rw [O.s]; exact vis_ok k2)
  have kc : X.env.kindOf y' = some .cell := (hfree _ (clf _ hmem)).1
  rcases lk with ⟨z, _⟩ | ⟨_, c2, z1, o2, z2, z3⟩
  ·rw [kc] at z; cases z
  ·have : X.env.cells.lookup y' = some c := clc _ hmem
   rw [this] at z1; cases z1
   rw [g2] at z2; cases z2
   exact ⟨o, v, u, sg _ _ g1, z3, hp, ru⟩
 have inj : ∀ x y c, cl.lookup x = some c → cl.lookup y = some c → x = y := fun x y c h1 h2 => I.ok.inj x y c (clc _ (d9 h1)) (clc _ (d9 h2))
 have all : ∀ y, (y, NameKind.free) ∈ scope.names → ∃ c, cl.lookup y = some c := fun y h => closGo_free X.env _ _ cl hcl y (.inr h)
 have frm : ∀ y c, cl.lookup y = some c → (y, NameKind.free) ∈ scope.names := fun y c h => clf _ (d9 h)
 refine PySem.W.kla_eval hdef ?_
 cases ha : codeAmong pos ps.toList with
 | none =>
  refine PySem.W.kla_makeFunction (mg := X.mg) (closureFor_eq hcl) I.ok.glob hns hcode (C0.keeps I1.bk) hPo (trip_ok _ tr) ha hgP hb fun c' ctv h' tk hxt hge hlt hrec htb => ?_
  obtain ⟨c2, oc, cvs, t, e2, hoc, hd, hv⟩ := hrec
  cases e2
  have f1 : H1 c' = none := I1.hok.fresh hge
  have hs : s.heap.objs.size ≤ h'.objs.size := Nat.le_of_lt (Nat.lt_of_le_of_lt hge hlt)
  have f2 : upd H1 c' (.frz oc (.own 0)) h'.objs.size = none := by rw [ak (Nat.ne_of_gt hlt)]; exact I1.hok.fresh hs
  generalize hfo : PySem.W.kla_obj "<lambda>" (X.env.qual ++ "<lambda>") params body scope cl ((X.mg "__name__").getD .none) c' ctv = fo
  have x2 := (Ext.new e1.gh (.frz oc (.own 0)) f1).trans (Ext.new (Ext.new e1.gh (.frz oc (.own 0)) f1).gh (.frz fo (.own 0)) f2)
  have old : ∀ {b : Addr} {u : HO}, H1 b = some u → b ≠ c' ∧ b ≠ h'.objs.size := fun {b u} z => ⟨am z f1, fun y => by
   have := I1.hok.lt z
   rw [y] at this
   exact absurd (Nat.lt_of_lt_of_le this hs) (Nat.lt_irrefl _)⟩
  have up : ∀ {b : Addr} {u : HO}, H1 b = some u → upd (upd H1 c' (.frz oc (.own 0))) h'.objs.size (.frz fo (.own 0)) b = some u := fun z => by rw [ak (old z).2, ak (old z).1]; exact z
  have kp : ∀ {b : Addr} {o : Obj}, b ≠ P → s.heap.get? b = some o → (h'.push fo).get? b = some o := fun hb e => Heap.get?_push_of_some _ (hxt _ _ hb e)
  have I2 : Inv X pins σ (upd (upd H1 c' (.frz oc (.own 0))) h'.objs.size (.frz fo (.own 0))) { s with heap := h'.push fo, toks := tk } := by
   refine I1.un ⟨fun b o e n _ _ => kp (fun z => by rw [z, hP] at n; cases n) e, fun b o e n _ _ => ⟨o.slots, kp (fun z => by rw [z, hP] at n; cases n) e⟩, fun b o e n _ => ?_, fun b o e _ => ?_, fun b xs e => up e, fun b o u e => up e, fun b q e => up e⟩ fun b u e => ?_
   ·have := Heap.lt_size e
    rw [ak (Nat.ne_of_lt (Nat.lt_of_lt_of_le this hs)), ak (Nat.ne_of_lt (Nat.lt_of_lt_of_le this hge))]; exact n
   ·by_cases z : b = P
    ·subst z; exact ⟨_, Heap.get?_push_of_some _ htb⟩
    ·exact ⟨o, kp z e⟩
   ·by_cases z1 : b = h'.objs.size
    ·subst z1
     rw [bg] at e; cases e
     have : (h'.push fo).get? h'.objs.size = some fo := Heap.get?_push_size _ (by rw [← hfo]; rfl)
     exact ⟨this, fo, this⟩
    ·rw [ak z1] at e
     by_cases z2 : b = c'
     ·subst z2
      rw [bg] at e; cases e
      have : (h'.push fo).get? b = some oc := Heap.get?_push_of_some _ hoc
      exact ⟨this, oc, this⟩
     ·rw [ak z2] at e
      by_cases z3 : b = P
      ·subst z3
       rw [hP] at e; cases e
       refine ⟨_, Heap.get?_push_of_some _ htb, ?_⟩
       rw [Array.toList_append]
       refine trip_snoc (oc := oc) (vs := cvs) (t := t) _ (tr.mono fun b o u z => up z) ?_ hd hv
       rw [ak (Nat.ne_of_lt hlt), bg]
      ·refine (I1.hok b u e).stay (fun b' u' hb' r => kp ?_ r) (fun b' z => up z) (fun b' xs z => up z) fun b' o' u' z => up z
       rcases hb' with y | y
       ·rw [y]; exact z3
       ·intro y'; rw [y', hP] at y; cases y
  refine ⟨.ref h'.objs.size, _, I2, rfl, q _ _ _ (e1.trans x2) ⟨_, vs, rfl, ⟨X.env.qual ++ "<lambda>", (X.mg "__name__").getD .none, c', ctv, cl, oc, cvs, t, ?_, ?_, hd, hv, inj, all, frm, cells x2.gg, dm⟩, (dF.mono e1.gg).mono x2.gg⟩⟩
  ·rw [hfo]; exact bg
  ·rw [ak (Nat.ne_of_lt hlt), bg]
 | some cv =>
  obtain ⟨c', oc, cvs, t, rfl, hc', hd, hv⟩ := trip_hit _ tr ha
  refine PySem.W.kla_makeFunctionHit (mg := X.mg) (closureFor_eq hcl) I.ok.glob hns hcode (C0.keeps I1.bk) hPo (trip_ok _ tr) ha hb fun ctv h' tk hk hs => ?_
  have f2 : H1 h'.objs.size = none := I1.hok.fresh hs
  generalize hfo : PySem.W.kla_obj "<lambda>" (X.env.qual ++ "<lambda>") params body scope cl ((X.mg "__name__").getD .none) c' ctv = fo
  have x1 := Ext.known e1.gh hc'
  have x2 := x1.trans (Ext.new x1.gh (.frz fo (.own 0)) f2)
  have I2 : Inv X pins σ (upd H1 h'.objs.size (.frz fo (.own 0))) { s with heap := h'.push fo, toks := tk } := by
   refine I1.laid (fun b u e => Heap.get?_push_of_some _ (hk b u e)) hs ?_
   have : (h'.push fo).get? h'.objs.size = some fo := Heap.get?_push_size _ (by rw [← hfo]; rfl)
   exact ⟨this, fo, this⟩
  subst hfo
  refine ⟨.ref h'.objs.size, _, I2, rfl, q _ _ _ (e1.trans x2) ⟨_, vs, rfl, ⟨X.env.qual ++ "<lambda>", (X.mg "__name__").getD .none, c', ctv, cl, oc, cvs, t, ?_, ?_, hd, hv, inj, all, frm, cells x2.gg, dm⟩, (dF.mono e1.gg).mono x2.gg⟩⟩
  ·exact bg
  ·exact (Ext.new x1.gh _ f2).gg _ _ bg
end
end Pu
end
section
namespace Pu
open PySem PySem.Spec PyProof.Rows L2
noncomputable abbrev Ev := SC → Expr → En → Res
noncomputable def EvOk (T : GT) (ev : Ev) : Prop := ∀ X C B (E : XK) e, XOk X C T E → PuE X B (ek (kx X) E) e (ev C e)
noncomputable def TvOk (T : GT) (tv : Ev) : Prop := ∀ X C B (E : XK) e, XOk X C T E → PuT X B (ek (kx X) E) e (tv C e)
section
variable {X : Cx} {B : Hp} {E : EK} {e a b : Expr} {es : List Expr} {g h : En → Res} {pos : Pos}
noncomputable def pyNeg : D → Option D
 | .int i => some (.int (-i))
 | _ => none
theorem pu_neg (ha : ArE X B E a g) : PuE X B E (.UnaryOp .USub a pos) (g1 pyNeg g) := pu_un un_neg (fun G H x dx d sg ax ed Q q => by
 cases dx with
 | int i => cases ed; exact ⟨i, ax.int, q _ G H (Ext.refl sg) rfl⟩
 | _ => cases ed) ha
noncomputable def isNon : D → Bool
 | .non => true
 | _ => false
noncomputable def pyIsN : D → D → Option D
 | d, .non => some (.bl (isNon d))
 | _, _ => none
noncomputable def pyIsNotN : D → D → Option D
 | d, .non => some (.bl (!isNon d))
 | _, _ => none
theorem arg_non_iff {K : KA} {G H : Hp} {d : D} {v : V} (h : Arg K G H d v) : decide (v = .non) = isNon d := by
 rcases h with h | ⟨ds, a, vs, rfl, rfl, _⟩ | ⟨t, kvs, a, rfl, rfl, _⟩
 ·cases d with
  | non => cases (show v = .non from h); rfl
  | bl b => cases (show v = .bl b from h); rfl
  | int b => cases (show v = .int b from h); rfl
  | str b => cases (show v = .str b from h); rfl
  | tup ds => obtain ⟨a, vs, rfl, _⟩ := h; rfl
  | lst ds => obtain ⟨a, vs, rfl, _⟩ := h; rfl
  | dct t kvs => obtain ⟨a, rfl, _⟩ := h; rfl
  | obj C fs => obtain ⟨a, vs, rfl, _⟩ := h; rfl
  | fn f => cases (show v = .ref _ from h); rfl
 ·rfl
 ·rfl
theorem prim_isN {K : KA} : Prim2 K pyIsN (fun x y H Q => y = .non ∧ Q (.bl (decide (x = .non))) H) := fun G H x y dx dy d sg ax ay ed Q q => by
 cases dy with
 | non =>
  cases ed
  refine ⟨ay.non, ?_⟩
  rw [arg_non_iff ax]
  exact q _ G H (Ext.refl sg) rfl
 | _ => cases ed
theorem prim_isNotN {K : KA} : Prim2 K pyIsNotN (fun x y H Q => y = .non ∧ Q (.bl (!decide (x = .non))) H) := fun G H x y dx dy d sg ax ay ed Q q => by
 cases dy with
 | non =>
  cases ed
  refine ⟨ay.non, ?_⟩
  rw [arg_non_iff ax]
  exact q _ G H (Ext.refl sg) rfl
 | _ => cases ed
noncomputable def cmpP : CmpOp → Option (D → D → Option D)
 | .Eq => some pyEq
 | .NotEq => some pyNe
 | .Lt => some pyLtI
 | .LtE => some pyLe
 | .Gt => some pyGt
 | .GtE => some pyGe
 | .In => some pyIn
 | .NotIn => some ft
 | .Is => some pyIsN
 | .IsNot => some pyIsNotN
theorem cmpP_ok {op : CmpOp} {f : D → D → Option D} (hf : cmpP op = some f) (hu : X.A.units + 65 < cLine) : ∃ r, OpR X (compareOp op) r ∧ Prim2 (kx X) f r ∧ ∀ x y d, f x y = some d → ∃ b, d = .bl b := by
 cases op <;> cases hf
 ·exact ⟨_, op_eqD (by omega), prim_eq, fun _ _ _ h => map_bl (f := id) h⟩
 ·exact ⟨_, op_neD (by omega), prim_ne, fun _ _ _ h => map_bl (f := fun b => !b) h⟩
 ·exact ⟨_, op_lt, prim_cmp, cmp_bl⟩
 ·exact ⟨_, op_le, prim_cmp, cmp_bl⟩
 ·exact ⟨_, op_gt, prim_cmp, cmp_bl⟩
 ·exact ⟨_, op_ge, prim_cmp, cmp_bl⟩
 ·exact ⟨_, op_isN, prim_isN, fun x y d h => by cases y <;> first | (cases h; exact ⟨_, rfl⟩) | cases h⟩
 ·exact ⟨_, op_notN, prim_isNotN, fun x y d h => by cases y <;> first | (cases h; exact ⟨_, rfl⟩) | cases h⟩
 ·exact ⟨_, op_inD hu, prim_in, fun _ _ _ h => map_bl (f := id) h⟩
 ·exact ⟨_, op_notInD hu, prim_notIn, fun _ _ _ h => map_bl (f := fun b => !b) h⟩
end
noncomputable def gAr (ev : Ev) (C : SC) (e : Expr) : En → Res := match e with
 | .Name x _ => (match slot C x with
  | some i => gArg i
  | none => ev C e)
 | _ => ev C e
noncomputable def gAL (ev : Ev) (C : SC) : List Bool → List Expr → En → ResL
 | [], [] => gNil
 | m :: ms, e :: es => aa (if m then gAr ev C e else ev C e) (gAL ev C ms es)
 | _, _ => gStL
noncomputable def gData (ev : Ev) (C : SC) : List Expr → En → ResL
 | [] => gNil
 | e :: es => aa (ev C e) (gData ev C es)
noncomputable def stepName (T : GT) (C : SC) (x : Str) : En → Res := match slot C x with
 | some i => gVar i
 | none => if isG C x then (match T.gstr x with
  | some y => gC (.str y)
  | none => (match T.fns x with
   | some _ => gC (.fn x)
   | none => gSt)) else gSt
noncomputable def gAndL (f : Expr → En → Res) : List Expr → En → Res
 | [] => gSt
 | [a] => f a
 | a :: r => gAnd (f a) (gAndL f r)
noncomputable def gOrL (f : Expr → En → Res) : List Expr → En → Res
 | [] => gSt
 | [a] => f a
 | a :: r => gOr (f a) (gOrL f r)
noncomputable def stepCmp (ev : Ev) (C : SC) (l : Expr) (ops : List CmpOp) (rs : List Expr) : En → Res := match ops, rs with
 | [op], [r] => (match cmpP op with
  | some f => if noSet r then g2 f (gAr ev C l) (gAr ev C r) else gSt
  | none => gSt)
 | [op, op'], [m, r] => (match cmpP op, cmpP op' with
  | some f, some f' => if noSet r then gChain f f' (gAr ev C l) (gAr ev C m) (gAr ev C r) else gSt
  | _, _ => gSt)
 | _, _ => gSt
section
variable {T : GT} {ev tv : Ev} {X : Cx} {C : SC} {B : Hp} {E : XK} {pos : Pos}
theorem e9 (h : EvOk T ev) (O : XOk X C T E) (e : Expr) : ArE X B (ek (kx X) E) e (gAr ev C e) := by
 have d : ArE X B (ek (kx X) E) e (ev C e) := pu_ar (h X C B E e O)
 cases e with
 | Name x p =>
  show ArE X B _ _ (match slot C x with
   | some i => gArg i
   | none => ev C (.Name x p))
  cases es : slot C x with
  | none => exact d
  | some i => exact ar_var i (O.var es)
 | _ => exact d
theorem aL_ok (h : EvOk T ev) (O : XOk X C T E) : ∀ {ms : List Bool} {es : List Expr}, es.all nst = true → ArL X B (ek (kx X) E) ms es (gAL ev C ms es)
 | [], [], _ => al_nil
 | [], _ :: _, _ => al_st
 | _ :: _, [], _ => al_st
 | m :: ms, e :: es, hs => by
  rw [List.all_cons, Bool.and_eq_true] at hs
  cases m with
  | true => exact gd (e9 h O e) (aL_ok h O hs.2) (bf hs.1)
  | false => exact al_consP (h X C B E e O) (aL_ok h O hs.2) (bf hs.1)
theorem data_ok (h : EvOk T ev) (O : XOk X C T E) : ∀ {es : List Expr}, es.all nst = true → ArL X B (ek (kx X) E) (es.map fun _ => false) es (gData ev C es)
 | [], _ => al_nil
 | e :: es, hs => by
  rw [List.all_cons, Bool.and_eq_true] at hs
  exact al_consP (h X C B E e O) (data_ok h O hs.2) (bf hs.1)
theorem allF_map : ∀ {es : List Expr}, allF (es.map fun _ => false) = true
 | [] => rfl
 | _ :: es => by
  show (!false && allF (es.map fun _ => false)) = true
  rw [allF_map (es := es)]; rfl
theorem name_ok (O : XOk X C T E) {x : Str} : PuE X B (ek (kx X) E) (.Name x pos) (stepName T C x) := by
 unfold stepName
 cases es : slot C x with
 | some i => exact pu_var i (O.var es)
 | none =>
  dsimp only
  by_cases hg : isG C x = true
  ·rw [if_pos hg]
   obtain ⟨g1, g2⟩ := O.gl hg
   cases e1 : T.gstr x with
   | some y =>
    obtain ⟨t, q⟩ := O.gstr x y e1
    exact pu_gstr g1 q g2
   | none =>
    cases e2 : T.fns x with
    | some s =>
     obtain ⟨k, f, fd, ps, _, q, _⟩ := O.fns x s e2
     exact pu_gfn g1 q g2
    | none => exact dh
  ·rw [if_neg hg]; exact dh
theorem andL_ok {f : Expr → En → Res} {E : EK} (h : ∀ e, PuE X B E e (f e)) : ∀ {vs : List Expr}, PuE X B E (.BoolOp .And vs pos) (gAndL f vs)
 | [] => dh
 | [a] => pu_one (h a)
 | a :: b :: r => pu_and (h a) (andL_ok h (vs := b :: r))
theorem orL_ok {f : Expr → En → Res} {E : EK} (h : ∀ e, PuE X B E e (f e)) : ∀ {vs : List Expr}, PuE X B E (.BoolOp .Or vs pos) (gOrL f vs)
 | [] => dh
 | [a] => pu_one (h a)
 | a :: b :: r => pu_or (h a) (orL_ok h (vs := b :: r))
theorem pw_st {E : EK} {e : Expr} : PuW X B E e gSt := fun wh pins s σ H Q I ⟨G, δ, R, q⟩ => q.elim
theorem andT_ok {f : Expr → En → Res} {E : EK} (h : ∀ e, PuT X B E e (f e)) : ∀ {vs : List Expr}, PuW X B E (.BoolOp .And vs pos) (gAndL f vs)
 | [] => pw_st
 | [a] => pw_and1' (h a)
 | a :: b :: r => pw_and' (h a) (andT_ok h (vs := b :: r))
theorem orT_ok {f : Expr → En → Res} {E : EK} (h : ∀ e, PuT X B E e (f e)) : ∀ {vs : List Expr}, PuW X B E (.BoolOp .Or vs pos) (gOrL f vs)
 | [] => pw_st
 | [a] => pw_or1' (h a)
 | a :: b :: r => pw_or' (h a) (orT_ok h (vs := b :: r))
theorem cmp_ok (h : EvOk T ev) (O : XOk X C T E) {l : Expr} {ops : List CmpOp} {rs : List Expr} : PuE X B (ek (kx X) E) (.Compare l ops rs pos) (stepCmp ev C l ops rs) ∧ PuT X B (ek (kx X) E) (.Compare l ops rs pos) (stepCmp ev C l ops rs) := by
 unfold stepCmp
 split
 ·rename_i op r
  cases hf : cmpP op with
  | none => exact ⟨dh, pt_st⟩
  | some f =>
   dsimp only
   by_cases hs : noSet r = true
   ·rw [if_pos hs]
    obtain ⟨rr, h1, h2, h3⟩ := cmpP_ok (X := X) hf O.units
    exact ⟨pu_cmp h1 h2 (e9 h O l) (e9 h O r) (noSet_marks hs), pt_cmp' h1 h2 h3 (e9 h O l) (e9 h O r) (noSet_marks hs)⟩
   ·rw [if_neg hs]; exact ⟨dh, pt_st⟩
 ·rename_i op op' m r
  cases hf : cmpP op with
  | none => exact ⟨dh, pt_st⟩
  | some f =>
   cases hf' : cmpP op' with
   | none => exact ⟨dh, pt_st⟩
   | some f' =>
    dsimp only
    by_cases hs : noSet r = true
    ·rw [if_pos hs]
     obtain ⟨rr, h1, h2, h3⟩ := cmpP_ok (X := X) hf O.units
     obtain ⟨rr', h1', h2', h3'⟩ := cmpP_ok (X := X) hf' O.units
     exact ⟨pu_chain h1 h2 h1' h2' (e9 h O l) (e9 h O m) (e9 h O r) (noSet_last hs), pt_chain' h1 h2 h1' h2' h3' (e9 h O l) (e9 h O m) (e9 h O r) (noSet_last hs)⟩
    ·rw [if_neg hs]; exact ⟨dh, pt_st⟩
 ·exact ⟨dh, pt_st⟩
end
section
variable {X : Cx} {pins : List (Addr × Obj)} {σ : St} {G H : Hp} {s : Shared} {B : Hp} {E : EK} {e a b : Expr} {g h : En → Res} {pos p : Pos}
theorem walked (I : Inv X pins σ H s) {h' : Heap} {t' : Nat} (k : ∀ b o, s.heap.get? b = some o → h'.get? b = some o) : Inv X pins σ H { s with heap := h', toks := t' } := I.kept k
noncomputable def ga : List D → Option (List Bool)
 | [] => some []
 | .bl b :: r => (ga r).map (b :: ·)
 | _ :: _ => none
theorem boolsOf_get {K : KA} : ∀ {ds : List D} {bs : List Bool} {vs : List V} {us : List Value}, ga ds = some bs → DenL K G ds vs → Vals vs us → us = bs.map Value.bool
 | [], bs, vs, us, h, d, r => by cases h; cases (show vs = [] from d); cases r; rfl
 | d :: ds, bs, vs, us, h, dl, r => by
  obtain ⟨v, vr, rfl, dv, dr⟩ := dl
  cases d with
  | bl b =>
   unfold ga at h
   cases e : ga ds with
   | none => rw [e] at h; cases h
   | some bs' =>
    rw [e] at h
    cases h
    cases r with
    | cons r1 rr =>
     cases (show v = .bl b from dv)
     cases (show _ = Value.bool b from r1)
     rw [List.map_cons, boolsOf_get e dr rr]
  | _ => cases h
theorem all_range_get (bs : List Bool) (f : List Bool → (Nat → Bool)) (hf : f = fun bs i => bs.getD i false) : (List.range bs.length).all (f bs) = bs.all id ∧ (List.range bs.length).any (f bs) = bs.any id := by
 subst hf
 have e : (List.range bs.length).map (fun i => bs.getD i false) = bs := by
  apply List.ext_getElem
  ·simp
  ·intro i h1 h2
   simp [List.getD_eq_getElem?_getD, h2]
 constructor
 ·have := congrArg (fun l => l.all id) e
  simp only [List.all_map] at this
  simpa [Function.comp_def] using this
 ·have := congrArg (fun l => l.any id) e
  simp only [List.any_map] at this
  simpa [Function.comp_def] using this
noncomputable def rAllD (K : KA) (an : Bool) : List V → Hp → VK → Prop := fun xs H Q => ∃ G l vs ds bs, xs = [.ref l] ∧ SqL K H l vs ∧ DenL K G ds vs ∧ ga ds = some bs ∧ Q (.bl (if an then bs.any id else bs.all id)) H
theorem bools_truth {A : Around} {prog : Program} {w : World} {bs : List Bool} {items : Array Value} (e : items.toList = bs.map Value.bool) : TruthOf prog w A (fun i v => items[i]? = some v) (fun i => bs.getD i false) := by
 intro i v s Q E hv hQ
 have hv' : items.toList[i]? = some v := by simpa using hv
 rw [e, List.getElem?_map] at hv'
 cases eb : bs[i]? with
 | none => rw [eb] at hv'; cases hv'
 | some b =>
  rw [eb] at hv'
  cases hv'
  have hQ' : Q (bs.getD i false) s := hQ
  rw [List.getD_eq_getElem?_getD, eb] at hQ'
  exact wpAny_truthy_bool hQ'
theorem call_allD (hc : X.calm = true) : CallR X (.builtin "all") (rAllD (kx X) false) := by
 intro pins s σ H xs us Q I r q
 obtain ⟨G, l, vs, ds, bs, rfl, sq, dl, eb, q⟩ := q
 obtain ⟨u, rfl, ru⟩ := vals1 r
 cases ru
 obtain ⟨its, rv, pl, _⟩ := I.list sq
 have e := boolsOf_get eb dl rv
 have hl : l < s.heap.objs.size := by obtain ⟨o, ho, _⟩ := pl.isList; exact Heap.lt_size ho
 have W := Walks.list (prog := X.prog) (w := X.w) (A := X.A.in1) (show X.A.in1.handled = none from I.ok.hd hc) s.heap.objs.size l (Nat.ne_of_lt hl) its.toArray
 refine call_all_walk (wpAny_pyIter_list pl.isList ⟨s.heap.objs.size, _, _, _, _, _, fun i => bs.getD i false, rfl, W, ⟨⟨_, Heap.get?_push_size _ rfl, rfl, rfl⟩, pl.isList.at fun o ho => Heap.get?_push_of_some _ ho⟩, bools_truth (by simpa using e), fun h' tk hk => ?_⟩)
 refine ⟨.bl _, H, I.kept fun b o e => hk b o (by simpa using Nat.ne_of_lt (Heap.lt_size e)) (Heap.get?_push_of_some _ e), ?_, q⟩
 have hsz : its.toArray.size = bs.length := by rw [List.size_toArray, e, List.length_map]
 rw [hsz, (all_range_get bs _ rfl).1]
 rfl
theorem call_anyD (hc : X.calm = true) : CallR X (.builtin "any") (rAllD (kx X) true) := by
 intro pins s σ H xs us Q I r q
 obtain ⟨G, l, vs, ds, bs, rfl, sq, dl, eb, q⟩ := q
 obtain ⟨u, rfl, ru⟩ := vals1 r
 cases ru
 obtain ⟨its, rv, pl, _⟩ := I.list sq
 have e := boolsOf_get eb dl rv
 have hl : l < s.heap.objs.size := by obtain ⟨o, ho, _⟩ := pl.isList; exact Heap.lt_size ho
 have W := Walks.list (prog := X.prog) (w := X.w) (A := X.A.in1) (show X.A.in1.handled = none from I.ok.hd hc) s.heap.objs.size l (Nat.ne_of_lt hl) its.toArray
 refine call_any_walk (wpAny_pyIter_list pl.isList ⟨s.heap.objs.size, _, _, _, _, _, fun i => bs.getD i false, rfl, W, ⟨⟨_, Heap.get?_push_size _ rfl, rfl, rfl⟩, pl.isList.at fun o ho => Heap.get?_push_of_some _ ho⟩, bools_truth (by simpa using e), fun h' tk hk => ?_⟩)
 refine ⟨.bl _, H, I.kept fun b o e => hk b o (by simpa using Nat.ne_of_lt (Heap.lt_size e)) (Heap.get?_push_of_some _ e), ?_, q⟩
 have hsz : its.toArray.size = bs.length := by rw [List.size_toArray, e, List.length_map]
 rw [hsz, (all_range_get bs _ rfl).2]
 rfl
noncomputable def pyAll : D → Option D
 | .lst ds => (ga ds).map fun bs => .bl (bs.all id)
 | _ => none
noncomputable def pyAny : D → Option D
 | .lst ds => (ga ds).map fun bs => .bl (bs.any id)
 | _ => none
theorem pu_all (hc : X.calm = true) (hg : Gl X "all") (hm : X.mg "all" = none) (ha : ArE X B E e g) (he : starEach [e] X.env = (false, eval e X.env) :: starEach [] X.env) : PuE X B E (.Call (.Name "all" p) [e] [] pos) (g1 pyAll g) :=
 PE.imp (pe_callB (call_allD hc) hg hm PyProof.Rows.boot_all (gd ha al_nil he) (by decide) (by decide) he rfl) fun σ H Q q => cb1 (fun G H x dx d sg ax ed Q q => by
  cases dx with
  | lst ds =>
   unfold pyAll at ed
   dsimp only at ed
   cases eb : ga ds with
   | none => rw [eb] at ed; cases ed
   | some bs =>
    rw [eb] at ed
    cases ed
    obtain ⟨l, vs, rfl, sq, dl⟩ := ax.lst sg
    exact ⟨G, l, vs, ds, bs, rfl, sq, dl, eb, q _ G H (Ext.refl sg) rfl⟩
  | _ => cases ed) q
theorem pu_any (hc : X.calm = true) (hg : Gl X "any") (hm : X.mg "any" = none) (ha : ArE X B E e g) (he : starEach [e] X.env = (false, eval e X.env) :: starEach [] X.env) : PuE X B E (.Call (.Name "any" p) [e] [] pos) (g1 pyAny g) :=
 PE.imp (pe_callB (call_anyD hc) hg hm PyProof.Rows.boot_any (gd ha al_nil he) (by decide) (by decide) he rfl) fun σ H Q q => cb1 (fun G H x dx d sg ax ed Q q => by
  cases dx with
  | lst ds =>
   unfold pyAny at ed
   dsimp only at ed
   cases eb : ga ds with
   | none => rw [eb] at ed; cases ed
   | some bs =>
    rw [eb] at ed
    cases ed
    obtain ⟨l, vs, rfl, sq, dl⟩ := ax.lst sg
    exact ⟨G, l, vs, ds, bs, rfl, sq, dl, eb, q _ G H (Ext.refl sg) rfl⟩
  | _ => cases ed) q
end
noncomputable def signD (x : Str) : List D := x.cps.toList.map fun c => .str ⟨#[c]⟩
noncomputable def Its (x : Str) : It := ⟨fun i _ => i < x.cps.size, fun i H v H' => H' = H ∧ ∃ c, x.cps[i]? = some c ∧ v = .str ⟨#[c]⟩, fun i _ => x.cps.size ≤ i⟩
theorem turn_ascii {P : Program} {w : World} {K : PySem.W.Frag} {tg : Expr} (it : Addr) (x : Str) (t : Tok) : Turn P w K tg (Its x) [it] it (fun i h => h.IsStrIter it "str_ascii_iterator" x t i) where
 mem := by simp
 obj := fun i h st b hb => by
  have e : b = it := by simpa using hb
  subst e
  obtain ⟨o, e, c, d⟩ := st
  exact ⟨o, e, fun v z => by rw [d] at z; cases z⟩
 keep := fun i h h' st k => let ⟨o, ho, r⟩ := st; ⟨o, k it (by simp) o ho, r⟩
 item := by
  intro X hP hw hK hc i pins s σ H E I hf st hg
  subst hP hw hK
  obtain ⟨f0, f1, f2, f3, f4, f5⟩ := hf it (by simp)
  have hg' : i < x.cps.size := hg
  refine wpAny_pyNext_ascii_item st (c := x.cps[i]) (by simp [hg']) fun h' st' sb => ?_
  have I1 : Inv X pins σ H { s with heap := h', toks := s.toks + 1 } := I.turned (t' := s.toks + 1) (fun b o hb e => (sb.2 b hb).trans e) f0 f1 f3 f4 f5
  obtain ⟨o, e, c, d⟩ := id st'
  exact ⟨_, rfl, go_of (s := { s with heap := h', toks := s.toks + 1 }) e c d (by decide) ⟨.str ⟨#[x.cps[i]]⟩, H, I1, ⟨_, rfl⟩, ⟨rfl, _, by simp [hg'], rfl⟩, st', fun b hb => (hf b hb).1⟩⟩
 done := by
  intro X hP hw hK hc i pins s σ H E I hf st hg
  subst hP hw hK
  obtain ⟨f0, f1, f2, f3, f4, f5⟩ := hf it (by simp)
  have hg' : x.cps.size ≤ i := hg
  exact wpAny_pyNext_ascii_end (I.ok.hd hc) st (by simp [hg']) fun h' eb => ⟨rfl, I.turned (t' := s.toks) (fun b o hb e => eb b o hb e) f0 f1 f3 f4 f5⟩
 self := fun _ _ _ _ _ st h => wpAny_pyIter_striter_ascii st h
theorem turn_wide {P : Program} {w : World} {K : PySem.W.Frag} {tg : Expr} (it : Addr) (x : Str) (t : Tok) : Turn P w K tg (Its x) [it] it (fun i h => h.IsStrIter it "str_iterator" x t i) where
 mem := by simp
 obj := fun i h st b hb => by
  have e : b = it := by simpa using hb
  subst e
  obtain ⟨o, e, c, d⟩ := st
  exact ⟨o, e, fun v z => by rw [d] at z; cases z⟩
 keep := fun i h h' st k => let ⟨o, ho, r⟩ := st; ⟨o, k it (by simp) o ho, r⟩
 item := by
  intro X hP hw hK hc i pins s σ H E I hf st hg
  subst hP hw hK
  obtain ⟨f0, f1, f2, f3, f4, f5⟩ := hf it (by simp)
  have hg' : i < x.cps.size := hg
  refine wpAny_pyNext_wide_item st (c := x.cps[i]) (by simp [hg']) fun h' st' sb => ?_
  have I1 : Inv X pins σ H { s with heap := h', toks := s.toks + 1 } := I.turned (t' := s.toks + 1) (fun b o hb e => (sb.2 b hb).trans e) f0 f1 f3 f4 f5
  obtain ⟨o, e, c, d⟩ := id st'
  exact ⟨_, rfl, go_of (s := { s with heap := h', toks := s.toks + 1 }) e c d (by decide) ⟨.str ⟨#[x.cps[i]]⟩, H, I1, ⟨_, rfl⟩, ⟨rfl, _, by simp [hg'], rfl⟩, st', fun b hb => (hf b hb).1⟩⟩
 done := by
  intro X hP hw hK hc i pins s σ H E I hf st hg
  subst hP hw hK
  obtain ⟨f0, f1, f2, f3, f4, f5⟩ := hf it (by simp)
  have hg' : x.cps.size ≤ i := hg
  exact wpAny_pyNext_wide_end (I.ok.hd hc) st (by simp [hg']) fun h' eb => ⟨rfl, I.turned (t' := s.toks) (fun b o hb e => eb b o hb e) f0 f1 f3 f4 f5⟩
 self := fun _ _ _ _ _ st h => wpAny_pyIter_striter_wide st h
theorem its_ok {K : KA} {x : Str} {S : Hp → Hp → Prop} : ItOk K (Its x) (signD x) S := fun i G H hS sg => by
 unfold signD
 refine ⟨fun d ed => ?_, fun hl => ?_⟩
 ·rw [List.getElem?_map] at ed
  cases e : x.cps.toList[i]? with
  | none => rw [e] at ed; cases ed
  | some c =>
   rw [e] at ed
   cases ed
   have hi : i < x.cps.size := by simpa using (List.getElem?_eq_some_iff.mp e).1
   refine ⟨hi, fun v H' ⟨z, c', ec, ev⟩ => ?_⟩
   subst z
   have : x.cps.toList[i]? = some c' := by simpa using ec
   rw [e] at this
   cases this
   exact ⟨G, Ext.refl sg, ev⟩
 ·rw [List.length_map] at hl
  show x.cps.size ≤ i
  simpa using hl
section
variable {X : Cx} {G0 B : Hp} {E : EK} {e a b c tg iter : Expr} {g h : En → Res} {pos p : Pos}
noncomputable def iWalk (K : PySem.W.Frag) (tl : TE) : TI := fun σ H R => tl σ H fun x H1 => (∃ a, x = .ref a ∧ (((∃ xs, SqL K H1 a xs) ∧ R (Itl K a) H1) ∨ ((∃ xs, SqT K H1 a xs) ∧ R (Itt K a) H1))) ∨ ∃ z, x = .str z ∧ R (Its z) H1
theorem pi_walk {l : Expr} {tl : TE} (hl : PE X l tl) : PI X tg l (iWalk X.K tl) := by
 intro pins s σ H R I h
 refine thn (hl pins s σ H _ I h) fun v s1 ⟨x, H1, I1, r1, q1⟩ => ?_
 rcases q1 with ⟨a, e, ⟨⟨xs, hq⟩, q⟩ | ⟨⟨xs, hq⟩, q⟩⟩ | ⟨z, e, q⟩
 ·subst e
  cases r1
  obtain ⟨its, rv, p, hz⟩ := I1.list hq
  refine wpAny_pyIter_list p.isList ?_
  refine ⟨s1.heap.objs.size, [s1.heap.objs.size], _, _, H1, rfl, I1.kept (t' := s1.toks) fun b o e => Heap.get?_push_of_some _ e, turn_list a _, ⟨_, Heap.get?_push_size _ rfl, rfl, rfl⟩, fun b hb => ?_, q⟩
  have e : b = s1.heap.objs.size := by simpa using hb
  subst e
  exact I1.fpOk (Nat.le_refl _) (I1.hok.fresh (Nat.le_refl _))
 ·subst e
  cases r1
  obtain ⟨its, rv, p, hz⟩ := I1.tuple hq
  refine wpAny_pyIter_tuple (show s1.heap.IsTuple a its.toArray from p) ?_
  refine ⟨s1.heap.objs.size, [s1.heap.objs.size], _, _, H1, rfl, I1.kept (t' := s1.toks) fun b o e => Heap.get?_push_of_some _ e, turn_tuple a _, ⟨_, Heap.get?_push_size _ rfl, rfl, rfl⟩, fun b hb => ?_, q⟩
  have e : b = s1.heap.objs.size := by simpa using hb
  subst e
  exact I1.fpOk (Nat.le_refl _) (I1.hok.fresh (Nat.le_refl _))
 ·subst e
  obtain ⟨t, rfl⟩ := r1
  cases ha : z.cps.all (· < 128)
  ·refine wpAny_pyIter_wide ha ⟨s1.heap.objs.size, [s1.heap.objs.size], _, _, H1, rfl, I1.kept (t' := s1.toks) fun b o e => Heap.get?_push_of_some _ e, turn_wide _ z t, ⟨_, Heap.get?_push_size _ rfl, rfl, rfl⟩, fun b hb => ?_, q⟩
   have e : b = s1.heap.objs.size := by simpa using hb
   subst e
   exact I1.fpOk (Nat.le_refl _) (I1.hok.fresh (Nat.le_refl _))
  ·refine wpAny_pyIter_ascii ha ⟨s1.heap.objs.size, [s1.heap.objs.size], _, _, H1, rfl, I1.kept (t' := s1.toks) fun b o e => Heap.get?_push_of_some _ e, turn_ascii _ z t, ⟨_, Heap.get?_push_size _ rfl, rfl, rfl⟩, fun b hb => ?_, q⟩
   have e : b = s1.heap.objs.size := by simpa using hb
   subst e
   exact I1.fpOk (Nat.le_refl _) (I1.hok.fresh (Nat.le_refl _))
noncomputable def walkD : D → Option (List D)
 | .lst ds => some ds
 | .tup ds => some ds
 | .str x => some (signD x)
 | _ => none
noncomputable def cq (g : En → Res) : En → ResL := fun δ => match g δ with
 | .ok d => (match walkD d with
  | some ds => .ok ds
  | none => .st)
 | .er c => .er c
 | .st => .st
theorem walkP {G H : Hp} {δ : En} {P : List D → Prop} (q : ResLP E G H (cq g δ) P) : ResP E G H (g δ) fun d => ∃ ds, walkD d = some ds ∧ P ds := by
 unfold cq at q
 cases e : g δ with
 | ok d =>
  rw [e] at q
  dsimp only at q
  cases e2 : walkD d with
  | some ds => rw [e2] at q; exact ⟨ds, e2, q⟩
  | none => rw [e2] at q; exact q.elim
 | er c => rw [e] at q; exact q
 | st => rw [e] at q; exact q
theorem pi_boW (h : BoE X B E e g) : PuI X B E tg e (cq g) := PI.imp (pi_walk h) fun σ H R ⟨G, δ, Rr, q⟩ => ⟨G, δ, Rr, (walkP q).mono fun d _ ⟨ds, ed, q⟩ v G1 H1 e1 ax => by
 have bh : Same B H1 := Rr.bh.trans e1.hh
 cases d with
 | lst ds' =>
  cases ed
  rcases ax with ⟨a, vs, rfl, s, dl⟩ | ⟨ds2, a, vs, z, rfl, s, dl⟩ | ⟨t, kvs, a, z, _⟩
  ·exact .inl ⟨a, rfl, .inl ⟨⟨vs, SqL.mono e1.gh s⟩, q _ G1 H1 e1 (itl_ok (fun G2 H2 ⟨x1, x2⟩ sg => ⟨SqL.mono (x1.trans sg) s, x1⟩) dl)⟩⟩
  ·cases z
   exact .inl ⟨a, rfl, .inl ⟨⟨vs, SqL.mono bh s⟩, q _ G1 H1 e1 (itl_ok (fun G2 H2 ⟨x1, x2⟩ sg => ⟨SqL.mono x2 s, x1⟩) dl)⟩⟩
  ·cases z
 | tup ds' =>
  cases ed
  rcases ax with ⟨a, vs, rfl, s, dl⟩ | ⟨ds2, a, vs, z, rfl, s, dl⟩ | ⟨t, kvs, a, z, _⟩
  ·exact .inl ⟨a, rfl, .inr ⟨⟨vs, SqT.of (e1.gh _ _ s)⟩, q _ G1 H1 e1 (itt_ok (fun G2 H2 ⟨x1, x2⟩ sg => ⟨SqT.of ((x1.trans sg) _ _ s), x1⟩) dl)⟩⟩
  ·cases z
  ·cases z
 | str z => cases ed; exact .inr ⟨z, ax.str, q _ G1 H1 e1 its_ok⟩
 | non => cases ed
 | bl _ => cases ed
 | int _ => cases ed
 | dct _ _ => cases ed
 | obj _ _ => cases ed
 | fn _ => cases ed⟩
theorem pic_arW (h : ArE X B E e g) : PuIc X B E tg e (cq g) := PI.imp (pi_walk h) fun σ H R ⟨G, δ, Rr, q⟩ => ⟨G, δ, Rr, (walkP q).mono fun d _ ⟨ds, ed, q⟩ v G1 H1 e1 ax => by
 cases d with
 | lst ds' =>
  cases ed
  obtain ⟨a, vs, rfl, s, dl⟩ := ax.lst e1.gh
  exact .inl ⟨a, rfl, .inl ⟨⟨vs, s⟩, q _ G1 H1 e1 (itl_ok (fun G2 H2 x sg => ⟨SqL.mono x.hh s, x.gg⟩) dl)⟩⟩
 | tup ds' =>
  cases ed
  obtain ⟨a, vs, rfl, s, dl⟩ := ax.tup e1.gh
  exact .inl ⟨a, rfl, .inr ⟨⟨vs, s⟩, q _ G1 H1 e1 (itt_ok (fun G2 H2 x sg => ⟨SqT.mono x.hh s, x.gg⟩) dl)⟩⟩
 | str z => cases ed; exact .inr ⟨z, ax.str, q _ G1 H1 e1 its_ok⟩
 | non => cases ed
 | bl _ => cases ed
 | int _ => cases ed
 | dct _ _ => cases ed
 | obj _ _ => cases ed
 | fn _ => cases ed⟩
end
end Pu
end
section
namespace L2
open PySem PySem.Spec PyProof.Rows
section
variable {X : Cx}
end
end L2
end
section
namespace Pu
open PySem PySem.Spec PyProof.Rows L2
section
variable {X : Cx} {G0 B : Hp} {E : EK} {e a b c tg iter : Expr} {g h : En → Res} {pos p : Pos}
noncomputable def gM (f : D → D → Option D) (g h : En → Res) : En → Res := fun δ => (g δ).bind fun x => match x with
 | .lst xs => (h δ).bind fun y => Res.of (f (.lst xs) y)
 | _ => .st
noncomputable def pyMul : D → D → Option D
 | .int i, .int j => if (-(2 ^ 64) < i ∧ i < 2 ^ 64) ∨ (-(2 ^ 64) < j ∧ j < 2 ^ 64) then some (.int (i * j)) else none
 | _, _ => none
noncomputable def rMulD (K : KA) : R2 := fun x y H Q => ∃ G dx dy d, Same G H ∧ Arg K G H dx x ∧ Arg K G H dy y ∧ pyMul dx dy = some d ∧ ∀ v G' H', Ext G H G' H' → Den K G' d v → Q v H'
theorem op_mulD : OpR X (binaryOp .Mult) (rMulD (kx X)) := by
 intro pins s σ H x y v u Q I rx ry q
 obtain ⟨G, dx, dy, d, sg, ax, ay, ed, q⟩ := q
 unfold pyMul at ed
 split at ed
 ·split at ed
  ·rename_i hc
   cases ed
   rw [ax.int] at rx
   rw [ay.int] at ry
   exact op_mul pins s σ H _ _ _ _ Q I rx ry ⟨_, _, rfl, rfl, hc, q _ G H (Ext.refl sg) rfl⟩
  ·cases ed
 ·cases ed
theorem pu_mul (ha : ArE X B E a g) (hb : ArE X B E b h) : PuE X B E (.BinOp a .Mult b pos) (g2 pyMul g h) := pu_op op_mulD (fun G H x y dx dy d sg ax ay ed Q q => ⟨G, dx, dy, d, sg, ax, ay, ed, q⟩) ha hb
end
section
variable {X : Cx} {G0 B : Hp} {E : EK} {e a b c tg iter : Expr} {g h : En → Res} {pos p : Pos}
end
inductive ResE where
 | ok (d : D) (δ : En)
 | er (c : Str)
 | st
noncomputable def ResEP (K : KA) (G0 B : Hp) (E : EK) (G : Hp) (σ : St) (r : ResE) (P : D → Hp → Hp → En → Prop) : Prop := match r with
 | .ok d δ' => ∀ G' H', Same G G' → EnvR K B G' H' σ δ' → Ext G0 B G' H' → P d G' H' δ'
 | .er c => ∀ G' H', Ext G0 B G' H' → E c H'
 | .st => False
noncomputable def tEf (K : KA) (G0 B : Hp) (E : EK) (g : En → ResE) : TE := fun σ H Q => ∃ G δ, EnvR K B G H σ δ ∧ Ext G0 B G H ∧ ResEP K G0 B E G σ (g δ) fun d G' H' _ => ∀ v, Den K G' d v → Q v H'
noncomputable def tEt (K : KA) (G0 B : Hp) (E : EK) (g : En → ResE) : TT := fun σ H Q => ∃ G δ, EnvR K B G H σ δ ∧ Ext G0 B G H ∧ ResEP K G0 B E G σ (g δ) fun d G' H' _ => ∃ b, d = .bl b ∧ Q b H'
noncomputable abbrev EfE (X : Cx) (G0 B : Hp) (E : EK) (e : Expr) (g : En → ResE) : Prop := PE X e (tEf (kx X) G0 B E g)
noncomputable abbrev EfT (X : Cx) (G0 B : Hp) (E : EK) (e : Expr) (g : En → ResE) : Prop := PT X e (tEt (kx X) G0 B E g)
noncomputable def Res.ef (r : Res) (δ : En) : ResE := match r with
 | .ok d => .ok d δ
 | .er c => .er c
 | .st => .st
section
variable {X : Cx} {G0 B : Hp} {E : EK} {e a b c tg iter : Expr} {g h k : En → Res} {f : En → ResE} {pos p : Pos} {ss tt : List Stmt} {F1 F2 : En → Out}
end
section
variable {X : Cx} {G0 B : Hp} {E : EK} {e a b c tg iter : Expr} {g h k : En → Res} {f : En → ResE} {pos p : Pos}
noncomputable def d4 : D → Option D
 | .lst ds => some (.lst ds)
 | .tup ds => some (.lst ds)
 | _ => none
theorem ow_listD (hc : X.calm = true) (hg : Gl X "list") (hm : X.mg "list" = none) (ha : ArE X B E e g) (hn : nst e = true) : OwE X B E (.Call (.Name "list" p) [e] [] pos) (g1 d4 g) :=
 PE.imp (pe_callTy call_list_of hg hm PyProof.Rows.boot_list (gd ha al_nil (bf hn)) (by decide) (by decide) (bf hn) rfl) fun σ H Q ⟨G, δ, R, q⟩ => ⟨G, δ, R, by
  unfold aa
  unfold g1 at q
  cases e : g δ with
  | er c => rw [e] at q; exact q
  | st => rw [e] at q; exact q
  | ok dx =>
   rw [e] at q
   obtain ⟨d, ed, ds, e2, qd⟩ := ResP.of (show ResP E G H (Res.of (d4 dx)) _ from q)
   subst e2
   intro vs G1 H1 e1 al
   obtain ⟨v, rfl, ax⟩ := ArgsM.one al
   unfold d4 at ed
   split at ed
   ·cases ed
    obtain ⟨l, vs, rfl, sq, dl⟩ := ax.lst e1.gh
    exact ⟨l, vs, rfl, .inl sq, fun p hp => qd p vs G1 _ (e1.trans (Ext.own e1.gh _ hp)) (fy e1.hh hp) (fy e1.gh hp) bg dl⟩
   ·cases ed
    obtain ⟨l, vs, rfl, sq, dl⟩ := ax.tup e1.gh
    exact ⟨l, vs, rfl, .inr sq, fun p hp => qd p vs G1 _ (e1.trans (Ext.own e1.gh _ hp)) (fy e1.hh hp) (fy e1.gh hp) bg dl⟩
   ·cases ed⟩
theorem isL_listD : IsL (g1 d4 g) := fun δ d h => by
 unfold g1 at h
 cases e : g δ with
 | er c => rw [e] at h; cases h
 | st => rw [e] at h; cases h
 | ok dx =>
  rw [e] at h
  have h' : Res.of (d4 dx) = .ok d := h
  unfold d4 at h'
  split at h'
  ·cases h'; exact ⟨_, rfl⟩
  ·cases h'; exact ⟨_, rfl⟩
  ·cases h'
end
section
variable {X : Cx} {G0 B : Hp} {E : EK} {e a b : Expr} {g h : En → Res} {pos p : Pos}
end
section
variable {X : Cx} {G0 B : Hp} {E : EK} {e a b : Expr} {es : List Expr} {g h : En → Res} {pos p : Pos}
end
noncomputable def subsF : Nat → Nat → List (List Nat)
 | 0, _ => [[]]
 | n + 1, m => subsF n (m + 1) ++ (subsF n (m + 1)).map (m :: ·)
noncomputable def riseF (m : Nat) : List Nat → Prop
 | [] => True
 | k :: r => m ≤ k ∧ k < 6 ∧ riseF (k + 1) r
theorem riseF.mono {m m' : Nat} (h : m' ≤ m) : ∀ {S : List Nat}, riseF m S → riseF m' S
 | [], _ => trivial
 | _ :: _, ⟨h1, h2, h3⟩ => ⟨Nat.le_trans h h1, h2, h3⟩
theorem mem_subsF : ∀ (n m : Nat) (S : List Nat), m + n = 6 → riseF m S → S ∈ subsF n m
 | 0, m, [], _, _ => by simp [subsF]
 | 0, m, k :: r, e, ⟨h1, h2, _⟩ => by omega
 | n + 1, m, [], e, h => by
  unfold subsF
  exact List.mem_append_left _ (mem_subsF n (m + 1) [] (by omega) trivial)
 | n + 1, m, k :: r, e, ⟨h1, h2, h3⟩ => by
  unfold subsF
  by_cases z : k = m
  ·subst z
   exact List.mem_append_right _ (List.mem_map.mpr ⟨r, mem_subsF n (k + 1) r (by omega) h3, rfl⟩)
  ·exact List.mem_append_left _ (mem_subsF n (m + 1) (k :: r) (by omega) ⟨by omega, h2, h3⟩)
noncomputable def insS (k : Nat) : List Nat → List Nat
 | [] => [k]
 | a :: r => if k < a then k :: a :: r else if k = a then a :: r else a :: insS k r
theorem insS_rise {k : Nat} (hk : k < 6) : ∀ {S : List Nat} {m : Nat}, m ≤ k → riseF m S → riseF m (insS k S)
 | [], m, h, _ => ⟨h, hk, trivial⟩
 | a :: r, m, h, ⟨h1, h2, h3⟩ => by
  unfold insS
  split
  ·rename_i z; exact ⟨h, hk, z, h2, h3⟩
  ·split
   ·exact ⟨h1, h2, h3⟩
   ·exact ⟨h1, h2, insS_rise hk (by omega) h3⟩
theorem mem_insS {k x : Nat} : ∀ {S : List Nat}, x ∈ insS k S ↔ x = k ∨ x ∈ S
 | [] => by simp [insS]
 | a :: r => by
  unfold insS
  split
  ·simp
  ·split
   ·rename_i z; subst z; simp
   ·rw [List.mem_cons, mem_insS, List.mem_cons]
    constructor
    ·rintro (h | h | h)
     ·exact .inr (.inl h)
     ·exact .inl h
     ·exact .inr (.inr h)
    ·rintro (h | h | h)
     ·exact .inr (.inl h)
     ·exact .inl h
     ·exact .inr (.inr h)
noncomputable def setS (ns : List Int) : List Nat := ns.foldl (fun S n => insS n.toNat S) []
noncomputable def tabS (S : List Nat) (led : Bool) : SetTable := { mask := if S.length < 5 then 7 else 31, place := S.toArray, dummies := #[], finger := 0, led, moves := if S.length < 5 then 0 else 1, plain := true }
noncomputable def posS (k : Nat) (S : List Nat) : Nat := (S.filter fun a => decide (a < k)).length
noncomputable def midS (k : Nat) (S : List Nat) (led : Bool) : SetTable := { tabS S led with place := (insS k S).toArray }
noncomputable def chkAdd (S : List Nat) (k : Nat) (led : Bool) : Bool :=
 decide ((tabS S led).freeSlot (k : Int) = some (k, false)) && decide ((tabS S led).put k = (midS k S led, posS k S)) && decide ((midS k S led).fits (S.length + 1) = true) &&
 (if (midS k S led).tooFull then decide ((midS k S led).relaid ((insS k S).map Int.ofNat).toArray (SetTable.grown (S.length + 1)) = some (tabS (insS k S) led, Array.range (S.length + 1))) else decide (midS k S led = tabS (insS k S) led)) &&
 decide ((tabS S led).fits S.length = true)
noncomputable def chkAll : Bool := (subsF 6 0).all fun S => (List.range 6).all fun k => S.contains k || (chkAdd S k true && chkAdd S k false)
theorem chkAll_ok : chkAll = true := by decide +kernel
noncomputable def chkWalk : Bool := (subsF 6 0).all fun S => decide (SetTable.below S.toArray 0 = 0) && (List.range S.length).all fun i => decide (SetTable.below S.toArray (S.getD i 0 + 1) = i + 1)
theorem chkWalk_ok : chkWalk = true := by decide +kernel
noncomputable def SetS (h : Heap) (a : Addr) (S : List Nat) (led : Bool) : Prop := riseF 0 S ∧ ∃ (es : Array (Int × Value)) (ep : Nat), h.get? a = some { cls := .type "set", dict := none, data := .set es ep (tabS S led) } ∧
 es.toList.map (·.1) = S.map Int.ofNat ∧ IntsAre (es.toList.map (·.2)) (S.map Int.ofNat)
theorem riseF.len : ∀ {S : List Nat} {m : Nat}, m ≤ 6 → riseF m S → S.length + m ≤ 6
 | [], m, h, _ => by simpa using h
 | k :: r, m, _, ⟨h1, h2, h3⟩ => by
  have := riseF.len (by omega) h3
  rw [List.length_cons]; omega
theorem riseF.lt : ∀ {S : List Nat} {m : Nat}, riseF m S → ∀ k ∈ S, m ≤ k ∧ k < 6
 | [], _, _, k, h => by simp at h
 | a :: r, m, ⟨h1, h2, h3⟩, k, h => by
  rcases List.mem_cons.mp h with rfl | h
  ·exact ⟨h1, h2⟩
  ·have := riseF.lt h3 k h
   exact ⟨by omega, this.2⟩
theorem chk_at {S : List Nat} {k : Nat} (led : Bool) (hS : riseF 0 S) (hk : k < 6) (hn : k ∉ S) : chkAdd S k led = true := by
 have h := List.all_eq_true.mp (List.all_eq_true.mp chkAll_ok S (mem_subsF 6 0 S rfl hS)) k (List.mem_range.mpr hk)
 rw [Bool.or_eq_true, Bool.and_eq_true] at h
 rcases h with h | ⟨h1, h2⟩
 ·exact absurd (by simpa using h) hn
 ·cases led
  ·exact h2
  ·exact h1
theorem hash_small {prog : Program} {w : World} {k : Nat} (hk : k < 6) : (intKind prog w).hash (k : Int) = (k : Int) := by
 have : ∀ j : Fin 6, (intKind prog w).hash ((j.val : Nat) : Int) = ((j.val : Nat) : Int) := by
  intro j
  obtain ⟨j, hj⟩ := j
  match j, hj with
  | 0, _ => rfl
  | 1, _ => rfl
  | 2, _ => rfl
  | 3, _ => rfl
  | 4, _ => rfl
  | 5, _ => rfl
 exact this ⟨k, hk⟩
theorem ints_get : ∀ {vs : List Value} {ns : List Int}, IntsAre vs ns → ∀ {i : Nat} {v : Value}, vs[i]? = some v → ∃ n t, ns[i]? = some n ∧ v = .int n t
 | _, _, .nil, i, v, h => by simp at h
 | _, _, .cons n t r, 0, v, h => by simp at h; exact ⟨n, t, rfl, h.symm⟩
 | _, _, .cons n t r, i + 1, v, h => by
  obtain ⟨n', t', q1, q2⟩ := ints_get r (i := i) (by simpa using h)
  exact ⟨n', t', by simpa using q1, q2⟩
theorem SetS.elems {prog : Program} {w : World} {es : Array (Int × Value)} {S : List Nat} (hS : riseF 0 S) (h1 : es.toList.map (·.1) = S.map Int.ofNat) (h2 : IntsAre (es.toList.map (·.2)) (S.map Int.ofNat)) :
  ElemsOf (intKind prog w) es.toList ∧ ∀ k : Int, (∃ e ∈ es.toList, (intKind prog w).is k e.2 = true) ↔ ∃ j ∈ S, k = (j : Int) := by
 have at_ : ∀ (i : Nat) (e : Int × Value), es.toList[i]? = some e → ∃ j t, S[i]? = some j ∧ e = ((j : Int), .int (j : Int) t) := fun i e he => by
  have q1 : (es.toList.map (·.1))[i]? = some e.1 := by rw [List.getElem?_map, he]; rfl
  have q2 : (es.toList.map (·.2))[i]? = some e.2 := by rw [List.getElem?_map, he]; rfl
  rw [h1, List.getElem?_map] at q1
  obtain ⟨n, t, q3, q4⟩ := ints_get h2 q2
  rw [List.getElem?_map] at q3
  cases z : S[i]? with
  | none => rw [z] at q1; cases q1
  | some j =>
   rw [z] at q1 q3
   simp at q1 q3
   obtain ⟨e1, e2⟩ := e
   simp at q1 q4
   subst q1; subst q3
   exact ⟨j, t, rfl, by rw [q4]⟩
 refine ⟨fun e he => ?_, fun k => ⟨?_, ?_⟩⟩
 ·obtain ⟨i, hi, rfl⟩ := List.mem_iff_getElem.mp he
  obtain ⟨j, t, q1, q2⟩ := at_ i _ (List.getElem?_eq_getElem hi)
  have hj := (hS.lt j (List.mem_of_getElem? q1)).2
  refine ⟨⟨(j : Int), ?_, ?_⟩, ?_⟩
  ·rw [q2]; exact intKind_is _ _ _ _
  ·rw [q2, hash_small hj]
  ·rw [q2]; rfl
 ·rintro ⟨e, he, hk⟩
  obtain ⟨i, hi, rfl⟩ := List.mem_iff_getElem.mp he
  obtain ⟨j, t, q1, q2⟩ := at_ i _ (List.getElem?_eq_getElem hi)
  refine ⟨j, List.mem_of_getElem? q1, ?_⟩
  rw [q2] at hk
  exact (intKind prog w).inj _ _ _ hk (intKind_is _ _ _ t)
 ·rintro ⟨j, hj, rfl⟩
  obtain ⟨i, hi, rfl⟩ := List.mem_iff_getElem.mp hj
  have hl : es.toList.length = S.length := by have := congrArg List.length h1; simpa using this
  have hi' : i < es.toList.length := by rw [hl]; exact hi
  obtain ⟨j', t, q1, q2⟩ := at_ i _ (List.getElem?_eq_getElem hi')
  rw [List.getElem?_eq_getElem hi] at q1
  cases q1
  refine ⟨es.toList[i], List.getElem_mem hi', ?_⟩
  rw [q2]; exact intKind_is _ _ _ _
theorem insS_old {k : Nat} : ∀ {S : List Nat} {m : Nat}, riseF m S → k ∈ S → insS k S = S
 | [], _, _, h => by simp at h
 | a :: r, m, ⟨h1, h2, h3⟩, h => by
  unfold insS
  rcases List.mem_cons.mp h with rfl | h
  ·rw [if_neg (Nat.lt_irrefl _), if_pos rfl]
  ·have := (riseF.lt h3 k h).1
   rw [if_neg (by omega), if_neg (by omega), insS_old h3 h]
theorem posS_zero {k : Nat} : ∀ {S : List Nat} {m : Nat}, riseF m S → k < m → posS k S = 0
 | [], _, _, _ => rfl
 | a :: r, m, ⟨h1, h2, h3⟩, hk => by
  unfold posS
  rw [List.filter_cons, if_neg (by simp; omega)]
  exact posS_zero h3 (by omega)
theorem insS_split {k : Nat} : ∀ {S : List Nat} {m : Nat}, riseF m S → k ∉ S → insS k S = S.take (posS k S) ++ k :: S.drop (posS k S)
 | [], _, _, _ => rfl
 | a :: r, m, ⟨h1, h2, h3⟩, hn => by
  rw [List.mem_cons, not_or] at hn
  unfold insS
  by_cases z : k < a
  ·rw [if_pos z, posS_zero (S := a :: r) (m := a) ⟨Nat.le_refl _, h2, h3⟩ z]
   rfl
  ·rw [if_neg z, if_neg hn.1, insS_split h3 hn.2]
   have : posS k (a :: r) = posS k r + 1 := by
    unfold posS
    rw [List.filter_cons, if_pos (by simp; omega), List.length_cons]
   rw [this]
   rfl
theorem insertAt_list {α : Type} (xs : Array α) (p : Nat) (x : α) : (SetTable.insertAt xs p x).toList = xs.toList.take p ++ x :: xs.toList.drop p := by
 unfold SetTable.insertAt
 rw [Array.toList_append, Array.toList_push, Array.toList_extract, Array.toList_extract]
 simp [List.extract_eq_take_drop]
 exact List.take_of_length_le (by simp)
theorem filterMap_range {α : Type} (es : Array α) : (Array.range es.size).filterMap (es[·]?) = es := by
 apply Array.toList_inj.mp
 rw [Array.toList_filterMap, Array.toList_range]
 have gen : ∀ (l : List α), (List.range l.length).filterMap (fun i => l[i]?) = l := by
  intro l
  induction l with
  | nil => rfl
  | cons a r ih =>
   rw [List.length_cons, List.range_succ_eq_map, List.filterMap_cons, List.filterMap_map]
   simp only [List.getElem?_cons_zero]
   congr 1
 have := gen es.toList
 rw [Array.length_toList] at this
 simpa using this
theorem ints_app : ∀ {vs us : List Value} {ns ms : List Int}, IntsAre vs ns → IntsAre us ms → IntsAre (vs ++ us) (ns ++ ms)
 | _, _, _, _, .nil, q => q
 | _, _, _, _, .cons n t r, q => .cons n t (ints_app r q)
theorem ints_take : ∀ {vs : List Value} {ns : List Int} (p : Nat), IntsAre vs ns → IntsAre (vs.take p) (ns.take p)
 | _, _, 0, _ => by rw [List.take_zero, List.take_zero]; exact .nil
 | _, _, _ + 1, .nil => .nil
 | _, _, p + 1, .cons n t r => .cons n t (ints_take p r)
theorem ints_drop : ∀ {vs : List Value} {ns : List Int} (p : Nat), IntsAre vs ns → IntsAre (vs.drop p) (ns.drop p)
 | _, _, 0, h => h
 | _, _, _ + 1, .nil => .nil
 | _, _, p + 1, .cons n t r => ints_drop p r
theorem layNew_eq {t t' : SetTable} {es : Array (Int × Value)} {h : Int} {x : Value} {k p : Nat} (h1 : t.freeSlot h = some (k, false)) (h2 : t.put k = (t', p)) (h3 : t'.fits (SetTable.insertAt es p (h, x)).size = true) :
  layNew t es h x = (SetTable.insertAt es p (h, x), t', false, false) := by
 unfold layNew
 rw [h1]
 dsimp only
 rw [h2]
 dsimp only
 rw [h3]
 unfold SetTable.orStandIn
 rw [h3]
 rfl
theorem relayAll_eq {t t' : SetTable} {es : Array (Int × Value)} {n : Nat} (h1 : t.relaid (es.map (·.1)) n = some (t', Array.range es.size)) (h2 : t'.fits es.size = true) : relayAll t es n = (es, t', false) := by
 unfold relayAll
 rw [h1]
 dsimp only
 rw [filterMap_range, h2]
 have : coversAll (Array.range es.size) es.size = true := by
  unfold coversAll
  rw [Array.toList_range]
  exact List.isPerm_iff.mpr (List.Perm.refl _)
 rw [this]
 rfl
section
variable {prog : Program} {w : World} {A : Around} {E : Value → Shared → Prop} {s : Shared}
theorem add_small {a : Addr} {S : List Nat} {led : Bool} {k : Nat} {tk : Tok} {Q : Bool → Shared → Prop} (hS : SetS s.heap a S led) (hk : k < 6)
  (h : ∀ h' b, Heap.SameBut a s.heap h' → SetS h' a (insS k S) led → Q b { s with heap := h' }) : wpAny (model prog w) A (setAddHashed a (.int (k : Int) tk) (k : Int)) Q E s := by
 obtain ⟨hr, es, ep, ho, h1, h2⟩ := hS
 obtain ⟨hel, hmem⟩ := SetS.elems (prog := prog) (w := w) hr h1 h2
 have hl : es.size = S.length := by have := congrArg List.length h1; simpa using this
 have hz := hr.len (by omega)
 have hsb : es.size < scanBound := by rw [hl]; unfold scanBound; omega
 have hf : (tabS S led).fits es.size = true := by
  rw [hl]
  unfold SetTable.fits tabS SetTable.fill
  split <;> simp <;> omega
 have hash : (intKind prog w).hash (k : Int) = (k : Int) := hash_small hk
 unfold setAddHashed setAddHashedIn
 refine wpAny_holding (wpAny_bind (wpAny_setState_of ho rfl hf ?_))
 dsimp only
 rw [byScan_of (knd := intKind prog w) rfl hsb hel]
 simp only [↓reduceIte]
 unfold setAddByScan
 have scan : ∀ (Q' : ScanMet → Shared → Prop), Q' (match es.toList.findIdx? (fun e => (intKind prog w).is (k : Int) e.2) with
   | some j => .found (0 + j)
   | none => .absent) s → wpAny (model prog w) A (setScan a (.int (k : Int) tk) (k : Int) true es) Q' E s := fun Q' hq => by
  have := wpAny_setScan_of (knd := intKind prog w) (A := A) (E := E) (adding := true) (Q := Q') (intKind_is prog w (k : Int) tk) ho rfl hf hel hq
  rw [hash] at this
  exact this
 refine wpAny_bind (wpAny_bind (wpAny_rule (wpAny_bind (scan _ ?_))))
 cases hfd : es.toList.findIdx? (fun e => (intKind prog w).is (k : Int) e.2) with
 | some j =>
  dsimp only
  obtain ⟨hj, hpj, _⟩ := List.findIdx?_eq_some_iff_getElem.mp hfd
  obtain ⟨j', hj', ej⟩ := (hmem (k : Int)).mp ⟨_, List.getElem_mem hj, hpj⟩
  have hkS : k ∈ S := by
   have : k = j' := by omega
   rw [this]; exact hj'
  refine wpAny_pure (wpAny_pure ?_)
  have := h s.heap false (Heap.SameBut.refl a s.heap) (by rw [insS_old hr hkS]; exact ⟨hr, es, ep, ho, h1, h2⟩)
  exact this
 | none =>
  dsimp only
  have hkS : k ∉ S := fun z => by
   obtain ⟨e, he, hp⟩ := (hmem (k : Int)).mpr ⟨k, z, rfl⟩
   have := List.findIdx?_eq_none_iff.mp hfd e he
   rw [hp] at this; cases this
  have chk := chk_at led hr hk hkS
  unfold chkAdd at chk
  simp only [Bool.and_eq_true, decide_eq_true_eq] at chk
  obtain ⟨⟨⟨⟨c1, c2⟩, c3⟩, c4⟩, c5⟩ := chk
  have sz : (SetTable.insertAt es (posS k S) ((k : Int), Value.int (k : Int) tk)).size = S.length + 1 := by
   rw [← Array.length_toList, insertAt_list, List.length_append, List.length_cons, List.length_take, List.length_drop, Array.length_toList, hl]
   omega
  have lay := layNew_eq (es := es) (x := .int (k : Int) tk) c1 c2 (by rw [sz]; exact c3)
  have il := insertAt_list es (posS k S) ((k : Int), Value.int (k : Int) tk)
  generalize SetTable.insertAt es (posS k S) ((k : Int), Value.int (k : Int) tk) = es1 at sz lay il
  have f1 : es1.toList.map (·.1) = (insS k S).map Int.ofNat := by
   rw [il, insS_split hr hkS, List.map_append, List.map_cons, List.map_append, List.map_cons, List.map_take, List.map_drop, h1, List.map_take, List.map_drop]
   rfl
  have f2 : IntsAre (es1.toList.map (·.2)) ((insS k S).map Int.ofNat) := by
   rw [il, insS_split hr hkS, List.map_append, List.map_cons, List.map_append, List.map_cons, List.map_take, List.map_drop, List.map_take, List.map_drop]
   exact ints_app (ints_take _ h2) (.cons _ _ (ints_drop _ h2))
  have hr' := insS_rise hk (Nat.zero_le _) hr
  have hz1 : es1.size ≤ sizeLine := by rw [sz, sizeLine_eq]; omega
  rw [lay]
  dsimp only
  refine wpAny_bind (wpAny_pure ?_)
  have pl : (midS k S led).plain = true := rfl
  rw [pl]
  simp only [if_true]
  refine wpAny_bind ?_
  show wpAny _ A (pure true) _ _ s
  refine wpAny_pure ?_
  simp only [if_true]
  refine wpAny_bind (wpAny_storeSet_of ho rfl ?_ hz1)
  have g1 : (s.heap.update a (Obj.putSet es1 (midS k S led))).get? a = some { cls := .type "set", dict := none, data := .set es1 (ep + 1) (midS k S led) } := Heap.get?_update_self (Obj.putSet es1 (midS k S led)) ho rfl
  have sb1 := Heap.SameBut.update s.heap a (Obj.putSet es1 (midS k S led))
  by_cases full : (midS k S led).tooFull = true
  ·rw [if_pos full] at c4
   rw [decide_eq_true_eq] at c4
   have lf : (tabS (insS k S) led).fits es1.size = true := by
    have e : (insS k S).length = S.length + 1 := by rw [insS_split hr hkS, List.length_append, List.length_cons, List.length_take, List.length_drop]; have : posS k S ≤ S.length := List.length_filter_le _ _; omega
    rw [sz, ← e]
    have := hr'.len (by omega)
    unfold SetTable.fits tabS SetTable.fill
    split <;> simp <;> omega
   have rl := relayAll_eq (t := midS k S led) (t' := tabS (insS k S) led) (es := es1) (n := SetTable.grown es1.size) (by
    rw [sz]
    have : es1.map (·.1) = ((insS k S).map Int.ofNat).toArray := by
     apply Array.toList_inj.mp
     rw [Array.toList_map, f1]
    rw [this]; exact c4) lf
   rw [full]
   simp only [Bool.not_false, Bool.and_self, if_true]
   rw [rl]
   dsimp only
   refine wpAny_bind (wpAny_pure ?_)
   refine wpAny_bind (wpAny_storeSet_of g1 rfl ?_ hz1)
   refine wpAny_pure (wpAny_pure (h _ true (sb1.trans (Heap.SameBut.update _ a _)) ⟨hr', es1, ep + 1 + 1, ?_, f1, f2⟩))
   exact Heap.get?_update_self (Obj.putSet es1 (tabS (insS k S) led)) g1 rfl
  ·have full' : (midS k S led).tooFull = false := by simpa using full
   rw [if_neg full, decide_eq_true_eq] at c4
   rw [full']
   simp only [Bool.not_false, Bool.and_false, Bool.false_eq_true, if_false]
   refine wpAny_pure (wpAny_pure (h _ true sb1 ⟨hr', es1, ep + 1, ?_, f1, f2⟩))
   rw [g1, c4]
end
noncomputable def small (ns : List Int) : Prop := ∀ n ∈ ns, 0 ≤ n ∧ n < 6
noncomputable def ledW (w : World) : Bool := !(w.params.followText "set-order")
theorem SetS.keep {h h' : Heap} {a : Addr} {S : List Nat} {led : Bool} (x : SetS h a S led) (k : ∀ o, h.get? a = some o → h'.get? a = some o) : SetS h' a S led := by
 obtain ⟨r, es, ep, ho, q⟩ := x
 exact ⟨r, es, ep, k _ ho, q⟩
section
variable {prog : Program} {w : World} {A : Around} {R : Result → Shared → Prop} {I : Addr} {fp wr : List Addr} {P : Nat → Value → Prop} {St : Nat → Heap → Prop} {ns : List Int}
theorem upd_loop (W : Walks prog w A.in1 I fp wr ns.length P St) (a : Addr) (ha : a ∉ fp) (led : Bool) (hs : small ns) (hP : ∀ i v, P i v → ∃ n t, ns[i]? = some n ∧ v = .int n t) :
  ∀ (rest : List Int) (i : Nat) (s : Shared) (T : List Nat), ns.drop i = rest → i ≤ ns.length → St i s.heap → SetS s.heap a T led →
   (∀ h' tk, (∀ b o, b ≠ a → b ∉ wr → s.heap.get? b = some o → h'.get? b = some o) → SetS h' a (rest.foldl (fun S n => insS n.toNat S) T) led → R (.ok (.ret .none)) { s with heap := h', toks := tk }) →
   codeAny (model prog w) A (.builtin "set.update.loop" ⟨[.ref a, .ref I], []⟩) R s := by
 have haw : a ∉ wr := fun z => ha (W.sub _ z)
 intro rest
 induction rest with
 | nil =>
  intro i s T hd hi st hT hR
  have hin : i = ns.length := by
   have := congrArg List.length hd
   rw [List.length_drop, List.length_nil] at this
   omega
  subst hin
  refine codeAny_builtin PyProof.Rows.F.entry_set_update_loop ?_
  rw [Around.under_plainId PyProof.Rows.F.plain_set_update_loop _]
  show wpAny _ A.in1 (pyNext (.ref I) >>= _) _ _ s
  refine wpAny_bind (W.done s _ _ st fun h' tk hk => ?_)
  show wpAny _ A.in1 (ret Value.none) _ _ _
  exact wpAny_pure (hR h' tk (fun b o _ hb e => hk b o hb e) (hT.keep fun o e => hk a o haw e))
 | cons n rest ih =>
  intro i s T hd hi st hT hR
  have hlt : i < ns.length := by
   have := congrArg List.length hd
   rw [List.length_drop, List.length_cons] at this
   omega
  have hni : ns[i]? = some n := by
   have : (ns.drop i)[0]? = some n := by rw [hd]; rfl
   simpa using this
  have hd' : ns.drop (i + 1) = rest := by
   have : (ns.drop i).drop 1 = rest := by rw [hd]; rfl
   rw [List.drop_drop] at this
   exact this
  refine codeAny_builtin PyProof.Rows.F.entry_set_update_loop ?_
  rw [Around.under_plainId PyProof.Rows.F.plain_set_update_loop _]
  show wpAny _ A.in1 (pyNext (.ref I) >>= _) _ _ s
  refine wpAny_bind (W.item i s _ _ hlt st fun v h1 tk1 hv st1 hk1 => ?_)
  obtain ⟨n', t, e1, rfl⟩ := hP i v hv
  rw [hni] at e1
  cases e1
  obtain ⟨p1, p2⟩ := hs n (List.mem_of_getElem? hni)
  obtain ⟨k, rfl⟩ : ∃ k : Nat, n = (k : Int) := ⟨n.toNat, by omega⟩
  have hk6 : k < 6 := by omega
  show wpAny _ A.in1 (holding [Value.int (k : Int) t] (setAdd a (.int (k : Int) t)) >>= _) _ _ _
  refine wpAny_bind (wpAny_holding ?_)
  unfold setAdd
  refine wpAny_holding (wpAny_bind ((intKind prog w).pyHash (k := (k : Int)) (intKind_is _ _ _ _) ?_))
  rw [hash_small hk6]
  refine add_small (hT.keep fun o e => hk1 a o haw e) hk6 fun h2 b sb hT2 => ?_
  refine wpAny_pure ⟨plainId_quiet PyProof.Rows.F.plain_set_update_loop _, ih (i + 1) _ _ hd' hlt (W.frame _ _ _ st1 fun c hc o e => ?_) hT2 fun h' tk hk hT' => ?_⟩
  ·rw [sb.2 c (fun z : c = a => ha (z ▸ hc))]; exact e
  ·refine hR h' tk (fun c o hc hw e => hk c o hc hw ?_) hT'
   show h2.get? c = some o
   rw [sb.2 c hc]
   exact hk1 c o hw e
end
section
variable {prog : Program} {w : World} {A : Around} {E : Value → Shared → Prop} {s : Shared}
theorem new_set (x : Value) {Q : Value → Shared → Prop} (h : Q (.ref s.heap.objs.size) { s with heap := s.heap.push { cls := .type "set", dict := none, data := .set #[] 0 (.fresh 0 0 (ledW w)) } }) :
  codeAny (model prog w) A (.call (.builtin "set.__new__") ⟨[.type "set", x], []⟩) (wants Q E) s := by
 refine codeAny_of_tree ?_
 show wpAny _ A.in1 (checkBuiltinCall "set.__new__" ⟨[.type "set", x], []⟩ >>= fun _ => again (.builtin "set.__new__" ⟨[.type "set", x], []⟩)) _ _ s
 refine wpAny_bind (wpAny_of_eq (PySem.F.newCall_set_1 x) (wpAny_pure ?_))
 refine ⟨plainId_quiet PySem.F.plain_set_new _, codeAny_builtin PySem.F.entry_set_new ?_⟩
 rw [Around.under_plainId PySem.F.plain_set_new _]
 unfold Builtin.«set.__new__» Builtin.Frozenset.newClass
 have hsub := sub_set_self
 obtain ⟨hp, gs, dr, tk, os⟩ := s
 dsimp only at h ⊢
 wp_walk
 refine wpAny_askSetting (wpAny_pure ?_)
 dsimp only
 simp only [newObj]
 refine wpAny_bind (wpAny_alloc (wpAny_pure (wpAny_pure ?_)))
 exact h
end
theorem sub_tuple_set : isSubtype (.type "tuple") (.type "set") = pure false := by rw [isSubtype_type]; kernel_rfl
theorem sub_tuple_frozenset : isSubtype (.type "tuple") (.type "frozenset") = pure false := by rw [isSubtype_type]; kernel_rfl
theorem setS_fresh {h : Heap} {led : Bool} : SetS (h.push { cls := .type "set", dict := none, data := .set #[] 0 (.fresh 0 0 led) }) h.objs.size [] led :=
 ⟨trivial, #[], 0, Heap.get?_push_size _ rfl, rfl, .nil⟩
theorem items_ints {items : Array Value} {ns : List Int} (hi : IntsAre items.toList ns) (i : Nat) (v : Value) (h : items[i]? = some v) : ∃ n t, ns[i]? = some n ∧ v = .int n t :=
 ints_get hi (by rw [Array.getElem?_toList]; exact h)
section
variable {prog : Program} {w : World} {A : Around} {E : Value → Shared → Prop} {s : Shared}
theorem call_setS {l : Addr} {items : Array Value} {ns : List Int} {Q : Value → Shared → Prop} (b : Bool) (hh : A.handled = none) (hl : if b = true then s.heap.IsTuple l items else s.heap.IsList l items) (hi : IntsAre items.toList ns) (hs : small ns)
  (h : ∀ (h' : Heap) (tk : Nat), SetS h' s.heap.objs.size (setS ns) (ledW w) → (∀ c o, c < s.heap.objs.size → s.heap.get? c = some o → h'.get? c = some o) → Q (.ref s.heap.objs.size) { s with heap := h', toks := tk }) :
  wpAny (model prog w) A (call (.type "set") [.ref l]) Q E s := by
 obtain ⟨c0, tl0, hmro⟩ := PySem.F.called_set.mro
 have hmade := PySem.F.called_set.made
 have hsub := PySem.F.called_set.sub
 refine wpAny_call (codeAny_of_tree ?_)
 show wpAny _ _ (callAny (.type "set") _) _ _ _
 refine wpAny_pure ⟨Code.quiet_builtin _ (by decide +kernel), codeAny_builtin PySem.F.entry_type_call ?_⟩
 rw [Around.under_plain (weight_type_call_type "set" [.ref l] []) rfl]
 have hnt := PySem.F.called_set.notType
 have hcc := PySem.F.called_set.canCreate
 have hct := PySem.F.typeCall_set_1 (.ref l)
 repeat (any_goals (first | assumption | wp_step))
 refine codeAny_mono (new_set (.ref l) (E := E) (Q := fun obj s₁ => obj = .ref s.heap.objs.size ∧ s₁ = { s with heap := s.heap.push { cls := .type "set", dict := none, data := .set #[] 0 (.fresh 0 0 (ledW w)) } }) ⟨rfl, rfl⟩) fun r s₁ hr => ?_
 cases r with
 | error e => exact hr
 | ok fl =>
  cases fl with
  | ret obj =>
   obtain ⟨rfl, rfl⟩ := hr
   generalize hh1 : s.heap.push { cls := .type "set", dict := none, data := .set #[] 0 (.fresh 0 0 (ledW w)) } = h1
   have hz1 : h1.objs.size = s.heap.objs.size + 1 := by rw [← hh1, Heap.size_push]
   have k1 : ∀ c o, s.heap.get? c = some o → h1.get? c = some o := fun c o e => by rw [← hh1]; exact Heap.get?_push_of_some _ e
   have hS : h1.get? s.heap.objs.size = some { cls := .type "set", dict := none, data := .set #[] 0 (.fresh 0 0 (ledW w)) } := by rw [← hh1]; exact Heap.get?_push_size _ rfl
   have fr : SetS h1 s.heap.objs.size [] (ledW w) := by rw [← hh1]; exact setS_fresh
   have hT : Shared.TypeIs { s with heap := h1 } (.ref s.heap.objs.size) "set" := ⟨_, hS, rfl⟩
   have hli := PySem.F.called_set.init.lookup
   have hbi := PySem.F.called_set.init.bind (.ref s.heap.objs.size)
   repeat (any_goals (first | assumption | wp_step))
   refine codeAny_mono (codeAny_call_builtin (R := wants (fun r s₂ => r = .none ∧ ∃ h' tk, s₂ = { s with heap := h', toks := tk } ∧ SetS h' s.heap.objs.size (setS ns) (ledW w) ∧ (∀ c o, c < s.heap.objs.size → s.heap.get? c = some o → h'.get? c = some o)) E)
    PySem.F.called_set.init.plain PySem.F.entry_set_init (check_set_init_1 hT ?_)) fun r₂ s₂ hr₂ => ?_
   ·have hlt : l < s.heap.objs.size := by
     cases b
     ·obtain ⟨o, e, _⟩ := (show s.heap.IsList l items from hl); exact Heap.lt_size e
     ·obtain ⟨o, e, _⟩ := (show s.heap.IsTuple l items from hl); exact Heap.lt_size e
    have hh3 : A.in1.in1.in1.handled = none := by simp [hh]
    have hneI : l ≠ h1.objs.size := by rw [hz1]; exact Nat.ne_of_lt (Nat.lt_succ_of_lt hlt)
    have hSf : s.heap.objs.size ∉ [h1.objs.size, l] := by
     rw [hz1]
     simp only [List.mem_cons, List.not_mem_nil, or_false, not_or]
     exact ⟨Nat.ne_of_lt (Nat.lt_succ_self _), Nat.ne_of_gt hlt⟩
    have len : items.size = ns.length := by rw [← Array.length_toList]; exact IntsAre.length hi
    have fin : ∀ {h2 : Heap} {oI : Obj}, h2 = h1.push oI → ∀ (h' : Heap) (tk : Nat), (∀ c o, c ≠ s.heap.objs.size → c ∉ [h1.objs.size] → h2.get? c = some o → h'.get? c = some o) → ∀ c o, c < s.heap.objs.size → s.heap.get? c = some o → h'.get? c = some o := fun {h2 oI} e2 h' tk hk c o hc e => by
     refine hk c o (Nat.ne_of_lt hc) (by rw [hz1]; simp; omega) ?_
     rw [e2]; exact Heap.get?_push_of_some _ (k1 c o e)
    cases b with
    | false =>
     obtain ⟨ol, hol, hcl, nl, hdl⟩ := (show s.heap.IsList l items from hl)
     obtain ⟨ocls, odict, odata, oslots⟩ := ol
     simp only at hcl hdl
     subst hcl; subst hdl
     have hol' := k1 _ _ hol
     have q1 := PySem.F.sub_list_set
     have q2 := PySem.F.sub_list_frozenset
     have q3 : (Value.type "list" == Value.type "dict") = false := by decide
     have hl1 : h1.IsList l items := ⟨_, hol', rfl, nl, rfl⟩
     unfold Builtin.«set.__init__» noKeywords Builtin.Frozenset.updateFrom
     generalize hPI : pyIter = PI
     wp_walk
     subst hPI
     refine wpAny_pyIter_list hl1 (wpAny_bind (wpAny_runValue ?_))
     have W := Walks.list (prog := prog) (w := w) hh3 h1.objs.size l hneI items
     rw [len] at W
     refine upd_loop W s.heap.objs.size hSf (ledW w) hs (items_ints hi) ns 0 _ [] rfl (Nat.zero_le _) ⟨⟨_, Heap.get?_push_size _ rfl, rfl, rfl⟩, hl1.push _⟩ (fr.keep fun o e => Heap.get?_push_of_some _ e) fun h' tk hk hS' => ?_
     refine wpAny_pure ?_
     show wpAny _ _ (ret Value.none) _ _ _
     exact wpAny_pure ⟨rfl, h', tk, rfl, hS', fin rfl h' tk hk⟩
    | true =>
     obtain ⟨ol, hol, hcl, nl, hdl⟩ := (show s.heap.IsTuple l items from hl)
     obtain ⟨ocls, odict, odata, oslots⟩ := ol
     simp only at hcl hdl
     subst hcl; subst hdl
     have hol' := k1 _ _ hol
     have q1 := sub_tuple_set
     have q2 := sub_tuple_frozenset
     have q3 : (Value.type "tuple" == Value.type "dict") = false := by decide
     have hl1 : h1.IsTuple l items := ⟨_, hol', rfl, nl, rfl⟩
     unfold Builtin.«set.__init__» noKeywords Builtin.Frozenset.updateFrom
     generalize hPI : pyIter = PI
     wp_walk
     subst hPI
     refine wpAny_pyIter_tuple hl1 (wpAny_bind (wpAny_runValue ?_))
     have W := Walks.tuple (prog := prog) (w := w) hh3 h1.objs.size l hneI items
     rw [len] at W
     refine upd_loop W s.heap.objs.size hSf (ledW w) hs (items_ints hi) ns 0 _ [] rfl (Nat.zero_le _) ⟨⟨_, Heap.get?_push_size _ rfl, rfl, rfl⟩, hl1.push _⟩ (fr.keep fun o e => Heap.get?_push_of_some _ e) fun h' tk hk hS' => ?_
     refine wpAny_pure ?_
     show wpAny _ _ (ret Value.none) _ _ _
     exact wpAny_pure ⟨rfl, h', tk, rfl, hS', fin rfl h' tk hk⟩
   ·cases r₂ with
    | error e => exact hr₂
    | ok fl₂ =>
     cases fl₂ with
     | ret r =>
      obtain ⟨rfl, h', tk, rfl, hS', hk'⟩ := hr₂
      repeat (any_goals (first | assumption | wp_step))
      exact h _ _ hS' hk'
     | _ => exact hr₂.elim
  | _ => exact hr.elim
end
theorem erase_perm {α : Type} : ∀ {l : List α} {i : Nat} (h : i < l.length), (l[i] :: l.eraseIdx i).Perm l
 | a :: r, 0, _ => List.Perm.refl _
 | a :: r, i + 1, h => by
  have h' : i < r.length := by simpa using h
  exact (List.Perm.swap a (r[i]'h') (r.eraseIdx i)).trans ((erase_perm h').cons a)
theorem pickGo_perm {α : Type} (next : Nat → Nat) : ∀ (n k : Nat) (left : List α) (out : Array α), left.length = n → (pickOrder.go next n k left out).toList.Perm (out.toList ++ left)
 | 0, k, left, out, h => by
  have : left = [] := List.length_eq_zero_iff.mp h
  subst this
  unfold pickOrder.go
  rw [List.append_nil]
 | n + 1, k, left, out, h => by
  unfold pickOrder.go
  have hlt : next k % left.length < left.length := Nat.mod_lt _ (by omega)
  rw [List.getElem?_eq_getElem hlt]
  dsimp only
  refine (pickGo_perm next n (k + 1) _ _ (by rw [List.length_eraseIdx, if_pos hlt]; omega)).trans ?_
  rw [Array.toList_push, List.append_assoc]
  refine List.Perm.append_left _ ?_
  exact erase_perm hlt
theorem pick_perm {α : Type} (next : Nat → Nat) (xs : Array α) : (pickOrder next xs).toList.Perm xs.toList := by
 have := pickGo_perm next xs.size 0 xs.toList #[] (by simp)
 simpa [pickOrder] using this
noncomputable def walkE (w : World) (a ep : Nat) (es : Array (Int × Value)) : Array (Int × Value) := if w.params.followText "set-order" then pickOrder (w.params.setOrder a ep) es else es
theorem walkE_perm (w : World) (a ep : Nat) (es : Array (Int × Value)) : (walkE w a ep es).toList.Perm es.toList := by
 unfold walkE
 split
 ·exact pick_perm _ _
 ·exact List.Perm.refl _
noncomputable def SetAt (h : Heap) (a : Addr) (S : List Nat) (led : Bool) (es : Array (Int × Value)) (ep : Nat) : Prop := h.get? a = some { cls := .type "set", dict := none, data := .set es ep (tabS S led) }
noncomputable def SetIt (h : Heap) (I a : Addr) (slot i n ep : Nat) : Prop := h.get? I = some { cls := .type "set_iterator", data := .fields #[rawInt slot, rawInt i, .ref a, rawInt n, rawInt ep] }
noncomputable def slotS (w : World) (S : List Nat) (i : Nat) : Nat := if w.params.followText "set-order" then 0 else if i = 0 then 0 else S.getD (i - 1) 0 + 1
theorem fits_S {S : List Nat} {led : Bool} (hr : riseF 0 S) : (tabS S led).fits S.length = true := by
 have := hr.len (by omega)
 unfold SetTable.fits tabS SetTable.fill
 split <;> simp <;> omega
theorem walk_at {S : List Nat} (hr : riseF 0 S) : SetTable.below S.toArray 0 = 0 ∧ ∀ i, i < S.length → SetTable.below S.toArray (S.getD i 0 + 1) = i + 1 := by
 have h := List.all_eq_true.mp chkWalk_ok S (mem_subsF 6 0 S rfl hr)
 rw [Bool.and_eq_true, decide_eq_true_eq] at h
 exact ⟨h.1, fun i hi => of_decide_eq_true (List.all_eq_true.mp h.2 i (List.mem_range.mpr hi))⟩
section
variable {prog : Program} {w : World} {A : Around} {E : Value → Shared → Prop} {s : Shared} {a : Addr} {S : List Nat} {es : Array (Int × Value)} {ep : Nat}
theorem set_next {i : Nat} {Q : Option (Value × Nat) → Shared → Prop} (hr : riseF 0 S) (hz : es.size = S.length) (ho : SetAt s.heap a S (ledW w) es ep) (hi : i ≤ es.size)
  (h : Q (((walkE w a ep es)[i]?).map fun e => (e.2, slotS w S (i + 1))) s) : wpAny (model prog w) A (setNext a (slotS w S i) i ep) Q E s := by
 have hf : (tabS S (ledW w)).fits es.size = true := by rw [hz]; exact fits_S hr
 unfold setNext
 refine wpAny_bind (wpAny_setState_of ho rfl hf ?_)
 dsimp only
 unfold setsByText
 refine wpAny_bind (wpAny_bind (wpAny_askSetting (wpAny_pure ?_)))
 have hb0 : (model prog w).w.params.followText "set-order" = w.params.followText "set-order" := rfl
 cases bt : w.params.followText "set-order" with
 | true =>
  have e0 : walkE w a ep es = pickOrder (w.params.setOrder a ep) es := by unfold walkE; rw [if_pos bt]
  have e1 : ∀ i, slotS w S i = 0 := fun i => by unfold slotS; rw [if_pos bt]
  rw [e0, e1] at h
  rw [e1]
  have e2 : (⟨(model prog w).prog, (model prog w).w.params⟩ : Setting).params.followText "set-order" = true := bt
  rw [e2]
  simp only [if_true, bne_self_eq_false, Bool.false_eq_true, if_false]
  refine wpAny_bind ?_
  unfold setWalk
  refine wpAny_bind (wpAny_setState_of ho rfl hf ?_)
  dsimp only
  unfold setsByText
  refine wpAny_bind (wpAny_bind (wpAny_askSetting (wpAny_pure ?_)))
  rw [e2]
  simp only [if_true]
  refine wpAny_bind (wpAny_askSetting (wpAny_pure ?_))
  exact wpAny_pure h
 | false =>
  have e0 : walkE w a ep es = es := by unfold walkE; rw [if_neg (by rw [bt]; decide)]
  have e1 : ∀ i, slotS w S i = if i = 0 then 0 else S.getD (i - 1) 0 + 1 := fun i => by unfold slotS; rw [if_neg (by rw [bt]; decide)]
  have e2 : (⟨(model prog w).prog, (model prog w).w.params⟩ : Setting).params.followText "set-order" = false := bt
  have e3 : ledW w = true := by unfold ledW; rw [bt]; rfl
  have bl : SetTable.below (tabS S (ledW w)).place (slotS w S i) = i := by
   obtain ⟨b1, b2⟩ := walk_at hr
   show SetTable.below S.toArray _ = i
   rw [e1]
   by_cases z : i = 0
   ·rw [if_pos z, z]; exact b1
   ·rw [if_neg z, b2 (i - 1) (by omega)]; omega
  rw [e0] at h
  rw [e2]
  simp only [Bool.false_eq_true, if_false]
  refine wpAny_ite_split (fun z => ?_) fun _ => ?_
  ·have z' : (!true && decide (es.size > 1)) = true := z
   simp at z'
  ·refine wpAny_bind ?_
   have e4 : (!(tabS S (ledW w)).led && !es.isEmpty) = false := by
    have : (tabS S (ledW w)).led = true := e3
    rw [this]; rfl
   wp_delta
   rw [e4]
   simp only [Bool.false_eq_true, if_false]
   refine wpAny_pure (wpAny_pure ?_)
   rw [bl]
   have e5 : (tabS S (ledW w)).place[i]? = S[i]? := by show S.toArray[i]? = _; simp
   rw [e5]
   cases hc : es[i]? with
   | none =>
    rw [hc] at h
    exact h
   | some e =>
    rw [hc] at h
    have hlt : i < S.length := by
     have := (Array.getElem?_eq_some_iff.mp hc).1
     omega
    rw [List.getElem?_eq_getElem hlt]
    have : slotS w S (i + 1) = S[i] + 1 := by
     rw [e1, if_neg (by omega)]
     simp [hlt]
    rw [this] at h
    exact h
end
theorem sit_next : Slot "set_iterator" "__next__" "set_iterator.__next__" :=
 .of (owner := "set_iterator") (n := "__next__") (by rw [typeLookup_type, builtinLookup_eq_fast]; kernel_rfl) (by decide +kernel) (by decide +kernel) (by decide +kernel) (.inl (by decide +kernel)) (by rw [isSubtype_type]; kernel_rfl)
theorem sit_next_e : entryFor table "set_iterator.__next__" = some Builtin.«set_iterator.__next__» := entryFor_of_tree (by kernel_rfl)
theorem sit_next_a (a : Value) : argsOk "set_iterator.__next__" ⟨[a], []⟩ := by
 unfold argsOk; kernel_rfl
theorem sit_iter : Slot "set_iterator" "__iter__" "set_iterator.__iter__" :=
 .of (owner := "set_iterator") (n := "__iter__") (by rw [typeLookup_type, builtinLookup_eq_fast]; kernel_rfl) (by decide +kernel) (by decide +kernel) (by decide +kernel) (.inl (by decide +kernel)) (by rw [isSubtype_type]; kernel_rfl)
theorem set_iter_e : entryFor table "set.__iter__" = some Builtin.«frozenset.__iter__» := entryFor_alias (id' := "frozenset.__iter__") (by kernel_rfl) rfl (by decide +kernel) (by kernel_rfl)
theorem sit_iter_a (a : Value) : argsOk "set_iterator.__iter__" ⟨[a], []⟩ := by
 unfold argsOk; kernel_rfl
theorem sit_iter_e : entryFor table "set_iterator.__iter__" = some Builtin.«dict_keyiterator.__iter__» := entryFor_alias (id' := "dict_keyiterator.__iter__") (by kernel_rfl) (by first | rfl | decide +kernel) (by decide +kernel) (by kernel_rfl)
section
variable {prog : Program} {w : World} {A : Around} {E : Value → Shared → Prop} {s : Shared} {a I : Addr} {S : List Nat} {es : Array (Int × Value)} {ep i : Nat}
theorem SetIt.ty {slot n : Nat} (h : SetIt s.heap I a slot i n ep) : s.TypeIs (.ref I) "set_iterator" := ⟨_, h, rfl⟩
theorem set_item {Q : Option Value → Shared → Prop} (hr : riseF 0 S) (hz : es.size = S.length) (ho : SetAt s.heap a S (ledW w) es ep) (hit : SetIt s.heap I a (slotS w S i) i es.size ep) {e : Int × Value} (he : (walkE w a ep es)[i]? = some e)
  (hQ : ∀ h', SetIt h' I a (slotS w S (i + 1)) (i + 1) es.size ep → Heap.SameBut I s.heap h' → Q (some e.2) { s with heap := h' }) : wpAny (model prog w) A (pyNext (.ref I)) Q E s := by
 have hf : (tabS S (ledW w)).fits es.size = true := by rw [hz]; exact fits_S hr
 have hi : i ≤ es.size := by
  have h1 := (Array.getElem?_eq_some_iff.mp he).1
  have h2 := (walkE_perm w a ep es).length_eq
  rw [Array.length_toList, Array.length_toList] at h2
  omega
 unfold pyNext
 refine wpAny_bind (wpAny_attempt (wpAny_callSpecial?_slot (name := Str.ofString "__next__") hit.ty sit_next (wpAny_call_entry sit_next hit.ty sit_next_e ?_ (sit_next_a _))))
 unfold Builtin.«set_iterator.__next__»
 refine wpAny_bind (wpAny_pure ?_)
 refine wpAny_bind (wpAny_fieldsOf hit rfl ?_)
 dsimp only [rawInt]
 refine wpAny_bind (wpAny_setEntries_of ho rfl hf ?_)
 rw [if_neg (by simp)]
 refine wpAny_bind (set_next (prog := prog) hr hz ho hi ?_)
 rw [show ((ep : Int).toNat) = ep from Int.toNat_natCast ep, he]
 dsimp only [Option.map]
 have hit0 : s.heap.get? I = some { cls := .type "set_iterator", data := .fields #[rawInt (slotS w S i : Nat), rawInt (i : Nat), .ref a, rawInt (es.size : Nat), rawInt (ep : Nat)] } := hit
 refine wpAny_bind (wpAny_setField hit0 rfl (by simp) ?_)
 have g1 := Heap.get?_update_self (Obj.mapFields (·.setIfInBounds 0 (Value.int ((slotS w S (i + 1) : Nat) : Int) 0))) hit0 rfl
 refine wpAny_bind (wpAny_setField g1 rfl (by simp [Obj.mapFields]) ?_)
 have g2 := Heap.get?_update_self (Obj.mapFields (·.setIfInBounds 1 (Value.int ((i : Int) + 1) 0))) g1 rfl
 refine wpAny_pure ⟨e.2, rfl, wpAny_pure (hQ _ ?_ ((Heap.SameBut.update ..).trans (Heap.SameBut.update ..)))⟩
 unfold SetIt
 rw [g2]
 rfl
theorem set_end {Q : Option Value → Shared → Prop} (hh : A.handled = none) (hr : riseF 0 S) (hz : es.size = S.length) (ho : SetAt s.heap a S (ledW w) es ep) (hit : SetIt s.heap I a (slotS w S es.size) es.size es.size ep)
  (hQ : ∀ h', Heap.ExtBut I s.heap h' → Q none { s with heap := h' }) : wpAny (model prog w) A (pyNext (.ref I)) Q E s := by
 have hf : (tabS S (ledW w)).fits es.size = true := by rw [hz]; exact fits_S hr
 have he : (walkE w a ep es)[es.size]? = none := by
  have h2 := (walkE_perm w a ep es).length_eq
  rw [Array.length_toList, Array.length_toList] at h2
  rw [← h2]; simp
 unfold pyNext
 refine wpAny_bind (wpAny_attempt (wpAny_callSpecial?_slot (name := Str.ofString "__next__") hit.ty sit_next (wpAny_call_entry sit_next hit.ty sit_next_e ?_ (sit_next_a _))))
 unfold Builtin.«set_iterator.__next__»
 refine wpAny_bind (wpAny_pure ?_)
 refine wpAny_bind (wpAny_fieldsOf hit rfl ?_)
 dsimp only [rawInt]
 refine wpAny_bind (wpAny_setEntries_of ho rfl hf ?_)
 rw [if_neg (by simp)]
 refine wpAny_bind (set_next (prog := prog) hr hz ho (Nat.le_refl _) ?_)
 rw [show ((ep : Int).toNat) = ep from Int.toNat_natCast ep, he]
 dsimp only [Option.map]
 have hit0 : s.heap.get? I = some { cls := .type "set_iterator", data := .fields #[rawInt (slotS w S es.size : Nat), rawInt (es.size : Nat), .ref a, rawInt (es.size : Nat), rawInt (ep : Nat)] } := hit
 refine wpAny_bind (wpAny_setField hit0 rfl (by simp) ?_)
 show wpAny _ _ (newExc (.type "StopIteration") [] >>= raiseNew) _ _ _
 refine wpAny_bind ?_
 simp only [newExc, newTuple]
 refine wpAny_bind (wpAny_newObj_type ?_ (by size_fits))
 refine wpAny_bind (m := firstArgMember _ _) (wpAny_of_eq (a := Value.none) (by first | rfl | (simp only [firstArgMember]; rfl)) ?_)
 refine wpAny_newObj_type ?_ (by size_fits)
 simp only [raiseNew]
 refine wpAny_bind (wpAny_handled ?_)
 rw [show A.in1.handled = none from hh]
 refine wpAny_bind (wpAny_pure (wpAny_throw ?_))
 refine wpAny_bind (wpAny_isInstance (T := "StopIteration") (b := true) ⟨_, Heap.get?_push_size _ rfl, rfl⟩ isSubtype_stop ?_)
 exact wpAny_pure (hQ _ (((Heap.SameBut.update ..).extBut.push _).push _))
theorem set_iter {Q : Value → Shared → Prop} (hr : riseF 0 S) (hz : es.size = S.length) (ho : SetAt s.heap a S (ledW w) es ep)
  (hQ : Q (.ref s.heap.objs.size) { s with heap := s.heap.push { cls := .type "set_iterator", data := .fields #[rawInt (0 : Nat), rawInt (0 : Nat), .ref a, rawInt (es.size : Nat), rawInt (ep : Nat)] } }) : wpAny (model prog w) A (pyIter (.ref a)) Q E s := by
 have hT : s.TypeIs (.ref a) "set" := ⟨_, ho, rfl⟩
 have hf : (tabS S (ledW w)).fits es.size = true := by rw [hz]; exact fits_S hr
 refine wpAny_pyIter_slot hT PySem.F.slot_set_iter (wpAny_call_entry PySem.F.slot_set_iter hT set_iter_e ?_ (PySem.F.args_set_iter_1 _))
 unfold Builtin.«frozenset.__iter__» Builtin.Frozenset.slot0 slotArgs
 simp only [List.isEmpty_nil, Bool.not_true, Bool.false_eq_true, ↓reduceIte, bind_assoc, List.length_nil, bne_self_eq_false]
 unfold Builtin.Frozenset.addrOf Builtin.Frozenset.sizeOf
 refine wpAny_bind (wpAny_pure ?_)
 try dsimp only
 refine wpAny_bind (wpAny_pure ?_)
 refine wpAny_bind (wpAny_bind (wpAny_setEntries_of ho rfl hf (wpAny_pure ?_)))
 refine wpAny_bind ?_
 unfold setDrawn
 refine wpAny_bind (wpAny_setState_of ho rfl hf ?_)
 dsimp only
 unfold setsByText
 refine wpAny_bind (wpAny_bind (wpAny_askSetting (wpAny_pure (wpAny_pure ?_))))
 refine wpAny_ite_split (fun z => ?_) fun _ => ?_
 ·exfalso
  rw [Bool.and_eq_true] at z
  have z' : (!true && decide (es.size > 1)) = true := z.2
  simp at z'
 ·refine wpAny_bind (wpAny_pure (wpAny_bind (wpAny_setEpoch_of ho rfl hf ?_)))
  refine wpAny_bind (wpAny_newObj_type (wpAny_pure ⟨_, rfl, "set_iterator", _, ⟨_, Heap.get?_push_size _ rfl, rfl⟩, sit_next.lookup, hQ⟩) (by size_fits))
theorem walks_set (hh : A.handled = none) (hr : riseF 0 S) (hz : es.size = S.length) (hne : a ≠ I) : Walks prog w A I [I, a] [I] es.size (fun i v => ∃ e, (walkE w a ep es)[i]? = some e ∧ v = e.2) (fun i h => SetIt h I a (slotS w S i) i es.size ep ∧ SetAt h a S (ledW w) es ep) where
 sub := fun b hb => by simp at hb; simp [hb]
 frame := fun _ _ _ st hk => ⟨hk I (by simp) _ st.1, hk a (by simp) _ st.2⟩
 item := fun i s Q E hi st hQ => by
  have h2 := (walkE_perm w a ep es).length_eq
  rw [Array.length_toList, Array.length_toList] at h2
  have he : (walkE w a ep es)[i]? = some ((walkE w a ep es)[i]'(by omega)) := Array.getElem?_eq_getElem _
  exact set_item hr hz st.2 st.1 he fun h' hit' hs' => hQ _ h' s.toks ⟨_, he, rfl⟩ ⟨hit', (hs'.2 a hne).trans st.2⟩ fun b o hb e => hs'.extBut b o (fun h => hb (by simp [h])) e
 done := fun s Q E st hQ => set_end hh hr hz st.2 st.1 fun h' he' => hQ h' s.toks fun b o hb e => he' b o (fun h => hb (by simp [h])) e
 self := fun i s Q E st hQ => by
  refine wpAny_pyIter_slot st.1.ty sit_iter (wpAny_call_entry sit_iter st.1.ty sit_iter_e ?_ (sit_iter_a _))
  show wpAny _ _ (ret (.ref I)) _ _ s
  exact wpAny_pure ⟨_, rfl, "set_iterator", _, st.1.ty, sit_next.lookup, hQ⟩
theorem set_hint (hT : s.TypeIs (.ref a) "set") {Q : Bool → Shared → Prop} (h : Q false s) : wpAny (model prog w) A (Builtin.List.listLengthHint (.ref a)) Q E s := by
 unfold Builtin.List.listLengthHint
 refine wpAny_bind (wpAny_specialOf hT PySem.F.slot_set_len.lookup ?_)
 generalize hid : ("set.__len__" : String) = id0
 wp_delta
 rw [show splitId id0 = some ("set", "__len__") from by subst hid; decide +kernel]
 subst hid
 refine wpAny_bind (wpAny_isInstance (T := "set") (b := true) hT sub_set_self ?_)
 refine wpAny_ite_split (fun hab => absurd hab (by decide)) (fun _ => ?_)
 refine wpAny_ite_split (fun _ => ?_) (fun hab => absurd (by decide +kernel) hab)
 exact wpAny_bind (wpAny_typeOf hT (wpAny_pure h))
theorem src_set (hr : riseF 0 S) (hz : es.size = S.length) : PySem.W.KdlSrc prog w "set" a a es.size (fun i v => ∃ e, (walkE w a ep es)[i]? = some e ∧ v = e.2) (fun h => SetAt h a S (ledW w) es ep) where
 type := fun _ hm => ⟨_, hm, rfl⟩
 there := fun _ hm => ⟨Heap.lt_size hm, Heap.lt_size hm⟩
 keep := fun _ _ hm hk => hk a (.inl rfl) _ hm
 notList := by decide
 notTuple := by decide
 hint := fun _ _ _ _ hm hq => set_hint ⟨_, hm, rfl⟩ hq
 iter := fun A s hh hm => ⟨_, _, (fun _ _ hq => set_iter hr hz hm hq), walks_set hh hr hz (Nat.ne_of_lt (Heap.lt_size hm)), ⟨by
  have : slotS w S 0 = 0 := by unfold slotS; split <;> rfl
  rw [this]; exact Heap.get?_push_size _ rfl, Heap.get?_push_of_some _ hm⟩⟩
end
section
variable {X : Cx}
theorem vals_ints' : ∀ {ns : List Int} {us : List Value}, Vals (ns.map V.int) us → IntsAre us ns
 | [], _, .nil => .nil
 | n :: ns, _, .cons r t => by
  obtain ⟨tk, rfl⟩ := r
  exact .cons n tk (vals_ints' t)
noncomputable def extS (w : World) (p : Addr) (S : List Nat) : HO := .ext fun h => SetS h p S (ledW w)
noncomputable def rSet (X : Cx) : List V → Hp → VK → Prop := fun xs H Q => ∃ a ns, xs = [.ref a] ∧ (SqL X.K H a (ns.map V.int) ∨ SqT X.K H a (ns.map V.int)) ∧ small ns ∧ ∀ p, H p = none → Q (.ref p) (upd H p (extS X.w p (setS ns)))
theorem call_set (hc : X.calm = true) : CallR X (.type "set") (rSet X) := by
 intro pins s σ H xs us Q I r q
 obtain ⟨a, ns, rfl, sq, sm, q⟩ := q
 obtain ⟨u, rfl, ru⟩ := vals1 r
 cases ru
 have fin : ∀ (b : Bool) (its : List Value), (if b = true then s.heap.IsTuple a its.toArray else s.heap.IsList a its.toArray) → IntsAre its ns → wpAny (model X.prog X.w) X.A (call (.type "set") [.ref a]) (EP X pins σ Q) X.xe s := fun b its hl hi => by
  refine call_setS b (I.ok.hd hc) hl (by simpa using hi) sm fun h' tk hS hk => ?_
  refine ⟨.ref s.heap.objs.size, _, I.laid (a := s.heap.objs.size) (o := extS X.w s.heap.objs.size (setS ns)) (t' := tk) (fun b o e => hk b o (Heap.lt_size e) e) (Nat.le_refl _) ?_, rfl, q _ (I.hok.fresh (Nat.le_refl _))⟩
  obtain ⟨_, es, ep, ho, _⟩ := id hS
  exact ⟨hS, ⟨_, ho⟩, fun h1 h2 x k => x.keep k⟩
 rcases sq with sq | sq
 ·obtain ⟨its, rv, pl, _⟩ := I.list sq
  exact fin false its pl.isList (vals_ints' rv)
 ·obtain ⟨its, rv, pl, _⟩ := I.tuple sq
  exact fin true its pl (vals_ints' rv)
theorem ints_perm : ∀ {vs us : List Value}, vs.Perm us → ∀ {ns : List Int}, IntsAre us ns → ∃ ms : List Int, IntsAre vs ms ∧ ms.Perm ns := by
 intro vs us p
 induction p with
 | nil => intro ns h; cases h; exact ⟨[], .nil, List.Perm.refl _⟩
 | cons x p ih =>
  intro ns h
  cases h with
  | cons n t r =>
   obtain ⟨ms, h1, h2⟩ := ih r
   exact ⟨n :: ms, .cons n t h1, h2.cons n⟩
 | swap x y l =>
  intro ns h
  cases h with
  | cons n t r =>
   cases r with
   | cons n' t' r => exact ⟨n' :: n :: _, .cons _ _ (.cons _ _ r), List.Perm.swap _ _ _⟩
 | trans p1 p2 ih1 ih2 =>
  intro ns h
  obtain ⟨ms, h1, h2⟩ := ih2 h
  obtain ⟨ks, h3, h4⟩ := ih1 h1
  exact ⟨ks, h3, h4.trans h2⟩
theorem riseF.pw : ∀ {S : List Nat} {m : Nat}, riseF m S → (S.map Int.ofNat).Pairwise (· ≤ ·)
 | [], _, _ => List.Pairwise.nil
 | k :: r, m, ⟨h1, h2, h3⟩ => by
  rw [List.map_cons]
  refine List.Pairwise.cons (fun x hx => ?_) (riseF.pw h3)
  obtain ⟨j, hj, rfl⟩ := List.mem_map.mp hx
  have := (riseF.lt h3 j hj).1
  show (k : Int) ≤ (j : Int)
  omega
noncomputable def rSortS (X : Cx) : List V → Hp → VK → Prop := fun xs H Q => ∃ p S, xs = [.ref p] ∧ H p = some (extS X.w p S) ∧ ∀ q, H q = none → Q (.ref q) (upd H q (.lst (S.map fun (k : Nat) => V.int (k : Int))))
theorem call_sortS (hc : X.calm = true) : CallR X (.builtin "sorted") (rSortS X) := by
 intro pins s σ H xs us Q I r q
 obtain ⟨p, S, rfl, hp, q⟩ := q
 obtain ⟨u, rfl, ru⟩ := vals1 r
 cases ru
 obtain ⟨⟨hr, es, ep, ho, h1, h2⟩, _, _⟩ := I.hok p _ hp
 have hz : es.size = S.length := by have := congrArg List.length h1; simpa using this
 have hz6 := hr.len (by omega)
 refine Calls.call_function_entry kind_sorted plain_sorted entry_sorted (args_sorted1 _) ?_
 unfold Builtin.«sorted»
 refine wpAny_bind (m := checkCount "sorted" 1 1 _) (wpAny_pure ?_)
 refine wpAny_bind (PySem.W.kdu_collect (A := X.A.in1) (src_set hr hz) (I.ok.hd hc) ho (by rw [hz, sizeLine_eq]; omega) fun h' tk acc hk hacc => ?_)
 have al : acc.toList.length = es.size := by rw [Array.length_toList]; exact hacc.1
 have ew : acc.toList = (walkE X.w p ep es).toList.map (·.2) := by
  have wl := (walkE_perm X.w p ep es).length_eq
  refine List.ext_getElem? fun i => ?_
  by_cases hi : i < acc.size
  ·have hi' : acc.toList[i]? = some acc[i] := by rw [Array.getElem?_toList]; exact Array.getElem?_eq_getElem hi
   obtain ⟨e, e1, e2⟩ := hacc.2 i acc[i] (Array.getElem?_eq_getElem hi)
   rw [hi', List.getElem?_map, Array.getElem?_toList, e1, e2]; rfl
  ·rw [List.getElem?_eq_none (by rw [Array.length_toList]; omega), List.getElem?_eq_none (by rw [List.length_map, wl, Array.length_toList, ← hacc.1]; omega)]
 obtain ⟨ms, m1, m2⟩ := ints_perm (show acc.toList.Perm (es.toList.map (·.2)) by rw [ew]; exact (walkE_perm X.w p ep es).map _) h2
 refine wpAny_bind (wpAny_newList ?_ (by rw [al, hz, sizeLine_eq]; omega))
 have hoL : (h'.push { cls := .type "list", data := .seq acc.toList.toArray }).get? h'.objs.size = some (seqObj "list" acc.toList.toArray 0) := Heap.get?_push_size _ rfl
 refine wpAny_bind (wpAny_holding (wpAny_call_entry slot_list_sort ⟨_, hoL, rfl⟩ entry_list_sort (list_sort_tree hoL m1 (by rw [al, hz]; omega) fun out ns' a1 a2 a3 => ⟨_, rfl, ?_⟩) (args_list_sort _)))
 have en : ns' = S.map Int.ofNat := PySem.W.ksm_same (a2.trans m2) a3 hr.pw
 subst en
 refine wpAny_pure ⟨_, rfl, ?_⟩
 obtain ⟨e, hat⟩ := sortedHeap_at (out := out) hoL
 have I' : Inv X pins σ H { s with heap := h', toks := tk } := I.kept hk
 have z : (S.map fun (k : Nat) => V.int (k : Int)).length ≤ sizeLine := by rw [List.length_map, sizeLine_eq]; omega
 refine ⟨.ref h'.objs.size, _, I'.laid (a := h'.objs.size) (o := .lst (S.map fun (k : Nat) => V.int (k : Int))) (t' := tk) (fun b o e => ?_) (Nat.le_refl _) ⟨z, out.toList, e, ?_, by rw [Array.toArray_toList]; exact hat⟩, rfl, q _ (I'.hok.fresh (Nat.le_refl _))⟩
 ·have hlt := Heap.lt_size e
  rw [sortedHeap_old (Nat.ne_of_lt hlt) (by rw [Heap.size_push]; exact Nat.lt_succ_of_lt hlt)]
  exact Heap.get?_push_of_some _ e
 ·have := vals_ints a1
  rw [List.map_map] at this
  exact this
end
noncomputable def intsD : List D → Option (List Int)
 | [] => some []
 | .int n :: r => (intsD r).map (n :: ·)
 | _ :: _ => none
noncomputable def smallB (ns : List Int) : Bool := ns.all fun n => decide (0 ≤ n) && decide (n < 6)
theorem smallB_ok {ns : List Int} (h : smallB ns = true) : small ns := fun n hn => by
 have := List.all_eq_true.mp h n hn
 simpa using this
theorem intsD_den {K : KA} {G : Hp} : ∀ {ds : List D} {ns : List Int} {vs : List V}, intsD ds = some ns → DenL K G ds vs → vs = ns.map V.int
 | [], ns, vs, h, d => by cases h; exact d
 | d :: r, ns, vs, h, ⟨v, vr, e1, e2, e3⟩ => by
  cases d with
  | int n =>
   unfold intsD at h
   cases hr : intsD r with
   | none => rw [hr] at h; cases h
   | some ms =>
    rw [hr] at h
    cases h
    rw [e1, intsD_den hr e3, show v = .int n from e2]; rfl
  | _ => cases h
noncomputable def setOf : D → Option (List Nat)
 | .lst ds => (intsD ds).bind fun ns => if smallB ns then some (setS ns) else none
 | .tup ds => (intsD ds).bind fun ns => if smallB ns then some (setS ns) else none
 | _ => none
noncomputable def ai (S : List Nat) : List D := S.map fun (k : Nat) => .int (k : Int)
noncomputable def fc (d : D) : Option D := (setOf d).map fun S => .lst (ai S)
theorem denL_nats {K : KA} {G : Hp} : ∀ S : List Nat, DenL K G (ai S) (S.map fun (k : Nat) => V.int (k : Int))
 | [] => rfl
 | k :: S => ⟨.int k, _, rfl, rfl, denL_nats S⟩
section
variable {X : Cx} {B : Hp} {E : EK} {e : Expr} {g : En → Res} {pos p pos' p' : Pos}
theorem setOf_arg {K : KA} {G H : Hp} {d : D} {v : V} {S : List Nat} (sg : Same G H) (ax : Arg K G H d v) (h : setOf d = some S) : ∃ a ns, v = .ref a ∧ (SqL K H a (ns.map V.int) ∨ SqT K H a (ns.map V.int)) ∧ small ns ∧ setS ns = S := by
 have key : ∀ {ds : List D} {vs : List V}, ((intsD ds).bind fun ns => if smallB ns then some (setS ns) else none) = some S → DenL K G ds vs → ∃ ns, vs = ns.map V.int ∧ small ns ∧ setS ns = S := fun {ds vs} h dl => by
  cases hi : intsD ds with
  | none => rw [hi] at h; cases h
  | some ns =>
   rw [hi] at h
   have h' : (if smallB ns then some (setS ns) else none) = some S := h
   by_cases hb : smallB ns = true
   ·rw [if_pos hb] at h'
    cases h'
    exact ⟨ns, intsD_den hi dl, smallB_ok hb, rfl⟩
   ·rw [if_neg hb] at h'; cases h'
 cases d with
 | lst ds =>
  obtain ⟨a, vs, rfl, sq, dl⟩ := ax.lst sg
  obtain ⟨ns, rfl, q1, q2⟩ := key h dl
  exact ⟨a, ns, rfl, .inl sq, q1, q2⟩
 | tup ds =>
  obtain ⟨a, vs, rfl, sq, dl⟩ := ax.tup sg
  obtain ⟨ns, rfl, q1, q2⟩ := key h dl
  exact ⟨a, ns, rfl, .inr sq, q1, q2⟩
 | _ => cases h
theorem pu_sortS (hc : X.calm = true) (hg : Gl X "sorted") (hm : X.mg "sorted" = none) (hg' : Gl X "set") (hm' : X.mg "set" = none) (ha : ArE X B E e g) (he : starEach [e] X.env = (false, eval e X.env) :: starEach [] X.env) :
  PuE X B E (.Call (.Name "sorted" p) [.Call (.Name "set" p') [e] [] pos'] [] pos) (g1 fc g) :=
 PE.imp (pe_callB (call_sortS hc) hg hm PyProof.Rows.boot_sorted (pa_cons (pe_callTy (call_set hc) hg' hm' PyProof.Rows.boot_set (gd ha al_nil he) (by decide) (by decide) he rfl) pa_nil rfl) (by decide) (by decide) rfl rfl) fun σ H Q q =>
  cb1 (rr := fun xs H Q => rSet X xs H fun x H1 => rSortS X [x] H1 Q) (fun G H x dx d sg ax ed Q q => by
   unfold fc at ed
   cases hs : setOf dx with
   | none => rw [hs] at ed; cases ed
   | some S =>
    rw [hs] at ed
    cases ed
    obtain ⟨a, ns, rfl, sq, sm, es⟩ := setOf_arg sg ax hs
    refine ⟨a, ns, rfl, sq, sm, fun p hp => ⟨p, S, rfl, by rw [es]; exact bg, fun q' hq' => ?_⟩⟩
    have x1 := Ext.own sg (extS X.w p (setS ns)) hp
    exact q _ _ _ (x1.trans (Ext.new x1.gh (.lst (S.map fun (k : Nat) => V.int (k : Int))) hq')) (den_newL x1.gh hq' (denL_nats S))) q
end
section
variable {prog : Program} {w : World} {A : Around} {E : Value → Shared → Prop} {s : Shared} {r : Addr} {a b c : Int} {t u v : Tok} {n : Nat}
theorem collect_range {R : List Value → Shared → Prop} (hh : A.handled = none) (hr : IsRange s.heap r a b c t u v) (hsmall : Builtin.Range.small a b c = true) (hn : Builtin.Range.rangeSize a b c = n) (hlen : n ≤ 2 ^ 24)
  (h : ∀ (h' : Heap) (tk : Nat) (acc : Array Value), (∀ b o, s.heap.get? b = some o → h'.get? b = some o) → ItemsOf (fun i v => ∃ t, v = .int (a + i * c) t) acc n → R acc.toList { s with heap := h', toks := tk }) :
  wpAny (model prog w) A (collect (.ref r)) R E s := by
 unfold collect
 refine wpAny_bind (wpAny_runValue (codeAny_builtin F.entry_proto_collect ?_))
 rw [Around.under_plainId PySem.F.plain_proto_collect _]
 show wpAny _ A.in1 (newList [] >>= fun l => again (.builtin "list.__iadd__" ⟨[l, .ref r], []⟩)) _ _ s
 refine wpAny_bind (wpAny_newObj_type ?_)
 refine wpAny_pure ⟨plainId_quiet PySem.F.plain_list_iadd _, codeAny_builtin F.entry_list_iadd ?_⟩
 rw [Around.under_plainId PySem.F.plain_list_iadd _]
 have hS₁ : (s.heap.push { cls := .type "list", data := .seq ([] : List Value).toArray }).get? s.heap.objs.size = some { cls := .type "list", data := .seq #[] } := Heap.get?_push_size _ rfl
 show wpAny _ A.in1 (Builtin.List.listExtendWith (.ref s.heap.objs.size) (.ref r) (.ref s.heap.objs.size)) _ _ _
 have key := wpAny_extend_range (A := A) (prog := prog) (w := w) (s := { s with heap := s.heap.push { cls := .type "list", data := .seq ([] : List Value).toArray } })
  (R := fun (q : Result) (s' : Shared) => ∃ (h' : Heap) (tk : Nat) (acc' : Array Value) (c' : Nat), q = .ok (.ret (.ref s.heap.objs.size)) ∧ s' = { s with heap := h', toks := tk } ∧
   (∀ b o, s.heap.get? b = some o → h'.get? b = some o) ∧ h'.get? s.heap.objs.size = some { cls := .type "list", dict := none, data := .seq acc' c', slots := #[] } ∧ ItemsOf (fun i v => ∃ t, v = .int (a + i * c) t) acc' n)
  hh (Heap.get?_push_of_some _ hr) hsmall hn hlen s.heap.objs.size (.ref s.heap.objs.size) 0 hS₁
  (fun h' tk acc' c' hk hS' hacc => ⟨h', tk, acc', c', rfl, rfl, fun b o e => hk b o (Nat.ne_of_lt (Heap.lt_size e)) (Heap.get?_push_of_some _ e), hS', hacc⟩)
 refine wpAny_mono key (fun fin s' x => ?_) fun e s' x => ?_
 ·cases fin with
  | done f =>
   obtain ⟨h', tk, acc', c', e, rfl, hk, hS', hacc⟩ := x
   cases e
   show wpAny _ A (load s.heap.objs.size >>= _) _ _ _
   refine wpAny_bind (wpAny_load hS' ?_)
   exact wpAny_pure (h h' tk acc' hk hacc)
  | again c₁ =>
   refine ⟨x.1, codeAny_mono x.2 fun q s₂ y => ?_⟩
   obtain ⟨h', tk, acc', c', rfl, rfl, hk, hS', hacc⟩ := y
   show wpAny _ A (load s.heap.objs.size >>= _) _ _ _
   refine wpAny_bind (wpAny_load hS' ?_)
   exact wpAny_pure (h h' tk acc' hk hacc)
 ·obtain ⟨_, _, _, _, e', _⟩ := x
  cases e'
theorem call_tuple_range {Q : Value → Shared → Prop} (hh : A.handled = none) (hr : IsRange s.heap r a b c t u v) (hsmall : Builtin.Range.small a b c = true) (hn : Builtin.Range.rangeSize a b c = n) (hlen : n ≤ 2 ^ 24)
  (h : ∀ (h' : Heap) (tk : Nat) (acc : Array Value), (∀ b o, s.heap.get? b = some o → h'.get? b = some o) → ItemsOf (fun i v => ∃ t, v = .int (a + i * c) t) acc n → Q (.ref h'.objs.size) { s with heap := h'.push { cls := .type "tuple", data := .seq acc }, toks := tk }) :
  wpAny (model prog w) A (call (.type "tuple") [.ref r]) Q E s := by
 refine callType_codes (Q₁ := fun obj s₁ => s₁.TypeIs obj "tuple" ∧ Q obj s₁) F.called_tuple (F.typeCall_tuple_1 _) F.entry_object_init ?_ fun obj s₁ h₁ => ?_
 ·refine codeAny_of_tree ?_
  show wpAny _ A.in1.in1 (do checkBuiltinCall "tuple.__new__" ⟨[.type "tuple", .ref r], []⟩; again (.builtin "tuple.__new__" ⟨[.type "tuple", .ref r], []⟩)) _ _ s
  refine wpAny_bind (wpAny_of_eq (F.newCall_tuple_1 _) (wpAny_pure ⟨plainId_quiet F.plain_tuple_new _, codeAny_builtin F.entry_tuple_new ?_⟩))
  rw [Around.under_plainId F.plain_tuple_new _]
  have hsub := sub_tuple_self
  have hinit := init_tuple_lookup
  have hmh := madeHere_tuple
  have hTI : s.TypeIs (.ref r) "range" := ⟨_, hr, rfl⟩
  wp_walk using wpAny_typeOf hTI, collect_range (A := A.in1.in1) (n := n) (show A.in1.in1.handled = none from hh) hr hsmall hn hlen
  intro h' tk acc hk hacc
  show wpAny _ _ (Builtin.Tuple.tupleExact acc.toList.toArray >>= fun v => ret v) _ _ _
  unfold Builtin.Tuple.tupleExact
  refine wpAny_bind (wpAny_newObj_type ?_ (by show acc.toList.toArray.size ≤ sizeLine; simp only [Array.toArray_toList]; rw [hacc.1, sizeLine_eq]; omega))
  refine wpAny_pure ?_
  have e : acc.toList.toArray = acc := by simp
  rw [e]
  exact ⟨⟨_, Heap.get?_push_size _ rfl, rfl⟩, h h' tk acc hk hacc⟩
 ·exact ⟨h₁.1, F.args_object_init_2 obj _, object_init_meets F.called_tuple.init.lookup F.called_tuple.made (by decide) prog w A.in1 _ s₁ ⟨h₁.1, rfl, h₁.2⟩⟩
end
section
variable {X : Cx}
noncomputable def rRng : List V → Hp → VK → Prop := fun xs H Q => ∃ i, xs = [.int i] ∧ ∀ p, H p = none → Q (.ref p) (upd H p (.rng 0 i))
theorem call_rng : CallR X (.type "range") rRng := by
 intro pins s σ H xs us Q I r q
 obtain ⟨i, rfl, q⟩ := q
 obtain ⟨u, rfl, ru⟩ := vals1 r
 obtain ⟨t, rfl⟩ := ru
 refine call_range_1 ⟨.ref s.heap.objs.size, _, I.laid (a := s.heap.objs.size) (o := .rng 0 i) (fun b o e => Heap.get?_push_of_some _ e) (Nat.le_refl _) ⟨_, _, _, Heap.get?_push_size _ rfl⟩, rfl, q _ (I.hok.fresh (Nat.le_refl _))⟩
noncomputable def rTupR : List V → Hp → VK → Prop := fun xs H Q => ∃ p n, xs = [.ref p] ∧ H p = some (.rng 0 n) ∧ 0 ≤ n ∧ n ≤ 1000 ∧ ∀ q, H q = none → Q (.ref q) (upd H q (.tup ((List.range n.toNat).map fun (k : Nat) => V.int (k : Int))))
theorem vals_items : ∀ {m k : Nat} {l : List Value}, l.length = m → (∀ (i : Nat) (v : Value), l[i]? = some v → ∃ t, v = .int ((k : Int) + (i : Int)) t) → Vals ((List.range' k m).map fun (k : Nat) => V.int (k : Int)) l
 | 0, k, l, h, _ => by cases l with
  | nil => exact .nil
  | cons => cases h
 | m + 1, k, l, h, hv => by cases l with
  | nil => cases h
  | cons x l =>
   obtain ⟨t, e⟩ := hv 0 x rfl
   refine .cons ⟨t, by rw [e]; simp⟩ (vals_items (k := k + 1) (by simpa using h) fun i v q => ?_)
   obtain ⟨t', e'⟩ := hv (i + 1) v q
   exact ⟨t', by rw [e']; congr 1; push_cast; omega⟩
theorem call_tupR (hc : X.calm = true) : CallR X (.type "tuple") rTupR := by
 intro pins s σ H xs us Q I r q
 obtain ⟨p, n, rfl, hp, n0, n1, q⟩ := q
 obtain ⟨u, rfl, ru⟩ := vals1 r
 cases ru
 obtain ⟨t, u, v, ho⟩ := I.hok p _ hp
 refine call_tuple_range (n := n.toNat) (I.ok.hd hc) ho (small_one (by omega) (by omega) (by omega) (by omega)) (by rw [rangeSize_nat]; simp) (by omega) fun h' tk acc hk hacc => ?_
 have I' : Inv X pins σ H { s with heap := h', toks := tk } := I.kept hk
 refine ⟨.ref h'.objs.size, _, I'.laid (a := h'.objs.size) (o := .tup ((List.range n.toNat).map fun (k : Nat) => V.int (k : Int))) (t' := tk) (fun b o e => Heap.get?_push_of_some _ e) (Nat.le_refl _) ⟨?_, acc.toList, ?_, ?_⟩, rfl, q _ (I'.hok.fresh (Nat.le_refl _))⟩
 ·rw [List.length_map, List.length_range, sizeLine_eq]; omega
 ·rw [List.range_eq_range']
  refine vals_items (by rw [Array.length_toList]; exact hacc.1) fun i v q => ?_
  rw [Array.getElem?_toList] at q
  obtain ⟨t, e⟩ := hacc.2 i v q
  exact ⟨t, by rw [e]; congr 1; omega⟩
 ·rw [Array.toArray_toList]; exact IsTup.new _ _
end
noncomputable def pyTupRange : D → Option D
 | .int n => if 0 ≤ n ∧ n ≤ 1000 then some (.tup (ai (List.range n.toNat))) else none
 | _ => none
section
variable {X : Cx} {B : Hp} {E : EK} {e : Expr} {g : En → Res} {pos p pos' p' : Pos}
theorem pu_tupR (hc : X.calm = true) (hg : Gl X "tuple") (hm : X.mg "tuple" = none) (hg' : Gl X "range") (hm' : X.mg "range" = none) (ha : ArE X B E e g) (he : starEach [e] X.env = (false, eval e X.env) :: starEach [] X.env) :
  PuE X B E (.Call (.Name "tuple" p) [.Call (.Name "range" p') [e] [] pos'] [] pos) (g1 pyTupRange g) :=
 PE.imp (pe_callTy (call_tupR hc) hg hm PyProof.Rows.boot_tuple (pa_cons (pe_callTy call_rng hg' hm' PyProof.Rows.boot_range (gd ha al_nil he) (by decide) (by decide) he rfl) pa_nil rfl) (by decide) (by decide) rfl rfl) fun σ H Q q =>
  cb1 (rr := fun xs H Q => rRng xs H fun x H1 => rTupR [x] H1 Q) (fun G H x dx d sg ax ed Q q => by
   unfold pyTupRange at ed
   split at ed
   ·rename_i n
    split at ed
    ·rename_i hn
     cases ed
     have ex : x = .int n := ax.int
     subst ex
     refine ⟨n, rfl, fun p hp => ⟨p, n, rfl, bg, hn.1, hn.2, fun q' hq' => ?_⟩⟩
     have x1 := Ext.own sg (.rng 0 n) hp
     exact q _ _ _ (x1.trans (Ext.new x1.gh (.tup ((List.range n.toNat).map fun (k : Nat) => V.int (k : Int))) hq')) (den_newT x1.gh hq' (denL_nats _))
    ·cases ed
   ·cases ed) q
end
noncomputable def Ite (K : PySem.W.Frag) (a : Addr) : It :=
 ⟨fun i H => ∃ xs x, SqL K H a xs ∧ xs[i]? = some x, fun i H v H' => ∃ p x, H p = none ∧ v = .ref p ∧ H' = upd H p (.tup [.int (i : Int), x]) ∧ ∀ xs, SqL K H a xs → xs[i]? = some x, fun i H => ∃ xs, SqL K H a xs ∧ xs.length ≤ i⟩
noncomputable def tnE (e it a : Addr) (i : Nat) (h : Heap) : Prop := (∃ old, IsEnum h e it (i : Int) old) ∧ h.IsListIter it a i
theorem turn_enum {P : Program} {w : World} {K : PySem.W.Frag} {tes : List Expr} {k1} {tp : Pos} (a e it : Addr) (hne : e ≠ it) : Turn P w K (.Tuple tes k1 tp) (Ite K a) [e, it] e (tnE e it a) where
 mem := by simp
 obj := fun i h st b hb => by
  obtain ⟨⟨old, he⟩, o, ho, hc, hd⟩ := st
  rcases List.mem_cons.mp hb with rfl | hb
  ·exact ⟨_, he, fun v z => by
    have z' : Data.fields _ = Data.cell v := z
    cases z'⟩
  ·have e : b = it := by simpa using hb
   subst e
   exact ⟨o, ho, fun v z => by rw [hd] at z; cases z⟩
 keep := fun i h h' st k => ⟨let ⟨old, he⟩ := st.1; ⟨old, k e (by simp) _ he⟩, st.2.at fun o q => k it (by simp) o q⟩
 item := by
  intro X hP hw hK hc i pins s σ H E I hf st hg
  subst hP hw hK
  obtain ⟨xs, x, hq, hx⟩ := hg
  obtain ⟨its, rv, p, hz⟩ := I.list hq
  obtain ⟨u, hu, ru⟩ := rv.get hx
  obtain ⟨⟨old, he⟩, hit⟩ := st
  obtain ⟨f0, f1, f2, f3, f4, f5⟩ := hf e (by simp)
  obtain ⟨g0, g1, g2, g3, g4, g5⟩ := hf it (by simp)
  have fresh : H s.heap.objs.size = none := I.hok.fresh (Nat.le_refl _)
  have elt : e < s.heap.objs.size := Heap.lt_size he
  refine wpAny_pyNext_enum_item he hit p.isList (x := u) (by simpa using hu) hne fun h1 he1 hit1 ht1 hz1 hk1 => ?_
  refine ⟨_, rfl, wpAny_letOwnedTupleGo_enum he1 fun h2 he2 sb => ?_⟩
  have sb' : Heap.SameBut e h1 h2 := sb
  have k2 : ∀ b o, b ≠ e → b ≠ it → s.heap.get? b = some o → h2.get? b = some o := fun b o h1' h2' q => sb'.extBut b o h1' (hk1 b o h1' h2' q)
  have t2 : h2.get? s.heap.objs.size = some { cls := .type "tuple", data := .seq #[.int (i : Int) s.toks, u] } := sb'.extBut _ _ (Nat.ne_of_gt elt) ht1
  have old' : ∀ {b : Addr} {o : HO}, H b = some o → b ≠ s.heap.objs.size ∧ b ≠ e ∧ b ≠ it := fun {b o} q => ⟨am q fresh, am q f0, am q g0⟩
  have ch : ∀ b, b ∉ [e, it] → b ≠ e ∧ b ≠ it := fun b hb => by simpa using hb
  have I2 : Inv X pins σ (upd H s.heap.objs.size (.tup [.int (i : Int), x])) { s with heap := h2, toks := s.toks + 1 } := by
   refine I.step (g' := s.gens) (d' := s.drawn) (ch := [e, it]) (fun b hb => ?_) (fun b o _ _ hc q _ => k2 b o (ch b hc).1 (ch b hc).2 q) (fun b o _ _ hc q _ => ⟨o.slots, k2 b o (ch b hc).1 (ch b hc).2 q⟩) (fun b o _ q n => ?_) (fun b o hc q => ⟨o, k2 b o (ch b hc).1 (ch b hc).2 q⟩)
    (fun b ys q => by rw [ak (old' q).1]; exact q) (fun b o v q => by rw [ak (old' q).1]; exact q) (fun b y q => by rw [ak (old' q).1]; exact q) (fun m hm => ?_) (fun b v q => ?_) I.bare
   ·rcases List.mem_cons.mp hb with rfl | hb
    ·exact ⟨f3, f1, f4, f5⟩
    ·have z : b = it := by simpa using hb
     subst z
     exact ⟨g3, g1, g4, g5⟩
   ·rw [ak (Nat.ne_of_lt (Heap.lt_size q))]; exact n
   ·obtain ⟨o, es, ep, ho, r⟩ := hm
    exact ⟨o, es, ep, k2 _ o (Ne.symm f1) (Ne.symm g1) ho, r⟩
   ·by_cases hb : b = s.heap.objs.size
    ·subst hb
     rw [bg] at q; cases q
     exact ⟨by rw [sizeLine_eq]; simp, [.int (i : Int) s.toks, u], .cons ⟨_, rfl⟩ (.cons ru .nil), _, t2, rfl, 0, rfl⟩
    ·rw [ak hb] at q
     refine (I.hok b v q).stay (fun b' v' hb' r => k2 b' v' ?_ ?_ r) (fun b' z => by rw [ak (old' z).1]; exact z) (fun b' ys z => by rw [ak (old' z).1]; exact z) fun b' o' u' z => by rw [ak (old' z).1]; exact z
     ·rcases hb' with z | z
      ·rw [z]; exact (old' q).2.1
      ·exact (old' z).2.1
     ·rcases hb' with z | z
      ·rw [z]; exact (old' q).2.2
      ·exact (old' z).2.2
  refine ⟨.ref s.heap.objs.size, _, I2, rfl, ⟨_, x, fresh, rfl, rfl, fun ys hy => by rw [I.list_inj hy hq]; exact hx⟩, ⟨⟨u, ?_⟩, ?_⟩, fun b hb => ?_⟩
  ·have : ((i + 1 : Nat) : Int) = (i : Int) + 1 := by push_cast; rfl
   rw [this]; exact he2
  ·exact hit1.at fun o q => sb'.extBut it o (Ne.symm hne) q
  ·have z := (hf b hb).1
   have : b < s.heap.objs.size := by
    rcases List.mem_cons.mp hb with rfl | hb
    ·exact elt
    ·have z : b = it := by simpa using hb
     subst z
     obtain ⟨o, ho, _⟩ := hit
     exact Heap.lt_size ho
   rw [ak (Nat.ne_of_lt this)]; exact z
 done := by
  intro X hP hw hK hc i pins s σ H E I hf st hg
  subst hP hw hK
  obtain ⟨xs, hq, hx⟩ := hg
  obtain ⟨its, rv, p, hz⟩ := I.list hq
  obtain ⟨⟨old, he⟩, hit⟩ := st
  obtain ⟨g0, g1, g2, g3, g4, g5⟩ := hf it (by simp)
  have hl := rv.length
  exact wpAny_pyNext_enum_end (I.ok.hd hc) he hit p.isList (by simp; omega) fun h' eb => ⟨rfl, I.turned (t' := s.toks) (fun b o hb e => eb b o hb e) g0 g1 g3 g4 g5⟩
 self := fun _ _ _ _ _ st h => let ⟨_, he⟩ := st.1; wpAny_pyIter_enum he h
noncomputable def enumD : Nat → List D → List D
 | _, [] => []
 | i, d :: r => .tup [.int (i : Int), d] :: enumD (i + 1) r
theorem enumD_len : ∀ (i : Nat) (ds : List D), (enumD i ds).length = ds.length
 | _, [] => rfl
 | i, d :: r => by rw [enumD, List.length_cons, List.length_cons, enumD_len]
theorem enumD_get : ∀ (i j : Nat) (ds : List D), (enumD i ds)[j]? = (ds[j]?).map fun d => .tup [.int ((i + j : Nat) : Int), d]
 | _, _, [] => by simp [enumD]
 | i, 0, d :: r => by simp [enumD]
 | i, j + 1, d :: r => by
  rw [enumD, List.getElem?_cons_succ, List.getElem?_cons_succ, enumD_get (i + 1) j r]
  rw [show i + 1 + j = i + (j + 1) by omega]
noncomputable def gEnum (g : En → Res) : En → ResL := fun δ => match g δ with
 | .ok (.lst ds) => .ok (enumD 0 ds)
 | .er c => .er c
 | _ => .st
section
variable {X : Cx} {B : Hp} {E : EK} {e : Expr} {g : En → Res} {pos p tp : Pos} {tes : List Expr} {k1 : Nat}
theorem enumP {G H : Hp} {δ : En} {P : List D → Prop} (q : ResLP E G H (gEnum g δ) P) : ResP E G H (g δ) fun d => ∃ ds, d = .lst ds ∧ P (enumD 0 ds) := by
 unfold gEnum at q
 cases e : g δ with
 | ok d =>
  rw [e] at q
  cases d with
  | lst ds => exact ⟨ds, rfl, q⟩
  | _ => exact q.elim
 | er c => rw [e] at q; exact q
 | st => rw [e] at q; exact q
theorem ite_ok {K : KA} {a : Addr} {G1 : Hp} {ds : List D} {vs : List V} {S : Hp → Hp → Prop} (h : ∀ G H, S G H → Same G H → SqL K H a vs ∧ Same G1 G) (dl : DenL K G1 ds vs) : ItOk K (Ite K a) (enumD 0 ds) S := fun i G H hS sg => by
 obtain ⟨q, g⟩ := h G H hS sg
 refine ⟨fun d ed => ?_, fun hl => ⟨vs, q, by rw [enumD_len] at hl; rw [← dl.length]; exact hl⟩⟩
 rw [enumD_get, Nat.zero_add] at ed
 cases e0 : ds[i]? with
 | none => rw [e0] at ed; cases ed
 | some d0 =>
  rw [e0] at ed
  cases ed
  obtain ⟨v, ev, dv⟩ := dl.get e0
  refine ⟨⟨vs, v, q, ev⟩, fun x H' ⟨p, y, hp, e1, e2, e3⟩ => ?_⟩
  subst e1 e2
  have z := e3 vs q
  rw [ev] at z
  cases z
  exact ⟨_, Ext.new sg (.tup [.int (i : Int), v]) hp, den_newT sg hp (DenL.append (DenL.one (d := .int (i : Int)) rfl) (DenL.one (dv.mono g)))⟩
theorem pi_enum (hg : Gl X "enumerate") (hm : X.mg "enumerate" = none) (h : BoE X B E e g) (he : starEach [e] X.env = (false, eval e X.env) :: starEach [] X.env) :
  PuI X B E (.Tuple tes k1 tp) (.Call (.Name "enumerate" p) [e] [] pos) (gEnum g) := by
 intro pins s σ H R I ⟨G, δ, Rr, q⟩
 have ha : PA X [e] (tCons (tBo (kx X) B E g) tNil) := pa_cons h pa_nil he
 refine Call_ (ld_blt I hg hm (by decide +kernel : bootBuiltins "enumerate" = some (.type "enumerate")) (PyProof.Rows.callWith_type1 (thn (ha pos pins s σ H (fun vs H1 => ∃ a, vs = [.ref a] ∧ (∃ xs, SqL X.K H1 a xs) ∧ R (Ite X.K a) H1) I ⟨G, δ, Rr, (enumP q).mono fun d _ ⟨ds, ed, q⟩ v G1 H1 e1 ax => ?_⟩) fun us s1 ⟨vs, H1, I1, r1, a, e1, ⟨xs, hq⟩, q1⟩ => ?_) he rfl))
 ·subst ed
  have bh : Same B H1 := Rr.bh.trans e1.hh
  rcases ax with ⟨a, vs, rfl, s, dl⟩ | ⟨ds2, a, vs, z, rfl, s, dl⟩ | ⟨t, kvs, a, z, _⟩
  ·exact ⟨a, rfl, ⟨vs, SqL.mono e1.gh s⟩, q _ G1 H1 e1 (ite_ok (fun G2 H2 ⟨x1, x2⟩ sg => ⟨SqL.mono (x1.trans sg) s, x1⟩) dl)⟩
  ·cases z
   exact ⟨a, rfl, ⟨vs, SqL.mono bh s⟩, q _ G1 H1 e1 (ite_ok (fun G2 H2 ⟨x1, x2⟩ sg => ⟨SqL.mono x2 s, x1⟩) dl)⟩
  ·cases z
 ·subst e1
  obtain ⟨u, rfl, ru⟩ := vals1 r1
  cases ru
  obtain ⟨its, rv, pl, _⟩ := I1.list hq
  refine call_enumerate_list pl.isList fun h' he' hi' hz' hk' => ?_
  refine wpAny_pyIter_enum he' ⟨s1.heap.objs.size + 1, [s1.heap.objs.size + 1, s1.heap.objs.size], _, _, H1, rfl, I1.kept (t' := s1.toks) hk', turn_enum a _ _ (Nat.succ_ne_self _), ⟨⟨_, he'⟩, hi'⟩, fun b hb => ?_, q1⟩
  rcases List.mem_cons.mp hb with rfl | hb
  ·exact I1.fpOk (Nat.le_succ _) (I1.hok.fresh (Nat.le_succ _))
  ·have z : b = s1.heap.objs.size := by simpa using hb
   subst z
   exact I1.fpOk (Nat.le_refl _) (I1.hok.fresh (Nat.le_refl _))
end
end Pu
end
section
namespace Pu
open PySem PySem.Spec PyProof.Rows L2 PySem.SeqAt
noncomputable def LtAt (A : Around) (s : Shared) (y x : Value) (b : Bool) : Prop :=
 ∀ (prog : Program) (w : World) (E : Value → Shared → Prop) (Q : Value → Shared → Prop), Q (.bool b) s → wpAny (model prog w) A (richCompare .Lt y x) Q E s
noncomputable def lexF (e c : Nat → Bool) (fin : Bool) : List Nat → Bool
 | [] => fin
 | i :: r => if e i then lexF e c fin r else c i
theorem tup_lt (l m : Addr) (xs ys : Array Value) (n k : Nat) (dd dm : Option Addr) (sl sm : Array (Option Value)) (e c : Nat → Bool) :
  Meets (Builtin.«tuple.__lt__» ⟨[.ref l, .ref m], []⟩) (fun A R s =>
   s.heap.get? l = some { cls := .type "tuple", dict := dd, data := .seq xs n, slots := sl } ∧
   s.heap.get? m = some { cls := .type "tuple", dict := dm, data := .seq ys k, slots := sm } ∧
   (∀ j (p : j < xs.size) (q : j < ys.size), EqAt A.in1 s xs[j] ys[j] (e j) ∧ (e j = false → LtAt A.in1 s xs[j] ys[j] (c j))) ∧
   R (.ok (.ret (.bool (lexF e c (decide (xs.size < ys.size)) (List.range (min xs.size ys.size)))))) s) :=
 .of_wp fun prog w A R s h => by
  obtain ⟨hp, g, d, tk, os⟩ := s
  obtain ⟨hl, hm, he, h⟩ := h
  have f2 := AutoSeq1.sub_tuple_tuple
  have hZ : (xs.toList.zip ys.toList).length = min xs.size ys.size := by simp
  wp_walk using wpAny_loadPart' hl, wpAny_loadPart' hm, wpAny_forIn_list _ (fun rest b s' => b.1 = none ∧ s' = ⟨hp, g, d, tk, os⟩ ∧ ∃ i,
   rest = (xs.toList.zip ys.toList).drop i ∧ R (.ok (.ret (.bool (lexF e c (decide (xs.size < ys.size)) ((List.range (min xs.size ys.size)).drop i))))) ⟨hp, g, d, tk, os⟩) _
  case turn =>
   rintro ⟨y, x⟩ rest b s' ⟨hb', rfl, i, hz, hR⟩
   have lt0 : i < (xs.toList.zip ys.toList).length := by
    by_cases z : i < (xs.toList.zip ys.toList).length
    ·exact z
    ·rw [List.drop_of_length_le (Nat.le_of_not_lt z)] at hz; cases hz
   have lt1 : i < min xs.size ys.size := by rw [← hZ]; exact lt0
   have p : i < xs.size := by omega
   have q : i < ys.size := by omega
   rw [List.drop_eq_getElem_cons lt0] at hz
   injection hz with hyx hrest
   obtain rfl : y = xs[i] := by simpa using congrArg Prod.fst hyx
   obtain rfl : x = ys[i] := by simpa using congrArg Prod.snd hyx
   have hd : (List.range (min xs.size ys.size)).drop i = i :: (List.range (min xs.size ys.size)).drop (i + 1) := by simp [List.drop_eq_getElem_cons, lt1]
   rw [hd] at hR
   refine wpAny_bind ((he i p q).1 prog w _ _ ?_)
   cases hy : e i with
   | true =>
    simp only [lexF, hy, if_true] at hR
    wp_walk
    exact ⟨rfl, rfl, i + 1, hrest, hR⟩
   | false =>
    simp only [lexF, hy, Bool.false_eq_true, if_false] at hR
    rw [if_pos (show (!false) = true from rfl)]
    refine wpAny_bind (wpAny_rule (wpAny_bind ((he i p q).2 hy prog w _ _ ?_)))
    wp_walk
    exact ⟨_, rfl, hR⟩
  case fin =>
   rintro ⟨b1, b2⟩ s' ⟨hb', rfl, i, hz, hR⟩
   simp only at hb'
   subst hb'
   have ge0 : min xs.size ys.size ≤ i := by
    by_cases z : i < (xs.toList.zip ys.toList).length
    ·rw [List.drop_eq_getElem_cons z] at hz; cases hz
    ·omega
   rw [List.drop_of_length_le (by simpa using ge0)] at hR
   wp_walk
   exact ⟨_, rfl, by simpa [Builtin.Tuple.tupleCompareSizes, lexF] using hR⟩
  case h => exact ⟨rfl, rfl, 0, rfl, by simpa using h⟩
mutual
noncomputable def ltv : PyData → PyData → Option Bool
 | .int i, .int j => some (decide (i < j))
 | .str x, .str y => some (decide (x.cps.toList < y.cps.toList))
 | .tuple xs, .tuple ys => fb xs ys
 | _, _ => none
noncomputable def fb : List PyData → List PyData → Option Bool
 | [], [] => some false
 | [], _ :: _ => some true
 | _ :: _, [] => some false
 | x :: xs, y :: ys => match ltv x y, fb xs ys with
  | some a, some b => some (if PyData.eqv x y then b else a)
  | _, _ => none
end
noncomputable def pairLt (xs ys : List PyData) (j : Nat) : Bool := match xs[j]?, ys[j]? with
 | some x, some y => (ltv x y).getD false
 | _, _ => false
theorem ltvAll_cons {x y : PyData} {xs ys : List PyData} {c : Bool} (h : fb (x :: xs) (y :: ys) = some c) : ∃ a b, ltv x y = some a ∧ fb xs ys = some b ∧ c = if PyData.eqv x y then b else a := by
 rw [fb] at h
 cases h1 : ltv x y with
 | none => rw [h1] at h; cases h
 | some a =>
  cases h2 : fb xs ys with
  | none => rw [h1, h2] at h; cases h
  | some b => rw [h1, h2] at h; cases h; exact ⟨a, b, rfl, rfl, rfl⟩
theorem lexF_shift {e c : Nat → Bool} {fin : Bool} : ∀ l : List Nat, lexF e c fin (l.map (· + 1)) = lexF (fun j => e (j + 1)) (fun j => c (j + 1)) fin l
 | [] => rfl
 | i :: r => by
  rw [List.map_cons]
  unfold lexF
  rw [lexF_shift r]
theorem lexF_eq : ∀ {xs ys : List PyData} {c : Bool}, fb xs ys = some c → lexF (pairEq xs ys) (pairLt xs ys) (decide (xs.length < ys.length)) (List.range (min xs.length ys.length)) = c
 | [], [], c, h => by cases h; rfl
 | [], _ :: _, c, h => by cases h; simp [lexF]
 | _ :: _, [], c, h => by cases h; simp [lexF]
 | x :: xs, y :: ys, c, h => by
  obtain ⟨a, b, h1, h2, rfl⟩ := ltvAll_cons h
  have e : min (x :: xs).length (y :: ys).length = min xs.length ys.length + 1 := by simp
  have ih := lexF_eq h2
  rw [e, List.range_succ_eq_map]
  unfold lexF
  have e0 : pairEq (x :: xs) (y :: ys) 0 = PyData.eqv x y := rfl
  have c0 : pairLt (x :: xs) (y :: ys) 0 = a := by simp [pairLt, h1]
  rw [e0, c0, show (Nat.succ : Nat → Nat) = (· + 1) from rfl, lexF_shift]
  have d : (decide ((x :: xs).length < (y :: ys).length)) = decide (xs.length < ys.length) := by simp
  rw [d]
  have e1 : (fun j => pairEq (x :: xs) (y :: ys) (j + 1)) = pairEq xs ys := rfl
  have c1 : (fun j => pairLt (x :: xs) (y :: ys) (j + 1)) = pairLt xs ys := rfl
  rw [e1, c1, ih]
mutual
theorem ltAt_reads : ∀ (da db : PyData) (A : Around) (s : Shared) (a b : Value) (as bs : List Addr) (c : Bool), Reads s.heap a da as → Reads s.heap b db bs → da.canLay0 = true → db.canLay0 = true → A.units + min da.depth db.depth < cLine →
  ltv da db = some c → LtAt A s a b c
 | .int i, .int j, A, s, _, _, _, _, c, ra, rb, ha, hb, hu, h => by
  cases ra; cases rb; cases h
  exact fun prog w E Q q => (show wpAny _ _ (compareOp .Lt _ _) _ _ _ from PyProof.Rows.lt_int q)
 | .str i, .str j, A, s, _, _, _, _, c, ra, rb, ha, hb, hu, h => by
  cases ra; cases rb; cases h
  exact fun prog w E Q q => (show wpAny _ _ (compareOp .Lt _ _) _ _ _ from PyProof.Rows.lt_str q)
 | .tuple xs, .tuple ys, A, s, _, _, _, _, c, ra, rb, ha, hb, hu, h => by
  cases ra with
  | @tuple l o vs n _ as₁ h1 h2 h3 h4 =>
   cases rb with
   | @tuple l' o' vs' n' _ bs₁ k1 k2 k3 k4 =>
    have h' : fb xs ys = some c := h
    have n1 : vs.size = xs.length := by simpa using ReadsAll.length _ _ _ h4
    have n2 : vs'.size = ys.length := by simpa using ReadsAll.length _ _ _ k4
    obtain ⟨cl, dd, dt, sl⟩ := o
    obtain ⟨cl', dd', dt', sl'⟩ := o'
    simp only at h2 h3 k2 k3
    subst h2 h3 k2 k3
    intro prog w E Q q
    refine richCompare_meets_room (op := .Lt) ⟨_, h1, rfl⟩ ⟨_, k1, rfl⟩ F.slot_tuple_lt F.entry_tuple_lt (F.args_tuple_lt_2 _ _) (tup_lt l l' vs vs' n n' dd dd' sl sl' (pairEq xs ys) (pairLt xs ys)) ⟨h1, k1, fun j p r => ⟨?_, fun _ => ?_⟩, ?_⟩ (room_here hu)
    ·have z := eqAt_readsAll xs ys A.in1 s vs.toList vs'.toList _ _ h4 k4 ha hb (room_in hu) j (by simpa using p) (by simpa using r)
     simpa using z
    ·have z := ltAt_readsAll xs ys A.in1 s vs.toList vs'.toList _ _ c h4 k4 ha hb (room_in hu) h' j (by simpa using p) (by simpa using r)
     simpa using z
    ·have e := lexF_eq h'
     rw [← n1, ← n2] at e
     rw [e]
     exact show Value.bool c ≠ Value.notImplemented ∧ Q (.bool c) s from ⟨(fun x => nomatch x), q⟩
 | .none, _, _, _, _, _, _, _, _, _, _, _, _, _, h => by cases h
 | .bool _, _, _, _, _, _, _, _, _, _, _, _, _, _, h => by cases h
 | .list _, _, _, _, _, _, _, _, _, _, _, _, _, _, h => by cases h
 | .dict _, _, _, _, _, _, _, _, _, _, _, _, _, _, h => by cases h
 | .int _, .none, _, _, _, _, _, _, _, _, _, _, _, _, h => by cases h
 | .int _, .bool _, _, _, _, _, _, _, _, _, _, _, _, _, h => by cases h
 | .int _, .str _, _, _, _, _, _, _, _, _, _, _, _, _, h => by cases h
 | .int _, .list _, _, _, _, _, _, _, _, _, _, _, _, _, h => by cases h
 | .int _, .tuple _, _, _, _, _, _, _, _, _, _, _, _, _, h => by cases h
 | .int _, .dict _, _, _, _, _, _, _, _, _, _, _, _, _, h => by cases h
 | .str _, .none, _, _, _, _, _, _, _, _, _, _, _, _, h => by cases h
 | .str _, .bool _, _, _, _, _, _, _, _, _, _, _, _, _, h => by cases h
 | .str _, .int _, _, _, _, _, _, _, _, _, _, _, _, _, h => by cases h
 | .str _, .list _, _, _, _, _, _, _, _, _, _, _, _, _, h => by cases h
 | .str _, .tuple _, _, _, _, _, _, _, _, _, _, _, _, _, h => by cases h
 | .str _, .dict _, _, _, _, _, _, _, _, _, _, _, _, _, h => by cases h
 | .tuple _, .none, _, _, _, _, _, _, _, _, _, _, _, _, h => by cases h
 | .tuple _, .bool _, _, _, _, _, _, _, _, _, _, _, _, _, h => by cases h
 | .tuple _, .int _, _, _, _, _, _, _, _, _, _, _, _, _, h => by cases h
 | .tuple _, .str _, _, _, _, _, _, _, _, _, _, _, _, _, h => by cases h
 | .tuple _, .list _, _, _, _, _, _, _, _, _, _, _, _, _, h => by cases h
 | .tuple _, .dict _, _, _, _, _, _, _, _, _, _, _, _, _, h => by cases h
theorem ltAt_readsAll : ∀ (xs ys : List PyData) (A : Around) (s : Shared) (vs ws : List Value) (as bs : List Addr) (c : Bool), ReadsAll s.heap vs xs as → ReadsAll s.heap ws ys bs → PyData.canLayAll0 xs = true → PyData.canLayAll0 ys = true →
  A.units + min (PyData.depthAll xs) (PyData.depthAll ys) < cLine → fb xs ys = some c → ∀ j (p : j < vs.length) (q : j < ws.length), LtAt A s vs[j] ws[j] (pairLt xs ys j)
 | [], _, _, _, _, _, _, _, _, ra, _, _, _, _, _, j, p, _ => by cases ra; exact absurd p (Nat.not_lt_zero _)
 | _ :: _, [], _, _, _, _, _, _, _, _, rb, _, _, _, _, j, _, q => by cases rb; exact absurd q (Nat.not_lt_zero _)
 | x :: xs, y :: ys, A, s, _, _, _, _, c, ra, rb, ha, hb, hu, h, j, p, q => by
  have ha' : x.canLay0 = true ∧ PyData.canLayAll0 xs = true := by simpa [PyData.canLayAll0] using ha
  have hb' : y.canLay0 = true ∧ PyData.canLayAll0 ys = true := by simpa [PyData.canLayAll0] using hb
  obtain ⟨a, b, h1, h2, _⟩ := ltvAll_cons h
  cases ra with
  | cons r rs =>
   cases rb with
   | cons r' rs' =>
    cases j with
    | zero =>
     have e : pairLt (x :: xs) (y :: ys) 0 = a := by simp [pairLt, h1]
     rw [e]
     exact ltAt_reads x y A s _ _ _ _ a r r' ha'.1 hb'.1 (room_head hu) h1
    | succ j => exact ltAt_readsAll xs ys A s _ _ _ _ b rs rs' ha'.2 hb'.2 (room_tail hu) h2 j (Nat.lt_of_succ_lt_succ p) (Nat.lt_of_succ_lt_succ q)
end
end Pu
end
section
namespace Pu
open PySem PySem.Spec PyProof.Rows L2 PySem.W
noncomputable def GoOk (n : Nat) (cmp : Nat → Nat → Bool) {α : Type} : KasT α → (α → Prop) → Prop
 | .ret a, R => R a
 | .ask i j k, R => i < n ∧ j < n ∧ GoOk n cmp (k (cmp i j)) R
section
variable {n : Nat} {cmp : Nat → Nat → Bool}
theorem GoOk.mono {α : Type} {R R' : α → Prop} (h : ∀ a, R a → R' a) : ∀ {t : KasT α}, GoOk n cmp t R → GoOk n cmp t R'
 | .ret a, g => h a g
 | .ask i j k, ⟨g1, g2, g3⟩ => ⟨g1, g2, GoOk.mono h g3⟩
theorem GoOk.bind {α β : Type} {f : α → KasT β} {R : β → Prop} : ∀ {t : KasT α}, GoOk n cmp t (fun a => GoOk n cmp (f a) R) → GoOk n cmp (t.bind f) R
 | .ret a, g => g
 | .ask i j k, ⟨g1, g2, g3⟩ => ⟨g1, g2, GoOk.bind g3⟩
theorem GoOk.wp {α : Type} {C : Nat → Nat → (Bool → Shared → Prop) → Shared → Prop} {R : α → Prop} {Q : α → Shared → Prop} {s : Shared} (hc : ∀ i j (K : Bool → Shared → Prop), i < n → j < n → K (cmp i j) s → C i j K s) (hq : ∀ a, R a → Q a s) :
  ∀ {t : KasT α}, GoOk n cmp t R → t.kasWp C Q s
 | .ret a, g => hq a g
 | .ask i j k, ⟨g1, g2, g3⟩ => hc i j _ g1 g2 (GoOk.wp hc hq g3)
structure Ord (n : Nat) (cmp : Nat → Nat → Bool) : Prop where
 as : ∀ i j, i < n → j < n → i ≠ j → cmp j i = !cmp i j
 tr : ∀ i j k, i < n → j < n → k < n → cmp i j = true → cmp j k = true → cmp i k = true
noncomputable def At (p : Array Nat) (i : Nat) : Nat := p.getD i 0
noncomputable def PermR (n : Nat) (p : Array Nat) : Prop := p.toList.Perm (List.range n)
theorem PermR.size {p : Array Nat} (h : PermR n p) : p.size = n := by
 have := List.Perm.length_eq h
 simpa using this
theorem at_eq {p : Array Nat} {i : Nat} (h : i < p.size) : At p i = p[i] := by
 unfold At
 simp [Array.getD, h]
theorem PermR.lt {p : Array Nat} (h : PermR n p) {i : Nat} (hi : i < n) : At p i < n := by
 have hs : i < p.size := by rw [h.size]; exact hi
 rw [at_eq hs]
 exact List.mem_range.mp (h.mem_iff.mp (by simp))
theorem PermR.ne {p : Array Nat} (h : PermR n p) {i j : Nat} (hi : i < n) (hj : j < n) (e : i ≠ j) : At p i ≠ At p j := by
 have hs : i < p.size := by rw [h.size]; exact hi
 have ht : j < p.size := by rw [h.size]; exact hj
 rw [at_eq hs, at_eq ht]
 have nd : p.toList.Nodup := (h.nodup_iff).mpr List.nodup_range
 intro z
 have pw := List.pairwise_iff_getElem.mp nd
 rcases Nat.lt_or_gt_of_ne e with q | q
 ·exact pw i j (by simpa using hs) (by simpa using ht) q (by simpa using z)
 ·exact pw j i (by simpa using ht) (by simpa using hs) q (by simpa using z.symm)
noncomputable def So (cmp : Nat → Nat → Bool) (p : Array Nat) (m : Nat) : Prop := ∀ a b, a < b → b < m → cmp (At p a) (At p b) = true
noncomputable def De (cmp : Nat → Nat → Bool) (p : Array Nat) (m : Nat) : Prop := ∀ a b, a < b → b < m → cmp (At p b) (At p a) = true
theorem So.succ {p : Array Nat} {m : Nat} (O : Ord n cmp) (hp : PermR n p) (h1 : 1 ≤ m) (hm : m < n) (h : So cmp p m) (hc : cmp (At p m) (At p (m - 1)) = false) : So cmp p (m + 1) := by
 intro a b hab hb
 by_cases hb' : b < m
 ·exact h a b hab hb'
 ·obtain rfl : b = m := by omega
  have e : cmp (At p (b - 1)) (At p b) = true := by
   have := O.as (At p b) (At p (b - 1)) (hp.lt hm) (hp.lt (by omega)) (hp.ne hm (by omega) (by omega))
   rw [this, hc]; rfl
  by_cases ha : a = b - 1
  ·rw [ha]; exact e
  ·exact O.tr _ _ _ (hp.lt (by omega)) (hp.lt (by omega)) (hp.lt hm) (h a (b - 1) (by omega) (by omega)) e
theorem De.succ {p : Array Nat} {m : Nat} (O : Ord n cmp) (hp : PermR n p) (h1 : 1 ≤ m) (hm : m < n) (h : De cmp p m) (hc : cmp (At p m) (At p (m - 1)) = true) : De cmp p (m + 1) := by
 intro a b hab hb
 by_cases hb' : b < m
 ·exact h a b hab hb'
 ·obtain rfl : b = m := by omega
  by_cases ha : a = b - 1
  ·rw [ha]; exact hc
  ·exact O.tr _ _ _ (hp.lt hm) (hp.lt (by omega)) (hp.lt (by omega)) hc (h a (b - 1) (by omega) (by omega))
theorem asc_ok {p : Array Nat} (O : Ord n cmp) (hp : PermR n p) : ∀ (f m : Nat), 1 ≤ m → m + f ≤ n → So cmp p m → GoOk n cmp (kas_asc p f m) (fun k => m ≤ k ∧ k ≤ m + f ∧ So cmp p k ∧ (k < m + f → cmp (At p k) (At p (k - 1)) = true))
 | 0, m, h1, h2, h => ⟨Nat.le_refl _, Nat.le_refl _, h, fun z => by omega⟩
 | f + 1, m, h1, h2, h => by
  refine ⟨hp.lt (show m < n by omega), hp.lt (show m - 1 < n by omega), ?_⟩
  show GoOk n cmp (if cmp (At p m) (At p (m - 1)) = true then KasT.ret m else kas_asc p f (m + 1)) _
  by_cases hc : cmp (At p m) (At p (m - 1)) = true
  ·rw [if_pos hc]
   exact ⟨Nat.le_refl _, by omega, h, fun _ => hc⟩
  ·rw [if_neg hc]
   refine (asc_ok O hp f (m + 1) (by omega) (by omega) (h.succ O hp h1 (by omega) (by simpa using hc))).mono fun k g => ?_
   obtain ⟨g1, g2, g3, g4⟩ := g
   exact ⟨by omega, by omega, g3, fun z => g4 (by omega)⟩
theorem desc_ok {p : Array Nat} (O : Ord n cmp) (hp : PermR n p) : ∀ (f m : Nat), 2 ≤ m → m + f ≤ n → De cmp p m → GoOk n cmp (kas_desc f p m 0) (fun r => r.1 = p ∧ r.2.2 = 0 ∧ m ≤ r.2.1 ∧ r.2.1 ≤ m + f ∧ De cmp p r.2.1)
 | 0, m, h1, h2, h => ⟨rfl, rfl, Nat.le_refl _, Nat.le_refl _, h⟩
 | f + 1, m, h1, h2, h => by
  have l1 : At p m < n := hp.lt (by omega)
  have l2 : At p (m - 1) < n := hp.lt (by omega)
  refine ⟨l1, l2, ?_⟩
  show GoOk n cmp (if cmp (At p m) (At p (m - 1)) = true then (if 0 > 0 then kas_desc f (kas_rev p (m - (0 + 1)) m) (m + 1) 0 else kas_desc f p (m + 1) 0)
   else .ask (At p (m - 1)) (At p m) fun d => if d = true then .ret (p, m, 0) else kas_desc f p (m + 1) (0 + 1)) _
  by_cases hc : cmp (At p m) (At p (m - 1)) = true
  ·rw [if_pos hc, if_neg (by omega)]
   refine (desc_ok O hp f (m + 1) (by omega) (by omega) (h.succ O hp (by omega) (by omega) hc)).mono fun r g => ?_
   obtain ⟨g1, g2, g3, g4, g5⟩ := g
   exact ⟨g1, g2, by omega, by omega, g5⟩
  ·rw [if_neg hc]
   have e : cmp (At p (m - 1)) (At p m) = true := by
    have := O.as (At p m) (At p (m - 1)) l1 l2 (hp.ne (by omega) (by omega) (by omega))
    rw [this]; simpa using hc
   refine ⟨l2, l1, ?_⟩
   dsimp only
   rw [if_pos e]
   exact ⟨rfl, rfl, Nat.le_refl _, (show m ≤ m + (f + 1) by omega), h⟩
theorem PermR.rev {p : Array Nat} (hp : PermR n p) (i j : Nat) : PermR n (kas_rev p i j) := (Array.perm_iff_toList_perm.mp (mirror_perm p i j _)).trans hp
theorem PermR.bub {p : Array Nat} (hp : PermR n p) (i j : Nat) : PermR n (bubble p i j) := (Array.perm_iff_toList_perm.mp (bubble_perm p i j)).trans hp
theorem at_get {p : Array Nat} {i : Nat} : At p i = (p[i]?).getD 0 := by
 unfold At; simp [Array.getD_eq_getD_getElem?]
theorem at_rev {p : Array Nat} {m : Nat} (hm : m ≤ p.size) {k : Nat} (hk : k < m) : At (kas_rev p 0 m) k = At p (m - 1 - k) := by
 rw [at_get, at_get]
 unfold kas_rev
 rw [getElem?_mirror_all hm]
 rw [if_pos (by omega)]
 congr 2
 omega
theorem tail3_ok {p : Array Nat} {m : Nat} (O : Ord n cmp) (hp : PermR n p) (h1 : 1 ≤ m) (h2 : m ≤ n) (h : De cmp p m) : GoOk n cmp (kas_tail3 m n p) (fun r => PermR n r.2 ∧ 1 ≤ r.1 ∧ r.1 ≤ n ∧ So cmp r.2 r.1) := by
 unfold kas_tail3
 have hr := hp.rev 0 m
 have hs : So cmp (kas_rev p 0 m) m := fun a b hab hb => by
  have hz : m ≤ p.size := by rw [hp.size]; exact h2
  rw [at_rev hz (by omega), at_rev hz hb]
  exact h _ _ (by omega) (by omega)
 refine GoOk.bind ((asc_ok O hr (n - m) m h1 (by omega) hs).mono fun k g => ?_)
 obtain ⟨g1, g2, g3, _⟩ := g
 exact ⟨hr, by omega, by omega, g3⟩
theorem count_ok {p : Array Nat} (O : Ord n cmp) (hp : PermR n p) (h2 : 2 ≤ n) : GoOk n cmp (kas_count n p) (fun r => PermR n r.2 ∧ 1 ≤ r.1 ∧ r.1 ≤ n ∧ So cmp r.2 r.1) := by
 unfold kas_count
 refine GoOk.bind ((asc_ok O hp (n - 1) 1 (Nat.le_refl _) (by omega) (fun a b h1 h2 => by omega)).mono fun m g => ?_)
 obtain ⟨g1, g2, g3, g4⟩ := g
 by_cases e1 : (m == n) = true
 ·rw [if_pos e1]; exact ⟨hp, g1, by omega, g3⟩
 ·rw [if_neg e1]
  have ne : m ≠ n := fun z => e1 (by rw [z]; exact beq_self_eq_true _)
  by_cases e2 : m > 1
  ·rw [if_pos e2]
   refine ⟨hp.lt (show 0 < n by omega), hp.lt (show m - 1 < n by omega), ?_⟩
   have : cmp (At p 0) (At p (m - 1)) = true := g3 0 (m - 1) (by omega) (by omega)
   show GoOk n cmp (if cmp (At p 0) (At p (m - 1)) = true then _ else _) _
   rw [if_pos this]
   exact ⟨hp, g1, by omega, g3⟩
  ·rw [if_neg e2]
   obtain rfl : m = 1 := by omega
   have c0 := g4 (by omega)
   unfold kas_descPart
   refine GoOk.bind ((desc_ok O hp (n - 2) 2 (Nat.le_refl _) (by omega) (fun a b h1 h2 => ?_)).mono fun r g => ?_)
   ·obtain rfl : b = 1 := by omega
    obtain rfl : a = 0 := by omega
    exact c0
   ·obtain ⟨k1, k2, k3, k4, k5⟩ := g
    rw [k1, k2, if_neg (by omega)]
    exact tail3_ok O hp (by omega) (by omega) k5
theorem place_ok {p : Array Nat} {k : Nat} (O : Ord n cmp) (hp : PermR n p) (hk : k < n) (hs : So cmp p k) : ∀ (f l r : Nat), l ≤ r → r ≤ k → r - l ≤ f → (∀ a, a < l → cmp (At p a) (At p k) = true) → (∀ a, r ≤ a → a < k → cmp (At p k) (At p a) = true) →
  GoOk n cmp (kas_place p k f l r) (fun m => m ≤ k ∧ (∀ a, a < m → cmp (At p a) (At p k) = true) ∧ (∀ a, m ≤ a → a < k → cmp (At p k) (At p a) = true))
 | 0, l, r, h1, h2, h3, h4, h5 => by
  obtain rfl : l = r := by omega
  exact ⟨h2, h4, h5⟩
 | f + 1, l, r, h1, h2, h3, h4, h5 => by
  unfold kas_place
  by_cases hl : l ≥ r
  ·rw [if_pos hl]
   obtain rfl : l = r := by omega
   exact ⟨h2, h4, h5⟩
  ·rw [if_neg hl]
   have hm : (l + r) / 2 < k := by omega
   refine ⟨hp.lt hk, hp.lt (by omega), ?_⟩
   show GoOk n cmp (if cmp (At p k) (At p ((l + r) / 2)) = true then kas_place p k f l ((l + r) / 2) else kas_place p k f ((l + r) / 2 + 1) r) _
   by_cases hc : cmp (At p k) (At p ((l + r) / 2)) = true
   ·rw [if_pos hc]
    refine place_ok O hp hk hs f l _ (by omega) (by omega) (by omega) h4 fun a a1 a2 => ?_
    by_cases z : a = (l + r) / 2
    ·rw [z]; exact hc
    ·exact O.tr _ _ _ (hp.lt hk) (hp.lt (by omega)) (hp.lt (by omega)) hc (hs _ _ (by omega) a2)
   ·rw [if_neg hc]
    have e : cmp (At p ((l + r) / 2)) (At p k) = true := by
     have := O.as (At p k) (At p ((l + r) / 2)) (hp.lt hk) (hp.lt (by omega)) (hp.ne hk (by omega) (by omega))
     rw [this]; simpa using hc
    refine place_ok O hp hk hs f _ r (by omega) (by omega) (by omega) (fun a ha => ?_) h5
    by_cases z : a = (l + r) / 2
    ·rw [z]; exact e
    ·exact O.tr _ _ _ (hp.lt (by omega)) (hp.lt (by omega)) (hp.lt hk) (hs a _ (by omega) (by omega)) e
theorem at_bub {p : Array Nat} {k l : Nat} (hk : k < p.size) (hl : l ≤ k) (i : Nat) : At (bubble p k (k - l)) i = if i = l then At p k else if l < i ∧ i ≤ k then At p (i - 1) else At p i := by
 rw [at_get, getElem?_bubble hk (k - l) (by omega), at_get, at_get, at_get]
 have e : k - (k - l) = l := by omega
 by_cases h1 : i = l
 ·subst h1
  simp [e]
 ·by_cases h2 : l < i ∧ i ≤ k
  ·simp [e, h1, h2]
  ·simp [e, h1, h2]
theorem bin_ok' (O : Ord n cmp) : ∀ (f k : Nat) (p : Array Nat), PermR n p → 1 ≤ k → k + f = n → So cmp p k → GoOk n cmp (kas_bin f p k) (fun q => PermR n q ∧ So cmp q n)
 | 0, k, p, hp, h1, h2, hs => by
  obtain rfl : k = n := by omega
  exact ⟨hp, hs⟩
 | f + 1, k, p, hp, h1, h2, hs => by
  unfold kas_bin
  have hk : k < n := by omega
  refine GoOk.bind ((place_ok O hp hk hs k 0 k (Nat.zero_le _) (Nat.le_refl _) (by omega) (fun a h => by omega) (fun a h h' => by omega)).mono fun l g => ?_)
  obtain ⟨g1, g2, g3⟩ := g
  refine bin_ok' O f (k + 1) _ (hp.bub _ _) (by omega) (by omega) fun a b hab hb => ?_
  have hz : k < p.size := by rw [hp.size]; exact hk
  rw [at_bub hz g1, at_bub hz g1]
  by_cases a1 : a = l
  ·rw [if_pos a1, if_neg (by omega), if_pos (by omega)]
   exact g3 _ (by omega) (by omega)
  ·rw [if_neg a1]
   by_cases a2 : l < a ∧ a ≤ k
   ·rw [if_pos a2, if_neg (by omega), if_pos (by omega)]
    exact hs _ _ (by omega) (by omega)
   ·rw [if_neg a2]
    by_cases b1 : b = l
    ·rw [if_pos b1]; exact g2 _ (by omega)
    ·rw [if_neg b1]
     by_cases b2 : l < b ∧ b ≤ k
     ·rw [if_pos b2]
      exact hs _ _ (by omega) (by omega)
     ·rw [if_neg b2]
      exact hs _ _ hab (by omega)
theorem sort_ok (O : Ord n cmp) (h2 : 2 ≤ n) : GoOk n cmp (kas_sort n) (fun q => PermR n q ∧ So cmp q n) := by
 unfold kas_sort
 refine GoOk.bind ((count_ok O (by unfold PermR; simp) h2).mono fun r g => ?_)
 obtain ⟨g1, g2, g3, g4⟩ := g
 by_cases hr : r.1 < n
 ·rw [if_pos hr]
  have : max r.1 1 = r.1 := by omega
  rw [this]
  exact bin_ok' O _ _ _ g1 g2 (by omega) g4
 ·rw [if_neg hr]
  obtain e : r.1 = n := by omega
  rw [e] at g4
  exact ⟨g1, g4⟩
end
end Pu
end
section
namespace Pu
open PySem PySem.Spec PyProof.Rows L2 PySem.SeqAt PySem.W
theorem eqvI (i j : Int) : PyData.eqv (.int i) (.int j) = (i == j) := by rw [PyData.eqv]
theorem eqvAll_ints : ∀ (c d : List Int), PyData.eqvAll (c.map .int) (d.map .int) = decide (c = d)
 | [], [] => by simp [PyData.eqvAll]
 | [], _ :: _ => by simp [PyData.eqvAll]
 | _ :: _, [] => by simp [PyData.eqvAll]
 | i :: c, j :: d => by
  rw [List.map_cons, List.map_cons, PyData.eqvAll, eqvAll_ints c d, eqvI]
  by_cases h : i = j <;> simp [h]
theorem ltvAll_ints : ∀ (k l : List Int), fb (k.map .int) (l.map .int) = some (decide (k < l))
 | [], [] => by simp [fb]
 | [], _ :: _ => by simp [fb]
 | _ :: _, [] => by simp [fb]
 | i :: k, j :: l => by
  rw [List.map_cons, List.map_cons, fb, ltvAll_ints k l, eqvI]
  show some (if (i == j) = true then decide (k < l) else decide (i < j)) = _
  congr 1
  by_cases h : i = j
  ·subst h
   simp [List.cons_lt_cons_iff]
  ·have : (i == j) = false := by simpa using h
   rw [this]
   simp [List.cons_lt_cons_iff, h]
theorem fj : ∀ k : List Int, PyData.canLayAll0 (k.map .int) = true
 | [] => rfl
 | i :: k => by
  rw [List.map_cons, PyData.canLayAll0, fj k]
  rfl
theorem depth_intsP : ∀ k : List Int, PyData.depthAll (k.map .int) = 0
 | [] => rfl
 | i :: k => by
  rw [List.map_cons, PyData.depthAll, depth_intsP k]
  rfl
noncomputable def shp : Bool → List Int → List PyData → Prop
 | false, k, xs => k ≠ [] ∧ xs = k.map .int
 | true, k, xs => ∃ i c, k = i :: c ∧ xs = [.int i, .tuple (c.map .int)]
theorem shp_lt {b : Bool} {k l : List Int} {xs ys : List PyData} (h : shp b k xs) (h' : shp b l ys) : fb xs ys = some (decide (k < l)) := by
 cases b with
 | false => rw [h.2, h'.2]; exact ltvAll_ints k l
 | true =>
  obtain ⟨i, c, rfl, rfl⟩ := h
  obtain ⟨j, d, rfl, rfl⟩ := h'
  have e1 : ltv (.tuple (c.map .int)) (.tuple (d.map .int)) = some (decide (c < d)) := by rw [ltv]; exact ltvAll_ints c d
  have e2 : PyData.eqv (.tuple (c.map .int)) (.tuple (d.map .int)) = decide (c = d) := by rw [PyData.eqv]; exact eqvAll_ints c d
  have e3 : fb [.tuple (c.map .int)] [.tuple (d.map .int)] = some (decide (c < d)) := by
   rw [fb, e1, e2]
   show some (if decide (c = d) = true then false else decide (c < d)) = _
   by_cases z : c = d
   ·subst z; simp
   ·simp [z]
  rw [fb, e3, eqvI]
  show some (if (i == j) = true then decide (c < d) else decide (i < j)) = _
  congr 1
  by_cases z : i = j
  ·subst z
   simp [List.cons_lt_cons_iff]
  ·have : (i == j) = false := by simpa using z
   rw [this]
   simp [List.cons_lt_cons_iff, z]
theorem shp_lay {b : Bool} {k : List Int} {xs : List PyData} (h : shp b k xs) : PyData.canLayAll0 xs = true ∧ PyData.depthAll xs ≤ 1 ∧ ∃ i r, xs = .int i :: r := by
 cases b with
 | false =>
  obtain ⟨h1, rfl⟩ := h
  refine ⟨fj k, by rw [depth_intsP]; omega, ?_⟩
  cases k with
  | nil => exact absurd rfl h1
  | cons i c => exact ⟨i, _, rfl⟩
 | true =>
  obtain ⟨i, c, rfl, rfl⟩ := h
  refine ⟨?_, ?_, i, _, rfl⟩
  ·rw [PyData.canLayAll0, PyData.canLayAll0, PyData.canLayAll0, PyData.canLay0, PyData.canLay0, fj c]; rfl
  ·rw [PyData.depthAll, PyData.depthAll, PyData.depthAll, PyData.depth, PyData.depth, depth_intsP c]; simp
section
variable {prog : Program} {w : World} {A : Around} {E : Value → Shared → Prop} {s : Shared}
theorem katlex {fin : Bool} {Q : Bool → Shared → Prop} : ∀ (xs ys : List PyData) (vs ws : List Value) (i : Nat) (as bs : List Addr) (c : Bool), ReadsAll s.heap vs xs as → ReadsAll s.heap ws ys bs → PyData.canLayAll0 xs = true → PyData.canLayAll0 ys = true →
  A.units + min (PyData.depthAll xs) (PyData.depthAll ys) < cLine → fb xs ys = some c → fin = decide (xs.length < ys.length) → (i = 0 → ∀ x y, xs.head? = some x → ys.head? = some y → ∃ a b, x = .int a ∧ y = .int b) → Q c s → KatLex prog w A true fin Q (vs.zip ws) i s
 | [], [], vs, ws, i, as, bs, c, ra, rb, ha, hb, hu, hl, hf, h0, q => by
  cases ra; cases rb; cases hl
  subst hf
  exact kat_nil q
 | [], y :: ys, vs, ws, i, as, bs, c, ra, rb, ha, hb, hu, hl, hf, h0, q => by
  cases ra; cases rb; cases hl
  have : fin = true := by rw [hf]; simp
  subst this
  exact kat_nil q
 | x :: xs, [], vs, ws, i, as, bs, c, ra, rb, ha, hb, hu, hl, hf, h0, q => by
  cases ra; cases rb; cases hl
  have : fin = false := by rw [hf]; simp
  subst this
  exact kat_nil q
 | x :: xs, y :: ys, _, _, i, _, _, c, ra, rb, ha, hb, hu, hl, hf, h0, q => by
  have ha' : x.canLay0 = true ∧ PyData.canLayAll0 xs = true := by simpa [PyData.canLayAll0] using ha
  have hb' : y.canLay0 = true ∧ PyData.canLayAll0 ys = true := by simpa [PyData.canLayAll0] using hb
  obtain ⟨a, b, l1, l2, rfl⟩ := ltvAll_cons hl
  cases ra with
  | @cons v vr _ _ as1 as2 r rs =>
   cases rb with
   | @cons v' vr' _ _ bs1 bs2 r' rs' =>
    refine kat_cons (eqAt_reads x y A s _ _ _ _ r r' ha'.1 hb'.1 (room_head hu) prog w _ _ ?_)
    cases he : PyData.eqv x y with
    | true =>
     rw [he, if_pos rfl] at q
     exact kat_yes (katlex xs ys _ _ (i + 1) _ _ b rs rs' ha'.2 hb'.2 (room_tail hu) l2 (by rw [hf]; simp) (fun z => by omega) q)
    | false =>
     rw [he, if_neg (by simp)] at q
     refine kat_no ?_
     by_cases hi : i = 0
     ·obtain ⟨m, n, rfl, rfl⟩ := h0 hi x y rfl rfl
      subst hi
      cases r; cases r'; cases l1
      exact oneLt_int q
     ·have : (i == 0) = false := by simpa using hi
      rw [this, Bool.and_false]
      exact kat_one _ _ (ltAt_reads x y A s _ _ _ _ a r r' ha'.1 hb'.1 (room_head hu) l1 prog w _ _ q)
theorem key_lt {b : Bool} {x y : Value} {xs ys : List PyData} {as bs : List Addr} {k l : List Int} {Q : Bool → Shared → Prop} (rx : Reads s.heap x (.tuple xs) as) (ry : Reads s.heap y (.tuple ys) bs) (sx : shp b k xs) (sy : shp b l ys) (hu : A.units + 1 < cLine) (h : Q (decide (k < l)) s) :
  wpAny (model prog w) A (keyLt' (tuples' true) x y) Q E s := by
 obtain ⟨c1, d1, i1, r1, e1⟩ := shp_lay sx
 obtain ⟨c2, d2, i2, r2, e2⟩ := shp_lay sy
 have hs := shp_lt sx sy
 cases rx with
 | @tuple a o vs n _ as1 h1 h2 h3 h4 =>
  cases ry with
  | @tuple a' o' vs' n' _ bs1 k1 k2 k3 k4 =>
   have n1 : vs.size = xs.length := by simpa using ReadsAll.length _ _ _ h4
   have n2 : vs'.size = ys.length := by simpa using ReadsAll.length _ _ _ k4
   refine kat_lt h1 h3 k1 k3 (katlex xs ys _ _ 0 _ _ _ h4 k4 c1 c2 ?_ hs (by rw [n1, n2]) (fun _ x y hx hy => ?_) h)
   ·have : min (PyData.depthAll xs) (PyData.depthAll ys) ≤ 1 := Nat.le_trans (Nat.min_le_left _ _) d1
    omega
   ·rw [e1] at hx; rw [e2] at hy
    cases hx; cases hy
    exact ⟨_, _, rfl, rfl⟩
noncomputable def KeysAre (s : Shared) (b : Bool) : List Value → List (List Int) → Prop
 | [], [] => True
 | v :: vs, k :: ks => (∃ xs as, Reads s.heap v (.tuple xs) as ∧ shp b k xs) ∧ KeysAre s b vs ks
 | _, _ => False
theorem KeysAre.len {b : Bool} : ∀ {vs : List Value} {ks : List (List Int)}, KeysAre s b vs ks → ks.length = vs.length
 | [], [], _ => rfl
 | [], _ :: _, h => h.elim
 | _ :: _, [], h => h.elim
 | v :: vs, k :: ks, ⟨_, h⟩ => by rw [List.length_cons, List.length_cons, KeysAre.len h]
theorem KeysAre.get {b : Bool} : ∀ {vs : List Value} {ks : List (List Int)}, KeysAre s b vs ks → ∀ {i : Nat}, i < vs.length → ∃ xs as, Reads s.heap (vs.getD i Value.none) (.tuple xs) as ∧ shp b (ks.getD i []) xs
 | [], _, _, i, h => by simp at h
 | _ :: _, [], h, _, _ => h.elim
 | v :: vs, k :: ks, ⟨h0, _⟩, 0, _ => h0
 | v :: vs, k :: ks, ⟨_, h⟩, i + 1, hi => by
  have := KeysAre.get h (i := i) (by simpa using hi)
  simpa using this
theorem KeysAre.firsts {b : Bool} : ∀ {vs : List Value} {ks : List (List Int)}, KeysAre s b vs ks → ∃ fs, KatTups s.heap vs fs ∧ fs.length = vs.length ∧ ∀ v ∈ fs, ∃ n t, v = Value.int n t
 | [], [], _ => ⟨[], .nil, rfl, fun v h => by simp at h⟩
 | [], _ :: _, h => h.elim
 | _ :: _, [], h => h.elim
 | v :: vs, k :: ks, ⟨⟨xs, as, r, sh⟩, h⟩ => by
  obtain ⟨fs, f1, f2, f3⟩ := KeysAre.firsts h
  obtain ⟨_, _, i, q, rfl⟩ := shp_lay sh
  cases r with
  | @tuple a o ws n _ as1 h1 h2 h3 h4 =>
   cases hw : ws.toList with
   | nil => rw [hw] at h4; cases h4
   | cons u us =>
    rw [hw] at h4
    cases h4 with
    | cons r rs =>
     cases r with
     | int _ t =>
      refine ⟨Value.int i t :: fs, KatTups.cons h1 h2 h3 ?_ f1, by simp [f2], fun v hv => ?_⟩
      ·have : ws.toList[0]? = some (Value.int i t) := by rw [hw]; rfl
       simpa using this
      ·rcases List.mem_cons.mp hv with rfl | hv
       ·exact ⟨_, _, rfl⟩
       ·exact f3 v hv
noncomputable def cmpZ (kz : List (List Int)) (i j : Nat) : Bool := decide (kz.getD i [] < kz.getD j [])
theorem ord_cmpZ {kz : List (List Int)} (nd : kz.Nodup) : Ord kz.length (cmpZ kz) where
 as := fun i j hi hj ne => by
  have e : kz.getD i [] ≠ kz.getD j [] := by
   rw [show kz.getD i [] = kz[i] by simp [hi], show kz.getD j [] = kz[j] by simp [hj]]
   have pw := List.pairwise_iff_getElem.mp nd
   rcases Nat.lt_or_gt_of_ne ne with q | q
   ·exact pw i j hi hj q
   ·exact (pw j i hj hi q).symm
  unfold cmpZ
  by_cases z : kz.getD i [] < kz.getD j []
  ·have : ¬ kz.getD j [] < kz.getD i [] := fun y => List.lt_irrefl _ (List.lt_trans z y)
   rw [decide_eq_true z, decide_eq_false this]; rfl
  ·have : kz.getD j [] < kz.getD i [] := Std.lt_of_le_of_ne z (Ne.symm e)
   rw [decide_eq_true this, decide_eq_false z]; rfl
 tr := fun i j k _ _ _ h1 h2 => by
  unfold cmpZ at *
  exact decide_eq_true (List.lt_trans (of_decide_eq_true h1) (of_decide_eq_true h2))
noncomputable def SortRun (prog : Program) (w : World) (A : Around) (ks vs : List Value) (R : Array Nat → Prop) (s : Shared) : Prop :=
 ∀ E : Value → Shared → Prop, wpAny (model prog w) A (keyKind' ks.toArray) (fun κ s' => s' = s ∧ ∀ E' : Value → Shared → Prop, wpAny (model prog w) A (sortRuns'.run (SortSt.mk' κ (ks.toArray.zip vs.toArray) #[] 7 none)) (fun r s'' =>
  s'' = s ∧ failedOf r.2 = none ∧ ∃ p : Array Nat, R p ∧ p.size = vs.length ∧ (arrOf r.2).map (·.2) = List.toArray (p.toList.map fun i => vs.getD i Value.none)) E' s) E s
theorem run_ok {b : Bool} {ks vs : List Value} {kz : List (List Int)} (hl : ks.length = vs.length) (hk : KeysAre s b ks kz) (h2 : 2 ≤ vs.length) (h64 : vs.length < 64) (nd : kz.Nodup) (hu : A.units + 1 < cLine) :
  SortRun prog w A ks vs (fun p => PermR vs.length p ∧ So (cmpZ kz) p vs.length) s := by
 intro E
 have hz := hk.len
 obtain ⟨fs, f1, f2, f3⟩ := hk.firsts
 refine kat_kind (T := .type "int") f1 (by omega) (fun v hv => ?_) (by decide) ⟨rfl, fun E' => ?_⟩
 ·obtain ⟨n, t, rfl⟩ := f3 v hv
  exact Looks.of_pure rfl
 ·have o := ord_cmpZ nd
  rw [hz, hl] at o
  refine wpAny_mono (kat_run (Q := fun st s'' => s'' = s ∧ failedOf st = none ∧ ∃ p : Array Nat, (PermR vs.length p ∧ So (cmpZ kz) p vs.length) ∧ p.size = vs.length ∧ (arrOf st).map (·.2) = List.toArray (p.toList.map fun i => vs.getD i Value.none))
   (G := fun p s' => s' = s ∧ PermR vs.length p ∧ So (cmpZ kz) p vs.length) hl h2 h64 (fun p st s' g1 g2 g3 g4 => ⟨g4.1, g3, p, g4.2, g1, kat_snds hl g2⟩) ?_) (fun _ _ x => x) (fun _ _ x => x)
  refine GoOk.wp (cmp := cmpZ kz) (n := vs.length) (R := fun p => PermR vs.length p ∧ So (cmpZ kz) p vs.length) (fun i j K hi hj q => ?_) (fun p r => ⟨rfl, r⟩) (sort_ok o h2)
  obtain ⟨xs, as, r1, s1⟩ := hk.get (i := i) (by omega)
  obtain ⟨ys, bs, r2, s2⟩ := hk.get (i := j) (by omega)
  exact key_lt r1 r2 s1 s2 hu q
end
noncomputable def midH (h : Heap) (a : Addr) (vs : List Value) : Heap := ((h.update a (Obj.mapSeq fun _ => (#[] : Array Value))).push (seqObj "tuple" vs.toArray 0)).push (seqObj "list" #[] 0)
theorem midH_old {h : Heap} {a : Addr} {vs : List Value} {b : Addr} {o : Obj} (e : h.get? b = some o) (ne : b ≠ a) : (midH h a vs).get? b = some o := by
 unfold midH
 refine Heap.get?_push_of_some _ (Heap.get?_push_of_some _ ?_)
 rw [Heap.get?_update_ne _ _ _ _ ne]; exact e
noncomputable def OutOf (R : Array Nat → Prop) (vs out : List Value) : Prop := (vs.length < 2 ∧ out = vs) ∨ (2 ≤ vs.length ∧ ∃ p : Array Nat, R p ∧ p.size = vs.length ∧ out = p.toList.map fun i => vs.getD i Value.none)
theorem OutOf.len {R : Array Nat → Prop} {vs out : List Value} (h : OutOf R vs out) : out.length = vs.length := by
 rcases h with ⟨_, rfl⟩ | ⟨_, p, _, h1, rfl⟩
 ·rfl
 ·rw [List.length_map, Array.length_toList, h1]
section
variable {prog : Program} {w : World} {A : Around} {E : Value → Shared → Prop} {s : Shared}
theorem sort_plain {a : Addr} {vs : List Value} {n : Nat} {P : PySem.Fin → Shared → Prop} {R : Array Nat → Prop} (ho : s.heap.get? a = some (seqObj "list" vs.toArray n)) (hz : vs.length ≤ 1000) (hR : 2 ≤ vs.length → SortRun prog w A vs vs R { s with heap := midH s.heap a vs })
  (h : ∀ out : List Value, OutOf R vs out → P (.done (.ret .none)) { s with heap := sortedHeap s.heap a vs out.toArray }) : wpAny (model prog w) A (Builtin.«list.sort» ⟨[.ref a], []⟩) P E s := by
 have ha : a < s.heap.objs.size := Heap.lt_size ho
 have zl : vs.length ≤ sizeLine := by rw [sizeLine_eq]; omega
 obtain ⟨e1, ho1⟩ : ∃ e1, (s.heap.update a (Obj.mapSeq fun _ => (#[] : Array Value))).get? a = some (seqObj "list" #[] e1) := ⟨_, get?_update_seq ho fun _ => #[]⟩
 have ho6 : (midH s.heap a vs).get? a = some (seqObj "list" #[] e1) := Heap.get?_push_of_some _ (Heap.get?_push_of_some _ ho1)
 rw [list_sort_plain]
 refine wpAny_bind (listItems_at ho rfl (wpAny_bind (listUpdate_at ho rfl ?_ (by simpa using zl) (Nat.zero_le _))))
 refine wpAny_bind (seqEpoch_at ho1 rfl (wpAny_bind (wpAny_newTuple (wpAny_bind (wpAny_newList (wpAny_holding ?_) (Nat.zero_le _))) zl)))
 show wpAny (model prog w) A _ P E { s with heap := midH s.heap a vs }
 dsimp only
 by_cases h2 : vs.toArray.size < 2
 ·have h2' : vs.length < 2 := by simpa using h2
  rw [if_pos h2, if_pos h2]
  refine wpAny_bind (wpAny_pure ?_)
  rw [StateT.run_pure]
  refine wpAny_bind (wpAny_pure ?_)
  dsimp only
  have em : Array.map (fun x : Keyed => x.2) (vs.toArray.zip vs.toArray) = vs.toArray := by
   apply Array.toList_inj.mp
   rw [Array.toList_map, Array.toList_zip]
   exact List.map_snd_zip (Nat.le_refl _)
  rw [show (arrOf (SortSt.mk' general' (vs.toArray.zip vs.toArray) #[] 7 none)).map (·.2) = vs.toArray from em]
  refine wpAny_bind (seqEpoch_at ho6 rfl (wpAny_bind (listUpdate_at ho6 rfl ?_ (Nat.zero_le _) (Nat.le_trans (Nat.le_of_eq (List.size_toArray ..)) (by omega)))))
  simp only [bne_self_eq_false, Bool.false_eq_true, if_false]
  exact wpAny_pure (h vs (.inl ⟨h2', rfl⟩))
 ·have h2' : 2 ≤ vs.length := by simpa using h2
  rw [if_neg h2, if_neg h2]
  refine wpAny_bind (wpAny_mono (hR h2' _) (fun κ s' g => ?_) fun _ _ x => x)
  obtain ⟨rfl, g⟩ := g
  refine wpAny_bind (wpAny_mono (g _) (fun r s' g => ?_) fun _ _ x => x)
  obtain ⟨rfl, hf, p, hp, hs, ho'⟩ := g
  obtain ⟨⟨⟩, st⟩ := r
  dsimp only at hf ho' ⊢
  rw [ho', hf]
  have zo : (p.toList.map fun i => vs.getD i Value.none).length ≤ sizeLine := by rw [List.length_map, Array.length_toList, hs]; exact zl
  refine wpAny_bind (seqEpoch_at ho6 rfl (wpAny_bind (listUpdate_at ho6 rfl ?_ (Nat.zero_le _) (Nat.le_trans (Nat.le_of_eq (List.size_toArray ..)) (by omega)))))
  simp only [bne_self_eq_false, Bool.false_eq_true, if_false]
  exact wpAny_pure (h _ (.inr ⟨h2', p, hp, hs, rfl⟩))
end
noncomputable def intD : D → Option Int
 | .int i => some i
 | _ => none
noncomputable def intsL : List D → Option (List Int)
 | [] => some []
 | d :: ds => match intD d, intsL ds with
  | some i, some r => some (i :: r)
  | _, _ => none
noncomputable def keyA : D → Option (List Int)
 | .tup ds => match intsL ds with
  | some (i :: r) => some (i :: r)
  | _ => none
 | _ => none
noncomputable def keysA : List D → Option (List (List Int))
 | [] => some []
 | d :: ds => match keyA d, keysA ds with
  | some k, some r => some (k :: r)
  | _, _ => none
theorem intsL_ok : ∀ {ds : List D} {ns : List Int}, intsL ds = some ns → ds = ns.map D.int
 | [], ns, h => by cases h; rfl
 | d :: ds, ns, h => by
  unfold intsL at h
  cases e1 : intD d with
  | none => rw [e1] at h; cases h
  | some i =>
   cases e2 : intsL ds with
   | none => rw [e1, e2] at h; cases h
   | some r =>
    rw [e1, e2] at h
    cases h
    cases d <;> first | (cases e1; rw [intsL_ok e2]; rfl) | cases e1
theorem keyA_ok {d : D} {k : List Int} (h : keyA d = some k) : k ≠ [] ∧ d = .tup (k.map D.int) := by
 unfold keyA at h
 cases d with
 | tup ds =>
  dsimp only at h
  cases e : intsL ds with
  | none => rw [e] at h; cases h
  | some ns =>
   rw [e] at h
   cases ns with
   | nil => cases h
   | cons i r => cases h; exact ⟨by simp, by rw [intsL_ok e]⟩
 | _ => cases h
theorem keysA_cons {d : D} {ds : List D} {kz : List (List Int)} (h : keysA (d :: ds) = some kz) : ∃ k r, keyA d = some k ∧ keysA ds = some r ∧ kz = k :: r := by
 unfold keysA at h
 cases e1 : keyA d with
 | none => rw [e1] at h; cases h
 | some k =>
  cases e2 : keysA ds with
  | none => rw [e1, e2] at h; cases h
  | some r => rw [e1, e2] at h; cases h; exact ⟨k, r, rfl, rfl, rfl⟩
theorem toPy_ints : ∀ ns : List Int, d5 (ns.map D.int) = some (ns.map PyData.int)
 | [] => rfl
 | i :: r => by
  rw [List.map_cons, d5, toPy_ints r]; rfl
section
variable {X : Cx} {pins : List (Addr × Obj)} {σ : St} {G H : Hp} {s : Shared}
theorem keys_are (I : Inv X pins σ H s) (sg : Same G H) : ∀ {ds : List D} {kz : List (List Int)} {vs : List V} {us : List Value}, keysA ds = some kz → DenL (kx X) G ds vs → Vals vs us → KeysAre s false us kz
 | [], kz, vs, us, h, dl, r => by
  cases h
  cases (show vs = [] from dl)
  cases r
  trivial
 | d :: ds, kz, vs, us, h, dl, r => by
  obtain ⟨k, r', h1, h2, rfl⟩ := keysA_cons h
  obtain ⟨v, vr, rfl, dv, dr⟩ := dl
  obtain ⟨hn, rfl⟩ := keyA_ok h1
  cases r with
  | cons rv rr =>
   refine ⟨?_, keys_are I sg h2 dr rr⟩
   obtain ⟨as, ra⟩ := reads_of I sg dv rv (show toPy (.tup (k.map D.int)) = some (.tuple (k.map PyData.int)) by rw [toPy, toPy_ints])
   exact ⟨_, as, ra, hn, rfl⟩
end
noncomputable def insK (x : List Int × D) : List (List Int × D) → List (List Int × D)
 | [] => [x]
 | y :: r => if x.1 < y.1 then x :: y :: r else y :: insK x r
noncomputable def sortK (l : List (List Int × D)) : List (List Int × D) := l.foldr insK []
theorem insK_perm (x : List Int × D) : ∀ l, (insK x l).Perm (x :: l)
 | [] => .refl _
 | y :: r => by
  unfold insK
  split
  ·exact .refl _
  ·exact ((insK_perm x r).cons y).trans (List.Perm.swap x y r)
theorem sortK_perm : ∀ l, (sortK l).Perm l
 | [] => .refl _
 | x :: r => (insK_perm x _).trans ((sortK_perm r).cons x)
theorem insK_pw {x : List Int × D} : ∀ {l : List (List Int × D)}, l.Pairwise (fun a b => a.1 < b.1) → (∀ y ∈ l, y.1 ≠ x.1) → (insK x l).Pairwise (fun a b => a.1 < b.1)
 | [], _, _ => by unfold insK; exact List.pairwise_singleton _ _
 | y :: r, h, hn => by
  unfold insK
  obtain ⟨h1, h2⟩ := List.pairwise_cons.mp h
  split
  ·rename_i c
   refine List.pairwise_cons.mpr ⟨fun z hz => ?_, h⟩
   rcases List.mem_cons.mp hz with rfl | hz
   ·exact c
   ·exact List.lt_trans c (h1 z hz)
  ·rename_i c
   have lt : y.1 < x.1 := Std.lt_of_le_of_ne c (hn y (.head _))
   refine List.pairwise_cons.mpr ⟨fun z hz => ?_, insK_pw h2 fun z hz => hn z (.tail _ hz)⟩
   rcases List.mem_cons.mp ((insK_perm x r).mem_iff.mp hz) with rfl | hz
   ·exact lt
   ·exact h1 z hz
theorem sortK_pw : ∀ {l : List (List Int × D)}, (l.map (·.1)).Nodup → (sortK l).Pairwise (fun a b => a.1 < b.1)
 | [], _ => List.Pairwise.nil
 | x :: r, h => by
  obtain ⟨h1, h2⟩ := List.nodup_cons.mp (show (x.1 :: r.map (·.1)).Nodup from h)
  refine insK_pw (sortK_pw h2) fun y hy e => h1 ?_
  rw [← e]
  exact List.mem_map_of_mem ((sortK_perm r).mem_iff.mp hy)
theorem places_eq {kz : List (List Int)} {ds : List D} {p : Array Nat} (hl : kz.length = ds.length) (nd : kz.Nodup) (hp : PermR ds.length p) (hs : So (cmpZ kz) p ds.length) : p.toList.map (fun i => ds.getD i D.non) = (sortK (kz.zip ds)).map (·.2) := by
 have e : p.toList.map (fun i => (kz.getD i [], ds.getD i D.non)) = sortK (kz.zip ds) := by
  have pr : (p.toList.map fun i => (kz.getD i [], ds.getD i D.non)).Perm (kz.zip ds) := by
   have : (List.range ds.length).map (fun i => (kz.getD i [], ds.getD i D.non)) = kz.zip ds := by
    refine List.ext_getElem (by simp [hl]) fun i h1 h2 => ?_
    have : i < ds.length := by simpa using h1
    have : i < kz.length := by omega
    simp [*]
   rw [← this]
   exact List.Perm.map _ hp
  have nz : ((kz.zip ds).map (·.1)).Nodup := by
   rw [List.map_fst_zip (by omega)]; exact nd
  refine List.Perm.eq_of_pairwise (le := fun a b : List Int × D => a.1 < b.1) (fun a b _ _ h1 h2 => absurd (List.lt_trans h1 h2) (List.lt_irrefl _)) ?_ (sortK_pw nz) (pr.trans (sortK_perm _).symm)
  rw [List.pairwise_map, List.pairwise_iff_getElem]
  intro i j hi hj hij
  have hz := hp.size
  have hj' : j < ds.length := by rw [← hz]; simpa using hj
  have := hs i j hij hj'
  rw [at_eq (by omega), at_eq (by omega)] at this
  simpa [cmpZ] using this
 rw [← e, List.map_map]
 rfl
theorem denL_at {K : KA} {G : Hp} {ds : List D} {vs : List V} (dl : DenL K G ds vs) : ∀ {ps : List Nat}, (∀ i ∈ ps, i < ds.length) → DenL K G (ps.map fun i => ds.getD i D.non) (ps.map fun i => vs.getD i V.non)
 | [], _ => rfl
 | i :: r, h => by
  refine ⟨_, _, rfl, ?_, denL_at dl fun j hj => h j (.tail _ hj)⟩
  have key : ∀ {ds : List D} {vs : List V} (i : Nat), DenL K G ds vs → i < ds.length → Den K G (ds.getD i D.non) (vs.getD i V.non) := by
   intro ds
   induction ds with
   | nil => intro vs i _ h; simp at h
   | cons d ds ih =>
    intro vs i dl h
    obtain ⟨v, vr, rfl, dv, dr⟩ := dl
    cases i with
    | zero => exact dv
    | succ i => simpa using ih i dr (by simpa using h)
  exact key i dl (h i (.head _))
theorem vals_at {vs : List V} {us : List Value} (r : Vals vs us) : ∀ {ps : List Nat}, (∀ i ∈ ps, i < vs.length) → Vals (ps.map fun i => vs.getD i V.non) (ps.map fun i => us.getD i Value.none)
 | [], _ => .nil
 | i :: q, h => by
  refine .cons ?_ (vals_at r fun j hj => h j (.tail _ hj))
  have key : ∀ {vs : List V} {us : List Value} (i : Nat), Vals vs us → i < vs.length → RelV (vs.getD i V.non) (us.getD i Value.none) := by
   intro vs us i r
   induction r generalizing i with
   | nil => intro h; simp at h
   | cons hh t ih =>
    intro h
    cases i with
    | zero => exact hh
    | succ i => simpa using ih i (by simpa using h)
  exact key i r (h i (.head _))
noncomputable def cw : D → Option D
 | .lst ds => if ds.length < 2 then some (.lst ds) else if ds.length < 64 then (match keysA ds with
  | some kz => if kz.Nodup then some (.lst ((sortK (kz.zip ds)).map (·.2))) else none
  | none => none) else none
 | _ => none
theorem pySorted_ok {d d' : D} (h : cw d = some d') : ∃ ds ds', d = .lst ds ∧ d' = .lst ds' ∧ ds.length < 64 ∧ ((ds.length < 2 ∧ ds' = ds) ∨ (2 ≤ ds.length ∧ ∃ kz, keysA ds = some kz ∧ kz.Nodup ∧ ds' = (sortK (kz.zip ds)).map (·.2))) := by
 unfold cw at h
 cases d with
 | lst ds =>
  dsimp only at h
  by_cases h2 : ds.length < 2
  ·rw [if_pos h2] at h; cases h
   exact ⟨ds, ds, rfl, rfl, by omega, .inl ⟨h2, rfl⟩⟩
  ·rw [if_neg h2] at h
   by_cases h64 : ds.length < 64
   ·rw [if_pos h64] at h
    cases hk : keysA ds with
    | none => rw [hk] at h; cases h
    | some kz =>
     rw [hk] at h
     dsimp only at h
     by_cases nd : kz.Nodup
     ·rw [if_pos nd] at h; cases h
      exact ⟨ds, _, rfl, rfl, h64, .inr ⟨by omega, kz, hk, nd, rfl⟩⟩
     ·rw [if_neg nd] at h; cases h
   ·rw [if_neg h64] at h; cases h
 | _ => cases h
theorem keysA_len : ∀ {ds : List D} {kz : List (List Int)}, keysA ds = some kz → kz.length = ds.length
 | [], kz, h => by cases h; rfl
 | d :: ds, kz, h => by
  obtain ⟨k, r, _, h2, rfl⟩ := keysA_cons h
  rw [List.length_cons, List.length_cons, keysA_len h2]
section
variable {X : Cx} {B : Hp} {E : EK} {e : Expr} {g : En → Res} {pos p : Pos}
noncomputable def rSortL (X : Cx) : List V → Hp → VK → Prop := fun xs H Q => ∃ a vs G ds ds', xs = [.ref a] ∧ SqL X.K H a vs ∧ Same G H ∧ DenL (kx X) G ds vs ∧ cw (.lst ds) = some (.lst ds') ∧ ∀ p vs', H p = none → DenL (kx X) G ds' vs' → Q (.ref p) (upd H p (.lst vs'))
theorem call_sortL (hu : X.A.units + 5 < cLine) : CallR X (.builtin "sorted") (rSortL X) := by
 intro pins s σ H xs us Q I r q
 obtain ⟨a, vs, G, ds, ds', rfl, sq, sg, dl, e, q⟩ := q
 obtain ⟨u, rfl, ru⟩ := vals1 r
 cases ru
 obtain ⟨its, rv, pl, _⟩ := I.list sq
 obtain ⟨ds0, ds1, e1, e2, h64, hh⟩ := pySorted_ok e
 cases e1; cases e2
 have n1 : its.length = vs.length := rv.length.symm
 have n2 : vs.length = ds.length := dl.length.symm
 have zl : its.length ≤ sizeLine := by rw [sizeLine_eq]; omega
 refine Calls.call_function_entry kind_sorted plain_sorted entry_sorted (args_sorted1 _) ?_
 unfold Builtin.«sorted»
 refine wpAny_bind (m := checkCount "sorted" 1 1 _) (wpAny_pure (wpAny_bind (collect_list pl.isList (wpAny_bind (wpAny_newList ?_ zl)) zl)))
 generalize hh1 : (s.heap.push (seqObj "list" #[] 0)).update s.heap.objs.size (Obj.mapSeq (· ++ its.toArray)) = h1
 have k1 : ∀ b o, s.heap.get? b = some o → h1.get? b = some o := fun b o e => by
  rw [← hh1, Heap.get?_update_ne _ _ _ _ (Nat.ne_of_lt (Heap.lt_size e))]
  exact Heap.get?_push_of_some _ e
 have hsz : s.heap.objs.size ≤ h1.objs.size := by rw [← hh1, Heap.size_update, size_push']; omega
 have hoL : (h1.push (seqObj "list" its.toArray 0)).get? h1.objs.size = some (seqObj "list" its.toArray 0) := Heap.get?_push_size _ rfl
 have k2 : ∀ b o, s.heap.get? b = some o → (h1.push (seqObj "list" its.toArray 0)).get? b = some o ∧ b ≠ h1.objs.size := fun b o e => ⟨Heap.get?_push_of_some _ (k1 b o e), Nat.ne_of_lt (Nat.lt_of_lt_of_le (Heap.lt_size e) hsz)⟩
 have hR : 2 ≤ its.length → SortRun X.prog X.w X.A.in1.in1 its its (fun p => PermR its.length p ∧ ∃ kz, keysA ds = some kz ∧ kz.Nodup ∧ So (cmpZ kz) p its.length ∧ ds' = (sortK (kz.zip ds)).map (·.2)) { s with heap := midH (h1.push (seqObj "list" its.toArray 0)) h1.objs.size its } := fun h2 => by
  rcases hh with ⟨z, _⟩ | ⟨_, kz, hk, nd, hd⟩
  ·omega
  ·have I2 : Inv X pins σ H { s with heap := midH (h1.push (seqObj "list" its.toArray 0)) h1.objs.size its } := I.kept (t' := s.toks) fun b o e => midH_old (k2 b o e).1 (k2 b o e).2
   have ka := keys_are I2 sg hk dl rv
   intro E'
   refine wpAny_mono (run_ok (prog := X.prog) (w := X.w) (A := X.A.in1.in1) (vs := its) rfl ka h2 (by omega) nd (by show X.A.units + 1 + 1 + 1 < cLine; omega) E') (fun κ s' g => ⟨g.1, fun E2 => wpAny_mono (g.2 E2) (fun r s2 g2 => ?_) fun _ _ x => x⟩) fun _ _ x => x
   obtain ⟨g1, g2, p, ⟨g3, g4⟩, g5, g6⟩ := g2
   exact ⟨g1, g2, p, ⟨g3, kz, hk, nd, g4, hd⟩, g5, g6⟩
 refine wpAny_bind (wpAny_holding (wpAny_call_entry slot_list_sort ⟨_, hoL, rfl⟩ entry_list_sort (sort_plain (s := { s with heap := h1.push (seqObj "list" its.toArray 0) }) hoL (by omega) hR fun out ho => ⟨_, rfl, wpAny_pure ⟨_, rfl, ?_⟩⟩) (args_list_sort _)))
 obtain ⟨ep, hat⟩ := sortedHeap_at (out := out.toArray) hoL
 have key : ∃ vs', DenL (kx X) G ds' vs' ∧ Vals vs' out := by
  rcases ho with ⟨z, rfl⟩ | ⟨z, p, ⟨hp, kz, hk, nd, hs, hd⟩, hps, rfl⟩
  ·rcases hh with ⟨_, rfl⟩ | ⟨z2, _⟩
   ·exact ⟨vs, dl, rv⟩
   ·omega
  ·have hp' : PermR ds.length p := by rw [← n2, ← n1]; exact hp
   have hs' : So (cmpZ kz) p ds.length := by rw [← n2, ← n1]; exact hs
   have lt : ∀ i ∈ p.toList, i < ds.length := fun i hi => List.mem_range.mp (hp'.mem_iff.mp hi)
   rw [hd, ← places_eq (keysA_len hk) nd hp' hs']
   exact ⟨_, denL_at dl lt, vals_at rv fun i hi => by rw [n2]; exact lt i hi⟩
 obtain ⟨vs', d', v'⟩ := key
 have z : vs'.length ≤ sizeLine := by rw [v'.length, ho.len]; exact zl
 refine ⟨.ref h1.objs.size, _, I.laid (a := h1.objs.size) (o := .lst vs') (t' := s.toks) (fun b o e => ?_) hsz ⟨z, out, ep, v', hat⟩, rfl, q _ vs' (I.hok.fresh hsz) d'⟩
 have hlt := Heap.lt_size e
 rw [sortedHeap_old (k2 b o e).2 (by rw [Heap.size_push]; exact Nat.lt_succ_of_lt (Nat.lt_of_lt_of_le hlt hsz))]
 exact (k2 b o e).1
theorem pu_sorted (hu : X.A.units + 5 < cLine) (hg : Gl X "sorted") (hm : X.mg "sorted" = none) (ha : ArE X B E e g) (he : starEach [e] X.env = (false, eval e X.env) :: starEach [] X.env) : PuE X B E (.Call (.Name "sorted" p) [e] [] pos) (g1 cw g) :=
 PE.imp (pe_callB (call_sortL hu) hg hm PyProof.Rows.boot_sorted (gd ha al_nil he) (by decide) (by decide) he rfl) fun σ H Q q => cb1 (fun G H x dx d sg ax ed Q q => by
  obtain ⟨ds, ds', rfl, rfl, _⟩ := pySorted_ok ed
  obtain ⟨l, vs, rfl, sq, dl⟩ := ax.lst sg
  exact ⟨l, vs, G, ds, ds', rfl, sq, sg, dl, ed, fun p vs' hp d' => q _ (upd G p (.lst vs')) _ (Ext.new sg _ hp) (den_newL sg hp d')⟩) q
end
noncomputable def PureC (prog : Program) (w : World) (A : Around) (s : Shared) (κ : SortKind) (item : Nat → Keyed) (cmp : Nat → Nat → Bool) : Prop :=
 ∀ i j, i < 64 → j < 64 → ∀ Q : Bool → Shared → Prop, Q (cmp i j) s → wpAny (model prog w) A (keyLt' κ (item i).1 (item j).1) Q (fun _ _ => False) s
noncomputable def stP (κ : SortKind) (item : Nat → Keyed) (p : Array Nat) (pend : Array (Nat × Nat × Nat)) (g : Nat) : SortSt := SortSt.mk' κ (p.map item) pend g none
noncomputable def B64 (p : Array Nat) : Prop := ∀ i, At p i < 64
noncomputable def runO {τ : Type} (step : τ → Option τ) : Nat → τ → τ
 | 0, t => t
 | k + 1, t => match step t with
  | some t' => runO step k t'
  | none => t
section
variable {prog : Program} {w : World} {A : Around} {E : Value → Shared → Prop} {s : Shared} {κ : SortKind} {item : Nat → Keyed} {cmp : Nat → Nat → Bool} {p : Array Nat} {pend : Array (Nat × Nat × Nat)} {g : Nat}
theorem get_map {i : Nat} (hi : i < p.size) : (Array.map item p)[i]? = some (item (At p i)) := by
 rw [at_eq hi]; simp [hi]
theorem lt_p {i j : Nat} {Q : Option Bool → SortSt → Shared → Prop} (P : PureC prog w A s κ item cmp) (hi : i < 64) (hj : j < 64) (q : Q (some (cmp i j)) (stP κ item p pend g) s) : kasC (model prog w) A E (lt' (item i) (item j)) Q (stP κ item p pend g) s := by
 rw [lt'_eq]
 refine kasC_bind (kasC_get (kasC_bind (kasC_lift (wpAny_attempt (wpAny_mono (P i j hi hj (fun b s' => b = cmp i j ∧ s' = s) ⟨rfl, rfl⟩) (fun b s' h => ?_) fun _ _ z => z.elim)))))
 obtain ⟨rfl, rfl⟩ := h
 exact kasC_pure q
theorem elem_p {a : Array Nat} {i : Nat} {Q : Keyed → SortSt → Shared → Prop} {st : SortSt} (hi : i < a.size) (q : Q (item (At a i)) st s) : kasC (model prog w) A E (elem' (a.map item) i) Q st s := by
 rw [elem'_eq, get_map hi]
 exact kasC_pure q
theorem ltAt_p {i j : Nat} {Q : Option Bool → SortSt → Shared → Prop} (P : PureC prog w A s κ item cmp) (hp : B64 p) (hi : i < p.size) (hj : j < p.size) (q : Q (some (cmp (At p i) (At p j))) (stP κ item p pend g) s) : kasC (model prog w) A E (ltAt' i j) Q (stP κ item p pend g) s := by
 rw [ltAt'_eq]
 refine kasC_bind (kasC_get ?_)
 show kasC _ _ _ (do let x ← elem' (p.map item) i; let y ← elem' (p.map item) j; lt' x y) Q _ _
 exact kasC_bind (elem_p hi (kasC_bind (elem_p hj (lt_p P (hp _) (hp _) q))))
theorem loopG {τ β : Type} {st : SortSt} {body : Nat → β → StateT SortSt Sem (ForInStep β)} {Q : β → SortSt → Shared → Prop} (enc : τ → β) (step : τ → Option τ) (I : τ → Nat → Prop)
  (hb : ∀ x t k (Q' : ForInStep β → SortSt → Shared → Prop), I t (k + 1) → (∀ t', step t = some t' → Q' (.yield (enc t')) st s) → (step t = none → Q' (.done (enc t)) st s) → kasC (model prog w) A E (body x (enc t)) Q' st s)
  (hI : ∀ t t' k, I t (k + 1) → step t = some t' → I t' k) : ∀ (l : List Nat) (t : τ), I t l.length → Q (enc (runO step l.length t)) st s → kasC (model prog w) A E (forIn l (enc t) body) Q st s
 | [], t, _, q => kasC_nil q
 | x :: l, t, i, q => by
  refine kasC_cons (hb x t l.length _ i (fun t' e => ?_) fun e => ?_)
  ·have q' : Q (enc (match step t with | some t' => runO step l.length t' | none => t)) st s := q
   rw [e] at q'
   exact loopG enc step I hb hI l t' (hI t t' _ i e) q'
  ·have q' : Q (enc (match step t with | some t' => runO step l.length t' | none => t)) st s := q
   rw [e] at q'
   exact q'
noncomputable def ascS (cmp : Nat → Nat → Bool) (p : Array Nat) (lo n : Nat) : Option Nat := if cmp (At p (lo + n)) (At p (lo + n - 1)) then none else some (n + 1)
theorem count_p {lo nrem n : Nat} {Q : Option Nat → SortSt → Shared → Prop} (P : PureC prog w A s κ item cmp) (hp : B64 p) (hz : lo + nrem ≤ p.size) (h : runO (ascS cmp p lo) (nrem - 1) 1 = n) (h1 : 1 < n) (h2 : n < nrem) (h3 : cmp (At p lo) (At p (lo + n - 1)) = true)
  (q : Q (some n) (stP κ item p pend g) s) : kasC (model prog w) A E (countRun' lo nrem) Q (stP κ item p pend g) s := by
 refine kasC_bind (kasC_range (loopG (fun n : Nat => ((none, n) : Option (Option Nat) × Nat)) (ascS cmp p lo) (fun n k => 1 ≤ n ∧ n + k = nrem) (fun x n k Q' hi hy hd => ?_) (fun n n' k hi e => ?_) _ 1 ⟨Nat.le_refl _, by rw [List.length_range']; omega⟩ ?_))
 ·refine kasC_bind (ltAt_p P hp (by omega) (by omega) ?_)
  unfold ascS at hy hd
  cases hc : cmp (At p (lo + n)) (At p (lo + n - 1)) with
  | true => rw [hc] at hd; exact kasC_pure (hd rfl)
  | false => rw [hc] at hy; exact kasC_pure (hy _ rfl)
 ·unfold ascS at e
  split at e
  ·cases e
  ·cases e; omega
 ·rw [List.length_range', h]
  show kasC _ _ _ (if (n == nrem) = true then _ else _) _ _ _
  rw [if_neg (by simp; omega), if_pos h1]
  refine kasC_bind (ltAt_p P hp (by omega) (by omega) ?_)
  rw [h3]
  exact kasC_pure q
noncomputable def plS (cmp : Nat → Nat → Bool) (p : Array Nat) (lo k : Nat) (t : Nat × Nat) : Option (Nat × Nat) := if t.1 ≥ t.2 then none else
 if cmp (At p (lo + k)) (At p (lo + (t.1 + t.2) / 2)) then some (t.1, (t.1 + t.2) / 2) else some ((t.1 + t.2) / 2 + 1, t.2)
noncomputable def sinS (cmp : Nat → Nat → Bool) (lo : Nat) (p : Array Nat) (k : Nat) : Array Nat := bubble p (lo + k) (lo + k - (lo + (runO (plS cmp p lo k) k (0, k)).1))
noncomputable def sinP (cmp : Nat → Nat → Bool) (lo : Nat) : Nat → Array Nat → Nat → Array Nat
 | 0, p, _ => p
 | f + 1, p, k => sinP cmp lo f (sinS cmp lo p k) (k + 1)
theorem B64.bub (hp : B64 p) (h0 : 0 < p.size) (i d : Nat) : B64 (bubble p i d) := fun j => by
 by_cases hj : j < (bubble p i d).size
 ·rw [at_eq hj]
  have : (bubble p i d)[j] ∈ p.toList := (Array.perm_iff_toList_perm.mp (bubble_perm p i d)).mem_iff.mp (by simp)
  obtain ⟨k, hk, e⟩ := List.mem_iff_getElem.mp this
  have := hp k
  rw [at_eq (by simpa using hk)] at this
  rw [← e]; simpa using this
 ·unfold At
  rw [Array.getD, dif_neg hj]; omega
theorem move_p {i j : Nat} {Q : Unit → SortSt → Shared → Prop} (q : Q () (stP κ item (bubble p i (i - j)) pend g) s) : kasC (model prog w) A E (moveDown' i j) Q (stP κ item p pend g) s := by
 rw [moveDown'_eq]
 refine kasC_modify ?_
 have e : setArr (stP κ item p pend g) (bubble (arrOf (stP κ item p pend g)) i (i - j)) = stP κ item (bubble p i (i - j)) pend g := by
  show SortSt.mk' κ (bubble (p.map item) i (i - j)) pend g none = SortSt.mk' κ ((bubble p i (i - j)).map item) pend g none
  rw [show bubble (p.map item) i (i - j) = (bubble p i (i - j)).map item from kas_swaps_map item (fun k => i - k) (fun k => i - k - 1) _ p]
 rw [e]
 exact q
theorem bin_p {lo n ok : Nat} {Q : Bool → SortSt → Shared → Prop} (P : PureC prog w A s κ item cmp) (hp : B64 p) (hz : lo + n ≤ p.size) (hok : 1 ≤ ok) (hn : ok ≤ n) (q : Q true (stP κ item (sinP cmp lo (n - ok) p ok) pend g) s) : kasC (model prog w) A E (binarySort' lo n ok) Q (stP κ item p pend g) s := by
 have mx : max ok 1 = ok := by omega
 rw [binarySort'_eq, mx]
 have go : ∀ {body : Nat → Option Bool × Unit → StateT SortSt Sem (ForInStep (Option Bool × Unit))} {R : Option Bool × Unit → SortSt → Shared → Prop}
   (hb : ∀ (k : Nat) (p' : Array Nat) (R' : ForInStep (Option Bool × Unit) → SortSt → Shared → Prop), B64 p' → k < n → p'.size = p.size → R' (.yield (none, ())) (stP κ item (sinS cmp lo p' k) pend g) s → kasC (model prog w) A E (body k (none, ())) R' (stP κ item p' pend g) s),
   ∀ (f k : Nat) (p' : Array Nat), B64 p' → k + f = n → p'.size = p.size → R (none, ()) (stP κ item (sinP cmp lo f p' k) pend g) s → kasC (model prog w) A E (forIn (List.range' k f) (none, ()) body) R (stP κ item p' pend g) s := by
  intro body R hb f
  induction f with
  | zero => intro k p' _ _ _ r; exact kasC_nil r
  | succ f ih =>
   intro k p' hp' hk hs r
   rw [List.range'_succ]
   refine kasC_cons (hb k p' _ hp' (by omega) hs ?_)
   exact ih (k + 1) _ (hp'.bub (by omega) _ _) (by omega) ((bubble_size ..).trans hs) r
 refine kasC_bind (kasC_range (go (fun k p' R' hp' hk hs r => ?_) (n - ok) ok p hp (by omega) rfl (kasC_pure q)))
 refine kasC_bind (kasC_range (loopG (fun t : Nat × Nat => ((none, t.1, t.2) : Option Bool × Nat × Nat)) (plS cmp p' lo k) (fun t _ => t.2 ≤ k) (fun x t j Q' hi hy hd => ?_) (fun t t' j hi e => ?_) _ (0, k) (Nat.le_refl _) ?_))
 ·unfold plS at hy hd
  show kasC _ _ _ (if t.1 ≥ t.2 then _ else _) _ _ _
  by_cases hl : t.1 ≥ t.2
  ·rw [if_pos hl] at hd ⊢
   exact kasC_pure (hd rfl)
  ·rw [if_neg hl] at hy ⊢
   refine kasC_bind (ltAt_p P hp' (show lo + k < p'.size by omega) (show lo + (t.1 + t.2) / 2 < p'.size by omega) ?_)
   cases hc : cmp (At p' (lo + k)) (At p' (lo + (t.1 + t.2) / 2)) with
   | true => rw [hc] at hy; exact kasC_pure (hy _ rfl)
   | false => rw [hc] at hy; exact kasC_pure (hy _ rfl)
 ·unfold plS at e
  split at e
  ·cases e
  ·split at e
   ·cases e; dsimp only; omega
   ·cases e; exact hi
 ·rw [List.length_range', Nat.sub_zero]
  refine kasC_bind (move_p (kasC_pure r))
end
noncomputable def gallopP : Bool → Keyed → Array Keyed → Nat → Nat → Nat → StateT SortSt Sem (Option Nat) := sortPriv% PySem.Builtin.gallop
noncomputable def mergeP : Array Keyed → Array Keyed → StateT SortSt Sem (Array Keyed) := sortPriv% PySem.Builtin.mergeLo
section
variable {prog : Program} {w : World} {A : Around} {E : Value → Shared → Prop} {s : Shared} {κ : SortKind} {item : Nat → Keyed} {cmp : Nat → Nat → Bool} {p : Array Nat} {pend : Array (Nat × Nat × Nat)} {g : Nat}
noncomputable def bey (cmp : Nat → Nat → Bool) (l : Bool) (key : Nat) (p : Array Nat) (base i : Nat) : Bool := if l then cmp (At p (base + i)) key else !cmp key (At p (base + i))
theorem bey_p {q : Array Nat} {l : Bool} {key base i : Nat} {Q : Option Bool → SortSt → Shared → Prop} (P : PureC prog w A s κ item cmp) (hk : key < 64) (hp : B64 p) (hi : base + i < p.size) (h : Q (some (bey cmp l key p base i)) (stP κ item q pend g) s) :
  kasC (model prog w) A E (elem' (p.map item) (base + i) >>= fun x => if l = true then lt' x (item key) else lt' (item key) x >>= fun r => pure (r.map fun b => !b)) Q (stP κ item q pend g) s := by
 refine kasC_bind (elem_p hi ?_)
 cases l with
 | true => exact lt_p P (hp _) hk h
 | false => exact kasC_bind (lt_p P hk (hp _) (kasC_pure h))
noncomputable def g1S (b : Nat → Bool) (hint mx : Nat) (t : Nat × Nat) : Option (Nat × Nat) := if t.2 ≥ mx then none else if b (hint + t.2) then some (t.2, 2 * t.2 + 1) else none
noncomputable def g2S (b : Nat → Bool) (hint mx : Nat) (t : Nat × Nat) : Option (Nat × Nat) := if t.2 ≥ mx then none else if b (hint - t.2) then none else some (t.2, 2 * t.2 + 1)
noncomputable def g3S (b : Nat → Bool) (t : Nat × Nat) : Option (Nat × Nat) := if t.1 ≥ t.2 then none else if b (t.1 + (t.2 - t.1) / 2) then some (t.1 + (t.2 - t.1) / 2 + 1, t.2) else some (t.1, t.1 + (t.2 - t.1) / 2)
noncomputable def galG (b : Nat → Bool) (n hint : Nat) : Nat := if b hint then (runO (g3S b) n (hint + (runO (g1S b hint (n - hint)) n (0, 1)).1 + 1, hint + min (runO (g1S b hint (n - hint)) n (0, 1)).2 (n - hint))).2
 else (runO (g3S b) n (hint + 1 - min (runO (g2S b hint (hint + 1)) n (0, 1)).2 (hint + 1), hint - (runO (g2S b hint (hint + 1)) n (0, 1)).1)).2
theorem gal_p {q : Array Nat} {l : Bool} {key base n hint : Nat} {Q : Option Nat → SortSt → Shared → Prop} (P : PureC prog w A s κ item cmp) (hk : key < 64) (hp : B64 p) (hz : base + n ≤ p.size) (hh : hint < n) (h : Q (some (galG (bey cmp l key p base) n hint)) (stP κ item q pend g) s) :
  kasC (model prog w) A E (gallopP l (item key) (p.map item) base n hint) Q (stP κ item q pend g) s := by
 have last : ∀ {lo hi : Nat} {body : Nat → Option (Option Nat) × Nat × Nat → StateT SortSt Sem (ForInStep (Option (Option Nat) × Nat × Nat))} {R : Option (Option Nat) × Nat × Nat → SortSt → Shared → Prop}, hi ≤ n →
   (∀ x (t : Nat × Nat) (Q' : ForInStep (Option (Option Nat) × Nat × Nat) → SortSt → Shared → Prop), t.2 ≤ n → (∀ t', g3S (bey cmp l key p base) t = some t' → Q' (.yield (none, t'.1, t'.2)) (stP κ item q pend g) s) → (g3S (bey cmp l key p base) t = none → Q' (.done (none, t.1, t.2)) (stP κ item q pend g) s) → kasC (model prog w) A E (body x (none, t.1, t.2)) Q' (stP κ item q pend g) s) →
   R (none, (runO (g3S (bey cmp l key p base)) n (lo, hi)).1, (runO (g3S (bey cmp l key p base)) n (lo, hi)).2) (stP κ item q pend g) s → kasC (model prog w) A E (forIn [:n] (none, lo, hi) body) R (stP κ item q pend g) s := by
  intro lo hi body R h1 hb r
  refine kasC_range ?_
  have e : (List.range' 0 (n - 0)).length = n := by rw [List.length_range']; omega
  refine loopG (fun t : Nat × Nat => ((none, t.1, t.2) : Option (Option Nat) × Nat × Nat)) (g3S (bey cmp l key p base)) (fun t _ => t.2 ≤ n) (fun x t k Q' hi' hy hd => hb x t Q' hi' hy hd) (fun t t' k hi' e => ?_) _ (lo, hi) h1 (by rw [e]; exact r)
  unfold g3S at e
  split at e
  ·cases e
  ·split at e
   ·cases e; exact hi'
   ·cases e; dsimp only; omega
 have body3 : ∀ (t : Nat × Nat) (Q' : ForInStep (Option (Option Nat) × Nat × Nat) → SortSt → Shared → Prop), t.2 ≤ n → (∀ t', g3S (bey cmp l key p base) t = some t' → Q' (.yield (none, t'.1, t'.2)) (stP κ item q pend g) s) → (g3S (bey cmp l key p base) t = none → Q' (.done (none, t.1, t.2)) (stP κ item q pend g) s) →
   (t.1 ≥ t.2 → Q' (.done (none, t.1, t.2)) (stP κ item q pend g) s) ∧ (¬ t.1 ≥ t.2 → ∀ b, bey cmp l key p base (t.1 + (t.2 - t.1) / 2) = b → if b = true then Q' (.yield (none, t.1 + (t.2 - t.1) / 2 + 1, t.2)) (stP κ item q pend g) s else Q' (.yield (none, t.1, t.1 + (t.2 - t.1) / 2)) (stP κ item q pend g) s) := by
  intro t Q' _ hy hd
  unfold g3S at hy hd
  refine ⟨fun c => hd (if_pos c), fun c b hb => ?_⟩
  rw [if_neg c, hb] at hy
  cases b with
  | true => exact hy _ rfl
  | false => exact hy _ rfl
 refine kasC_bind (bey_p P hk hp (by omega) ?_)
 unfold galG at h
 cases hb : bey cmp l key p base hint with
 | true =>
  rw [hb, if_pos rfl] at h
  show kasC _ _ _ (if true = true then _ else _) _ _ _
  rw [if_pos rfl]
  refine kasC_bind (kasC_range (loopG (fun t : Nat × Nat => ((none, t.1, t.2) : Option (Option Nat) × Nat × Nat)) (g1S (bey cmp l key p base) hint (n - hint)) (fun _ _ => True) (fun x t k Q' _ hy hd => ?_) (fun _ _ _ _ _ => trivial) _ (0, 1) trivial ?_))
  ·unfold g1S at hy hd
   show kasC _ _ _ (if t.2 ≥ n - hint then _ else _) _ _ _
   by_cases c : t.2 ≥ n - hint
   ·rw [if_pos c] at hd ⊢; exact kasC_pure (hd rfl)
   ·rw [if_neg c] at hy hd ⊢
    refine kasC_bind (bey_p P hk hp (show base + (hint + t.2) < p.size by omega) ?_)
    cases hc : bey cmp l key p base (hint + t.2) with
    | true => rw [hc] at hy; exact kasC_pure (hy _ rfl)
    | false => rw [hc] at hd; exact kasC_pure (hd rfl)
  ·rw [List.length_range', Nat.sub_zero]
   refine kasC_bind (last (by dsimp only; omega) (fun x t Q' ht hy hd => ?_) (kasC_pure h))
   obtain ⟨b1, b2⟩ := body3 t Q' ht hy hd
   show kasC _ _ _ (if t.1 ≥ t.2 then _ else _) _ _ _
   by_cases c : t.1 ≥ t.2
   ·rw [if_pos c]; exact kasC_pure (b1 c)
   ·rw [if_neg c]
    refine kasC_bind (bey_p P hk hp (show base + (t.1 + (t.2 - t.1) / 2) < p.size by omega) ?_)
    have z := b2 c _ rfl
    cases hc : bey cmp l key p base (t.1 + (t.2 - t.1) / 2) with
    | true => rw [hc] at z; exact kasC_pure z
    | false => rw [hc] at z; exact kasC_pure z
 | false =>
  rw [hb, if_neg (by decide)] at h
  show kasC _ _ _ (if false = true then _ else _) _ _ _
  rw [if_neg (by decide)]
  refine kasC_bind (kasC_range (loopG (fun t : Nat × Nat => ((none, t.1, t.2) : Option (Option Nat) × Nat × Nat)) (g2S (bey cmp l key p base) hint (hint + 1)) (fun _ _ => True) (fun x t k Q' _ hy hd => ?_) (fun _ _ _ _ _ => trivial) _ (0, 1) trivial ?_))
  ·unfold g2S at hy hd
   show kasC _ _ _ (if t.2 ≥ hint + 1 then _ else _) _ _ _
   by_cases c : t.2 ≥ hint + 1
   ·rw [if_pos c] at hd ⊢; exact kasC_pure (hd rfl)
   ·rw [if_neg c] at hy hd ⊢
    refine kasC_bind (bey_p P hk hp (show base + (hint - t.2) < p.size by omega) ?_)
    cases hc : bey cmp l key p base (hint - t.2) with
    | true => rw [hc] at hd; exact kasC_pure (hd rfl)
    | false => rw [hc] at hy; exact kasC_pure (hy _ rfl)
  ·rw [List.length_range', Nat.sub_zero]
   refine kasC_bind (last (by dsimp only; omega) (fun x t Q' ht hy hd => ?_) (kasC_pure h))
   obtain ⟨b1, b2⟩ := body3 t Q' ht hy hd
   show kasC _ _ _ (if t.1 ≥ t.2 then _ else _) _ _ _
   by_cases c : t.1 ≥ t.2
   ·rw [if_pos c]; exact kasC_pure (b1 c)
   ·rw [if_neg c]
    refine kasC_bind (bey_p P hk hp (show base + (t.1 + (t.2 - t.1) / 2) < p.size by omega) ?_)
    have z := b2 c _ rfl
    cases hc : bey cmp l key p base (t.1 + (t.2 - t.1) / 2) with
    | true => rw [hc] at z; exact kasC_pure z
    | false => rw [hc] at z; exact kasC_pure z
end
noncomputable def mRun (cmp : Nat → Nat → Bool) (a b : Array Nat) (gl : Nat) : Nat → Array Nat → Nat → Nat → Nat → Nat → Option (Array Nat)
 | 0, _, _, _, _, _ => none
 | f + 1, o, ia, ib, ac, bc => if cmp (At b ib) (At a ia) then
   (if ib + 1 = b.size then some (o.push (At b ib) ++ a.extract ia a.size ++ b.extract (ib + 1) b.size) else if bc + 1 ≥ gl then none else mRun cmp a b gl f (o.push (At b ib)) ia (ib + 1) 0 (bc + 1))
  else (if ia + 1 + 1 = a.size then some (o.push (At a ia) ++ b.extract ib b.size ++ a.extract (ia + 1) a.size) else if ac + 1 ≥ gl then none else mRun cmp a b gl f (o.push (At a ia)) (ia + 1) ib (ac + 1) 0)
section
variable {prog : Program} {w : World} {A : Around} {E : Value → Shared → Prop} {s : Shared} {κ : SortKind} {item : Nat → Keyed} {cmp : Nat → Nat → Bool} {p : Array Nat} {pend : Array (Nat × Nat × Nat)} {g : Nat}
noncomputable abbrev MSt := Option (Array Keyed) × Array Keyed × Nat × Nat × Nat × Nat
noncomputable def mPre (cmp : Nat → Nat → Bool) (item : Nat → Keyed) (a b : Array Nat) (g : Nat) (o : Array Nat) (ia ib ac bc : Nat) (Q : ForInStep MSt → Prop) : Prop := if cmp (At b ib) (At a ia) then
   (if ib + 1 = b.size then ∀ z, Q (.done (some ((o.push (At b ib) ++ a.extract ia a.size ++ b.extract (ib + 1) b.size).map item), z)) else if bc + 1 ≥ g then False else Q (.yield (none, (o.push (At b ib)).map item, ia, ib + 1, 0, bc + 1)))
  else (if ia + 1 + 1 = a.size then ∀ z, Q (.done (some ((o.push (At a ia) ++ b.extract ib b.size ++ a.extract (ia + 1) a.size).map item), z)) else if ac + 1 ≥ g then False else Q (.yield (none, (o.push (At a ia)).map item, ia + 1, ib, ac + 1, 0)))
theorem m_loop {st : SortSt} {a b r : Array Nat} {body : Nat → MSt → StateT SortSt Sem (ForInStep MSt)} {R : MSt → SortSt → Shared → Prop} (hR : ∀ z, R (some (r.map item), z) st s)
  (hb : ∀ x o ia ib ac bc (Q' : ForInStep MSt → SortSt → Shared → Prop), ia + 1 < a.size → ib < b.size → mPre cmp item a b g o ia ib ac bc (fun z => Q' z st s) → kasC (model prog w) A E (body x (none, o.map item, ia, ib, ac, bc)) Q' st s) :
  ∀ (l : List Nat) (o : Array Nat) (ia ib ac bc : Nat), ia + 1 < a.size → ib < b.size → mRun cmp a b g l.length o ia ib ac bc = some r → kasC (model prog w) A E (forIn l (none, o.map item, ia, ib, ac, bc) body) R st s
 | [], o, ia, ib, ac, bc, _, _, h => by cases h
 | x :: l, o, ia, ib, ac, bc, h1, h2, h => by
  refine kasC_cons (hb x o ia ib ac bc _ h1 h2 ?_)
  rw [List.length_cons, mRun] at h
  unfold mPre
  split at h
  ·rename_i c
   rw [if_pos c]
   split at h
   ·rename_i c2
    rw [if_pos c2]
    cases h
    exact fun z => hR z
   ·rename_i c2
    rw [if_neg c2]
    split at h
    ·cases h
    ·rename_i c3
     rw [if_neg c3]
     exact m_loop hR hb l _ _ _ _ _ h1 (by omega) h
  ·rename_i c
   rw [if_neg c]
   split at h
   ·rename_i c2
    rw [if_pos c2]
    cases h
    exact fun z => hR z
   ·rename_i c2
    rw [if_neg c2]
    split at h
    ·cases h
    ·rename_i c3
     rw [if_neg c3]
     exact m_loop hR hb l _ _ _ _ _ (by omega) h2 h
theorem merge_p {a b r : Array Nat} {Q : Array Keyed → SortSt → Shared → Prop} (P : PureC prog w A s κ item cmp) (Ba : B64 a) (Bb : B64 b) (ha : 2 ≤ a.size) (hb : 2 ≤ b.size) (hr : mRun cmp a b g (a.size + b.size) #[At b 0] 0 1 0 0 = some r) (q : Q (r.map item) (stP κ item p pend g) s) :
  kasC (model prog w) A E (mergeP (a.map item) (b.map item)) Q (stP κ item p pend g) s := by
 refine kasC_bind (kasC_lift (wpAny_rule (kasC_bind (elem_p (a := b) (i := 0) (by omega) ?_))))
 show kasC _ _ _ (if ((1 : Nat) == (b.map item).size) = true then _ else if ((0 : Nat) + 1 == (a.map item).size) = true then _ else _) _ _ _
 rw [if_neg (by rw [Array.size_map]; simp; omega), if_neg (by rw [Array.size_map]; simp; omega)]
 refine kasC_bind (kasC_get (kasC_bind (kasC_range ?_)))
 have sz : (a.map item).size + (b.map item).size - 0 = (a.size + b.size - 1) + 1 := by rw [Array.size_map, Array.size_map]; omega
 rw [sz, List.range'_succ]
 refine kasC_cons (kasC_bind (kasC_range ?_))
 have e0 : (#[item (At b 0)] : Array Keyed) = (#[At b 0] : Array Nat).map item := by simp
 have len : (List.range' 0 ((a.map item).size + (b.map item).size - 0)).length = a.size + b.size := by rw [List.length_range', Array.size_map, Array.size_map]; omega
 dsimp only
 rw [e0]
 refine m_loop (a := a) (b := b) (r := r) (cmp := cmp) (g := g) (fun z => ?_) (fun x o ia ib ac bc Q' h1 h2 pre => ?_) _ _ 0 1 0 0 (by omega) (by omega) (by rw [len]; exact hr)
 ·obtain ⟨z1, z2, z3, z4, z5⟩ := z
  exact kasC_pure (kasC_pure q)
 ·unfold mPre at pre
  refine kasC_bind (elem_p (a := b) h2 (kasC_bind (elem_p (a := a) (show ia < a.size by omega) (kasC_bind (lt_p P (Bb _) (Ba _) ?_)))))
  cases hc : cmp (At b ib) (At a ia) with
  | true =>
   rw [hc, if_pos rfl] at pre
   refine kasC_bind (elem_p (a := b) h2 ?_)
   show kasC _ _ _ (if (ib + 1 == (b.map item).size) = true then _ else if bc + 1 ≥ g then _ else _) _ _ _
   by_cases c2 : ib + 1 = b.size
   ·rw [if_pos c2] at pre
    rw [if_pos (by rw [Array.size_map]; simp [c2])]
    have e := pre (Array.push (o.map item) (item (At b ib)), ia, ib + 1, 0, bc + 1)
    rw [Array.map_append, Array.map_append, Array.map_push, Array.map_extract, Array.map_extract] at e
    refine kasC_pure ?_
    rw [Array.size_map, Array.size_map]
    exact e
   ·rw [if_neg c2] at pre
    rw [if_neg (by rw [Array.size_map]; simp [c2])]
    by_cases c3 : bc + 1 ≥ g
    ·rw [if_pos c3] at pre; exact pre.elim
    ·rw [if_neg c3] at pre ⊢
     rw [Array.map_push] at pre
     exact kasC_pure pre
  | false =>
   rw [hc, if_neg (by decide)] at pre
   refine kasC_bind (elem_p (a := a) (show ia < a.size by omega) ?_)
   show kasC _ _ _ (if (ia + 1 + 1 == (a.map item).size) = true then _ else if ac + 1 ≥ g then _ else _) _ _ _
   by_cases c2 : ia + 1 + 1 = a.size
   ·rw [if_pos c2] at pre
    rw [if_pos (by rw [Array.size_map]; simp [c2])]
    have e := pre (Array.push (o.map item) (item (At a ia)), ia + 1, ib, ac + 1, 0)
    rw [Array.map_append, Array.map_append, Array.map_push, Array.map_extract, Array.map_extract] at e
    refine kasC_pure ?_
    rw [Array.size_map, Array.size_map]
    exact e
   ·rw [if_neg c2] at pre
    rw [if_neg (by rw [Array.size_map]; simp [c2])]
    by_cases c3 : ac + 1 ≥ g
    ·rw [if_pos c3] at pre; exact pre.elim
    ·rw [if_neg c3] at pre ⊢
     rw [Array.map_push] at pre
     exact kasC_pure pre
end
noncomputable def subs6 : List (List Int) := [0, 1, 2, 3, 4, 5].foldl (fun l c => l ++ l.map (· ++ [c])) [[]]
noncomputable def K64 : List (List Int) := subs6.map fun c => (c.length : Int) :: c
noncomputable def putAll (k : Nat) (r : Array Nat) (p : Array Nat) : Array Nat := r.toList.zipIdx.foldl (fun a x => a.setIfInBounds (k + x.2) x.1) p
noncomputable def N1 : Array Nat := sinP (cmpZ K64) 0 28 (List.range 64).toArray 4
noncomputable def N2 : Array Nat := sinP (cmpZ K64) 32 28 N1 4
noncomputable def N3 : Array Nat := (mRun (cmpZ K64) (N2.extract 6 32) (N2.extract 32 58) 7 52 #[At (N2.extract 32 58) 0] 0 1 0 0).getD #[]
noncomputable def N4 : Array Nat := putAll 6 N3 N2
noncomputable def chk64 : Bool := decide (K64.length = 64) && decide (runO (ascS (cmpZ K64) (List.range 64).toArray 0) 63 1 = 4) && cmpZ K64 (At (List.range 64).toArray 0) (At (List.range 64).toArray 3) && decide (N1.size = 64) && (N1.toList.all fun i => decide (i < 64)) &&
 decide (runO (ascS (cmpZ K64) N1 32) 31 1 = 4) && cmpZ K64 (At N1 32) (At N1 35) && decide (N2.size = 64) && (N2.toList.all fun i => decide (i < 64)) && decide (galG (bey (cmpZ K64) false (At N2 32) N2 0) 32 0 = 6) && decide (galG (bey (cmpZ K64) true (At N2 31) N2 32) 32 31 = 26) &&
 (mRun (cmpZ K64) (N2.extract 6 32) (N2.extract 32 58) 7 52 #[At (N2.extract 32 58) 0] 0 1 0 0).isSome && decide (N4.size = 64) && (N4.toList.isPerm (List.range 64)) && ((List.range 64).all fun b => (List.range b).all fun a => cmpZ K64 (At N4 a) (At N4 b))
theorem chk64_ok : chk64 = true := by decide +kernel
theorem b64_of {p : Array Nat} (h : (p.toList.all fun i => decide (i < 64)) = true) : B64 p := fun i => by
 by_cases hi : i < p.size
 ·rw [at_eq hi]
  exact of_decide_eq_true (List.all_eq_true.mp h _ (by simp))
 ·unfold At
  rw [Array.getD, dif_neg hi]; omega
theorem b64_ext {p : Array Nat} (h : B64 p) (i j : Nat) : B64 (p.extract i j) := fun k => by
 by_cases hk : k < (p.extract i j).size
 ·have hs : i + k < p.size := by rw [Array.size_extract] at hk; omega
  have := h (i + k)
  rw [at_eq hs] at this
  rw [at_eq hk, Array.getElem_extract]
  exact this
 ·unfold At
  rw [Array.getD, dif_neg hk]; omega
theorem put_map {item : Nat → Keyed} (k : Nat) : ∀ (l : List (Nat × Nat)) (p : Array Nat), (l.map fun x => (item x.1, x.2)).foldl (fun a x => a.setIfInBounds (k + x.2) x.1) (p.map item) = (l.foldl (fun a x => a.setIfInBounds (k + x.2) x.1) p).map item
 | [], _ => rfl
 | x :: l, p => by
  rw [List.map_cons, List.foldl_cons, List.foldl_cons, ← put_map k l]
  congr 1
  simp [Array.map_setIfInBounds]
theorem zip_item {item : Nat → Keyed} : ∀ (l : List Nat) (i : Nat), (l.map item).zipIdx i = (l.zipIdx i).map fun x => (item x.1, x.2)
 | [], _ => rfl
 | a :: l, i => by
  rw [List.map_cons, List.zipIdx_cons, List.zipIdx_cons, List.map_cons, zip_item l]
section
variable {prog : Program} {w : World} {A : Around} {E : Value → Shared → Prop} {s : Shared} {κ : SortKind} {item : Nat → Keyed}
noncomputable def stP' (κ : SortKind) (a : Array Keyed) (pend : Array (Nat × Nat × Nat)) (g : Nat) : SortSt := SortSt.mk' κ a pend g none
theorem kasC_set {st st' : SortSt} {Q : PUnit → SortSt → Shared → Prop} (h : Q ⟨⟩ st' s) : kasC (model prog w) A E (set st' : StateT SortSt Sem PUnit) Q st s := by
 unfold kasC; rw [StateT.run_set]; exact wpAny_pure h
theorem mergeAt_p {Q : Bool → SortSt → Shared → Prop} (P : PureC prog w A s κ item (cmpZ K64)) (q : Q true (stP κ item N4 #[(0, 64, 1)] 7) s) : kasC (model prog w) A E (mergeAt' 0) Q (stP κ item N2 #[(0, 32, 1), (32, 32, 0)] 7) s := by
 have ck := chk64_ok
 unfold chk64 at ck
 simp only [Bool.and_eq_true, decide_eq_true_eq] at ck
 obtain ⟨⟨⟨⟨⟨⟨⟨⟨⟨⟨⟨⟨⟨⟨c1, c2⟩, c3⟩, c4⟩, c5⟩, c6⟩, c7⟩, c8⟩, c9⟩, c10⟩, c11⟩, c12⟩, c13⟩, c14⟩, c15⟩ := ck
 have B2 := b64_of c9
 have sz1 : (N2.extract 6 32).size = 26 := by rw [Array.size_extract, c8]; rfl
 have sz2 : (N2.extract 32 58).size = 26 := by rw [Array.size_extract, c8]; rfl
 refine kasC_bind (kasC_get ?_)
 refine kasC_bind (kasC_set ?_)
 have ep : (((#[(0, 32, 1), (32, 32, 0)] : Array (Nat × Nat × Nat)).setIfInBounds 0 (0, 64, 1)).eraseIdxIfInBounds 1) = #[(0, 64, 1)] := by decide +kernel
 show kasC _ _ _ _ _ (stP κ item N2 (((#[(0, 32, 1), (32, 32, 0)] : Array (Nat × Nat × Nat)).setIfInBounds 0 (0, 64, 1)).eraseIdxIfInBounds 1) 7) _
 rw [ep]
 refine kasC_bind (elem_p (a := N2) (i := 32) (by omega) ?_)
 refine kasC_bind (gal_p (l := false) (base := 0) (n := 32) (hint := 0) P (B2 _) B2 (by omega) (by omega) ?_)
 rw [c10]
 show kasC _ _ _ (if ((26 : Nat) == 0) = true then _ else _) _ _ _
 rw [if_neg (by decide)]
 refine kasC_bind (elem_p (a := N2) (i := 31) (by omega) ?_)
 refine kasC_bind (gal_p (l := true) (base := 32) (n := 32) (hint := 31) P (B2 _) B2 (by omega) (by omega) ?_)
 rw [c11]
 show kasC _ _ _ (if ((26 : Nat) == 0) = true then _ else _) _ _ _
 rw [if_neg (by decide)]
 show kasC _ _ _ (if 32 - 6 ≤ 26 then _ else _) _ _ _
 rw [if_pos (by decide)]
 have hr : mRun (cmpZ K64) (N2.extract 6 32) (N2.extract 32 58) 7 ((N2.extract 6 32).size + (N2.extract 32 58).size) #[At (N2.extract 32 58) 0] 0 1 0 0 = some N3 := by
  rw [sz1, sz2]
  unfold N3
  obtain ⟨r, e⟩ := Option.isSome_iff_exists.mp c12
  rw [e]; rfl
 refine kasC_bind ?_
 show kasC _ _ _ (mergeP ((N2.map item).extract 6 32) ((N2.map item).extract 32 58)) _ _ _
 rw [← Array.map_extract, ← Array.map_extract]
 refine merge_p (r := N3) P (b64_ext B2 _ _) (b64_ext B2 _ _) (by omega) (by omega) hr ?_
 have ea : ((N3.map item).toList.zipIdx).foldl (fun a x => a.setIfInBounds (6 + x.2) x.1) (N2.map item) = N4.map item := by
  rw [Array.toList_map, zip_item, put_map]; rfl
 refine kasC_bind (kasC_modify (kasC_bind (kasC_get (kasC_pure ?_))))
 show Q true (stP' κ (((N3.map item).toList.zipIdx).foldl (fun a x => a.setIfInBounds (6 + x.2) x.1) (N2.map item)) #[(0, 64, 1)] 7) s
 rw [ea]
 exact q
theorem sort64_p {Q : Unit → SortSt → Shared → Prop} (P : PureC prog w A s κ item (cmpZ K64)) (q : Q () (stP κ item N4 #[(0, 64, 1)] 7) s) : kasC (model prog w) A E sortRuns' Q (stP κ item (List.range 64).toArray #[] 7) s := by
 have ck := chk64_ok
 unfold chk64 at ck
 simp only [Bool.and_eq_true, decide_eq_true_eq] at ck
 obtain ⟨⟨⟨⟨⟨⟨⟨⟨⟨⟨⟨⟨⟨⟨c1, c2⟩, c3⟩, c4⟩, c5⟩, c6⟩, c7⟩, c8⟩, c9⟩, c10⟩, c11⟩, c12⟩, c13⟩, c14⟩, c15⟩ := ck
 have B0 : B64 (List.range 64).toArray := b64_of (by decide)
 have B1 := b64_of c5
 have B2 := b64_of c9
 have s0 : ((List.range 64).toArray).size = 64 := by simp
 have mr : minRun' 64 64 0 = 32 := by decide +kernel
 have pw : power' 64 (2 * 0 + 32) (2 * 0 + 32 + 32 + 32) 64 = 1 := by decide +kernel
 rw [sortRuns'_eq]
 refine kasC_bind (kasC_get ?_)
 have sz : (arrOf (stP κ item (List.range 64).toArray #[] 7)).size = 64 := by
  show (((List.range 64).toArray).map item).size = 64
  rw [Array.size_map, s0]
 dsimp only
 simp only [sz, mr]
 refine kasC_bind (kasC_range ?_)
 rw [show (64 - 0 : Nat) = 61 + 1 + 1 + 1 from rfl, List.range'_succ, List.range'_succ, List.range'_succ]
 refine kasC_cons ?_
 show kasC _ _ _ (if (0 : Nat) ≥ 64 then _ else _) _ _ _
 rw [if_neg (by decide)]
 refine kasC_bind (count_p (lo := 0) (nrem := 64) (n := 4) P B0 (by omega) c2 (by decide) (by decide) c3 ?_)
 show kasC _ _ _ (if (4 : Nat) < 32 then _ else _) _ _ _
 rw [if_pos (by decide)]
 refine kasC_bind (kasC_lift (wpAny_rule (kasC_bind (bin_p (lo := 0) (n := 32) (ok := 4) P B0 (by omega) (by decide) (by decide) ?_))))
 show kasC _ _ _ (if (!true) = true then _ else _) _ (stP κ item N1 #[] 7) _
 rw [if_neg (by decide)]
 refine kasC_bind (kasC_get (kasC_bind (kasC_modify (kasC_pure ?_))))
 show kasC _ _ _ (forIn _ ((none, 32) : Option Unit × Nat) _) _ (stP κ item N1 #[(0, 32, 0)] 7) _
 refine kasC_cons ?_
 show kasC _ _ _ (if (32 : Nat) ≥ 64 then _ else _) _ _ _
 rw [if_neg (by decide)]
 refine kasC_bind (count_p (lo := 32) (nrem := 32) (n := 4) P B1 (by omega) c6 (by decide) (by decide) c7 ?_)
 show kasC _ _ _ (if (4 : Nat) < 32 then _ else _) _ _ _
 rw [if_pos (by decide)]
 refine kasC_bind (kasC_lift (wpAny_rule (kasC_bind (bin_p (lo := 32) (n := 32) (ok := 4) P B1 (by omega) (by decide) (by decide) ?_))))
 show kasC _ _ _ (if (!true) = true then _ else _) _ (stP κ item N2 #[(0, 32, 0)] 7) _
 rw [if_neg (by decide)]
 refine kasC_bind (kasC_get ?_)
 refine kasC_bind (kasC_range ?_)
 rw [show (64 - 0 : Nat) = 63 + 1 from rfl, List.range'_succ]
 refine kasC_cons (kasC_bind (kasC_get (kasC_pure ?_)))
 refine kasC_bind (kasC_modify (kasC_bind (kasC_modify (kasC_pure ?_))))
 have em : (((#[(0, 32, 0)] : Array (Nat × Nat × Nat)).modify 0 fun x => (x.1, x.2.1, power' 64 (2 * 0 + 32) (2 * 0 + 32 + 32 + 32) 64)).push (32, 32, 0)) = #[(0, 32, 1), (32, 32, 0)] := by decide +kernel
 show kasC _ _ _ (forIn _ ((none, 64) : Option Unit × Nat) _) _ (stP κ item N2 (((#[(0, 32, 0)] : Array (Nat × Nat × Nat)).modify 0 fun x => (x.1, x.2.1, power' 64 (2 * 0 + 32) (2 * 0 + 32 + 32 + 32) 64)).push (32, 32, 0)) 7) _
 rw [em]
 refine kasC_cons ?_
 show kasC _ _ _ (if (64 : Nat) ≥ 64 then _ else _) _ _ _
 rw [if_pos (by decide)]
 refine kasC_pure ?_
 refine kasC_bind (kasC_range ?_)
 rw [show (64 - 0 : Nat) = 62 + 1 + 1 from rfl, List.range'_succ, List.range'_succ]
 refine kasC_cons (kasC_bind (kasC_get ?_))
 show kasC _ _ _ (if (2 : Nat) ≤ 1 then _ else _) _ _ _
 rw [if_neg (by decide)]
 refine kasC_bind ?_
 show kasC _ _ _ (mergeAt' 0) _ _ _
 refine mergeAt_p P ?_
 show kasC _ _ _ (if (!true) = true then _ else _) _ _ _
 rw [if_neg (by decide)]
 refine kasC_pure ?_
 refine kasC_cons (kasC_bind (kasC_get ?_))
 show kasC _ _ _ (if (1 : Nat) ≤ 1 then _ else _) _ _ _
 rw [if_pos (by decide)]
 exact kasC_pure (kasC_pure q)
theorem run64 {ks vs : List Value} (hl : ks.length = vs.length) (hk : KeysAre s true ks K64) (hu : A.units + 1 < cLine) : SortRun prog w A ks vs (fun p => PermR vs.length p ∧ So (cmpZ K64) p vs.length) s := by
 have ck := chk64_ok
 unfold chk64 at ck
 simp only [Bool.and_eq_true, decide_eq_true_eq] at ck
 obtain ⟨⟨⟨⟨⟨⟨⟨⟨⟨⟨⟨⟨⟨⟨c1, c2⟩, c3⟩, c4⟩, c5⟩, c6⟩, c7⟩, c8⟩, c9⟩, c10⟩, c11⟩, c12⟩, c13⟩, c14⟩, c15⟩ := ck
 have hz := hk.len
 have n64 : vs.length = 64 := by omega
 intro E
 obtain ⟨fs, f1, f2, f3⟩ := hk.firsts
 refine kat_kind (T := .type "int") f1 (by omega) (fun v hv => ?_) (by decide) ⟨rfl, fun E' => ?_⟩
 ·obtain ⟨n, t, rfl⟩ := f3 v hv
  exact Looks.of_pure rfl
 ·have P : PureC prog w A s (tuples' true) (kas_item (ks.toArray.zip vs.toArray)) (cmpZ K64) := fun i j hi hj Q q => by
   rw [kat_item hl, kat_item hl]
   obtain ⟨xs, as, r1, s1⟩ := hk.get (i := i) (by omega)
   obtain ⟨ys, bs, r2, s2⟩ := hk.get (i := j) (by omega)
   exact key_lt r1 r2 s1 s2 hu q
  have est : SortSt.mk' (tuples' true) (ks.toArray.zip vs.toArray) #[] 7 none = stP (tuples' true) (kas_item (ks.toArray.zip vs.toArray)) (List.range 64).toArray #[] 7 := by
   have e := kas_range (ks.toArray.zip vs.toArray)
   rw [show (ks.toArray.zip vs.toArray).size = 64 by simp [hl, n64]] at e
   show SortSt.mk' (tuples' true) (ks.toArray.zip vs.toArray) #[] 7 none = SortSt.mk' (tuples' true) ((List.toArray (List.range 64)).map (kas_item (ks.toArray.zip vs.toArray))) #[] 7 none
   rw [e]
  show wpAny _ _ (sortRuns'.run (SortSt.mk' (tuples' true) (ks.toArray.zip vs.toArray) #[] 7 none)) _ _ _
  rw [est]
  have run := sort64_p (E := E') (Q := fun _ st s'' => s'' = s ∧ failedOf st = none ∧ ∃ p : Array Nat, (PermR vs.length p ∧ So (cmpZ K64) p vs.length) ∧ p.size = vs.length ∧ (arrOf st).map (·.2) = List.toArray (p.toList.map fun i => vs.getD i Value.none)) P
   ⟨rfl, rfl, N4, ⟨by rw [n64]; exact List.isPerm_iff.mp c14, fun a b hab hb => ?_⟩, by rw [n64]; exact c13, kat_snds hl rfl⟩
  ·exact run
  ·rw [n64] at hb
   exact List.all_eq_true.mp (List.all_eq_true.mp c15 b (List.mem_range.mpr hb)) a (List.mem_range.mpr hab)
end
end Pu
end
section
namespace L2
open PySem PySem.Spec PyProof.Rows
theorem Inv.adopt {X : Cx} {pins : List (Addr × Obj)} {σ : List (Option V)} {H : Hp} {s : Shared} {b : Addr} {o : HO} {h' : Heap} {t' : Nat} (I : Inv X pins σ H s) (fp : FpOk X pins H b) (k : ∀ c u, c ≠ b → s.heap.get? c = some u → h'.get? c = some u) (new : ObjOk X.prog X.w (upd H b o) h' b o) :
  Inv X pins σ (upd H b o) { s with heap := h', toks := t' } := by
 obtain ⟨f0, f1, f2, f3, f4, f5⟩ := fp
 refine I.call (g' := s.gens) (d' := s.drawn) (ch := [b]) ⟨fun c u e n _ x => k c u (by simpa using x) e, fun c u e n _ x => ⟨u.slots, k c u (by simpa using x) e⟩, fun c u e n x => ?_, fun c u e x => ⟨u, k c u (by simpa using x) e⟩, fun c xs e => ?_, fun c ob u e => ?_, fun c q e => ?_⟩ (fun c u e => ?_) I.bare fun c hc => ?_
 ·rw [ak (by simpa using x)]; exact n
 ·rw [ak (am e f0)]; exact e
 ·rw [ak (am e f0)]; exact e
 ·rw [ak (am e f0)]; exact e
 ·by_cases z : c = b
  ·subst z; rw [bg] at e; cases e; exact new
  ·rw [ak z] at e
   refine (I.hok c u e).stay (fun c' u' hc' q => k c' u' ?_ q) (fun c' q => by rw [ak (am q f0)]; exact q) (fun c' xs q => by rw [ak (am q f0)]; exact q) fun c' ob u' q => by rw [ak (am q f0)]; exact q
   rcases hc' with y | y
   ·rw [y]; exact z
   ·exact am y f0
 ·obtain rfl : c = b := by simpa using hc
  exact ⟨f3, f1, f4, f5⟩
end L2
namespace Pu
open PySem PySem.Spec PyProof.Rows L2 PySem.SeqAt PySem.W
noncomputable def fm (T : GT) (l : Expr) (fs : List (Str × D)) : List D → Option (List D)
 | [] => some []
 | d :: ds => match T.lam l fs [d], fm T l fs ds with
  | .ok k, some r => some (k :: r)
  | _, _ => none
theorem lamKeys_cons {T : GT} {l : Expr} {fs : List (Str × D)} {d : D} {ds ks : List D} (h : fm T l fs (d :: ds) = some ks) : ∃ k r, T.lam l fs [d] = .ok k ∧ fm T l fs ds = some r ∧ ks = k :: r := by
 unfold fm at h
 cases e1 : T.lam l fs [d] with
 | ok k =>
  cases e2 : fm T l fs ds with
  | none => rw [e1, e2] at h; cases h
  | some r => rw [e1, e2] at h; cases h; exact ⟨k, r, rfl, rfl, rfl⟩
 | er c => rw [e1] at h; cases h
 | st => rw [e1] at h; cases h
theorem lamKeys_len {T : GT} {l : Expr} {fs : List (Str × D)} : ∀ {ds ks : List D}, fm T l fs ds = some ks → ks.length = ds.length
 | [], ks, h => by cases h; rfl
 | d :: ds, ks, h => by
  obtain ⟨k, r, _, h2, rfl⟩ := lamKeys_cons h
  rw [List.length_cons, List.length_cons, lamKeys_len h2]
noncomputable def tupL : D → Option (List Int)
 | .tup ds => intsL ds
 | _ => none
noncomputable def pairB (ds : List D) : Option (List Int) := match ds with
 | [a, b] => (match intD a, tupL b with
  | some i, some c => some (i :: c)
  | _, _ => none)
 | _ => none
noncomputable def keyB : D → Option (List Int)
 | .tup ds => pairB ds
 | _ => none
noncomputable def keysB : List D → Option (List (List Int))
 | [] => some []
 | d :: ds => match keyB d, keysB ds with
  | some k, some r => some (k :: r)
  | _, _ => none
theorem intD_ok {d : D} {i : Int} (h : intD d = some i) : d = .int i := by
 cases d <;> first | (cases h; rfl) | cases h
theorem tupL_ok {d : D} {c : List Int} (h : tupL d = some c) : d = .tup (c.map D.int) := by
 cases d with
 | tup ds => rw [intsL_ok (show intsL ds = some c from h)]
 | _ => cases h
theorem keyB_ok {d : D} {k : List Int} (h : keyB d = some k) : ∃ i c, k = i :: c ∧ d = .tup [.int i, .tup (c.map D.int)] := by
 cases d with
 | tup ds =>
  have h : pairB ds = some k := h
  unfold pairB at h
  split at h
  ·rename_i a b _
   cases e1 : intD a with
   | none => rw [e1] at h; cases h
   | some i =>
    cases e2 : tupL b with
    | none => rw [e1, e2] at h; cases h
    | some c => rw [e1, e2] at h; cases h; exact ⟨i, c, rfl, by rw [intD_ok e1, tupL_ok e2]⟩
  ·cases h
 | _ => cases h
theorem keysB_cons {d : D} {ds : List D} {kz : List (List Int)} (h : keysB (d :: ds) = some kz) : ∃ k r, keyB d = some k ∧ keysB ds = some r ∧ kz = k :: r := by
 unfold keysB at h
 cases e1 : keyB d with
 | none => rw [e1] at h; cases h
 | some k =>
  cases e2 : keysB ds with
  | none => rw [e1, e2] at h; cases h
  | some r => rw [e1, e2] at h; cases h; exact ⟨k, r, rfl, rfl, rfl⟩
theorem keysB_len : ∀ {ds : List D} {kz : List (List Int)}, keysB ds = some kz → kz.length = ds.length
 | [], kz, h => by cases h; rfl
 | d :: ds, kz, h => by
  obtain ⟨k, r, _, h2, rfl⟩ := keysB_cons h
  rw [List.length_cons, List.length_cons, keysB_len h2]
section
variable {X : Cx} {pins : List (Addr × Obj)} {σ : St} {G H : Hp} {s : Shared}
theorem keys_areB (I : Inv X pins σ H s) (sg : Same G H) : ∀ {ds : List D} {kz : List (List Int)} {vs : List V} {us : List Value}, keysB ds = some kz → DenL (kx X) G ds vs → Vals vs us → KeysAre s true us kz
 | [], kz, vs, us, h, dl, r => by
  cases h
  cases (show vs = [] from dl)
  cases r
  trivial
 | d :: ds, kz, vs, us, h, dl, r => by
  obtain ⟨k, r', h1, h2, rfl⟩ := keysB_cons h
  obtain ⟨v, vr, rfl, dv, dr⟩ := dl
  obtain ⟨i, c, rfl, rfl⟩ := keyB_ok h1
  cases r with
  | cons rv rr =>
   refine ⟨?_, keys_areB I sg h2 dr rr⟩
   have e : toPy (.tup [.int i, .tup (c.map D.int)]) = some (.tuple [.int i, .tuple (c.map PyData.int)]) := by
    rw [toPy, d5, toPy, d5, toPy, toPy_ints, d5]
   obtain ⟨as, ra⟩ := reads_of I sg dv rv e
   exact ⟨_, as, ra, i, c, rfl, rfl⟩
end
noncomputable def sortBy (ks ds : List D) : Option (List D) := if ds.length < 2 then some ds else (match keysB ks with
 | some kz => if (ds.length < 64 ∨ kz = K64) ∧ kz.Nodup then some ((sortK (kz.zip ds)).map (·.2)) else none
 | none => none)
theorem sortBy_ok {ks ds r : List D} (h : sortBy ks ds = some r) : (ds.length < 2 ∧ r = ds) ∨ (2 ≤ ds.length ∧ ∃ kz, keysB ks = some kz ∧ (ds.length < 64 ∨ kz = K64) ∧ kz.Nodup ∧ r = (sortK (kz.zip ds)).map (·.2)) := by
 unfold sortBy at h
 by_cases h2 : ds.length < 2
 ·rw [if_pos h2] at h; cases h; exact .inl ⟨h2, rfl⟩
 ·rw [if_neg h2] at h
  cases hk : keysB ks with
  | none => rw [hk] at h; cases h
  | some kz =>
   rw [hk] at h
   dsimp only at h
   by_cases c : (ds.length < 64 ∨ kz = K64) ∧ kz.Nodup
   ·rw [if_pos c] at h; cases h; exact .inr ⟨by omega, kz, rfl, c.1, c.2, rfl⟩
   ·rw [if_neg c] at h; cases h
structure ExtB (k : Addr) (G H G' H' : Hp) : Prop where
 gg : Same G G'
 hh : ∀ b o, b ≠ k → H b = some o → H' b = some o
 gh : Same G' H'
 fr : ∀ a o, a ≠ k → H a = some o → G a = none → nfz o = true → G' a = none
theorem ExtB.trans {k : Addr} {G H G1 H1 G2 H2 : Hp} (a : ExtB k G H G1 H1) (b : ExtB k G1 H1 G2 H2) : ExtB k G H G2 H2 :=
 ⟨a.gg.trans b.gg, fun c o n e => b.hh c o n (a.hh c o n e), b.gh, fun c o n e q z => b.fr c o n (a.hh c o n e) (a.fr c o n e q z) z⟩
section
variable {T : GT} {ev : Ev} {X : Cx} {C : SC} {B : Hp} {E : XK} {pins : List (Addr × Obj)} {σ : St}
theorem env0_in2 {H : Hp} {s : Shared} (I : Inv X pins σ H s) : Env0 X.prog X.w X.K X.mg X.base X.A.in1.in1 X.stack s H := by
 obtain ⟨a1, a2, a3, a4, a5, a6, a7, a8⟩ := I.env0
 exact ⟨a1, a2, a3, a4, a5, a6, a7, a8⟩
theorem key_loop {E' : Value → Shared → Prop} (O : XOk X C T E) {l : Expr} {fs : List (Str × D)} {f kS : Addr} {body : Value → PUnit → Sem (ForInStep PUnit)}
  (hb : ∀ (x : Value) (s : Shared) (R : ForInStep PUnit → Shared → Prop), wpAny (model X.prog X.w) X.A.in1.in1 (call (.ref f) [x]) (fun k s' => wpAny (model X.prog X.w) X.A.in1.in1 (Builtin.List.listUpdate (.ref kS) (·.push k)) (fun _ s'' => R (.yield ⟨⟩) s'') E' s') (fun _ _ => False) s → wpAny (model X.prog X.w) X.A.in1.in1 (body x ⟨⟩) R E' s) :
  ∀ (ds ks : List D) (vs : List V) (us : List Value) (kd : List D) (kv : List V) (G H : Hp) (s : Shared), Inv X pins σ H s → Same G H → GOk H → G kS = none → H kS = some (.lst kv) → DenL (kx X) G kd kv → Den (kx X) G (.obj l fs) (.ref f) → DenL (kx X) G ds vs → Vals vs us → fm T l fs ds = some ks → kv.length + us.length ≤ 1000 →
   wpAny (model X.prog X.w) X.A.in1.in1 (forIn us PUnit.unit body) (fun _ s' => ∃ G' H' kv', Inv X pins σ H' s' ∧ ExtB kS G H G' H' ∧ G' kS = none ∧ H' kS = some (.lst kv') ∧ DenL (kx X) G' (kd ++ ks) kv') E' s
 | [], ks, vs, us, kd, kv, G, H, s, I, sg, gb, gk, hk, dk, df, dl, rv, hks, hz => by
  cases (show vs = [] from dl)
  cases rv
  cases hks
  rw [List.forIn_nil, List.append_nil]
  exact wpAny_pure ⟨G, H, kv, I, ⟨Same.refl G, fun _ _ _ e => e, sg, fun _ _ _ _ n _ => n⟩, gk, hk, dk⟩
 | d :: ds, ks, vs, us, kd, kv, G, H, s, I, sg, gb, gk, hk, dk, df, dl, rv, hks, hz => by
  obtain ⟨k, r, h1, h2, rfl⟩ := lamKeys_cons hks
  obtain ⟨v, vr, rfl, dv, dr⟩ := dl
  cases rv with
  | @cons _ u _ ur ru rr =>
  rw [List.forIn_cons]
  obtain ⟨n, hr, run⟩ := O.lams l fs [d] k h1
  refine wpAny_bind (hb u s _ (wpAny_call (codeAny_mono (run X.A.in1.in1 X.stack s H G f [u] [v] (fun w H' => ∃ G', Ext G H G' H' ∧ Den (kx X) G' k w) (RoomL.in2 hr) (env0_in2 I) gb sg df ⟨v, [], rfl, dv, rfl⟩ (.cons ru .nil) fun w G' H' e dn => ⟨G', e, dn⟩) fun rr' s' hq => ?_)))
  cases rr' with
  | error x =>
   obtain ⟨_, _, _, _, _, _, _, _, _, z⟩ := (show CXe X.prog X.w X.stack H s E0 x s' from hq)
   exact z.elim
  | ok fl =>
   cases fl with
   | ret ku =>
    obtain ⟨w, H1, I1, rw1, G1, e1, dn⟩ := I.after hq
    have hk1 := e1.hh _ _ hk
    have gk1 := e1.fr _ _ hk gk rfl
    obtain ⟨z1, its, ep, r1, zl, ho⟩ := I1.lstM hk1
    have lz : kv.length + (ur.length + 1) ≤ 1000 := by simpa using hz
    have szl : (1000 : Nat) ≤ sizeLine := by rw [sizeLine_eq]; omega
    refine listUpdate_at ho rfl ?_ (by rw [List.size_toArray]; omega) (by rw [Array.size_push, List.size_toArray]; omega)
    have hv : Vals (kv ++ [w]) (its ++ [ku]) := r1.append (.cons rw1 .nil)
    have I2 := I1.lset (f := (·.push ku)) (its' := its ++ [ku]) (ys := kv ++ [w]) (t' := s'.toks) hk1 ho (by simp) hv (by rw [List.length_append, List.length_singleton]; omega)
    have sg2 : Same G1 (upd H1 kS (.lst (kv ++ [w]))) := fun b o q => by
     rw [ak (am q gk1)]; exact e1.gh _ _ q
    have gb2 : GOk (upd H1 kS (.lst (kv ++ [w]))) := fun p hp => by
     have := e1.hh _ _ (gb p hp)
     rw [ak (fun z => by rw [z, hk1] at this; cases this)]; exact this
    have dk2 : DenL (kx X) G1 (kd ++ [k]) (kv ++ [w]) := (dk.mono e1.gg).append ⟨w, [], rfl, dn, rfl⟩
    have ih := key_loop (E' := E') O hb ds r vr ur (kd ++ [k]) (kv ++ [w]) G1 _ _ I2 sg2 gb2 gk1 bg dk2 (df.mono e1.gg) (dr.mono e1.gg) rr h2 (by rw [List.length_append, List.length_singleton]; omega)
    refine wpAny_mono ih (fun _ s3 g => ?_) fun _ _ x => x
    obtain ⟨G', H', kv', g1, g2, g3, g4, g5⟩ := g
    refine ⟨G', H', kv', g1, ExtB.trans ⟨e1.gg, fun b o n q => ?_, sg2, fun a o n q1 q2 q3 => e1.fr _ _ q1 q2 q3⟩ g2, g3, g4, ?_⟩
    ·rw [ak n]; exact e1.hh _ _ q
    ·rw [List.append_assoc] at g5; exact g5
   | next => exact False.elim hq
   | brk => exact False.elim hq
   | cont => exact False.elim hq
end
end Pu
end
section
namespace Pu
open PySem PySem.Spec PyProof.Rows L2 PySem.SeqAt PySem.W
section
variable {prog : Program} {w : World} {A : Around} {E : Value → Shared → Prop} {s : Shared}
noncomputable def endH (h : Heap) (kS nL : Addr) (out : List Value) : Heap := (h.update kS (Obj.mapSeq fun _ => (#[] : Array Value))).update nL (Obj.mapSeq fun _ => out.toArray)
theorem tail_keyed {nL kS : Addr} {e1 m : Nat} {keys : Array Value} {st : SortSt} {out : List Value} {P : PySem.Fin → Shared → Prop} (hn : s.heap.get? nL = some (seqObj "list" #[] e1)) (hk : s.heap.get? kS = some (seqObj "list" keys m)) (ne : nL ≠ kS) (hout : (arrOf st).map (·.2) = out.toArray) (hf : failedOf st = none)
  (hz : out.length ≤ 1000) (hkz : keys.size ≤ 1000) (h : P (.done (.ret .none)) { s with heap := endH s.heap kS nL out }) : wpAny (model prog w) A (ksk_tail nL false e1 (.ref kS) st) P E s := by
 have szl : (1000 : Nat) ≤ sizeLine := by rw [sizeLine_eq]; omega
 have hn1 : (s.heap.update kS (Obj.mapSeq fun _ => (#[] : Array Value))).get? nL = some (seqObj "list" #[] e1) := by
  rw [Heap.get?_update_ne _ _ _ _ ne]; exact hn
 unfold ksk_tail
 try dsimp only
 rw [hout]
 refine wpAny_bind (listUpdate_at hk rfl (wpAny_bind (wpAny_letGo ?_)) (by omega) (Nat.zero_le _))
 refine wpAny_bind (seqEpoch_at hn1 rfl (wpAny_bind (listUpdate_at hn1 rfl ?_ (Nat.zero_le _) (Nat.le_trans (Nat.le_of_eq (List.size_toArray ..)) (by omega)))))
 rw [hf]
 simp only [bne_self_eq_false, Bool.false_eq_true, if_false]
 exact wpAny_pure h
theorem end_keyed {nL kS : Addr} {e1 m : Nat} {ks its : List Value} {R : Array Nat → Prop} {P : PySem.Fin → Shared → Prop} (hn : s.heap.get? nL = some (seqObj "list" #[] e1)) (hk : s.heap.get? kS = some (seqObj "list" ks.toArray m)) (ne : nL ≠ kS) (hl : ks.length = its.length) (hz : its.length ≤ 1000)
  (hR : 2 ≤ its.length → SortRun prog w A ks its R s) (h : ∀ out : List Value, OutOf R its out → P (.done (.ret .none)) { s with heap := endH s.heap kS nL out }) : wpAny (model prog w) A (ksk_end nL false its.toArray e1 (.ref kS) ks.toArray) P E s := by
 unfold ksk_end
 try dsimp only
 simp only [Bool.false_eq_true, if_false]
 have kz : ks.toArray.size ≤ 1000 := by rw [List.size_toArray]; omega
 by_cases h2 : its.toArray.size < 2
 ·have h2' : its.length < 2 := by simpa using h2
  rw [if_pos h2, if_pos h2]
  refine wpAny_bind (wpAny_pure ?_)
  rw [StateT.run_pure]
  refine wpAny_bind (wpAny_pure ?_)
  dsimp only
  have em : Array.map (fun x : Keyed => x.2) (ks.toArray.zip its.toArray) = its.toArray := by
   apply Array.toList_inj.mp
   rw [Array.toList_map, Array.toList_zip]
   exact List.map_snd_zip (Nat.le_of_eq hl.symm)
  exact tail_keyed hn hk ne em rfl (by omega) kz (h its (.inl ⟨h2', rfl⟩))
 ·have h2' : 2 ≤ its.length := by simpa using h2
  rw [if_neg h2, if_neg h2]
  refine wpAny_bind (wpAny_mono (hR h2' _) (fun κ s' g => ?_) fun _ _ x => x)
  obtain ⟨rfl, g⟩ := g
  refine wpAny_bind (wpAny_mono (g _) (fun r s' g => ?_) fun _ _ x => x)
  obtain ⟨rfl, hf, p, hp, hs, ho⟩ := g
  obtain ⟨⟨⟩, st⟩ := r
  dsimp only at hf ho ⊢
  exact tail_keyed hn hk ne ho hf (by rw [List.length_map, Array.length_toList, hs]; exact hz) kz (h _ (.inr ⟨h2', p, hp, hs, rfl⟩))
end
section
variable {T : GT} {ev : Ev} {X : Cx} {C : SC} {B : Hp} {E : XK} {pins : List (Addr × Obj)} {σ : St}
theorem call_sortK {E' : Value → Shared → Prop} (O : XOk X C T E) {a f : Addr} {vs : List V} {G H : Hp} {s : Shared} {ds ks r : List D} {l : Expr} {fs : List (Str × D)} {Q : VK} (I : Inv X pins σ H s) (gb : GOk H) (sg : Same G H) (sq : SqL X.K H a vs) (dl : DenL (kx X) G ds vs) (df : Den (kx X) G (.obj l fs) (.ref f)) (hk : fm T l fs ds = some ks) (hr : sortBy ks ds = some r) (hz : ds.length ≤ 1000)
  (q : ∀ p vs' G' H', Ext G H G' H' → H' p = none → DenL (kx X) G' r vs' → Q (.ref p) (upd H' p (.lst vs'))) : wpAny (model X.prog X.w) X.A (call (.builtin "sorted") [.ref a] [(Str.ofString "key", .ref f)]) (EP X pins σ Q) E' s := by
 obtain ⟨its, rv, pl, _⟩ := I.list sq
 have n1 : its.length = vs.length := rv.length.symm
 have n2 : vs.length = ds.length := dl.length.symm
 have nk := lamKeys_len hk
 have szl : (1000 : Nat) ≤ sizeLine := by rw [sizeLine_eq]; omega
 have zl : its.length ≤ sizeLine := by omega
 refine call_function_entry_kw kind_sorted plain_sorted entry_sorted (ksk_s1 _ _) ?_
 unfold Builtin.«sorted»
 refine wpAny_bind (m := checkCount "sorted" 1 1 _) (wpAny_pure (wpAny_bind (collect_list pl.isList (wpAny_bind (wpAny_newList ?_ zl)) zl)))
 generalize hh1 : (s.heap.push (seqObj "list" #[] 0)).update s.heap.objs.size (Obj.mapSeq (· ++ its.toArray)) = h1
 have k1 : ∀ b o, s.heap.get? b = some o → h1.get? b = some o := fun b o e => by
  rw [← hh1, Heap.get?_update_ne _ _ _ _ (Nat.ne_of_lt (Heap.lt_size e))]
  exact Heap.get?_push_of_some _ e
 have hsz : s.heap.objs.size ≤ h1.objs.size := by rw [← hh1, Heap.size_update, size_push']; omega
 have hoL : (h1.push (seqObj "list" its.toArray 0)).get? h1.objs.size = some (seqObj "list" its.toArray 0) := Heap.get?_push_size _ rfl
 have k2 : ∀ b o, s.heap.get? b = some o → (h1.push (seqObj "list" its.toArray 0)).get? b = some o ∧ b ≠ h1.objs.size := fun b o e => ⟨Heap.get?_push_of_some _ (k1 b o e), Nat.ne_of_lt (Nat.lt_of_lt_of_le (Heap.lt_size e) hsz)⟩
 refine wpAny_bind (wpAny_holding (wpAny_call_entry_kw slot_list_sort ⟨_, hoL, rfl⟩ entry_list_sort ?_ (ksk_l1 _ _)))
 rw [ksk_t1]
 obtain ⟨e1, ho1⟩ : ∃ e1, ((h1.push (seqObj "list" its.toArray 0)).update h1.objs.size (Obj.mapSeq fun _ => (#[] : Array Value))).get? h1.objs.size = some (seqObj "list" #[] e1) := ⟨_, get?_update_seq hoL fun _ => #[]⟩
 generalize hh3 : (h1.push (seqObj "list" its.toArray 0)).update h1.objs.size (Obj.mapSeq fun _ => (#[] : Array Value)) = h3 at ho1
 have k3 : ∀ b o, s.heap.get? b = some o → h3.get? b = some o := fun b o e => by
  rw [← hh3, Heap.get?_update_ne _ _ _ _ (k2 b o e).2]; exact (k2 b o e).1
 have hsz3 : h1.objs.size < h3.objs.size := Heap.lt_size ho1
 unfold ksk_tree
 refine wpAny_bind (listItems_at hoL rfl (wpAny_bind (listUpdate_at hoL rfl ?_ (by rw [List.size_toArray]; exact zl) (Nat.zero_le _))))
 show wpAny _ _ _ _ _ { s with heap := _ }
 rw [hh3]
 refine wpAny_bind (seqEpoch_at ho1 rfl (wpAny_bind (wpAny_newTuple (wpAny_bind (wpAny_newList (wpAny_holding ?_) (Nat.zero_le _))) zl)))
 have I4 : Inv X pins σ H { s with heap := h3.push (seqObj "tuple" its.toArray 0) } := I.kept (t' := s.toks) fun b o e => Heap.get?_push_of_some _ (k3 b o e)
 have fresh : H h1.objs.size = none := I.hok.fresh hsz
 obtain ⟨f0, f1, f2, f3, f4, f5⟩ := I.fpOk hsz fresh
 have hn4 : (h3.push (seqObj "tuple" its.toArray 0)).get? h1.objs.size = some (seqObj "list" #[] e1) := Heap.get?_push_of_some _ ho1
 have I5 : Inv X (pins ++ [(h1.objs.size, seqObj "list" #[] e1)]) σ H { s with heap := h3.push (seqObj "tuple" its.toArray 0) } := I4.pins_of fun p hp => by
  rcases List.mem_append.mp hp with hp | hp
  ·exact I4.pin p (List.mem_append_right _ hp)
  ·obtain rfl : p = (h1.objs.size, seqObj "list" #[] e1) := by simpa using hp
   exact ⟨hn4, f0, f1, f2, fun v z => by cases z⟩
 generalize hkS : (h3.push (seqObj "tuple" its.toArray 0)).objs.size = kS at *
 have hk4 : H kS = none := by rw [← hkS]; exact I4.fresh
 have neK : h1.objs.size ≠ kS := by rw [← hkS, size_push']; exact Nat.ne_of_lt (Nat.lt_succ_of_lt hsz3)
 have I6 := I5.lnew (its := []) (ys := []) (t' := s.toks) .nil (Nat.zero_le _)
 change Inv X (pins ++ [(h1.objs.size, seqObj "list" #[] e1)]) σ (upd H (h3.push (seqObj "tuple" its.toArray 0)).objs.size (.lst [])) { s with heap := (h3.push (seqObj "tuple" its.toArray 0)).push (seqObj "list" #[] 0) } at I6
 rw [hkS] at I6
 have x6 := Ext.own sg (.lst []) hk4
 show wpAny _ _ (ksk_rest h1.objs.size (.ref f) false its.toArray e1 (.ref kS)) _ _ { s with heap := (h3.push (seqObj "tuple" its.toArray 0)).push (seqObj "list" #[] 0) }
 unfold ksk_rest
 refine wpAny_bind (wpAny_rule ?_)
 rw [List.forIn_toArray]
 have gk : G kS = none := by
  cases z : G kS with
  | none => rfl
  | some o => have := sg _ _ z; rw [hk4] at this; cases this
 have gb6 : GOk (upd H kS (.lst [])) := fun p hp => x6.hh _ _ (gb p hp)
 refine wpAny_bind (wpAny_mono (key_loop O (f := f) (kS := kS) (fun x s' R' hx => ?_) ds ks vs its [] [] G _ _ I6 x6.gh gb6 gk bg (show DenL (kx X) G [] [] from rfl) df dl rv hk (by simp; omega)) (fun _ s' g => ?_) fun _ _ x => x)
 ·refine wpAny_bind (wpAny_attempt (wpAny_mono hx (fun k s'' hk' => ?_) fun _ _ z => z.elim))
  exact wpAny_bind (wpAny_mono hk' (fun _ _ z => wpAny_pure z) fun _ _ z => z)
 obtain ⟨G', H', kv, I7, x7, gk7, hk7, dk⟩ := g
 obtain ⟨z7, kus, m, rk, lk, hok⟩ := I7.lstM hk7
 rw [List.nil_append] at dk
 have lkk : kus.length = its.length := by rw [← lk, ← dk.length, nk, n1, n2]
 refine wpAny_bind (listItems_at hok rfl ?_)
 have hn7 := (I7.pin (h1.objs.size, seqObj "list" #[] e1) (List.mem_append_right _ (List.mem_append_right _ (by simp)))).1
 have hnH7 := (I7.pin (h1.objs.size, seqObj "list" #[] e1) (List.mem_append_right _ (List.mem_append_right _ (by simp)))).2.1
 have so := sortBy_ok hr
 refine end_keyed (R := fun p => PermR its.length p ∧ ∃ kz, keysB ks = some kz ∧ kz.Nodup ∧ So (cmpZ kz) p its.length ∧ r = (sortK (kz.zip ds)).map (·.2)) hn7 hok neK lkk (by omega) (fun h2 => ?_) fun out ho => ⟨_, rfl, wpAny_pure ⟨_, rfl, ?_⟩⟩
 ·rcases so with ⟨z, _⟩ | ⟨_, kz, hkz, h64, nd, hd⟩
  ·omega
  ·have ka := keys_areB I7 x7.gh hkz dk rk
   have un : X.A.in1.in1.units + 1 < cLine := by have := O.units; show X.A.units + 1 + 1 + 1 < cLine; omega
   have run : SortRun X.prog X.w X.A.in1.in1 kus its (fun p => PermR its.length p ∧ So (cmpZ kz) p its.length) s' := by
    rcases h64 with h64 | h64
    ·exact run_ok lkk ka h2 (by omega) nd un
    ·subst h64
     exact run64 lkk ka un
   intro E2
   refine wpAny_mono (run E2) (fun κ s2 g => ⟨g.1, fun E3 => wpAny_mono (g.2 E3) (fun r s3 g2 => ?_) fun _ _ x => x⟩) fun _ _ x => x
   obtain ⟨g1, g2, p, ⟨g3, g4⟩, g5, g6⟩ := g2
   exact ⟨g1, g2, p, ⟨g3, kz, hkz, nd, g4, hd⟩, g5, g6⟩
 ·have key : ∃ vs', DenL (kx X) G' r vs' ∧ Vals vs' out := by
   have dl' := dl.mono x7.gg
   rcases ho with ⟨z, rfl⟩ | ⟨z, p, ⟨hp, kz, hkz, nd, hs, hd⟩, hps, rfl⟩
   ·rcases so with ⟨_, rfl⟩ | ⟨z2, _⟩
    ·exact ⟨vs, dl', rv⟩
    ·omega
   ·have hp' : PermR ds.length p := by rw [← n2, ← n1]; exact hp
    have hs' : So (cmpZ kz) p ds.length := by rw [← n2, ← n1]; exact hs
    have lt : ∀ i ∈ p.toList, i < ds.length := fun i hi => List.mem_range.mp (hp'.mem_iff.mp hi)
    rw [hd, ← places_eq ((keysB_len hkz).trans nk) nd hp' hs']
    exact ⟨_, denL_at dl' lt, vals_at rv fun i hi => by rw [n2]; exact lt i hi⟩
  obtain ⟨vs', d', v'⟩ := key
  have I8 := I7.unpinned
  have I9 := I8.lset (f := fun _ => #[]) (its' := []) (ys := []) (t' := s'.toks) hk7 hok rfl .nil (Nat.zero_le _)
  have hnH9 : upd H' kS (.lst []) h1.objs.size = none := by rw [ak neK]; exact hnH7
  have hn9 : (s'.heap.update kS (Obj.mapSeq fun _ => (#[] : Array Value))).get? h1.objs.size = some (seqObj "list" #[] e1) := by
   rw [Heap.get?_update_ne _ _ _ _ neK]; exact hn7
  obtain ⟨ep, hat⟩ : ∃ ep, (endH s'.heap kS h1.objs.size out).get? h1.objs.size = some (seqObj "list" out.toArray ep) := ⟨_, get?_update_seq hn9 fun _ => out.toArray⟩
  have zo : vs'.length ≤ sizeLine := by rw [v'.length, ho.len]; exact zl
  have I10 := I9.adopt (b := h1.objs.size) (o := .lst vs') (h' := endH s'.heap kS h1.objs.size out) (t' := s'.toks) ⟨hnH9, f1, f2, f3, f4, f5⟩ (fun c u n e => by unfold endH; rw [Heap.get?_update_ne _ _ _ _ n]; exact e) ⟨zo, out, ep, v', hat⟩
  have xe : Ext G H G' (upd H' kS (.lst [])) := by
   refine ⟨x7.gg, fun b o e => ?_, fun b o e => ?_, fun b o e n z => ?_⟩
   ·have nb : b ≠ kS := am e hk4
    rw [ak nb]
    exact x7.hh b o nb (by rw [ak nb]; exact e)
   ·rw [ak (am e gk7)]; exact x7.gh _ _ e
   ·have nb : b ≠ kS := am e hk4
    exact x7.fr b o nb (by rw [ak nb]; exact e) n z
  exact ⟨.ref h1.objs.size, _, I10, rfl, q _ vs' G' _ xe hnH9 d'⟩
end
noncomputable def sortKD (T : GT) (d c : D) : Option D := match d with
 | .lst ds => (match c with
  | .obj l fs => (match fm T l fs ds with
   | some ks => if ds.length ≤ 1000 then (sortBy ks ds).map .lst else none
   | none => none)
  | _ => none)
 | _ => none
theorem sortKD_ok {T : GT} {d c d' : D} (h : sortKD T d c = some d') : ∃ ds l fs ks r, d = .lst ds ∧ c = .obj l fs ∧ fm T l fs ds = some ks ∧ ds.length ≤ 1000 ∧ sortBy ks ds = some r ∧ d' = .lst r := by
 unfold sortKD at h
 cases d with
 | lst ds =>
  cases c with
  | obj l fs =>
   dsimp only at h
   cases hk : fm T l fs ds with
   | none => rw [hk] at h; cases h
   | some ks =>
    rw [hk] at h
    dsimp only at h
    by_cases z : ds.length ≤ 1000
    ·rw [if_pos z] at h
     cases hs : sortBy ks ds with
     | none => rw [hs] at h; cases h
     | some r => rw [hs] at h; cases h; exact ⟨ds, l, fs, ks, r, rfl, rfl, hk, z, hs, rfl⟩
    ·rw [if_neg z] at h; cases h
  | _ => cases h
 | _ => cases h
noncomputable def gSortK (T : GT) (g k : En → Res) : En → Res := fun δ => (g δ).bind fun d => (k δ).bind fun c => Res.of (sortKD T d c)
section
variable {T : GT} {ev : Ev} {X : Cx} {C : SC} {B : Hp} {E : XK} {e body : Expr} {params : Arguments} {scope : Scope} {pos p lp kp : Pos}
theorem pu_sortK (h : EvOk T ev) (O : XOk X C T E) (hg : Gl X "sorted") (hn : nst e = true) : PuE X B (ek (kx X) E) (.Call (.Name "sorted" p) [e] [⟨some "key", .Lambda params body scope lp, kp⟩] pos) (gSortK T (gAr ev C e) (gLam C params body scope lp)) := by
 intro pins s σ H Q I ⟨G, δ, R, q⟩
 unfold gSortK at q
 refine wpAny_Call_Name_kw (ld_blt I hg (O.bl _ (by decide)) PyProof.Rows.boot_sorted ?_ (by decide) (by decide))
 have he : starEach [e] X.env = (false, eval e X.env) :: starEach [] X.env := bf hn
 have PA1 := gd (e9 (B := B) (E := E) h O e) al_nil he
 refine callWith_kw (thn (PA1 pos pins s σ H (fun vs H1 => ∃ d v G1, vs = [v] ∧ Ext G H G1 H1 ∧ Arg (kx X) G1 H1 d v ∧ gAr ev C e δ = .ok d) I ⟨G, δ, R, ?_⟩) fun us s1 ⟨vs, H1, I1, r1, d, v, G1, hv, e1, ad, eg⟩ => ?_) (by rw [he]; rfl) (by rw [he]; rfl)
 ·unfold aa gNil
  cases eg : gAr ev C e δ with
  | er c => rw [eg] at q; exact q
  | st => rw [eg] at q; exact q
  | ok d =>
   intro vs G' H' e1 al
   obtain ⟨v, rfl, ad⟩ := ArgsM.one al
   exact ⟨d, v, G', rfl, e1, ad, rfl⟩
 subst hv
 obtain ⟨u, rfl, ru⟩ := vals1 r1
 rw [eg] at q
 have q : ResP (ek (kx X) E) G H ((gLam C params body scope lp δ).bind fun c => Res.of (sortKD T d c)) _ := q
 refine kws_cons (thn (pu_lam (B := B) (E := ek (kx X) E) (params := params) (body := body) (scope := scope) (pos := lp) O pins s1 σ H1 (fun f H2 => ∃ c G2, Ext G1 H1 G2 H2 ∧ Den (kx X) G2 c f ∧ gLam C params body scope lp δ = .ok c) I1 ⟨G1, δ, R.ext e1, ?_⟩) fun f s2 ⟨fv, H2, I2, r2, c, G2, e2, df, ek'⟩ => kws_nil ?_)
 ·cases ek' : gLam C params body scope lp δ with
  | er c => rw [ek'] at q; exact fun G' H' e2 => q G' H' (e1.trans e2)
  | st => rw [ek'] at q; exact q
  | ok c => exact fun f G' H' e2 df => ⟨c, G', e2, df, rfl⟩
 rw [ek'] at q
 obtain ⟨d', ed, q⟩ := ResP.of (show ResP (ek (kx X) E) G H (Res.of (sortKD T d c)) _ from q)
 obtain ⟨ds, l, fs, ks, r, rfl, rfl, hk, hz, hs, rfl⟩ := sortKD_ok ed
 have e12 := e1.trans e2
 obtain ⟨a, vs, rfl, sq, dl⟩ := (ad.ext e2).lst e2.gh
 cases ru
 have df' := df
 obtain ⟨fa, lvs, rfl, la, dF⟩ := df'
 cases r2
 refine thn (call_sortK O I2 (R.gb.same (R.bh.trans e12.hh)) e2.gh sq dl df hk hs hz fun p vs' G' H' e3 hp dn => q (.ref p) (upd G' p (.lst vs')) _ ((e12.trans e3).trans (Ext.new e3.gh _ hp)) (den_newL e3.gh hp dn)) fun _ _ z => z
end
end Pu
end
section
namespace Pu
open PySem PySem.Spec PyProof.Rows L2
noncomputable def binP : Operator → Option (D → D → Option D)
 | .Add => some cf
 | .Sub => some pySub
 | .Mult => some pyMul
 | .Mod => some pyMod
 | .FloorDiv => some pyFdiv
 | .Pow => some pyPow
 | _ => none
theorem pu_bin {X : Cx} {B : Hp} {E : EK} {a b : Expr} {g h : En → Res} {pos : Pos} {op : Operator} {f : D → D → Option D} (hf : binP op = some f) (ha : ArE X B E a g) (hb : ArE X B E b h) : PuE X B E (.BinOp a op b pos) (g2 f g h) := by
 cases op <;> cases hf
 ·exact pu_add ha hb
 ·exact pu_sub ha hb
 ·exact pu_mul ha hb
 ·exact pu_mod ha hb
 ·exact pu_pow ha hb
 ·exact pu_fdiv ha hb
noncomputable def selA : List Bool → List ((En → Res) × (En → Res)) → En → ResL
 | [], [] => gNil
 | m :: ms, p :: ps => aa (if m then p.1 else p.2) (selA ms ps)
 | _, _ => gStL
theorem selA_eq {ev : Ev} {C : SC} : ∀ {ms : List Bool} {es : List Expr}, selA ms (es.map fun e => (gAr ev C e, ev C e)) = gAL ev C ms es
 | [], [] => rfl
 | [], _ :: _ => rfl
 | _ :: _, [] => rfl
 | m :: ms, e :: es => by
  show aa (if m then gAr ev C e else ev C e) (selA ms (es.map fun e => (gAr ev C e, ev C e))) = aa (if m then gAr ev C e else ev C e) (gAL ev C ms es)
  rw [selA_eq]
noncomputable def okO : Res → Res
 | .ok d => .ok d
 | _ => .st
noncomputable def gCallX (T : GT) (i : Nat) (ps : List ((En → Res) × (En → Res))) : En → Res := fun δ => match gArg i δ with
 | .ok (.fn y) => (match T.fns y with
  | some s => bp s.f (selA s.ms ps) δ
  | none => .st)
 | .ok (.obj e fs) => bp (fun ds => okO (T.lam e fs ds)) (selA (ps.map fun _ => false) ps) δ
 | _ => .st
noncomputable def gCallV (T : GT) (ev : Ev) (C : SC) (i : Nat) (args : List Expr) : En → Res := gCallX T i (args.map fun e => (gAr ev C e, ev C e))
section
variable {T : GT} {ev tv : Ev} {X : Cx} {C : SC} {B : Hp} {E : XK} {pos p : Pos} {x : Str} {e a : Expr} {es : List Expr}
theorem callV_ok (h : EvOk T ev) (O : XOk X C T E) {i : Nat} (hs : slot C x = some i) (hn : (e :: es).all nst = true) : PuE X B (ek (kx X) E) (.Call (.Name x p) (e :: es) [] pos) (gCallV T ev C i (e :: es)) := by
 intro pins s σ H Q I ⟨G, δ, R, q⟩
 unfold gCallV gCallX at q
 cases ea : gArg i δ with
 | er c => rw [ea] at q; exact q.elim
 | st => rw [ea] at q; exact q.elim
 | ok d =>
  rw [ea] at q
  cases d with
  | fn y =>
   dsimp only at q
   cases ef : T.fns y with
   | none => rw [ef] at q; exact q.elim
   | some sp =>
    rw [ef] at q
    dsimp only at q
    rw [selA_eq] at q
    obtain ⟨k, f, fd, ps, hr, hm, hk, hb, F⟩ := O.fns y sp ef
    obtain ⟨v, q1, q2⟩ := R.arg ea
    have ev' : v = .ref f := by rw [q2.fn]; show V.ref (adr X.mg y) = _; rw [adr_of hm]
    subst ev'
    have hn' := hn
    rw [List.all_cons, Bool.and_eq_true] at hn'
    refine wpAny_Call_Name_kw (thn (O.var hs pins s σ H (fun v H1 => v = .ref f ∧ H1 = H) I ⟨_, q1, rfl, rfl⟩) fun u s1 ⟨v, H1, I1, r1, e1, e2⟩ => ?_)
    subst e1 e2
    cases r1
    refine PySem.W.callWith_K (h₀ := X.base) I.ok.mod.kin hk (thn (aL_ok (B := B) (E := E) h O (ms := sp.ms) hn pos pins s1 σ H1 (fun vs H2 => spPu (kx X) sp.ms sp.f vs H2 Q E) I1 ⟨G, δ, R, (callP q).mono fun ds _ q vs G1 H2 e1 al =>
     ⟨al.length.2, R.gb.same (R.bh.trans e1.hh), G1, ds, e1.gh, al, (q.ext e1).mono fun d _ q v G' H' e2 dn => q v G' H' (e1.trans e2) dn⟩⟩) fun us s2 ⟨vs, H2, I2, r, q2⟩ => ⟨I2.kIn, ?_⟩) (bf hn'.1) (star_any hn'.2)
    exact run_fn (dvs := []) F hr hb .nil O.goes I2 r (by rw [List.append_nil]; exact q2)
  | obj l fs =>
   dsimp only at q
   rw [List.map_map, show (((fun _ => false) ∘ fun e => (gAr ev C e, ev C e)) : Expr → Bool) = (fun _ => false) from rfl, selA_eq] at q
   obtain ⟨v, q1, q2⟩ := R.arg ea
   obtain ⟨a, lvs, rfl, la, df⟩ : Den (kx X) G (.obj l fs) v := by
    rcases q2 with z | ⟨_, _, _, z, _⟩ | ⟨_, _, _, z, _⟩
    ·exact z
    ·cases z
    ·cases z
   have hn' := hn
   rw [List.all_cons, Bool.and_eq_true] at hn'
   have fnat : ∀ {H' : Hp} {h' : Heap}, Same G H' → HOk X.prog X.w H' h' → PySem.W.FnAt a h' := fun {H' h'} sg hok => by
    unfold LamAt at la
    split at la
    ·obtain ⟨qual, pm, c', ctv, cl, oc, cvs, t, h1, _⟩ := la
     obtain ⟨z, _⟩ := hok a _ (sg _ _ h1)
     exact ⟨_, _, _, _, z⟩
    ·exact la.elim
   refine wpAny_Call_Name_kw (thn (O.var hs pins s σ H (fun v H1 => v = .ref a ∧ H1 = H) I ⟨_, q1, rfl, rfl⟩) fun u s1 ⟨v, H1, I1, r1, e1, e2⟩ => ?_)
   subst e1 e2
   cases r1
   refine PySem.W.callWith_F (fnat R.gh I1.hok) (thn (aL_ok (B := B) (E := E) h O (ms := (e :: es).map fun _ => false) hn pos pins s1 σ H1 (fun vs H2 => ∃ G1 ds d, Ext G H1 G1 H2 ∧ DenL (kx X) G1 ds vs ∧ T.lam l fs ds = .ok d ∧ ∀ v G' H', Ext G H1 G' H' → Den (kx X) G' d v → Q v H') I1 ⟨G, δ, R, (callP q).mono fun ds _ q vs G1 H2 e1 al => ?_⟩)
    fun us s2 ⟨vs, H2, I2, r, G1, ds, d, e1, dl, el, q⟩ => ⟨fnat (e1.gg.trans e1.gh) I2.hok, ?_⟩) (bf hn'.1) (star_any hn'.2)
   ·cases el : T.lam l fs ds with
    | ok d => rw [el] at q; exact ⟨G1, ds, d, e1, al.den allF_map, el, q⟩
    | er c => rw [el] at q; exact q.elim
    | st => rw [el] at q; exact q.elim
   ·obtain ⟨k, hr, run⟩ := O.lams l fs ds d el
    refine wpAny_call (codeAny_mono (run X.A X.stack s2 H2 G1 a us vs Q (RoomL.of hr) I2.env0 (R.gb.same (R.bh.trans e1.hh)) e1.gh ⟨a, lvs, rfl, la.mono e1.gg, df.mono e1.gg⟩ dl r fun v G' H' e2 dn => q v G' H' (e1.trans e2) dn) fun rr s' hq => ?_)
    cases rr with
    | error x =>
     obtain ⟨_, _, _, _, _, _, _, _, _, z⟩ := (show CXe X.prog X.w X.stack H2 s2 E0 x s' from hq)
     exact z.elim
    | ok fl =>
     cases fl with
     | ret u => exact I2.after hq
     | next => exact False.elim hq
     | brk => exact False.elim hq
     | cont => exact False.elim hq
  | _ => exact q.elim
end
noncomputable def bi1 (x : Str) : Option (D → Option D) :=
 if x = "len" then some pyLen else if x = "list" then some d4 else if x = "tuple" then some pyTuple else if x = "int" then some pyInt else if x = "all" then some pyAll else if x = "any" then some pyAny else if x = "sorted" then some cw else none
section
variable {X : Cx} {B : Hp} {E : EK} {e a b : Expr} {es : List Expr} {g h : En → Res} {pos p : Pos} {x : Str}
theorem bi1_ok {C : SC} {T : GT} {f : D → Option D} {E' : XK} (O : XOk X C T E') (hf : bi1 x = some f) (hg : Gl X x) (hn : nst e = true) (ha : ArE X B E e g) : PuE X B E (.Call (.Name x p) [e] [] pos) (g1 f g) := by
 unfold bi1 at hf
 by_cases h1 : x = "len"
 ·rw [if_pos h1] at hf; cases hf; subst h1
  exact pu_len hg (O.bl _ (by decide)) ha (bf hn) rfl
 rw [if_neg h1] at hf
 by_cases h1 : x = "list"
 ·rw [if_pos h1] at hf; cases hf; subst h1
  exact ow_pu (ow_listD O.calm hg (O.bl _ (by decide)) ha hn) isL_listD
 rw [if_neg h1] at hf
 by_cases h1 : x = "tuple"
 ·rw [if_pos h1] at hf; cases hf; subst h1
  exact pu_tuple hg (O.bl _ (by decide)) ha (bf hn) rfl
 rw [if_neg h1] at hf
 by_cases h1 : x = "int"
 ·rw [if_pos h1] at hf; cases hf; subst h1
  exact pu_int1 hg (O.bl _ (by decide)) ha (bf hn) rfl
 rw [if_neg h1] at hf
 by_cases h1 : x = "all"
 ·rw [if_pos h1] at hf; cases hf; subst h1
  exact pu_all O.calm hg (O.bl _ (by decide)) ha (bf hn)
 rw [if_neg h1] at hf
 by_cases h1 : x = "any"
 ·rw [if_pos h1] at hf; cases hf; subst h1
  exact pu_any O.calm hg (O.bl _ (by decide)) ha (bf hn)
 rw [if_neg h1] at hf
 by_cases h1 : x = "sorted"
 ·rw [if_pos h1] at hf; cases hf; subst h1
  exact pu_sorted (by have := O.units; omega) hg (O.bl _ (by decide)) ha (bf hn)
 rw [if_neg h1] at hf
 cases hf
noncomputable def kindP (x : Str) : Option String :=
 if x = "int" then some "int" else if x = "bool" then some "bool" else if x = "str" then some "str" else if x = "list" then some "list" else if x = "tuple" then some "tuple" else if x = "dict" then some "dict" else none
theorem kind_ok {C : SC} {T : GT} {y : Str} {c : String} {p2 : Pos} {E' : XK} (O : XOk X C T E') (hf : kindP y = some c) (hg : Gl X "isinstance") (hg2 : Gl X y) (hn : nst e = true) (ha : ArE X B E e g) : PuE X B E (.Call (.Name "isinstance" p) [e, .Name y p2] [] pos) (g1 (dc c) g) := by
 have he : starEach [e, .Name y p2] X.env = (false, eval e X.env) :: starEach [.Name y p2] X.env := bf hn
 unfold kindP at hf
 by_cases h1 : y = "int"
 ·rw [if_pos h1] at hf; cases hf; subst h1
  exact pu_isI kit_int hg (O.bl _ (by decide)) hg2 (O.bl _ (by decide)) PyProof.Rows.boot_int ha (by decide) (by decide) he rfl rfl
 rw [if_neg h1] at hf
 by_cases h1 : y = "bool"
 ·rw [if_pos h1] at hf; cases hf; subst h1
  exact pu_isI kit_bool hg (O.bl _ (by decide)) hg2 (O.bl _ (by decide)) PyProof.Rows.boot_bool ha (by decide) (by decide) he rfl rfl
 rw [if_neg h1] at hf
 by_cases h1 : y = "str"
 ·rw [if_pos h1] at hf; cases hf; subst h1
  exact pu_isI kit_str hg (O.bl _ (by decide)) hg2 (O.bl _ (by decide)) PyProof.Rows.boot_str ha (by decide) (by decide) he rfl rfl
 rw [if_neg h1] at hf
 by_cases h1 : y = "list"
 ·rw [if_pos h1] at hf; cases hf; subst h1
  exact pu_isI kit_list hg (O.bl _ (by decide)) hg2 (O.bl _ (by decide)) PyProof.Rows.boot_list ha (by decide) (by decide) he rfl rfl
 rw [if_neg h1] at hf
 by_cases h1 : y = "tuple"
 ·rw [if_pos h1] at hf; cases hf; subst h1
  exact pu_isI kit_tuple hg (O.bl _ (by decide)) hg2 (O.bl _ (by decide)) PyProof.Rows.boot_tuple ha (by decide) (by decide) he rfl rfl
 rw [if_neg h1] at hf
 by_cases h1 : y = "dict"
 ·rw [if_pos h1] at hf; cases hf; subst h1
  exact pu_isI kit_dict hg (O.bl _ (by decide)) hg2 (O.bl _ (by decide)) PyProof.Rows.boot_dict ha (by decide) (by decide) he rfl rfl
 rw [if_neg h1] at hf
 cases hf
end
noncomputable def setArg (C : SC) (n : Str) (a : Expr) : Option Expr := match a with
 | .Call (.Name y _) [e] [] _ => if decide (y = n) && decide (slot C y = none) && isG C y && nst e then some e else none
 | _ => none
noncomputable def stepBi (ev : Ev) (C : SC) (x : Str) (args : List Expr) : En → Res := match args with
 | [a] => (match setArg C "set" a with
  | some e => if x = "sorted" then g1 fc (gAr ev C e) else gSt
  | none => (match setArg C "range" a with
   | some e => if x = "tuple" then g1 pyTupRange (gAr ev C e) else gSt
   | none => (match bi1 x with
    | some f => if nst a then g1 f (gAr ev C a) else gSt
    | none => gSt)))
 | [a, .Name y _] => if x = "isinstance" then (match kindP y with
   | some c => if nst a && isG C y then g1 (dc c) (gAr ev C a) else gSt
   | none => gSt) else gSt
 | _ => gSt
noncomputable def stepCall (T : GT) (ev : Ev) (C : SC) (x : Str) (args : List Expr) : En → Res := match slot C x with
 | some i => (match args with
  | [] => gSt
  | e :: es => if (e :: es).all nst then gCallV T ev C i (e :: es) else gSt)
 | none => if isG C x then (match T.fns x with
  | some s => (match args with
   | [] => if s.ms = [] then (fun _ => s.f []) else gSt
   | e :: es => if (e :: es).all nst then bp s.f (gAL ev C s.ms (e :: es)) else gSt)
  | none => stepBi ev C x args) else gSt
section
variable {T : GT} {ev tv : Ev} {X : Cx} {C : SC} {B : Hp} {E : XK} {pos p : Pos} {x : Str} {e a : Expr} {es : List Expr}
theorem setArg_ok {n : Str} (O : XOk X C T E) (h : setArg C n a = some e) : ∃ p pos, a = .Call (.Name n p) [e] [] pos ∧ Gl X n ∧ nst e = true := by
 unfold setArg at h
 split at h
 ·rename_i y p e' pos
  split at h
  ·rename_i c
   cases h
   simp only [Bool.and_eq_true, decide_eq_true_eq] at c
   obtain ⟨⟨⟨rfl, _⟩, h3⟩, h4⟩ := c
   exact ⟨p, pos, rfl, (O.gl h3).1, h4⟩
  ·cases h
 ·cases h
theorem bi_ok (h : EvOk T ev) (O : XOk X C T E) (hg : Gl X x) {args : List Expr} : PuE X B (ek (kx X) E) (.Call (.Name x p) args [] pos) (stepBi ev C x args) := by
 unfold stepBi
 split
 ·rename_i a
  cases hs : setArg C "set" a with
  | some e =>
   dsimp only
   obtain ⟨p2, pos2, rfl, hg2, hn⟩ := setArg_ok O hs
   by_cases h1 : x = "sorted"
   ·subst h1
    rw [if_pos rfl]
    exact pu_sortS O.calm hg (O.bl _ (by decide)) hg2 (O.bl _ (by decide)) (e9 h O e) (bf hn)
   ·rw [if_neg h1]
    exact dh
  | none =>
   dsimp only
   cases hr : setArg C "range" a with
   | some e =>
    dsimp only
    obtain ⟨p2, pos2, rfl, hg2, hn⟩ := setArg_ok O hr
    by_cases h1 : x = "tuple"
    ·subst h1
     rw [if_pos rfl]
     exact pu_tupR O.calm hg (O.bl _ (by decide)) hg2 (O.bl _ (by decide)) (e9 h O e) (bf hn)
    ·rw [if_neg h1]; exact dh
   | none =>
    dsimp only
    cases hf : bi1 x with
    | none => exact dh
    | some f =>
     dsimp only
     by_cases hn : nst a = true
     ·rw [if_pos hn]; exact bi1_ok O hf hg hn (e9 h O a)
     ·rw [if_neg hn]; exact dh
 ·rename_i a y p2
  by_cases hx : x = "isinstance"
  ·subst hx
   rw [if_pos rfl]
   cases hf : kindP y with
   | none => exact dh
   | some c =>
    dsimp only
    by_cases hn : (nst a && isG C y) = true
    ·rw [if_pos hn]
     rw [Bool.and_eq_true] at hn
     exact kind_ok O hf hg (O.gl hn.2).1 hn.1 (e9 h O a)
    ·rw [if_neg hn]; exact dh
  ·rw [if_neg hx]; exact dh
 ·exact dh
theorem ce (h : EvOk T ev) (O : XOk X C T E) {args : List Expr} : PuE X B (ek (kx X) E) (.Call (.Name x p) args [] pos) (stepCall T ev C x args) := by
 unfold stepCall
 cases hs : slot C x with
 | some i =>
  cases args with
  | nil => exact dh
  | cons e es =>
   dsimp only
   by_cases hn : (e :: es).all nst = true
   ·rw [if_pos hn]; exact callV_ok h O hs hn
   ·rw [if_neg hn]; exact dh
 | none =>
  dsimp only
  by_cases hg : isG C x = true
  ·rw [if_pos hg]
   obtain ⟨g1, g2⟩ := O.gl hg
   cases ef : T.fns x with
   | none => exact bi_ok h O g1
   | some s =>
    obtain ⟨k, f, fd, ps, hr, hm, hk, hb, F⟩ := O.fns x s ef
    cases args with
    | nil =>
     dsimp only
     by_cases hms : s.ms = []
     ·rw [if_pos hms]
      rw [hms] at F
      exact pu_call0 F hr g1 hm hk hb O.goes g2
     ·rw [if_neg hms]; exact dh
    | cons e es =>
     dsimp only
     by_cases hn : (e :: es).all nst = true
     ·rw [if_pos hn]
      have hn' := hn
      rw [List.all_cons, Bool.and_eq_true] at hn'
      exact pu_call F hr g1 hm hk hb O.goes (aL_ok h O hn) g2 (bf hn'.1) (star_any hn'.2)
     ·rw [if_neg hn]; exact dh
  ·rw [if_neg hg]; exact dh
end
noncomputable def lamV : Expr → Option (Arguments × Expr × Scope × Pos)
 | .Lambda a b c p => some (a, b, c, p)
 | _ => none
theorem lamV_ok {e b : Expr} {a : Arguments} {c : Scope} {p : Pos} (h : lamV e = some (a, b, c, p)) : e = .Lambda a b c p := by
 cases e <;> first | (cases h; rfl) | cases h
noncomputable def stepKey (T : GT) (ev : Ev) (C : SC) (x : Str) (args : List Expr) (kw : Keyword) : En → Res := match args with
 | [e] => (match lamV kw.value with
  | some (params, body, scope, lp) => if decide (x = "sorted") && isG C x && decide (kw.arg = some "key") && nst e then gSortK T (gAr ev C e) (gLam C params body scope lp) else gSt
  | none => gSt)
 | _ => gSt
theorem key_ok {T : GT} {ev : Ev} {X : Cx} {C : SC} {B : Hp} {E : XK} {pos p : Pos} {x : Str} {args : List Expr} {kw : Keyword} (h : EvOk T ev) (O : XOk X C T E) : PuE X B (ek (kx X) E) (.Call (.Name x p) args [kw] pos) (stepKey T ev C x args kw) := by
 unfold stepKey
 split
 ·rename_i e
  cases hl : lamV kw.value with
  | none => exact dh
  | some q =>
   obtain ⟨params, body, scope, lp⟩ := q
   dsimp only
   by_cases hc : (decide (x = "sorted") && isG C x && decide (kw.arg = some "key") && nst e) = true
   ·rw [if_pos hc]
    simp only [Bool.and_eq_true, decide_eq_true_eq] at hc
    obtain ⟨⟨⟨rfl, h2⟩, h3⟩, h4⟩ := hc
    obtain ⟨ka, kv, kp⟩ := kw
    dsimp only at hl h3
    subst h3
    rw [lamV_ok hl]
    exact pu_sortK h O (O.gl h2).1 h4
   ·rw [if_neg hc]; exact dh
 ·exact dh
noncomputable def isRange (C : SC) (x : Str) : Bool := decide (x = "range") && decide (slot C x = none) && isG C x
noncomputable def stepIc (ev : Ev) (C : SC) (iter : Expr) : En → ResL := match iter with
 | .Call (.Name x _) [a] [] _ => if isRange C x && nst a then dj (gAL ev C [true] [a]) else cq (gAr ev C iter)
 | .Call (.Name x _) [a, b] [] _ => if isRange C x && nst a && nst b then dj (gAL ev C [true, true] [a, b]) else cq (gAr ev C iter)
 | _ => cq (gAr ev C iter)
noncomputable def gBoE (ev : Ev) (C : SC) (e : Expr) : En → Res := match e with
 | .Name x _ => (match slot C x with
  | some i => gBo i
  | none => ev C e)
 | _ => ev C e
noncomputable def stepI (ev : Ev) (C : SC) (iter : Expr) : En → ResL := match iter with
 | .Call (.Name x _) [a] [] _ => if isRange C x && nst a then dj (gAL ev C [true] [a]) else cq (gBoE ev C iter)
 | .Call (.Name x _) [a, b] [] _ => if isRange C x && nst a && nst b then dj (gAL ev C [true, true] [a, b]) else cq (gBoE ev C iter)
 | _ => cq (gBoE ev C iter)
section
variable {T : GT} {ev tv : Ev} {X : Cx} {C : SC} {B : Hp} {E : XK} {pos p : Pos} {x : Str} {e a tg : Expr} {es : List Expr}
theorem bo_ok (h : EvOk T ev) (O : XOk X C T E) (e : Expr) : BoE X B (ek (kx X) E) e (gBoE ev C e) := by
 have d : BoE X B (ek (kx X) E) e (ev C e) := bo_pu (h X C B E e O)
 cases e with
 | Name x p =>
  show BoE X B _ _ (match slot C x with
   | some i => gBo i
   | none => ev C (.Name x p))
  cases es : slot C x with
  | none => exact d
  | some i => exact bo_var i (O.var es)
 | _ => exact d
theorem range_of (O : XOk X C T E) {x : Str} (h : isRange C x = true) : x = "range" ∧ Gl X "range" ∧ X.mg "range" = none := by
 unfold isRange at h
 simp only [Bool.and_eq_true, decide_eq_true_eq] at h
 obtain ⟨⟨h1, h2⟩, h3⟩ := h
 subst h1
 exact ⟨rfl, (O.gl h3).1, O.bl _ (by decide)⟩
theorem i_ok (h : EvOk T ev) (O : XOk X C T E) (e : Expr) : PuI X B (ek (kx X) E) tg e (stepI ev C e) := by
 unfold stepI
 split
 ·rename_i x _ a _
  by_cases hc : (isRange C x && nst a) = true
  ·rw [if_pos hc]
   rw [Bool.and_eq_true] at hc
   obtain ⟨rfl, g1, g2⟩ := range_of O hc.1
   exact pi_rng1 g1 g2 (aL_ok h O (by rw [List.all_cons, hc.2]; rfl)) (bf hc.2)
  ·rw [if_neg hc]; exact pi_boW (bo_ok h O _)
 ·rename_i x _ a b _
  by_cases hc : (isRange C x && nst a && nst b) = true
  ·rw [if_pos hc]
   rw [Bool.and_eq_true, Bool.and_eq_true] at hc
   obtain ⟨⟨h1, h2⟩, h3⟩ := hc
   obtain ⟨rfl, g1, g2⟩ := range_of O h1
   exact pi_rng2 g1 g2 (aL_ok h O (by rw [List.all_cons, List.all_cons, h2, h3]; rfl)) (by rw [bf h2, bf h3]; rfl) (bf h3)
  ·rw [if_neg hc]; exact pi_boW (bo_ok h O _)
 ·exact pi_boW (bo_ok h O _)
noncomputable def enumArg (C : SC) (tg iter : Expr) : Option Expr := match tg, iter with
 | .Tuple _ _ _, .Call (.Name y _) [e] [] _ => if decide (y = "enumerate") && decide (slot C y = none) && isG C y && nst e then some e else none
 | _, _ => none
noncomputable def stepIt (ev : Ev) (C : SC) (tg iter : Expr) : En → ResL := match enumArg C tg iter with
 | some e => gEnum (gBoE ev C e)
 | none => stepI ev C iter
theorem it_ok (h : EvOk T ev) (O : XOk X C T E) (e : Expr) : PuI X B (ek (kx X) E) tg e (stepIt ev C tg e) := by
 unfold stepIt
 cases he : enumArg C tg e with
 | none => exact i_ok h O e
 | some a =>
  dsimp only
  unfold enumArg at he
  split at he
  ·rename_i y p a' pos
   split at he
   ·rename_i c
    cases he
    simp only [Bool.and_eq_true, decide_eq_true_eq] at c
    obtain ⟨⟨⟨rfl, _⟩, h3⟩, h4⟩ := c
    exact pi_enum (O.gl h3).1 (O.bl _ (by decide)) (bo_ok h O a) (bf h4)
   ·cases he
  ·cases he
theorem ic_ok (h : EvOk T ev) (O : XOk X C T E) (e : Expr) : PuIc X B (ek (kx X) E) tg e (stepIc ev C e) := by
 unfold stepIc
 split
 ·rename_i x _ a _
  by_cases hc : (isRange C x && nst a) = true
  ·rw [if_pos hc]
   rw [Bool.and_eq_true] at hc
   obtain ⟨rfl, g1, g2⟩ := range_of O hc.1
   exact pic_of (pi_rng1 g1 g2 (aL_ok h O (by rw [List.all_cons, hc.2]; rfl)) (bf hc.2))
  ·rw [if_neg hc]; exact pic_arW (e9 h O _)
 ·rename_i x _ a b _
  by_cases hc : (isRange C x && nst a && nst b) = true
  ·rw [if_pos hc]
   rw [Bool.and_eq_true, Bool.and_eq_true] at hc
   obtain ⟨⟨h1, h2⟩, h3⟩ := hc
   obtain ⟨rfl, g1, g2⟩ := range_of O h1
   exact pic_of (pi_rng2 g1 g2 (aL_ok h O (by rw [List.all_cons, List.all_cons, h2, h3]; rfl)) (by rw [bf h2, bf h3]; rfl) (bf h3))
  ·rw [if_neg hc]; exact pic_arW (e9 h O _)
 ·exact pic_arW (e9 h O _)
end
noncomputable def stepComp (ev tv : Ev) (C : SC) (elt : Expr) (gens : List Comprehension) (scope : Scope) : En → Res := match gens with
 | [⟨.Name x _, iter, ifs, 0⟩] => if compOk C scope x && noSet iter then (match slots C (cx scope.names) with
  | some ix => (match ifs with
   | [] => ci (stepIc ev C iter) ix (gC (.bl true)) (ev (compSC C scope x) elt)
   | [c] => ci (stepIc ev C iter) ix (tv (compSC C scope x) c) (ev (compSC C scope x) elt)
   | _ => gSt)
  | none => gSt) else gSt
 | _ => gSt
section
variable {T : GT} {ev tv : Ev} {X : Cx} {C : SC} {B : Hp} {E : XK} {pos p : Pos} {elt : Expr}
theorem comp_ok' (h : EvOk T ev) (ht : TvOk T tv) (O : XOk X C T E) {gens : List Comprehension} {scope : Scope} : OwE X B (ek (kx X) E) (.ListComp elt gens scope pos) (stepComp ev tv C elt gens scope) ∧ IsL (stepComp ev tv C elt gens scope) := by
 have bad : OwE X B (ek (kx X) E) (.ListComp elt gens scope pos) gSt ∧ IsL gSt := ⟨ow_st, fun δ d h => by cases h⟩
 unfold stepComp
 split
 ·rename_i x px iter ifs
  by_cases hc : (compOk C scope x && noSet iter) = true
  ·rw [if_pos hc]
   rw [Bool.and_eq_true] at hc
   obtain ⟨hc, hset⟩ := hc
   cases hx : slots C (cx scope.names) with
   | none => exact bad
   | some ix =>
    dsimp only
    cases ifs with
    | nil =>
     refine ⟨fun pins s σ H Q I q => ?_, isL_comp⟩
     obtain ⟨cl, O2⟩ := comp_static O I.ok hc hx
     exact ow_comp (E := ek (kx X) E) O2 O.calm ⟨.inl ⟨rfl, rfl⟩, fun Cc s₀ H₀ ex pn => h _ _ B E0 elt (comp_xok O hc Cc s₀ H₀ ex pn)⟩ (ic_ok h O iter) (noSet_iter hset) pins s σ H Q I q
    | cons c r =>
     cases r with
     | nil =>
      refine ⟨fun pins s σ H Q I q => ?_, isL_comp⟩
      obtain ⟨cl, O2⟩ := comp_static O I.ok hc hx
      exact ow_comp (E := ek (kx X) E) O2 O.calm ⟨.inr ⟨c, rfl, fun Cc s₀ H₀ ex pn => ht _ _ B E0 c (comp_xok O hc Cc s₀ H₀ ex pn)⟩, fun Cc s₀ H₀ ex pn => h _ _ B E0 elt (comp_xok O hc Cc s₀ H₀ ex pn)⟩ (ic_ok h O iter) (noSet_iter hset) pins s σ H Q I q
     | cons _ _ => exact bad
  ·rw [if_neg hc]; exact bad
 ·exact bad
end
noncomputable def cutD (xs : List D) (lo hi : Option Int) : List D := (xs.drop (HT.sIx xs.length 0 lo)).take (HT.sIx xs.length xs.length hi - HT.sIx xs.length 0 lo)
noncomputable def pySlice (d : D) (lo hi : Option Int) : Option D := match d with
 | .lst xs => some (.lst (cutD xs lo hi))
 | .tup xs => if HT.sIx xs.length 0 lo = 0 ∧ HT.sIx xs.length xs.length hi = xs.length then none else some (.tup (cutD xs lo hi))
 | _ => none
noncomputable def gPart (ev : Ev) (C : SC) (o : Option Expr) (δ : En) : Option (Option Int) := match o with
 | none => some none
 | some e => (match ev C e δ with
  | .ok (.int i) => some (some i)
  | _ => none)
noncomputable def gPt (o : Option (En → Res)) (δ : En) : Option (Option Int) := match o with
 | none => some none
 | some g => (match g δ with
  | .ok (.int i) => some (some i)
  | _ => none)
noncomputable def gSl (g : En → Res) (lo hi : Option (En → Res)) : En → Res := fun δ => (g δ).bind fun d => match gPt lo δ, gPt hi δ with
 | some l, some h => Res.of (pySlice d l h)
 | _, _ => .st
noncomputable def gSlice (ev : Ev) (C : SC) (a : Expr) (lo hi : Option Expr) : En → Res := gSl (gAr ev C a) (lo.map (ev C)) (hi.map (ev C))
theorem gPt_eq {ev : Ev} {C : SC} {o : Option Expr} {δ : En} : gPt (o.map (ev C)) δ = gPart ev C o δ := by cases o <;> rfl
theorem DenL.cut {K : KA} {G : Hp} {ds : List D} {vs : List V} (dl : DenL K G ds vs) (lo hi : Option Int) : DenL K G (cutD ds lo hi) (cutV vs lo hi) := by
 unfold cutD cutV
 rw [dl.length]
 exact (dl.drop _).take _
section
variable {T : GT} {ev tv : Ev} {X : Cx} {C : SC} {B : Hp} {E : XK} {pos p : Pos} {a : Expr}
theorem part_ok (h : EvOk T ev) (O : XOk X C T E) {o : Option Expr} : ∃ t : TO, PO X o t ∧ ∀ G δ σ H l (Q : Option Int → Hp → Prop), EnvR (kx X) B G H σ δ → gPart ev C o δ = some l → (∀ G' H', Ext G H G' H' → Q l H') → t σ H Q := by
 cases o with
 | none =>
  refine ⟨_, po_none, fun G δ σ H l Q R e q => ?_⟩
  cases e
  exact q G H (Ext.refl R.gh)
 | some e =>
  refine ⟨_, po_some (h X C B E0 e O.none), fun G δ σ H l Q R ee q => ?_⟩
  unfold gPart at ee
  dsimp only at ee
  cases eg : ev C e δ with
  | ok d =>
   rw [eg] at ee
   cases d with
   | int i =>
    cases ee
    refine ⟨G, δ, R, ?_⟩
    rw [eg]
    exact fun v G' H' x dn => ⟨i, dn, q G' H' x⟩
   | _ => cases ee
  | er c => rw [eg] at ee; cases ee
  | st => rw [eg] at ee; cases ee
theorem slice_ok (h : EvOk T ev) (O : XOk X C T E) {lo hi : Option Expr} {p2 : Pos} : PuE X B (ek (kx X) E) (.Subscript a (.Slice lo hi none p2) pos) (gSlice ev C a lo hi) := by
 obtain ⟨tl, hl, ql⟩ := part_ok (B := B) h O (o := lo)
 obtain ⟨th, hh, qh⟩ := part_ok (B := B) h O (o := hi)
 refine PE.imp (pe_slice (SlR.or sl_list sl_tup) (e9 (B := B) (E := E) h O a) hl hh) fun σ H Q ⟨G, δ, R, q⟩ => ⟨G, δ, R, (ResP.bind q).mono fun d _ q v G1 H1 e1 av => ?_⟩
 rw [gPt_eq, gPt_eq] at q
 cases el : gPart ev C lo δ with
 | none => rw [el] at q; exact q.elim
 | some l =>
  cases eh : gPart ev C hi δ with
  | none => rw [el, eh] at q; exact q.elim
  | some hh =>
   rw [el, eh] at q
   obtain ⟨d', ed, q⟩ := ResP.of q
   refine ql G1 δ σ H1 l _ (R.ext e1) el fun G2 H2 e2 => qh G2 δ σ H2 hh _ (R.ext (e1.trans e2)) eh fun G3 H3 e3 => ?_
   have e13 := (e1.trans e2).trans e3
   have av' := (av.ext e2).ext e3
   unfold pySlice at ed
   split at ed
   ·rename_i xs
    cases ed
    obtain ⟨l', vs, rfl, sq, dl⟩ := av'.lst e3.gh
    exact .inl ⟨l', vs, rfl, sq, fun p hp => q _ (upd G3 p (.lst (cutV vs l hh))) _ (e13.trans (Ext.new e3.gh _ hp)) (den_newL e3.gh hp (dl.cut l hh))⟩
   ·rename_i xs
    split at ed
    ·cases ed
    ·rename_i hw
     cases ed
     obtain ⟨l', vs, rfl, sq, dl⟩ := av'.tup e3.gh
     refine .inr (⟨l', vs, rfl, sq, by rw [← dl.length]; exact hw, fun p hp => q _ (upd G3 p (.tup (cutV vs l hh))) _ (e13.trans (Ext.new e3.gh _ hp)) (den_newT e3.gh hp (dl.cut l hh))⟩)
   ·cases ed
end
noncomputable def stepBin (ev : Ev) (C : SC) (a : Expr) (op : Operator) (b : Expr) : En → Res := (match binP op with
  | some f => g2 f (gAr ev C a) (gAr ev C b)
  | none => gSt)
theorem bin_ok {T : GT} {ev : Ev} {X : Cx} {C : SC} {B : Hp} {E : XK} {pos : Pos} (h : EvOk T ev) (O : XOk X C T E) {a b : Expr} {op : Operator} : PuE X B (ek (kx X) E) (.BinOp a op b pos) (stepBin ev C a op b) := by
 have gen : PuE X B (ek (kx X) E) (.BinOp a op b pos) (match binP op with
  | some f => g2 f (gAr ev C a) (gAr ev C b)
  | none => gSt) := by
  cases hf : binP op with
  | none => exact dh
  | some f => exact pu_bin hf (e9 h O a) (e9 h O b)
 unfold stepBin
 exact gen
noncomputable def stepE (T : GT) (ev tv : Ev) (C : SC) (e : Expr) : En → Res := match e with
 | .Constant c _ _ => (match c with
  | .none => gC .non
  | .bool b => gC (.bl b)
  | .int i => gC (.int i)
  | .str x => gC (.str x)
  | _ => gSt)
 | .Name x _ => stepName T C x
 | .BinOp a op b _ => stepBin ev C a op b
 | .UnaryOp op a _ => (match op with
  | .Not => gNot (ev C a)
  | .USub => g1 pyNeg (gAr ev C a)
  | _ => gSt)
 | .BoolOp op vs _ => (match op with
  | .And => gAndL (ev C) vs
  | .Or => gOrL (ev C) vs)
 | .IfExp c a b _ => gIf (tv C c) (ev C a) (ev C b)
 | .Compare l ops rs _ => stepCmp ev C l ops rs
 | .Tuple es _ _ => if es.all nst then gTup (gData ev C es) else gSt
 | .List es _ => if es.all nst then gLst (gData ev C es) else gSt
 | .Subscript a i _ => (match i with
  | .Slice lo hi none _ => gSlice ev C a lo hi
  | i => if plainI i then g2 pyIx (gAr ev C a) (gAr ev C i) else gSt)
 | .ListComp elt gens scope _ => stepComp ev tv C elt gens scope
 | .Lambda params body scope pos => gLam C params body scope pos
 | .Call f args kws cp => (match f, kws with
  | .Name x _, [] => stepCall T ev C x args
  | .Name x _, [kw] => stepKey T ev C x args kw
  | _, _ => gSt)
 | _ => gSt
noncomputable def gTru (g : En → Res) : En → Res := g1 (fun d => bD (truD d)) g
noncomputable def stepT (T : GT) (ev tv : Ev) (C : SC) (e : Expr) : En → Res := match e with
 | .UnaryOp op a _ => (match op with
  | .Not => gNot (tv C a)
  | _ => g1 (fun d => bD (truD d)) (gAr ev C e))
 | .BoolOp op vs _ => (match op with
  | .And => gAndL (tv C) vs
  | .Or => gOrL (tv C) vs)
 | .Compare l ops rs _ => stepCmp ev C l ops rs
 | e => if plainT e then g1 (fun d => bD (truD d)) (gAr ev C e) else gSt
section
variable {T : GT} {ev tv : Ev}
theorem stepE_ok (h : EvOk T ev) (ht : TvOk T tv) : EvOk T (stepE T ev tv) := by
 intro X C B E e O
 cases e with
 | Constant c k p =>
  cases c with
  | none => exact pu_non
  | bool b => exact pu_bl
  | int i => exact pu_int
  | str x => exact pu_str
  | _ => exact dh
 | Name x p => exact name_ok O
 | BinOp a op b p =>
  exact bin_ok h O
 | UnaryOp op a p =>
  cases op with
  | Not => exact pu_not (h X C B E a O)
  | USub => exact pu_neg (e9 h O a)
  | _ => exact dh
 | BoolOp op vs p =>
  cases op with
  | And => exact andL_ok fun e => h X C B E e O
  | Or => exact orL_ok fun e => h X C B E e O
 | IfExp c a b p => exact pu_if (ht X C B E c O) (h X C B E a O) (h X C B E b O)
 | Compare l ops rs p => exact (cmp_ok h O).1
 | Tuple es k p =>
  show PuE X B _ _ (if es.all nst then gTup (gData ev C es) else gSt)
  by_cases hn : es.all nst = true
  ·rw [if_pos hn]; exact pu_tup allF_map (data_ok h O hn)
  ·rw [if_neg hn]; exact dh
 | List es p =>
  show PuE X B _ _ (if es.all nst then gLst (gData ev C es) else gSt)
  by_cases hn : es.all nst = true
  ·rw [if_pos hn]; exact pu_lst allF_map (data_ok h O hn)
  ·rw [if_neg hn]; exact dh
 | Subscript a i p =>
  show PuE X B _ _ (match i with
   | .Slice lo hi none _ => gSlice ev C a lo hi
   | i => if plainI i then g2 pyIx (gAr ev C a) (gAr ev C i) else gSt)
  split
  ·exact slice_ok h O
  ·skip
   by_cases hp : plainI i = true
   ·rw [if_pos hp]; exact pu_ix (e9 h O a) (e9 h O i) (plainI_ix hp)
   ·rw [if_neg hp]; exact dh
 | Lambda params body scope p => exact pu_lam O
 | ListComp elt gens scope p => exact ow_pu (comp_ok' h ht O).1 (comp_ok' (X := X) (B := B) (E := E) (pos := p) h ht O).2
 | Call f args kws p =>
  show PuE X B _ _ (match f, kws with
   | .Name x _, [] => stepCall T ev C x args
   | .Name x _, [kw] => stepKey T ev C x args kw
   | _, _ => gSt)
  split
  ·exact ce h O
  ·exact key_ok h O
  ·exact dh
 | _ => exact dh
theorem stepT_ok (h : EvOk T ev) (ht : TvOk T tv) : TvOk T (stepT T ev tv) := by
 intro X C B E e O
 have pl : ∀ {e : Expr}, PuT X B (ek (kx X) E) e (if plainT e then g1 (fun d => bD (truD d)) (gAr ev C e) else gSt) := fun {e} => by
  by_cases hp : plainT e = true
  ·rw [if_pos hp]; exact pt_tru (e9 h O e) (plainT_eq hp)
  ·rw [if_neg hp]; exact pt_st
 cases e with
 | UnaryOp op a p =>
  cases op with
  | Not => exact pt_not' (ht X C B E a O)
  | _ => exact pt_tru (e9 h O _) (plainT_eq rfl)
 | BoolOp op vs p =>
  cases op with
  | And => exact pt_w (andT_ok fun e => ht X C B E e O)
  | Or => exact pt_w (orT_ok fun e => ht X C B E e O)
 | Compare l ops rs p => exact (cmp_ok h O).2
 | _ => exact pl
end
noncomputable def gP (T : GT) : Nat → Bool → Ev
 | 0, _ => fun _ _ => gSt
 | n + 1, false => stepE T (gP T n false) (gP T n true)
 | n + 1, true => stepT T (gP T n false) (gP T n true)
theorem gP_ok (T : GT) : ∀ n, EvOk T (gP T n false) ∧ TvOk T (gP T n true)
 | 0 => ⟨fun _ _ _ _ _ _ => dh, fun _ _ _ _ _ _ => pt_st⟩
 | n + 1 => ⟨stepE_ok (gP_ok T n).1 (gP_ok T n).2, stepT_ok (gP_ok T n).1 (gP_ok T n).2⟩
noncomputable def frz (i : Nat) (δ : En) : En := match δ[i]? with
 | some (.ow ds) => δ.set i (.pu (.lst ds))
 | some (.od t kvs) => δ.set i (.pu (.dct t kvs))
 | _ => δ
noncomputable def frzs (is : List Nat) (δ : En) : En := is.foldl (fun δ i => frz i δ) δ
section
variable {K : KA} {B G0 G H : Hp} {σ : St} {δ : En}
theorem SlOk.gmono {G' : Hp} (e : Same G G') {s : Sl} {o : Option V} (h : SlOk K B G H s o) : SlOk K B G' H s o := by
 cases s with
 | no => trivial
 | pu d => obtain ⟨v, h1, h2⟩ := h; exact ⟨v, h1, h2.mono e⟩
 | bo d => obtain ⟨v, h1, h2⟩ := h; exact ⟨v, h1, argG e h2⟩
 | ow ds => obtain ⟨a, vs, h1, h2, h3⟩ := h; exact ⟨a, vs, h1, h2, h3.mono e⟩
 | od t kvs =>
  cases t with
  | false => obtain ⟨a, vs, h1, h2, h3⟩ := h; exact ⟨a, vs, h1, h2, h3.mono e⟩
  | true => obtain ⟨a, vs, h1, h2, h3⟩ := h; exact ⟨a, vs, h1, h2, h3.mono e⟩
theorem Ext.frzO {a : Addr} {o : HO} (e : Ext G0 B G H) (bn : B a = none) (gn : G a = none) (h : H a = some o) : Ext G0 B (upd G a o) H := by
 refine ⟨e.gg.trans (cy gn _), e.hh, fun b u q => ?_, fun b u q g z => ?_⟩
 ·by_cases z : b = a
  ·subst z; rw [bg] at q; rw [h]; exact q
  ·rw [ak z] at q; exact e.gh b u q
 ·rw [ak (am q bn)]; exact e.fr b u q g z
theorem EnvR.frzAt (R : EnvR K B G H σ δ) {i : Nat} {s : Sl} {a : Addr} {o : HO} {d : D} (hi : δ[i]? = some s) (ho : s.own = true) (hs : σ[i]? = some (some (V.ref a))) (ha : H a = some o) (hd : Den K (upd G a o) d (.ref a)) :
  EnvR K B (upd G a o) H σ (δ.set i (.pu d)) := by
 obtain ⟨gn, bn⟩ := R.own i s a hi ho hs
 have hl : i < δ.length := (List.getElem?_eq_some_iff.mp hi).1
 have sm : Same G (upd G a o) := cy gn _
 refine ⟨R.bh, fun b u q => ?_, by rw [List.length_set]; exact R.len, fun j t q => ?_, fun j t b q1 q2 q3 => ?_, fun j k t u b q1 q2 q3 q4 q5 q6 => ?_, R.gb⟩
 ·by_cases z : b = a
  ·subst z; rw [bg] at q; rw [ha]; exact q
  ·rw [ak z] at q; exact R.gh b u q
 ·by_cases z : i = j
  ·subst z
   rw [List.getElem?_set_self hl] at q
   cases q
   exact ⟨_, hs, _, rfl, hd⟩
  ·rw [List.getElem?_set_ne z] at q
   obtain ⟨o', z1, z2⟩ := R.sl j t q
   exact ⟨o', z1, z2.gmono sm⟩
 ·by_cases z : i = j
  ·subst z
   rw [List.getElem?_set_self hl] at q1
   cases q1
   cases q2
  ·rw [List.getElem?_set_ne z] at q1
   obtain ⟨g, b'⟩ := R.own j t b q1 q2 q3
   refine ⟨?_, b'⟩
   have nb : b ≠ a := by
    rintro rfl
    exact z (R.dis i j _ _ b hi q1 ho q2 hs q3)
   rw [ak nb]
   exact g
 ·have hj : i ≠ j := by
   rintro rfl
   rw [List.getElem?_set_self hl] at q1
   cases q1
   cases q3
  have hk : i ≠ k := by
   rintro rfl
   rw [List.getElem?_set_self hl] at q2
   cases q2
   cases q4
  rw [List.getElem?_set_ne hj] at q1
  rw [List.getElem?_set_ne hk] at q2
  exact R.dis j k t u b q1 q2 q3 q4 q5 q6
theorem EnvR.frz (R : EnvR K B G H σ δ) (e : Ext G0 B G H) (i : Nat) : ∃ G', Same G G' ∧ EnvR K B G' H σ (frz i δ) ∧ Ext G0 B G' H := by
 unfold Pu.frz
 cases ed : δ[i]? with
 | none => exact ⟨G, Same.refl G, R, e⟩
 | some s =>
  cases s with
  | ow ds =>
   obtain ⟨a, vs, q1, q2, q3, gn, bn⟩ := R.owAt ed
   exact ⟨_, cy gn _, R.frzAt ed rfl q1 q2 ⟨a, vs, rfl, SqL.of bg, q3.mono (cy gn _)⟩, e.frzO bn gn q2⟩
  | od t kvs =>
   obtain ⟨o, q1, q2⟩ := R.sl i _ ed
   cases t with
   | false =>
    obtain ⟨a, es, rfl, q3, q4⟩ := q2
    obtain ⟨gn, bn⟩ := R.own i _ a ed rfl q1
    exact ⟨_, cy gn _, R.frzAt ed rfl q1 q3 ⟨a, rfl, .inl ⟨rfl, es, bg, q4.mono (cy gn _)⟩⟩, e.frzO bn gn q3⟩
   | true =>
    obtain ⟨a, es, rfl, q3, q4⟩ := q2
    obtain ⟨gn, bn⟩ := R.own i _ a ed rfl q1
    exact ⟨_, cy gn _, R.frzAt ed rfl q1 q3 ⟨a, rfl, .inr ⟨rfl, es, bg, q4.mono (cy gn _)⟩⟩, e.frzO bn gn q3⟩
  | no => exact ⟨G, Same.refl G, R, e⟩
  | pu _ => exact ⟨G, Same.refl G, R, e⟩
  | bo _ => exact ⟨G, Same.refl G, R, e⟩
theorem EnvR.frzs : ∀ (is : List Nat) {G : Hp} {δ : En}, EnvR K B G H σ δ → Ext G0 B G H → ∃ G', Same G G' ∧ EnvR K B G' H σ (frzs is δ) ∧ Ext G0 B G' H
 | [], G, δ, R, e => ⟨G, Same.refl G, R, e⟩
 | i :: is, G, δ, R, e => by
  obtain ⟨G1, s1, R1, e1⟩ := R.frz e i
  obtain ⟨G2, s2, R2, e2⟩ := EnvR.frzs is R1 e1
  exact ⟨G2, s1.trans s2, R2, e2⟩
end
section
variable {X : Cx} {G0 B : Hp} {E : EK} {st : Stmt} {F : En → Out}
theorem s_frz (is : List Nat) (h : PuS X G0 B E st F) : PuS X G0 B E st (fun δ => F (frzs is δ)) := PS.imp h fun D σ H ⟨G, δ, R, e, q⟩ => by
 obtain ⟨G', s, R', e'⟩ := EnvR.frzs is R e
 exact ⟨G', _, R', e', OutP.same s q⟩
end
section
variable {X : Cx} {G0 B : Hp} {E : EK} {scope : Scope} {cl : List (Str × Addr)} {x y : Str} {M : List Str} {ix : List Nat} {elt iter : Expr} {ifs : List Expr} {px pos pos' lpos : Pos} {r : En → ResL} {t g : En → Res} {i : Nat}
theorem s_setC (O : CompOk X scope cl x M ix) (hc : X.calm = true) (Bk : BlockOk X B E scope cl x M px elt ifs t g) (hi : PuIc X B E (.Name x px) iter r) (hN : X.N.Nodup) (hy : X.N[i]? = some y) (hl : L2.Loc X.env.scope y) (hf : X.fn y = true)
  (hs : ∀ x, foldedSetIterable iter X.env x = pure x) (hsw : swapsWith (.ListComp elt [⟨.Name x px, iter, ifs, 0⟩] scope lpos) (some (.Name y pos')) pos.line X.env = pure true) :
  PuS X G0 B E (.Assign [.Name y pos'] (.ListComp elt [⟨.Name x px, iter, ifs, 0⟩] scope lpos) pos) (sSetO i (ci r ix t g)) := by
 intro pins s σ H D I ⟨G, δ, R, ex, q⟩
 have q := thenP ex q
 rw [exec_Assign_Name_used _ _ _ _ hsw, arm_evalThenUse_ListComp]
 refine wpAny_bind (wpAny_standAt ?_)
 refine wpAny_bind (wpAny_bind ?_)
 refine wpAny_comprehension_free (use := some (assign (.Name y pos') X.env)) (Q := fun _ s' => wpAny (model X.prog X.w) X.A (pure PUnit.unit : Sem PUnit) (fun _ s' => wpAny (model X.prog X.w) X.A (pure Flow.next : Sem Flow) (SP X pins D) X.xe s') X.xe s') rfl hs (closureFor_eq O.clos) O.kind O.names ?_
 refine wpAny_mono (hi pins s σ H (fun J H1 => ∃ G1 ds ys, Ext G H G1 H1 ∧ ItOk (kx X) J ds (fun G2 H2 => Ext G1 H1 G2 H2) ∧ ds.length ≤ sizeLine ∧ compL (turnD ix t g δ) ds = some ys ∧ OutP (kx X) G0 B E G (.nx (δ.set i (.ow ys))) D) I
  ⟨G, δ, R, (compP q).mono fun ds _ ⟨hl, ys, ey, q⟩ J G1 H1 e1 ok => ⟨G1, ds, ys, e1, ok, hl, ey, q⟩⟩) (fun v s1 h1 => wpAny_mono h1 (fun itv s2 h2 => ?_) fun _ _ e => e) fun _ _ e => e
 obtain ⟨it, fp, tn, J, H1, rfl, I1, T, st, hfp, G1, ds, ys, e1, ok, hl', ey, q⟩ := h2
 refine comp_run (RR := fun acc C => compPost (model X.prog X.w) X.A X.xe (some (assign (.Name y pos') X.env)) (fun _ s' => wpAny (model X.prog X.w) X.A (pure PUnit.unit : Sem PUnit) (fun _ s' => wpAny (model X.prog X.w) X.A (pure Flow.next : Sem Flow) (SP X pins D) X.xe s') X.xe s') acc C) O hc Bk I1 T st hfp (R.ext e1) ok hl' ey ?_
 intro s3 H3 G3 vs m I3 hm hC e3 g3 h3 dl
 have hsz : s2.heap.objs.size ≤ s2.heap.objs.size + 1 := Nat.le_succ _
 have ltL : X.env.locals < s2.heap.objs.size := I1.lt
 have ltc : ∀ y c, X.env.cells.lookup y = some c → c < s2.heap.objs.size := fun y c e => by
  obtain ⟨v', q'⟩ := I1.cell y c e
  exact q'.lt
 refine wpAny_assign_Name (store_ok2 (v := .ref s2.heap.objs.size) I3 hN hy hl rfl (fun s4 I4 ⟨a, hsb, ha⟩ => ?_) (.inl hf))
 have la : a < s2.heap.objs.size := by
  rcases ha with z | z
  ·rw [z]; exact ltL
  ·exact ltc _ _ z
 have na : s2.heap.objs.size + 1 ≠ a := (ne_succ la).symm
 refine ⟨m, hm.sameBut hsb na, fun h' hs' => wpAny_pure (wpAny_pure ⟨σ.set i (some (V.ref s2.heap.objs.size)), H3, ?_, ?_⟩)⟩
 ·refine I4.turned (t' := s4.toks) (it := s2.heap.objs.size + 1) (fun b o hb e => hs'.extBut b o hb e) hC ?_ (.inr (Nat.le_trans I1.sz hsz)) ?_ ?_
  ·exact (ne_succ ltL).symm
  ·intro z c hc'
   exact ne_succ (ltc z c hc')
  ·intro p hp z
   exact absurd (Nat.lt_of_lt_of_le (Heap.lt_size (I1.pin p hp).1) (Nat.le_trans hsz (Nat.le_of_eq z.symm))) (Nat.lt_irrefl _)
 ·exact q _ G3 H3 (e1.trans e3).gg (R.setO (e1.trans e3) (fy e1.hh (I1.hok.fresh (Nat.le_refl _))) g3 h3 dl) (ex.trans (e1.trans e3))
end
noncomputable def whileN (c : En → Res) (F : En → Out) : Nat → En → Out
 | 0, _ => .st
 | n + 1, δ => (c δ).then fun d => match d with
  | .bl true => (match F δ with
   | .nx δ' => whileN c F n δ'
   | .ct δ' => whileN c F n δ'
   | .bk δ' => .nx δ'
   | o => o)
  | .bl false => .nx δ
  | _ => .st
noncomputable def wFuel : Nat := 1000000
noncomputable def sWh (c : En → Res) (F : En → Out) : En → Out := whileN c F wFuel
section
variable {X : Cx} {G0 B : Hp} {E : EK} {c : Expr} {ss : List Stmt} {g : En → Res} {F : En → Out} {pos : Pos}
theorem s_while (hp : PassesOwn (model X.prog X.w) X.A X.env X.xe) (hc : PuT X B E c g) (hb : PuSs X G0 B E ss F) : PuS X G0 B E (.While c ss [] pos) (sWh g F) :=
 PS.imp (ps_while hp hc hb) fun D σ H ⟨G, δ, R, e, q⟩ => by
  refine ⟨fun m σ H => ∃ G δ, EnvR (kx X) B G H σ δ ∧ Ext G0 B G H ∧ OutP (kx X) G0 B E G (whileN g F m δ) D, ⟨wFuel, G, δ, R, e, q⟩, fun m σ H ⟨G, δ, R, e, q⟩ => ⟨G, δ, R, ?_⟩⟩
  cases m with
  | zero => exact q.elim
  | succ m =>
   refine (thenP e q).mono fun d _ q => ?_
   cases d with
   | bl b =>
    refine ⟨b, rfl, fun G1 H1 e1 => ?_⟩
    cases b with
    | false =>
     rw [if_neg Bool.false_ne_true]
     exact q σ G1 H1 e1.gg (R.ext e1) (e.trans e1)
    | true =>
     rw [if_pos rfl]
     refine ⟨fun σ' H' => ∃ m', m' < m + 1 ∧ ∃ G δ, EnvR (kx X) B G H' σ' δ ∧ Ext G0 B G H' ∧ OutP (kx X) G0 B E G (whileN g F m' δ) D, fun σ' H' z => z, G1, δ, R.ext e1, e.trans e1, ?_⟩
     dsimp only at q
     cases ef : F δ with
     | nx δ' =>
      rw [ef] at q
      exact fun σ' G' H' s R' e' => ⟨m, Nat.lt_succ_self m, G', δ', R', e', OutP.same (e1.gg.trans s) q⟩
     | ct δ' =>
      rw [ef] at q
      exact fun σ' G' H' s R' e' => ⟨m, Nat.lt_succ_self m, G', δ', R', e', OutP.same (e1.gg.trans s) q⟩
     | bk δ' =>
      rw [ef] at q
      exact fun σ' G' H' s R' e' => q σ' G' H' (e1.gg.trans s) R' e'
     | rt d => rw [ef] at q; exact q
     | er c => rw [ef] at q; exact q
     | st => rw [ef] at q; exact q
   | _ => exact q.elim
end
structure SOk (X : Cx) (C : SC) (T : GT) (E : XK) : Prop extends XOk X C T E where
 fn : ∀ x, x ∉ lamCaps → X.fn x = true
 pass : PassesOwn (model X.prog X.w) X.A X.env X.xe
 stk : X.stack = X.env :: X.outer
 frm : X.env.frame = some X.env.locals
 ex0 : X.ex = []
noncomputable def lslot (C : SC) (x : Str) : Option Nat := if isLoc C.sc x && okName x && decide (x ∉ lamCaps) then ixOf x C.N 0 else none
theorem lslot_ok {C : SC} {x : Str} {i : Nat} (h : lslot C x = some i) : C.N[i]? = some x ∧ isLoc C.sc x = true ∧ x ∉ lamCaps := by
 unfold lslot at h
 by_cases e : (isLoc C.sc x && okName x && decide (x ∉ lamCaps)) = true
 ·rw [if_pos e] at h
  rw [Bool.and_eq_true, Bool.and_eq_true] at e
  obtain ⟨_, q⟩ := ixOf_ok h
  exact ⟨by simpa using q, e.1.1, of_decide_eq_true e.2⟩
 ·rw [if_neg e] at h; cases h
section
variable {X : Cx} {C : SC} {T : GT} {x : Str} {i : Nat} {pos : Pos}
theorem SOk.tg (O : SOk X C T E) (h : lslot C x = some i) : PG X (.Name x pos) (gName i) := by
 obtain ⟨h1, h2, h3⟩ := lslot_ok h
 exact pg_name (by rw [O.n]; exact O.nd) (by rw [O.n]; exact h1) (by rw [O.s]; exact isLoc_ok h2) (.inl (O.fn x h3))
theorem SOk.st (O : SOk X C T E) (h : lslot C x = some i) {e : Expr} {te : TE} {pos' : Pos} (he : PE X e te) (hs : swapsWith e (some (.Name x pos')) pos.line X.env = pure false) : PS X (.Assign [.Name x pos'] e pos) (tAsg te (gName i)) := by
 obtain ⟨h1, h2, h3⟩ := lslot_ok h
 exact ps_set (by rw [O.n]; exact O.nd) (by rw [O.n]; exact h1) (by rw [O.s]; exact isLoc_ok h2) he hs (.inl (O.fn x h3))
end
noncomputable def setAll : List Nat → List D → En → Option En
 | [], [], δ => some δ
 | i :: is, d :: ds, δ => setAll is ds (δ.set i (.pu d))
 | _, _, _ => none
noncomputable def tgNames (C : SC) : List Expr → Option (List Nat)
 | [] => some []
 | e :: r => match e with
  | .Name x _ => (match lslot C x, tgNames C r with
   | some i, some is => some (i :: is)
   | _, _ => none)
  | _ => none
noncomputable def gtTup (is : List Nat) : D → En → Option En := fun d δ => match d with
 | .tup ds => setAll is ds δ
 | _ => none
theorem setAll_len : ∀ {is : List Nat} {ds : List D} {δ δ' : En}, setAll is ds δ = some δ' → ds.length = is.length
 | [], [], _, _, _ => rfl
 | [], _ :: _, _, _, h => by cases h
 | _ :: _, [], _, _, h => by cases h
 | i :: is, d :: ds, δ, δ', h => by
  have := setAll_len (is := is) (ds := ds) h
  rw [List.length_cons, List.length_cons, this]
section
variable {X : Cx} {C : SC} {T : GT} {B : Hp}
theorem names_ok (O : SOk X C T E) : ∀ {es : List Expr} {is : List Nat}, tgNames C es = some is → (∃ t : TGs, PGs X es t ∧ ∀ {G H : Hp} {σ : St} {δ δ' : En} {ds : List D} {vs : List V} {Q : St → Hp → Prop}, EnvR (kx X) B G H σ δ → DenL (kx X) G ds vs → setAll is ds δ = some δ' →
  (∀ σ', EnvR (kx X) B G H σ' δ' → Q σ' H) → t vs σ H Q) ∧ (assignEach es X.env).length = is.length ∧ (assignEach es X.env).findIdx? (·.1) = none
 | [], is, h => by
  cases h
  refine ⟨⟨_, pgs_nil, fun {G H σ δ δ' ds vs Q} R dl e q => ?_⟩, rfl, rfl⟩
  cases ds with
  | nil =>
   cases e
   exact ⟨dl, q σ R⟩
  | cons _ _ => cases e
 | e :: r, is, h => by
  unfold tgNames at h
  cases e with
  | Name x p =>
   dsimp only at h
   cases e1 : lslot C x with
   | none => rw [e1] at h; cases h
   | some i =>
    cases e2 : tgNames C r with
    | none => rw [e1, e2] at h; cases h
    | some is' =>
     rw [e1, e2] at h
     cases h
     obtain ⟨⟨t, p1, p2⟩, p3, p4⟩ := names_ok O e2
     refine ⟨⟨_, pgs_cons (O.tg e1) p1 rfl, fun {G H σ δ δ' ds vs Q} R dl e q => ?_⟩, ?_, ?_⟩
     ·cases ds with
      | nil => cases e
      | cons d ds =>
       obtain ⟨v, vr, rfl, dv, dr⟩ := dl
       exact ⟨v, vr, rfl, p2 (R.set dv) dr e q⟩
     ·show (assignEach r X.env).length + 1 = is'.length + 1
      rw [p3]
     ·show List.findIdx? _ ((false, _) :: assignEach r X.env) = none
      rw [List.findIdx?_cons]
      simp [p4]
  | _ => cases h
theorem tg_tup (O : SOk X C T E) {es : List Expr} {is : List Nat} {k : Nat} {p : Pos} (h : tgNames C es = some is) : ∃ gl, TgOk X B (.Tuple es k p) gl (gtTup is) := by
 obtain ⟨⟨t, p1, p2⟩, p3, p4⟩ := names_ok (B := B) O h
 refine ⟨_, pg_tup O.calm p1 p3 p4, fun {G H σ δ δ' d v Q} R dn e q => ?_⟩
 cases d with
 | tup ds =>
  obtain ⟨a, vs, rfl, sq, dl⟩ := dn
  have hl := setAll_len (show setAll is ds δ = some δ' from e)
  exact ⟨a, vs, rfl, SqT.of (R.gh _ _ sq), by rw [← dl.length, hl], p2 R dl e q⟩
 | _ => cases e
end
noncomputable def tgOf (C : SC) (tg : Expr) : Option (D → En → Option En) := match tg with
 | .Name x _ => (lslot C x).map dz
 | .Tuple es _ _ => (tgNames C es).map gtTup
 | _ => none
theorem tgOf_ok {X : Cx} {C : SC} {T : GT} {B : Hp} (O : SOk X C T E) {tg : Expr} {f : D → En → Option En} (h : tgOf C tg = some f) : ∃ gl, TgOk X B tg gl f := by
 unfold tgOf at h
 split at h
 ·rename_i x p
  cases e : lslot C x with
  | none => rw [e] at h; cases h
  | some i => rw [e] at h; cases h; exact ⟨_, tg_name (O.tg e)⟩
 ·rename_i es k p
  cases e : tgNames C es with
  | none => rw [e] at h; cases h
  | some is => rw [e] at h; cases h; exact tg_tup O e
 ·cases h
section
variable {X : Cx} {G0 B : Hp} {E : EK} {e a k : Expr} {g h : En → Res} {pos : Pos} {st : Stmt} {F F' : En → Out}
noncomputable def sDrop (g : En → Res) : En → Out := fun δ => (g δ).then fun _ => .nx δ
theorem s_drop (ha : PuE X B E e g) (hs : swapsWith e none pos.line X.env = pure false) : PuS X G0 B E (.Expr e pos) (sDrop g) := PS.imp (ps_expr ha hs) fun D σ H ⟨G, δ, R, ex, q⟩ =>
 ⟨G, δ, R, (thenP ex q).mono fun d _ q v G' H' e1 dn => q σ G' H' e1.gg (R.ext e1) (ex.trans e1)⟩
noncomputable def sRetN : En → Out := fun _ => .rt .non
theorem s_retN : PuS X G0 B E (.Return none pos) sRetN := PS.imp ps_retN fun D σ H ⟨G, δ, R, ex, q⟩ => q .non G H ex rfl
end
section
variable {T : GT} {ev : Ev} {X : Cx} {C : SC} {G0 B : Hp} {E : XK}
noncomputable def sRaise (c : Str) (r : En → ResL) : En → Out := fun δ => match r δ with
 | .ok _ => .er c
 | .er c' => .er c'
 | .st => .st
theorem s_raise {x : Str} {np cpos pos : Pos} {e : Expr} {es : List Expr} (h : EvOk T ev) (O : XOk X C T E) (hx : T.xs.exc x = true) (hg : isG C x = true) (hn : (e :: es).all nst = true) (hl : (e :: es).length ≤ 1000) :
  PuS X G0 B (ek (kx X) E) (.Raise (some (.Call (.Name x np) (e :: es) [] cpos)) none pos) (sRaise x (gData ev C (e :: es))) := by
 obtain ⟨Cc, bm, nid, hm, hxx, HB⟩ := O.exc x hx
 obtain ⟨g1, g2⟩ := O.gl hg
 have hn' := hn
 rw [List.all_cons, Bool.and_eq_true] at hn'
 refine PS.imp (ps_raise O.calm g1 hm hxx HB O.goes (data_ok (B := B) h O hn) g2 (bf hn'.1) (star_any hn'.2)) fun D σ H ⟨G, δ, R, ex, q⟩ => ⟨G, δ, R, ?_⟩
 unfold sRaise at q
 cases er : gData ev C (e :: es) δ with
 | ok ds =>
  rw [er] at q
  intro vs G' H' e1 al
  refine ⟨?_, ?_⟩
  ·have := al.length.2
   rw [List.length_map] at this
   rw [this]
   exact Nat.le_trans hl (by decide)
  ·have z := q G' H' (ex.trans e1)
   have z' : E (.ref (adr X.mg x)) none H' := z
   rw [adr_of hm] at z'
   exact z'
 | er c => rw [er] at q; exact fun G' H' e1 => q G' H' (ex.trans e1)
 | st => rw [er] at q; exact q
noncomputable def one {α : Type} : List α → Option α
 | [a] => some a
 | _ => none
noncomputable def callE : Expr → Option (Expr × List Expr × List Keyword × Pos)
 | .Call f a k p => some (f, a, k, p)
 | _ => none
theorem callE_ok {e f : Expr} {a : List Expr} {k : List Keyword} {p : Pos} (h : callE e = some (f, a, k, p)) : e = .Call f a k p := by
 cases e <;> first | (cases h; rfl) | cases h
noncomputable def nameE : Expr → Option (Str × Pos)
 | .Name x p => some (x, p)
 | _ => none
theorem nameE_ok {e : Expr} {x : Str} {p : Pos} (h : nameE e = some (x, p)) : e = .Name x p := by
 cases e <;> first | (cases h; rfl) | cases h
noncomputable def raiseS : Stmt → Option (Option Expr × Option Expr × Pos)
 | .Raise e c p => some (e, c, p)
 | _ => none
theorem raiseS_ok {st : Stmt} {e c : Option Expr} {p : Pos} (h : raiseS st = some (e, c, p)) : st = .Raise e c p := by
 cases st <;> first | (cases h; rfl) | cases h
noncomputable def raiseP (st : Stmt) : Option (Str × Expr × List Expr) := (raiseS st).bind fun q => q.1.bind fun w => (callE w).bind fun c => (nameE c.1).bind fun x => match c.2.1, c.2.2.1, q.2.1 with
 | e :: es, [], none => some (x.1, e, es)
 | _, _, _ => none
theorem raiseP_ok {st : Stmt} {x : Str} {e : Expr} {es : List Expr} (h : raiseP st = some (x, e, es)) : ∃ np cpos pos, st = .Raise (some (.Call (.Name x np) (e :: es) [] cpos)) none pos := by
 unfold raiseP at h
 simp only [Option.bind_eq_some_iff] at h
 obtain ⟨⟨q1, q2, q3⟩, h1, w, h0, ⟨c1, c2, c3, c4⟩, h2, ⟨y1, y2⟩, h3, h4⟩ := h
 dsimp only at h0 h2 h3 h4
 split at h4
 ·cases h4
  exact ⟨_, _, _, by rw [raiseS_ok h1, h0, callE_ok h2, nameE_ok h3]⟩
 ·cases h4
noncomputable def stepRaise (T : GT) (ev : Ev) (C : SC) (st : Stmt) : En → Out := match raiseP st with
 | some (x, e, es) => if T.xs.exc x && isG C x && (e :: es).all nst && decide ((e :: es).length ≤ 1000) then sRaise x (gData ev C (e :: es)) else sSt
 | none => sSt
theorem raise_ok (h : EvOk T ev) (O : XOk X C T E) {st : Stmt} : PuS X G0 B (ek (kx X) E) st (stepRaise T ev C st) := by
 unfold stepRaise
 cases hp : raiseP st with
 | none => exact s_st
 | some t =>
  obtain ⟨x, e, es⟩ := t
  obtain ⟨np, cpos, pos, rfl⟩ := raiseP_ok hp
  dsimp only
  by_cases hc : (T.xs.exc x && isG C x && (e :: es).all nst && decide ((e :: es).length ≤ 1000)) = true
  ·rw [if_pos hc]
   simp only [Bool.and_eq_true] at hc
   exact s_raise h O hc.1.1.1 hc.1.1.2 hc.1.2 (of_decide_eq_true hc.2)
  ·rw [if_neg hc]; exact s_st
end
end Pu
end
section
namespace L2
open PySem PySem.Spec PyProof.Rows
section
variable {X : Cx} {k : Nat} {f Cy Cz : Addr} {fd : FuncData} {ps : List Str} {sp : Sp} {x y z : Str} {p yp zp cpos epos hpos hpos' pos : Pos} {e : Expr} {es : List Expr} {t : TA} {u u' : TS} {b₀ b₁ : Stmt} {suite suite' : List Stmt} {rest : List ExceptHandler}
end
section
variable {X : Cx} {k : Nat} {f Cy : Addr} {fd : FuncData} {ps : List Str} {sp : Sp} {x y n xT : Str} {T : String} {i : Nat} {p yp cpos epos hpos pos isp np tp icpos rpos : Pos} {e : Expr} {es : List Expr} {t : TA}
end
end L2
end
section
namespace Pu
open PySem PySem.Spec PyProof.Rows L2
section
variable {T : GT} {ev : Ev} {X : Cx} {C : SC} {G0 B : Hp} {E : XK}
end
mutual
noncomputable def dvE : Nat → GT → Expr → List Str
 | 0, _, _ => []
 | n + 1, T, e => match e with
  | .Name x _ => [x]
  | .IfExp c a b _ => dvA n T c ++ dvE n T a ++ dvE n T b
  | .BoolOp _ vs _ => vs.flatMap (dvE n T)
  | e => dvA n T e
noncomputable def dvA : Nat → GT → Expr → List Str
 | 0, _, _ => []
 | n + 1, T, e => match e with
  | .BinOp a _ b _ => dvA n T a ++ dvA n T b
  | .UnaryOp _ a _ => dvA n T a
  | .BoolOp _ vs _ => vs.flatMap (dvA n T)
  | .IfExp c a b _ => dvA n T c ++ dvE n T a ++ dvE n T b
  | .Compare l _ rs _ => dvA n T l ++ rs.flatMap (dvA n T)
  | .Tuple es _ _ => es.flatMap (dvE n T)
  | .List es _ => es.flatMap (dvE n T)
  | .Subscript a i _ => dvA n T a ++ dvA n T i
  | .ListComp elt gens _ _ => dvE n T elt ++ gens.flatMap fun g => dvA n T g.iter ++ g.ifs.flatMap (dvA n T)
  | .Call (.Name f _) args _ _ => (match T.fns f with
   | some s => (s.ms.zip args).flatMap fun p => if p.1 then dvA n T p.2 else dvE n T p.2
   | none => args.flatMap (dvA n T))
  | .Call (.Attribute o _ _) args _ _ => dvA n T o ++ args.flatMap (dvE n T)
  | _ => []
end
noncomputable def dvS (T : GT) (st : Stmt) : List Str := match st with
 | .Return (some e) _ => dvE 30 T e
 | .Assign [.Name _ _] e _ => dvE 30 T e
 | .Assign [.Subscript _ k _] e _ => dvE 30 T e ++ dvA 30 T k
 | .AugAssign _ _ e _ => dvA 30 T e
 | .Expr (.Call (.Attribute (.Name _ _) m _) args _ _) _ => if m = "extend" then args.flatMap (dvA 30 T) else args.flatMap (dvE 30 T)
 | .Expr e _ => dvA 30 T e
 | .If c _ _ _ => dvA 30 T c
 | .For _ iter _ _ _ => dvE 30 T iter
 | .Try [.Expr e _] _ _ _ _ => dvA 30 T e
 | _ => []
noncomputable def slotsOf (C : SC) (xs : List Str) : List Nat := xs.filterMap (slot C)
noncomputable def isBi (T : GT) (C : SC) (x y : Str) : Bool := decide (x = y) && decide (slot C x = none) && isG C x && (T.fns x).isNone
theorem isBi_ok {T : GT} {C : SC} {X : Cx} (O : XOk X C T E) {x y : Str} (h : isBi T C x y = true) : x = y ∧ Gl X x := by
 unfold isBi at h
 simp only [Bool.and_eq_true, decide_eq_true_eq] at h
 exact ⟨h.1.1.1, (O.gl h.1.2).1⟩
noncomputable def stepO (T : GT) (ev : Ev) (C : SC) (e : Expr) : Option (En → Res) := match e with
 | .List es _ => if es.all nst then some (gLst (gData ev C es)) else none
 | .Call (.Name x _) [a] [] _ => if isBi T C x "list" then (if nst a then some (g1 d4 (gAr ev C a)) else none) else none
 | _ => none
noncomputable def stepAsg (T : GT) (ev tv : Ev) (C : SC) (x : Str) (e : Expr) : En → Out := match lslot C x with
 | none => sSt
 | some i => (match e with
  | .ListComp elt gens scope _ => sSetO i (stepComp ev tv C elt gens scope)
  | e => (match stepO T ev C e with
   | some g => if noComp e then sSetO i g else sSt
   | none => if noComp e then (sSet i (ev C e)) else sSt))
noncomputable def stepMS (ev : Ev) (C : SC) (x m : Str) (args : List Expr) : En → Out := match slot C x, args with
 | some i, [a] => if m = "append" then (if nst a then sApp i (ev C a) else sSt)
  else if m = "extend" then (if nst a then sExt i (gAr ev C a) else sSt)
  else sSt
 | _, _ => sSt
noncomputable def fz (is : List Nat) (F : En → Out) : En → Out := fun δ => F (frzs is δ)
noncomputable abbrev Bv := SC → List Stmt → En → Out
noncomputable def stepS0 (T : GT) (ev tv : Ev) (bv : Bv) (C : SC) (st : Stmt) : En → Out := match st with
 | .Return o _ => (match o with
  | some e => sRet (ev C e)
  | none => sRetN)
 | .Assign tgs e _ => (match tgs with
  | [.Name x _] => stepAsg T ev tv C x e
  | _ => sSt)
 | .Expr e _ => (match e with
  | .Constant (.str _) _ _ => sPass
  | .Call (.Attribute (.Name x xp) m ap) args kws cp => (match kws with
   | [] => if ap.endLine == cp.line then (stepMS ev C x m args) else sSt
   | _ => sSt)
  | e => if noComp e then sDrop (ev C e) else sSt)
 | .If c a b _ => (sIf (tv C c) (bv C a) (bv C b))
 | .For tg iter body els _ => (match els, tgOf C tg with
  | [], some f => if noSet iter then sFor f (stepIt ev C tg iter) (bv C body) else sSt
  | _, _ => sSt)
 | .While c body els _ => (match els with
  | [] => sWh (tv C c) (bv C body)
  | _ => sSt)
 | .Pass _ => sPass
 | .Break _ => sBreak
 | .Continue _ => sCont
 | .Raise exc cause rp => stepRaise T ev C (.Raise exc cause rp)
 | _ => sSt
noncomputable def stepS (T : GT) (ev tv : Ev) (bv : Bv) (C : SC) (st : Stmt) : En → Out := fz (slotsOf C (dvS T st)) (stepS0 T ev tv bv C st)
noncomputable def seqAll (f : Stmt → En → Out) : List Stmt → En → Out
 | [] => sNil
 | [s] => f s
 | s :: r => sSeq (f s) (seqAll f r)
noncomputable def BvOk (T : GT) (bv : Bv) : Prop := ∀ X C G0 B (E : XK) ss, SOk X C T E → PuSs X G0 B (ek (kx X) E) ss (bv C ss)
section
variable {T : GT} {ev tv : Ev} {bv : Bv} {X : Cx} {C : SC} {G0 B : Hp} {E : XK} {pos pos' : Pos}
theorem ow_of (h : EvOk T ev) (O : XOk X C T E) {e : Expr} {g : En → Res} (hg : stepO T ev C e = some g) : OwE X B (ek (kx X) E) e g := by
 unfold stepO at hg
 split at hg
 ·rename_i es _
  by_cases hn : es.all nst = true
  ·rw [if_pos hn] at hg; cases hg; exact ow_lst allF_map (data_ok h O hn)
  ·rw [if_neg hn] at hg; cases hg
 ·rename_i x p a pos
  by_cases hb : isBi T C x "list" = true
  ·rw [if_pos hb] at hg
   obtain ⟨rfl, hgl⟩ := isBi_ok O hb
   by_cases hn : nst a = true
   ·rw [if_pos hn] at hg
    cases hg
    exact ow_listD O.calm hgl (O.bl _ (by decide)) (e9 h O a) hn
   ·rw [if_neg hn] at hg; cases hg
  ·rw [if_neg hb] at hg; cases hg
 ·cases hg
theorem asg_ok (h : EvOk T ev) (ht : TvOk T tv) (O : SOk X C T E) {x : Str} {e : Expr} : PuS X G0 B (ek (kx X) E) (.Assign [.Name x pos'] e pos) (stepAsg T ev tv C x e) := by
 unfold stepAsg
 cases hs : lslot C x with
 | none => exact s_st
 | some i =>
  dsimp only
  have gen : PuS X G0 B (ek (kx X) E) (.Assign [.Name x pos'] e pos) (match stepO T ev C e with
   | some g => if noComp e then sSetO i g else sSt
   | none => if noComp e then (sSet i (ev C e)) else sSt) := by
   cases ho : stepO T ev C e with
   | none =>
    dsimp only
    by_cases hn : noComp e = true
    ·rw [if_pos hn]
     have he := h X C B E e O.toXOk
     exact s_set he (O.st hs he (noComp_swaps hn))
    ·rw [if_neg hn]; exact s_st
   | some g =>
    dsimp only
    by_cases hn : noComp e = true
    ·rw [if_pos hn]
     have he : OwE X B (ek (kx X) E) e g := ow_of h O.toXOk ho
     exact s_setO he (O.st hs he (noComp_swaps hn))
    ·rw [if_neg hn]; exact s_st
  cases e with
  | ListComp elt gens scope lp =>
   have hw := comp_ok' (X := X) (B := B) (E := E) (pos := lp) (elt := elt) (gens := gens) (scope := scope) h ht O.toXOk
   have sw : ∃ b, swapsWith (.ListComp elt gens scope lp) (some (.Name x pos')) pos.line X.env = pure b := ⟨_, rfl⟩
   obtain ⟨b, sw⟩ := sw
   cases b with
   | false => exact s_setO hw.1 (O.st hs hw.1 sw)
   | true =>
    show PuS X G0 B _ _ (sSetO i (stepComp ev tv C elt gens scope))
    unfold stepComp
    have bad : PuS X G0 B (ek (kx X) E) (.Assign [.Name x pos'] (.ListComp elt gens scope lp) pos) (sSetO i gSt) := fun pins s σ H D I ⟨G, δ, R, ex, q⟩ => q.elim
    obtain ⟨l1, l2, l3⟩ := lslot_ok hs
    have hy : X.N[i]? = some x := by rw [O.n]; exact l1
    have hl : L2.Loc X.env.scope x := by rw [O.s]; exact isLoc_ok l2
    have hN : X.N.Nodup := by rw [O.n]; exact O.nd
    split
    ·rename_i z px iter ifs
     by_cases hc : (compOk C scope z && noSet iter) = true
     ·rw [if_pos hc]
      rw [Bool.and_eq_true] at hc
      obtain ⟨hc, hset⟩ := hc
      clear hw
      cases hx : slots C (cx scope.names) with
      | none => exact bad
      | some ix =>
       dsimp only
       cases ifs with
       | nil =>
        intro pins s σ H D I q
        obtain ⟨cl, O2⟩ := comp_static O.toXOk I.ok hc hx
        exact s_setC (E := ek (kx X) E) O2 O.calm ⟨.inl ⟨rfl, rfl⟩, fun Cc s₀ H₀ ex pn => h _ _ B E0 elt (comp_xok O.toXOk hc Cc s₀ H₀ ex pn)⟩ (ic_ok h O.toXOk iter) hN hy hl (O.fn x l3) (noSet_iter hset) sw pins s σ H D I q
       | cons c r =>
        cases r with
        | nil =>
         intro pins s σ H D I q
         obtain ⟨cl, O2⟩ := comp_static O.toXOk I.ok hc hx
         exact s_setC (E := ek (kx X) E) O2 O.calm ⟨.inr ⟨c, rfl, fun Cc s₀ H₀ ex pn => ht _ _ B E0 c (comp_xok O.toXOk hc Cc s₀ H₀ ex pn)⟩, fun Cc s₀ H₀ ex pn => h _ _ B E0 elt (comp_xok O.toXOk hc Cc s₀ H₀ ex pn)⟩ (ic_ok h O.toXOk iter) hN hy hl (O.fn x l3) (noSet_iter hset) sw pins s σ H D I q
        | cons _ _ => exact bad
     ·rw [if_neg hc]; exact bad
    ·exact bad
  | _ => exact gen
theorem few_one {a : Expr} {env : Env} {cpos : Pos} (hn : nst a = true) : ((backTo cpos (starEach [a] env)).all (fun x => !x.1) && (backToKw cpos (keywordEach [] env)).all (fun x => x.1.isSome)
   && decide (([a] : List Expr).length + ([] : List Keyword).length + (if ([] : List Keyword).isEmpty then 0 else 1) < 30)) = true := by
 rw [star_all (by rw [List.all_cons, hn]; rfl)]; rfl
theorem ms_ok (h : EvOk T ev) (O : SOk X C T E) {x m : Str} {p ap cp : Pos} {args : List Expr} (hl : (ap.endLine == cp.line) = true) : PuS X G0 B (ek (kx X) E) (.Expr (.Call (.Attribute (.Name x p) m ap) args [] cp) pos) (stepMS ev C x m args) := by
 unfold stepMS
 split
 ·rename_i i a hs
  by_cases hm : m = "append"
  ·subst hm
   rw [if_pos rfl]
   by_cases hn : nst a = true
   ·rw [if_pos hn]
    exact s_append (O.var hs) (h X C B E a O.toXOk) rfl (few_one hn) hl (bf hn) rfl rfl
   ·rw [if_neg hn]; exact s_st
  ·rw [if_neg hm]
   by_cases hm : m = "extend"
   ·subst hm
    rw [if_pos rfl]
    by_cases hn : nst a = true
    ·rw [if_pos hn]
     exact s_extend (O.var hs) (e9 h O.toXOk a) rfl (few_one hn) hl (bf hn) rfl rfl
    ·rw [if_neg hn]; exact s_st
   ·rw [if_neg hm]
    exact s_st
 ·exact s_st
theorem s0_ok (h : EvOk T ev) (ht : TvOk T tv) (hb : BvOk T bv) (O : SOk X C T E) {st : Stmt} : PuS X G0 B (ek (kx X) E) st (stepS0 T ev tv bv C st) := by
 have hu : X.A.units + 1 < cLine := by have := O.units; omega
 cases st with
 | Return o p =>
  cases o with
  | none => exact s_retN
  | some e => exact s_ret (h X C B E e O.toXOk)
 | Assign tgs e p =>
  show PuS X G0 B _ _ (match tgs with
   | [.Name x _] => stepAsg T ev tv C x e
   | _ => sSt)
  split
  ·exact asg_ok h ht O
  ·exact s_st
 | Expr e p =>
  show PuS X G0 B _ _ (match e with
   | .Constant (.str _) _ _ => sPass
   | .Call (.Attribute (.Name x xp) m ap) args kws cp => (match kws with
    | [] => if ap.endLine == cp.line then (stepMS ev C x m args) else sSt
    | _ => sSt)
   | e => if noComp e then sDrop (ev C e) else sSt)
  split
  ·exact s_doc
  ·rename_i x _ m ap args kws cp
   cases kws with
   | nil =>
    dsimp only
    by_cases hl : (ap.endLine == cp.line) = true
    ·rw [if_pos hl]
     exact ms_ok h O hl
    ·rw [if_neg hl]; exact s_st
   | cons _ _ => exact s_st
  ·by_cases hn : noComp e = true
   ·rw [if_pos hn]; exact s_drop (h X C B E e O.toXOk) (noComp_swaps hn)
   ·rw [if_neg hn]; exact s_st
 | If c a b p =>
  show PuS X G0 B _ _ (sIf (tv C c) (bv C a) (bv C b))
  exact s_if (ht X C B E c O.toXOk) (hb X C G0 B E a O) (hb X C G0 B E b O)
 | For tg iter body els p =>
  show PuS X G0 B _ _ (match els, tgOf C tg with
   | [], some f => if noSet iter then sFor f (stepIt ev C tg iter) (bv C body) else sSt
   | _, _ => sSt)
  cases els with
  | cons _ _ => exact s_st
  | nil =>
   cases hf : tgOf C tg with
   | none => exact s_st
   | some f =>
    dsimp only
    by_cases hn : noSet iter = true
    ·rw [if_pos hn]
     obtain ⟨gl, G⟩ := tgOf_ok (B := B) O hf
     exact s_for O.pass O.calm (it_ok h O.toXOk iter) G (hb X C G0 B E body O) (noSet_iter hn)
    ·rw [if_neg hn]; exact s_st
 | While c body els p =>
  cases els with
  | cons _ _ => exact s_st
  | nil => exact s_while O.pass (ht X C B E c O.toXOk) (hb X C G0 B E body O)
 | Pass p => exact s_pass
 | Break p => exact s_break
 | Continue p => exact s_cont
 | Raise exc cause p => exact raise_ok h O.toXOk
 | _ => exact s_st
theorem stepS_ok (h : EvOk T ev) (ht : TvOk T tv) (hb : BvOk T bv) (O : SOk X C T E) {st : Stmt} : PuS X G0 B (ek (kx X) E) st (stepS T ev tv bv C st) := s_frz _ (s0_ok h ht hb O)
theorem seq_ok {f : Stmt → En → Out} {E : EK} (h : ∀ st, PuS X G0 B E st (f st)) : ∀ {ss : List Stmt}, PuSs X G0 B E ss (seqAll f ss)
 | [] => ss_nil
 | [s] => ss_one (h s)
 | s :: t :: r => ss_cons (h s) (seq_ok h (ss := t :: r))
end
noncomputable def eFuel : Nat := 40
noncomputable def gB (T : GT) : Nat → Bv
 | 0 => fun _ _ => sSt
 | n + 1 => fun C ss => seqAll (stepS T (gP T eFuel false) (gP T eFuel true) (gB T n) C) ss
theorem ss_st {X : Cx} {G0 B : Hp} {E : EK} {ss : List Stmt} : PuSs X G0 B E ss sSt := fun pins s σ H D I ⟨G, δ, R, x, q⟩ => q.elim
theorem gB_ok (T : GT) : ∀ n, BvOk T (gB T n)
 | 0 => fun X C G0 B E ss O => ss_st
 | n + 1 => fun X C G0 B E ss O => seq_ok fun st => stepS_ok (gP_ok T eFuel).1 (gP_ok T eFuel).2 (gB_ok T n) O
noncomputable def oneArg (p : Arguments) : Option Str := if p.posonlyargs.isEmpty && p.vararg.isNone && p.kwonlyargs.isEmpty && p.kw_defaults.isEmpty && p.kwarg.isNone && p.defaults.isEmpty then (match p.args with
 | [a] => some a.arg
 | _ => none) else none
theorem oneArg_ok {p : Arguments} {x : Str} (h : oneArg p = some x) : ∃ a : PySem.Arg, a.arg = x ∧ p = ⟨[], [a], none, [], [], none, []⟩ := by
 obtain ⟨a1, a2, a3, a4, a5, a6, a7⟩ := p
 unfold oneArg at h
 split at h
 ·rename_i c
  simp only [Bool.and_eq_true, List.isEmpty_iff, Option.isNone_iff_eq_none] at c
  obtain ⟨⟨⟨⟨⟨rfl, rfl⟩, rfl⟩, rfl⟩, rfl⟩, rfl⟩ := c
  split at h
  ·rename_i a e
   cases h
   exact ⟨a, rfl, by cases e; rfl⟩
  ·cases h
 ·cases h
theorem bind_one (name qual : Str) (a : PySem.Arg) (body : Expr) (scope : Scope) (cl : List (Str × Addr)) (pm cdv ct u : Value) : bindArgs (PySem.W.kla_fn name qual ⟨[], [a], none, [], [], none, []⟩ body scope cl pm cdv ct) ⟨[u], []⟩ = pure [(a.arg, u)] := by
 unfold bindArgs
 have e : seqItems? Value.none = pure none := rfl
 simp [e, List.lookup]
noncomputable def lamSC (x : Str) (scope : Scope) : SC := ⟨x :: cx scope.names, scope, [], false⟩
noncomputable def lamRunOk (x : Str) (scope : Scope) : Bool := decide (scope.kind = .function) && decide (scope.isCoroutine = false) && decide (scope.isGenerator = false) && (scope.names.all fun y => decide (y.2 ≠ .cell)) && decide (scope.names.lookup x = some .local) && decide ((x :: cx scope.names).Nodup) && (cx scope.names).all fun y => decide (scope.names.lookup y = some .free)
noncomputable def lamE (T : GT) (n : Nat) (x : Str) (scope : Scope) (body : Expr) (fs : List (Str × D)) (d : D) : Res := gP T n false (lamSC x scope) body (.pu d :: fs.map fun p => .pu p.2)
noncomputable def lamF (T : GT) (n : Nat) (e : Expr) (fs : List (Str × D)) (ds : List D) : Res := match e with
 | .Lambda p body scope _ => (match oneArg p with
  | some x => (match ds with
   | [d] => if lamRunOk x scope && decide (fs.map (·.1) = cx scope.names) then lamE T n x scope body fs d else .st
   | _ => .st)
  | none => .st)
 | _ => .st
theorem lamF_ok {T : GT} {n : Nat} {e : Expr} {fs : List (Str × D)} {ds : List D} {d : D} (h : lamF T n e fs ds = .ok d) : ∃ p body scope pos x d0, e = .Lambda p body scope pos ∧ oneArg p = some x ∧ ds = [d0] ∧ lamRunOk x scope = true ∧ fs.map (·.1) = cx scope.names ∧ lamE T n x scope body fs d0 = .ok d := by
 unfold lamF at h
 split at h
 ·rename_i p body scope pos
  split at h
  ·rename_i x hx
   split at h
   ·rename_i d0
    split at h
    ·rename_i c
     rw [Bool.and_eq_true, decide_eq_true_eq] at c
     exact ⟨p, body, scope, pos, x, d0, rfl, hx, rfl, c.1, c.2, h⟩
    ·cases h
   ·cases h
  ·cases h
 ·cases h
structure TabIs (P : Program) (w : World) (K : PySem.W.Frag) (mg : Str → Option Value) (base : Heap) (T : GT) (k : Nat) : Prop where
 fns : ∀ x s, T.fns x = some s → ∃ f fd ps, mg x = some (.ref f) ∧ PySem.W.keepIn K (.ref f) = true ∧ Binds K fd ps [] ∧ FnOk P w K mg base (CXe P w) k f fd ps (spPu ⟨K, adr mg⟩ s.ms s.f)
 gstr : ∀ x y, T.gstr x = some y → ∃ t, mg x = some (.str y t)
 bl : ∀ x ∈ bnames, mg x = none
 exc : ∀ x, T.xs.exc x = true → ∃ C bm newId, mg x = some (.ref C) ∧ PySem.W.excIn K C bm newId = true ∧ ExBase bm newId
 sub : ∀ c y, T.xs.sub c y = true → ∃ Cy, mg y = some (.ref Cy) ∧ PySem.W.exmOne K (.ref (adr mg c)) (.ref Cy) = some true
 ve : ∀ c, T.xs.ve c = true → PySem.W.kitCls K (.ref (adr mg c)) (.type "ValueError") = some true
 nsub : ∀ c y, T.xs.nsub c y = true → ∃ Cy, mg y = some (.ref Cy) ∧ PySem.W.exmOne K (.ref (adr mg c)) (.ref Cy) = some false
 lams : ∀ e fs ds d, T.lam e fs ds = .ok d → LamRun P w K mg base k e fs ds d
theorem Room.u65 {k : Nat} {A : Around} (r : Room k A) : A.units + 65 < cLine := by have := r.un; omega
theorem TabIs.xok {X : Cx} {T : GT} {k : Nat} {C : SC} {E : XK} (t : TabIs X.prog X.w X.K X.mg X.base T k) (hr : Room k X.A) (n : X.N = C.N) (s : X.env.scope = C.sc) (nd : C.N.Nodup) (calm : X.calm = true) (goes : Passes (CXe X.prog X.w) X E) (lamc : C.lam = true → LamCx X) : XOk X C T E :=
 ⟨n, s, nd, calm, Room.u65 hr, fun x s h => by
  obtain ⟨f, fd, ps, h1, h2, h3, h4⟩ := t.fns x s h
  exact ⟨k, f, fd, ps, hr, h1, h2, h3, h4⟩, t.gstr, t.bl, t.exc, t.sub, t.ve, t.nsub, goes, lamc, fun e fs ds d h => ⟨k, hr, t.lams e fs ds d h⟩⟩
noncomputable def cxLam (P : Program) (w : World) (K : PySem.W.Frag) (mg : Str → Option Value) (base : Heap) (x : Str) (qual : Str) (scope : Scope) (f : Addr) (cd : Value) (cl : List (Str × Addr)) (A : Around) (outer : List Env) (s : Shared) (H : Hp) : Cx where
 prog := P
 w := w
 K := K
 mg := mg
 base := base
 A := A.deeper (PySem.W.envX qual scope s.heap.objs.size f cd cl)
 N := x :: cx scope.names
 s₀ := s
 H₀ := H
 env := PySem.W.envX qual scope s.heap.objs.size f cd cl
 outer := outer
 stack := PySem.W.envX qual scope s.heap.objs.size f cd cl :: outer
 ex := []
 calm := true
 fn := fun y => decide (y = x)
 pn := []
 xe := fun _ _ => False
theorem DenF.len {K : KA} {G : Hp} : ∀ {fs : List (Str × D)} {vs : List (Str × V)}, DenF K G fs vs → fs.length = vs.length ∧ fs.map (·.1) = vs.map (·.1)
 | [], _, h => by rw [show _ = [] from h]; exact ⟨rfl, rfl⟩
 | (n, d) :: fs, _, ⟨v, r, h1, _, h3⟩ => by
  subst h1
  obtain ⟨q1, q2⟩ := DenF.len h3
  exact ⟨by rw [List.length_cons, List.length_cons, q1], by rw [List.map_cons, List.map_cons, q2]⟩
theorem DenF.get {K : KA} {G : Hp} : ∀ {fs : List (Str × D)} {vs : List (Str × V)} {i : Nat} {p : Str × D}, DenF K G fs vs → fs[i]? = some p → ∃ v, vs[i]? = some (p.1, v) ∧ Den K G p.2 v
 | [], _, _, _, _, e => by simp at e
 | (n, d) :: fs, _, 0, p, ⟨v, r, h1, h2, _⟩, e => by
  subst h1; simp at e; subst e; exact ⟨v, rfl, h2⟩
 | (n, d) :: fs, _, i + 1, p, ⟨v, r, h1, _, h3⟩, e => by
  subst h1
  obtain ⟨v', q1, q2⟩ := DenF.get (i := i) h3 (by simpa using e)
  exact ⟨v', by simpa using q1, q2⟩
theorem nodup_fst {α β : Type} : ∀ {l : List (α × β)} {y : α} {u v : β}, (l.map (·.1)).Nodup → (y, u) ∈ l → (y, v) ∈ l → u = v
 | [], _, _, _, _, h, _ => by simp at h
 | (a, b) :: r, y, u, v, nd, h1, h2 => by
  rw [List.map_cons, List.nodup_cons] at nd
  rcases List.mem_cons.mp h1 with e1 | h1
  ·cases e1
   rcases List.mem_cons.mp h2 with e2 | h2
   ·cases e2; rfl
   ·exact absurd (List.mem_map.mpr ⟨_, h2, rfl⟩) nd.1
  ·rcases List.mem_cons.mp h2 with e2 | h2
   ·cases e2; exact absurd (List.mem_map.mpr ⟨_, h1, rfl⟩) nd.1
   ·exact nodup_fst nd.2 h1 h2
section
variable {P : Program} {w : World} {K : PySem.W.Frag} {mg : Str → Option Value} {base : Heap} {T : GT} {k n : Nat}
theorem lam_run (t : TabIs P w K mg base T k) {e : Expr} {fs : List (Str × D)} {ds : List D} {d : D} (h : lamF T n e fs ds = .ok d) : LamRun P w K mg base (k + 1) e fs ds d := by
 intro A outer s H G a us vs Q hr e0 gb sg dn dl rv q
 obtain ⟨params, body, scope, pos, x, d0, rfl, hx, rfl, hok, hfs, hg⟩ := lamF_ok h
 obtain ⟨ag, rfl, rfl⟩ := oneArg_ok hx
 unfold lamRunOk at hok
 simp only [Bool.and_eq_true, decide_eq_true_eq] at hok
 obtain ⟨⟨⟨⟨⟨⟨o1, o2⟩, o3⟩, o4⟩, o5⟩, o6⟩, o7⟩ := hok
 have hcell : ∀ y ∈ scope.names, y.2 ≠ NameKind.cell := fun y hy => of_decide_eq_true (List.all_eq_true.mp o4 y hy)
 obtain ⟨a', cvs, ea, la, df⟩ := dn
 cases ea
 obtain ⟨qual, pm, c', ctv, cl, oc, cvs', tk, h1, h2, h3, h4, inj, all, frm, cells, dm⟩ := la
 obtain ⟨v0, vr, rfl, dn0, rfl⟩ := dl
 obtain ⟨u0, ur, rfl, r0, rr⟩ : ∃ u0 ur, us = u0 :: ur ∧ RelV v0 u0 ∧ Vals [] ur := by
  cases rv with
  | cons r t => exact ⟨_, _, rfl, r, t⟩
 cases rr
 obtain ⟨ho, _⟩ := e0.hok a _ (sg _ _ h1)
 obtain ⟨hoc, _⟩ := e0.hok c' _ (sg _ _ h2)
 have lim : s.heap.NoLimit := e0.mod.nolimit.keeps fun b o e => (e0.bs b o e).1
 have fresh : H s.heap.objs.size = none := e0.hok.fresh (Nat.le_refl _)
 refine PySem.W.kla_callFunE hr.depth ho rfl o2 o3 rfl ⟨c', oc, cvs', tk, rfl, hoc, h3, h4⟩ ?_
 rw [bind_one]
 refine wpAny_pure (wpAny_newFunctionEnv hcell (fun y hy => ?_) (fun h₁ hns hsb => ⟨lim.fresh _ hsb, ?_⟩) o1)
 ·obtain rfl : y = (ag.arg, u0) := by simpa using hy
  exact o5
 show codeAny _ _ (.expr body (PySem.W.envX qual scope s.heap.objs.size a (.ref c') cl)) _ _
 have hk₁ : ∀ b o, s.heap.get? b = some o → h₁.get? b = some o := fun b o e => hsb.extBut b o (Nat.ne_of_lt (Heap.lt_size e)) (Heap.get?_push_of_some _ e)
 have clc : ∀ y c, cl.lookup y = some c → ∃ o v u, H c = some (.frz o (.own 0)) ∧ s.heap.get? c = some o ∧ o.data = .cell (some u) ∧ (y, v) ∈ cvs ∧ RelV v u := fun y c hc => by
  obtain ⟨o, v, u, z1, z2, z3, z4⟩ := cells y c hc
  obtain ⟨z5, _⟩ := e0.hok c _ (sg _ _ z1)
  exact ⟨o, v, u, sg _ _ z1, z5, z2, z3, z4⟩
 have noA : ∀ b : Addr, b ∉ (cxLam P w K mg base ag.arg qual scope a (.ref c') cl A outer s H).ex := fun b z => absurd (show b ∈ ([] : List Addr) from z) (by simp)
 have nfree : ∀ y c, cl.lookup y = some c → y ≠ ag.arg := fun y c hc z => by
  have := e8.mp (frm y c hc)
  rw [z] at this
  exact (List.nodup_cons.mp o6).1 this
 have I : Inv (cxLam P w K mg base ag.arg qual scope a (.ref c') cl A outer s H) [] (some v0 :: cvs.map fun p => some p.2) H { s with heap := h₁, toks := s.toks + 1 } := by
  refine ⟨⟨e0.mod, o1, rfl, rfl, Nat.le_refl _, inj, fun y hy => ?_, fun y c hy hc => ?_, fun _ => hr.hd, Around.frames_deeper e0.frames, .inr ⟨rfl, rfl⟩, fun b z => absurd z (noA b), e0.bs, e0.bsz, fun b _ _ => noA b, fun b z => absurd z (noA b), e0.funs, e0.frf⟩,
   rfl, e0.bare, Un.kept hk₁, ⟨_, hns, fun i y v g1 g2 g3 => ?_⟩, fun y c hc => ?_, fresh, fun y c hc => ?_, fun p hp => absurd (show p ∈ ([] : List (Addr × Obj)) from hp) (by simp), e0.hok.kept hk₁, ?_⟩
  ·have hy : scope.names.lookup y = some .cell ∨ scope.names.lookup y = some .free := hy
   rcases hy with hy | hy
   ·exact absurd rfl (hcell _ (PySem.mem_of_lookup hy))
   ·exact all y (PySem.mem_of_lookup hy)
  ·exact absurd (of_decide_eq_true hy) (nfree y c hc)
  ·cases i with
   | zero =>
    simp at g2
    subst g2
    have : y = ag.arg := by
     have z : (ag.arg :: cx scope.names)[0]? = some y := g1
     simp at z; exact z.symm
    subst this
    exact ⟨u0, r0, .inl ⟨o5, by simp⟩⟩
   | succ i =>
    have z1 : (cx scope.names)[i]? = some y := by
     have z : (ag.arg :: cx scope.names)[i + 1]? = some y := g1
     simpa using z
    have hyf : (y, NameKind.free) ∈ scope.names := e8.mpr (List.mem_of_getElem? z1)
    obtain ⟨c, hc⟩ := all y hyf
    obtain ⟨o, v', u, y1, y2, y3, y4, y5⟩ := clc y c hc
    have z2 : (cvs.map fun p => some p.2)[i]? = some (some v) := by simpa using g2
    rw [List.getElem?_map] at z2
    cases z3 : cvs[i]? with
    | none => rw [z3] at z2; cases z2
    | some p =>
     rw [z3] at z2
     simp at z2
     have z4 : p.1 = y := by
      have : (cvs.map (·.1))[i]? = some y := by rw [dm]; exact z1
      rw [List.getElem?_map, z3] at this
      simpa using this
     have z5 : (y, v) ∈ cvs := by
      have := List.mem_of_getElem? z3
      obtain ⟨p1, p2⟩ := p
      simp at z2 z4
      subst z2; subst z4
      exact this
     have z6 : v' = v := nodup_fst (by rw [dm]; exact (List.nodup_cons.mp o6).2) y4 z5
     subst z6
     refine ⟨u, y5, ?_⟩
     have kf : scope.names.lookup y = some .free := of_decide_eq_true (List.all_eq_true.mp o7 y (e8.mp hyf))
     rcases g3 with g3 | g3 | g3
     ·have g3 : scope.names.lookup y = some .local := g3
      rw [kf] at g3; cases g3
     ·exact absurd rfl (hcell _ (PySem.mem_of_lookup g3))
     ·exact .inr ⟨.inr g3, c, hc, o, hk₁ _ _ y2, y3⟩
  ·obtain ⟨o, v', u, y1, y2, y3, y4, y5⟩ := clc y c hc
   exact ⟨some u, o, hk₁ _ _ y2, y3⟩
  ·obtain ⟨o, v', u, y1, y2, y3, y4, y5⟩ := clc y c hc
   exact .inr ⟨decide_eq_false (nfree y c hc), o, y1⟩
  ·show (some v0 :: cvs.map fun p => some p.2).length = (ag.arg :: cx scope.names).length
   rw [List.length_cons, List.length_cons, List.length_map, ← dm, List.length_map]
 have O : XOk (cxLam P w K mg base ag.arg qual scope a (.ref c') cl A outer s H) (lamSC ag.arg scope) T E0 := TabIs.xok (X := cxLam P w K mg base ag.arg qual scope a (.ref c') cl A outer s H) t (hr.deeper _) rfl rfl o6 rfl pass_none fun z => by cases z
 have hl : fs.length = cvs.length := df.len.1
 have R : EnvR ⟨K, adr mg⟩ H G H (some v0 :: cvs.map fun p => some p.2) (.pu d0 :: fs.map fun p => .pu p.2) := by
  have pu : ∀ (i : Nat) sl, (Sl.pu d0 :: fs.map fun p => Sl.pu p.2)[i]? = some sl → ∃ dd v, sl = .pu dd ∧ (some v0 :: cvs.map fun p => some p.2)[i]? = some (some v) ∧ Den ⟨K, adr mg⟩ G dd v := fun i sl hi => by
   cases i with
   | zero => simp at hi; subst hi; exact ⟨d0, v0, rfl, rfl, dn0⟩
   | succ i =>
    have hi' : (fs.map fun p => Sl.pu p.2)[i]? = some sl := by simpa using hi
    rw [List.getElem?_map] at hi'
    cases z3 : fs[i]? with
    | none => rw [z3] at hi'; cases hi'
    | some p =>
     rw [z3] at hi'
     simp at hi'
     subst hi'
     obtain ⟨v, y1, y2⟩ := df.get z3
     refine ⟨p.2, v, rfl, ?_, y2⟩
     show (cvs.map fun p => some p.2)[i]? = some (some v)
     rw [List.getElem?_map, y1]; rfl
  refine ⟨Same.refl H, sg, ?_, fun i sl hi => ?_, fun i sl b hi ho => ?_, fun i j sl sl' b hi hj ho => ?_, gb⟩
  ·rw [List.length_cons, List.length_cons, List.length_map, List.length_map, hl]
  ·obtain ⟨dd, v, rfl, y1, y2⟩ := pu i sl hi
   exact ⟨some v, y1, v, rfl, y2⟩
  ·obtain ⟨dd, v, rfl, _⟩ := pu i sl hi
   cases ho
  ·obtain ⟨dd, v, rfl, _⟩ := pu i sl hi
   cases ho
 refine PySem.W.kla_codeExpr (wpAny_mono ((gP_ok T n).1 _ _ H E0 body O [] _ _ H Q I ⟨G, _, R, ?_⟩) (fun v s' hv => ?_) fun _ _ z => z.elim)
 ·unfold lamE at hg
  rw [hg]
  exact q
 ·obtain ⟨v', H', J, rv', q'⟩ := hv
  exact ⟨v', H', J.os, J.bare, J.base, J.hok, rv', q'⟩
end
structure DefR where
 x : Str
 st : Stmt
 ms : List Bool
 lm : Bool
noncomputable def psOf (st : Stmt) : List Str := (b8 st).args.map (·.arg)
noncomputable def localsOf (ps : List Str) : List (Str × NameKind) → List Str
 | [] => []
 | (n, k) :: r => if (k = .local ∨ k = .cell) ∧ n ∉ ps then n :: localsOf ps r else localsOf ps r
noncomputable def nOf (st : Stmt) : List Str := psOf st ++ localsOf (psOf st) (aj st).names
noncomputable def cOf (st : Stmt) (lm : Bool) : SC := ⟨nOf st, aj st, [], lm⟩
noncomputable def fq (d : DefR) : Bool :=
 decide ((aj d.st).kind = .function) && decide ((aj d.st).isCoroutine = false) && decide ((aj d.st).isGenerator = false) && decide ((nOf d.st).Nodup) && decide ((nOf d.st).take (psOf d.st).length = psOf d.st) &&
 ((psOf d.st).all fun x => decide ((aj d.st).names.lookup x = some .local) || decide ((aj d.st).names.lookup x = some .cell)) && ((aj d.st).names.all fun y => decide (y.2 ≠ .free)) && decide (d.ms.length = (psOf d.st).length)
theorem okDef_scope {d : DefR} (h : fq d = true) : FnScope (nOf d.st) (psOf d.st) (aj d.st) ∧ d.ms.length = (psOf d.st).length := by
 unfold fq at h
 simp only [Bool.and_eq_true, decide_eq_true_eq] at h
 obtain ⟨⟨⟨⟨⟨⟨⟨h1, h2⟩, h3⟩, h4⟩, h5⟩, h6⟩, h7⟩, h8⟩ := h
 refine ⟨⟨h1, h2, h3, h4, h5, fun x hx => ?_, fun y hy => ?_⟩, h8⟩
 ·have q := List.all_eq_true.mp h6 x hx
  rw [Bool.or_eq_true, decide_eq_true_eq, decide_eq_true_eq] at q
  exact q
 ·exact of_decide_eq_true (List.all_eq_true.mp h7 y hy)
noncomputable def cn (st : Stmt) (x : Str) : Prop := ∀ (kV doc pm : Value) (an : Option Addr) (cdv ct : Value) (us : List Value), us.length = (psOf st).length → bindArgs (PySem.W.fnOf x x (b8 st) (ao st) (aj st) .none kV doc pm an cdv ct) ⟨us, []⟩ = pure ((psOf st).zip us)
structure DefIn (K : PySem.W.Frag) (mg : Str → Option Value) (d : DefR) : Prop where
 ok : fq d = true
 bd : cn d.st d.x
 at_ : ∃ f fd, mg d.x = some (.ref f) ∧ Fun K d.x d.x d.st f fd ∧ (d.lm = true → ∃ c P, fd.code = .ref c ∧ (c, P, d.x ++ ".<locals>." ++ "<lambda>") ∈ tbs ∧ PySem.W.codeHdIn K c P = true)
theorem dq {K : PySem.W.Frag} {h : Heap} {mg : Str → Option Value} {d : DefR} (X : K.In h) (G : h.Ns mainGlobals mg) (ok : fq d = true) (bd : cn d.st d.x) {f : Addr} {oc kV doc pm cdv ct : Value} {od an : Option Addr} {osl : Array (Option Value)}
  (a : PySem.W.nsIn K mainGlobals d.x = some (some (.ref f))) (l : K.lookup f = some ⟨oc, od, .func (PySem.W.fnOf d.x d.x (b8 d.st) (ao d.st) (aj d.st) .none kV doc pm an cdv ct), osl⟩) (c : PySem.W.codeIn K cdv d.x = true) (k : PySem.W.keepIn K (.ref f) = true) (m : d.lm = true → ∃ c P, cdv = .ref c ∧ (c, P, d.x ++ ".<locals>." ++ "<lambda>") ∈ tbs ∧ PySem.W.codeHdIn K c P = true) : DefIn K mg d :=
 ⟨ok, bd, f, _, PySem.W.mg_of X G a, fun_mk l c k, m⟩
noncomputable def look (ds : List DefR) (x : Str) : Option DefR := match ds with
 | [] => none
 | d :: r => if d.x = x then some d else look r x
theorem look_mem {x : Str} {d : DefR} : ∀ {ds : List DefR}, look ds x = some d → d ∈ ds ∧ d.x = x
 | [], h => by cases h
 | e :: r, h => by
  unfold look at h
  by_cases z : e.x = x
  ·rw [if_pos z] at h; cases h; exact ⟨List.mem_cons_self, z⟩
  ·rw [if_neg z] at h
   obtain ⟨q1, q2⟩ := look_mem h
   exact ⟨List.mem_cons_of_mem _ q1, q2⟩
noncomputable def fw : Nat := 20
noncomputable def ae (T : GT) (d : DefR) : List D → Res := fnD d.ms (nOf d.st).length (gB T fw (cOf d.st d.lm) (ao d.st))
noncomputable def tabOf (ds : List DefR) (gs : Str → Option Str) (xs : XT) : Nat → GT
 | 0 => ⟨fun _ => none, gs, xs, fun _ _ _ => .st⟩
 | n + 1 => ⟨fun x => match look ds x with
  | some d => some ⟨d.ms, ae (tabOf ds gs xs n) d⟩
  | none => none, gs, xs, lamF (tabOf ds gs xs n) fw⟩
structure XsIn (K : PySem.W.Frag) (mg : Str → Option Value) (xs : XT) : Prop where
 exc : ∀ x, xs.exc x = true → ∃ C bm newId, mg x = some (.ref C) ∧ PySem.W.excIn K C bm newId = true ∧ ExBase bm newId
 sub : ∀ c y, xs.sub c y = true → ∃ Cy, mg y = some (.ref Cy) ∧ PySem.W.exmOne K (.ref (adr mg c)) (.ref Cy) = some true
 ve : ∀ c, xs.ve c = true → PySem.W.kitCls K (.ref (adr mg c)) (.type "ValueError") = some true
 nsub : ∀ c y, xs.nsub c y = true → ∃ Cy, mg y = some (.ref Cy) ∧ PySem.W.exmOne K (.ref (adr mg c)) (.ref Cy) = some false
section
variable {P : Program} {w : World} {K : PySem.W.Frag} {mg : Str → Option Value} {base : Heap} {ds : List DefR} {gs : Str → Option Str} {xs : XT}
theorem tab_at {x : Str} {d : DefR} (n : Nat) (h : look ds x = some d) : (tabOf ds gs xs (n + 1)).fns x = some ⟨d.ms, ae (tabOf ds gs xs n) d⟩ := by
 show (match look ds x with
  | some d => some (FS.mk d.ms (ae (tabOf ds gs xs n) d))
  | none => none) = _
 rw [h]
noncomputable def Bm (mg : Str → Option Value) (base : Heap) : Prop := ∃ bm o, mg "__builtins__" = some (.ref bm) ∧ bm ≠ builtinsNs ∧ bm ≠ mainGlobals ∧ base.get? bm = some o ∧ o.cls = .type "module" ∧ o.dict = some builtinsNs ∧ o.data = .plain
theorem cellsFrom_ge {lo : Nat} : ∀ (names : List (Str × NameKind)) (n : Nat) (acc : List (Str × Addr)), lo ≤ n → (∀ p ∈ acc, lo ≤ p.2) → ∀ p ∈ cellsFrom n names acc, lo ≤ p.2
 | [], _, acc, _, h, p, hp => h p hp
 | (nm, kd) :: r, n, acc, hl, h, p, hp => by
  unfold cellsFrom at hp
  split at hp
  ·refine cellsFrom_ge r (n + 1) _ (Nat.le_succ_of_le hl) (fun q hq => ?_) p hp
   rcases List.mem_cons.mp hq with rfl | hq
   ·exact hl
   ·exact h q hq
  ·exact cellsFrom_ge r n _ hl h p hp
theorem lamc_of {d : DefR} {fd : FuncData} {N : List Str} {f : Addr} {cdv : Value} {A : Around} {outer : List Env} {s : Shared} {H : Hp} {E : XK} (kb : K.In base) (bm : Bm mg base) (hc : fd.code = cdv) (hl : d.lm = true → ∃ c P, fd.code = .ref c ∧ (c, P, d.x ++ ".<locals>." ++ "<lambda>") ∈ tbs ∧ PySem.W.codeHdIn K c P = true) :
  (cOf d.st d.lm).lam = true → LamCx (cxOf (CXe P w) P w K mg base N d.x (aj d.st) f cdv A outer s H E) := fun z => by
 obtain ⟨c, Pl, h1, h2, h3⟩ := hl z
 refine ⟨c, Pl, h2, hc.symm.trans h1, PySem.W.codeHd_of_K kb h3, bm, fun y c hy => ?_, fun y hy => decide_eq_false fun z => z hy⟩
 exact cellsFrom_ge _ _ _ (Nat.le_succ _) (fun p hp => by simp at hp) _ (PySem.mem_of_lookup hy)
theorem tab_ok (kb : K.In base) (bm : Bm mg base) (hd : ∀ d ∈ ds, DefIn K mg d) (hs : ∀ x y, gs x = some y → ∃ t, mg x = some (.str y t)) (hb : ∀ x ∈ bnames, mg x = none) (hX : XsIn K mg xs) : ∀ n, TabIs P w K mg base (tabOf ds gs xs n) n
 | 0 => ⟨fun x s h => (by cases h), hs, hb, hX.exc, hX.sub, hX.ve, hX.nsub, fun e fs ds d h => (by cases h)⟩
 | n + 1 => by
  have ih := tab_ok kb bm hd hs hb hX n
  refine ⟨fun x s h => ?_, hs, hb, hX.exc, hX.sub, hX.ve, hX.nsub, fun e fs ds' d h => lam_run ih h⟩
  unfold tabOf at h
  dsimp only at h
  cases e : look ds x with
  | none => rw [e] at h; cases h
  | some d =>
   rw [e] at h
   cases h
   obtain ⟨m1, m2⟩ := look_mem e
   subst m2
   obtain ⟨ok, bd, f, fd, q1, F, hl⟩ := hd d m1
   obtain ⟨S, hm⟩ := okDef_scope ok
   refine ⟨f, fd, psOf d.st, q1, F.kp, F.binds bd, fn_puE F S hm fun cdv A outer s H G0 E hc hr => ?_⟩
   exact gB_ok _ _ _ (cOf d.st d.lm) G0 H E _ ⟨TabIs.xok (X := cxOf (CXe P w) P w K mg base (nOf d.st) d.x (aj d.st) f cdv A outer s H E) ih hr rfl rfl S.nd rfl pass_body (lamc_of kb bm hc hl), fun y hy => decide_eq_true hy, PassesOwn.leaving, rfl, rfl, rfl⟩
noncomputable def spLaw (K : PySem.W.Frag) : Sp := fun vs H Q _ => GOk H ∧ ∃ (a : Addr) (ns : List Int), vs = [.ref a] ∧ SqL K H a (ns.map V.int) ∧ ns.length ≤ 63 ∧ ∀ H', Q (.bl true) H'
theorem denL_ints {K : KA} {G : Hp} : ∀ ns : List Int, DenL K G (ns.map D.int) (ns.map V.int)
 | [] => rfl
 | n :: ns => ⟨.int n, ns.map V.int, rfl, rfl, denL_ints ns⟩
theorem law_at {d : DefR} {f : Addr} {oc kV doc pm cdv ct : Value} {od an : Option Addr} {osl : Array (Option Value)} (ok : fq d = true) (nl : d.lm = false)
  (a : PySem.W.nsIn K mainGlobals d.x = some (some (.ref f))) (l : K.lookup f = some ⟨oc, od, .func (PySem.W.fnOf d.x d.x (b8 d.st) (ao d.st) (aj d.st) .none kV doc pm an cdv ct), osl⟩) (c : PySem.W.codeIn K cdv d.x = true) (k : PySem.W.keepIn K (.ref f) = true)
  (kb : K.In base) (bm : Bm mg base) (hd : ∀ d ∈ ds, DefIn K mg d) (hs : ∀ x y, gs x = some y → ∃ t, mg x = some (.str y t)) (hb : ∀ x ∈ bnames, mg x = none) (hX : XsIn K mg xs) {n : Nat} {s : FS} (hl : (tabOf ds gs xs n).fns "law" = some s) (hm : s.ms = [false])
  (law : ∀ ns : List Int, ns.length ≤ 63 → s.f [.lst (ns.map D.int)] = .ok (.bl true)) (hx : look ds "law" = some d := by rfl) (hp : psOf d.st = [("_law_script" : Str)] := by rfl) :
  FnOk P w K mg base CX0 n f (PySem.W.fnOf d.x d.x (b8 d.st) (ao d.st) (aj d.st) .none kV doc pm an cdv ct) ["_law_script"] (spLaw K) := by
 cases n with
 | zero => cases hl
 | succ n =>
  unfold tabOf at hl
  dsimp only at hl
  rw [hx] at hl
  cases hl
  obtain ⟨S, hm'⟩ := okDef_scope ok
  have F := fn_puE (P := P) (w := w) (base := base) (mg := mg) (k := n) (ms := d.ms) (Fb := gB (tabOf ds gs xs n) fw (cOf d.st d.lm) (ao d.st)) (fun_mk l c k) S hm' fun cdv' A outer s H G0 E hc hr => by
   exact gB_ok _ _ _ (cOf d.st d.lm) G0 H E _ ⟨TabIs.xok (X := cxOf (CXe P w) P w K mg base (nOf d.st) d.x (aj d.st) f cdv' A outer s H E) (tab_ok kb bm hd hs hb hX n) hr rfl rfl S.nd rfl pass_body (lamc_of kb bm hc fun z => by rw [nl] at z; cases z), fun y hy => decide_eq_true hy, PassesOwn.leaving, rfl, rfl, rfl⟩
  rw [hp] at F
  refine F.calm.imp fun vs H Q E ⟨gb, a, ns, e, sq, hn, q⟩ => ?_
  subst e
  have hm : d.ms = [false] := hm
  have e : ae (tabOf ds gs xs n) d [.lst (ns.map D.int)] = .ok (.bl true) := law ns hn
  show spPu _ d.ms (ae (tabOf ds gs xs n) d) _ H Q E0
  refine ⟨by rw [hm]; rfl, gb, H, [.lst (ns.map D.int)], Same.refl H, by rw [hm]; exact ⟨_, [], _, [], rfl, rfl, ⟨a, _, rfl, sq, denL_ints ns⟩, rfl, rfl⟩, ?_⟩
  rw [e]
  intro v G' H' _ dn
  rw [show v = .bl true from dn]
  exact q H'
end
noncomputable def tblAt (b : Addr) : Option HO := (tbs.find? fun p => p.2.1 == b).map fun p => .tbl p.2.2
theorem tblAt_some {b : Addr} {o : HO} (h : tblAt b = some o) : ∃ p ∈ tbs, p.2.1 = b ∧ o = .tbl p.2.2 := by
 unfold tblAt at h
 cases e : tbs.find? fun p => p.2.1 == b with
 | none => rw [e] at h; cases h
 | some p =>
  rw [e] at h
  cases h
  exact ⟨p, List.mem_of_find?_eq_some e, by simpa using List.find?_some e, rfl⟩
theorem find_nd {α : Type} {f : α → Addr} : ∀ {l : List α} {p : α}, (l.map f).Nodup → p ∈ l → l.find? (fun q => f q == f p) = some p
 | [], _, _, h => by simp at h
 | a :: r, p, nd, h => by
  rw [List.map_cons, List.nodup_cons] at nd
  rw [List.find?_cons]
  by_cases e : f a = f p
  ·have hb : (f a == f p) = true := by simpa using e
   rw [hb]
   rcases List.mem_cons.mp h with rfl | h
   ·rfl
   ·exact absurd (e ▸ List.mem_map_of_mem h) nd.1
  ·have hb : (f a == f p) = false := by simpa using e
   rw [hb]
   rcases List.mem_cons.mp h with rfl | h
   ·exact absurd rfl e
   ·exact find_nd nd.2 h
theorem tblAt_mem (nd : (tbs.map (·.2.1)).Nodup) {p : Addr × Addr × Str} (hp : p ∈ tbs) : tblAt p.2.1 = some (.tbl p.2.2) := by
 unfold tblAt
 rw [find_nd (f := fun p : Addr × Addr × Str => p.2.1) nd hp]
 rfl
noncomputable def TabsIn (h : Heap) : Prop := ∀ p ∈ tbs, PySem.W.CodeHd h p.1 p.2.1 ∧ h.get? p.2.1 = some (PySem.W.tabObj #[])
theorem law_callT {P : Program} {w : World} {K : PySem.W.Frag} {mg mb : Str → Option Value} {k : Nat} {fa a : Addr} {fd : FuncData} {x : Str} {s₁ : Shared} {vs : List Value} {ns : List Int}
  (KX : K.In s₁.heap) (nK : PySem.W.noTabs K = true) (nd : (tbs.map (·.2.1)).Nodup) (tb : TabsIn s₁.heap) (bm : Bm mg s₁.heap) (hns : s₁.heap.Ns mainGlobals mg) (hb : s₁.heap.Ns builtinsNs mb) (hbb : ∀ x : Str, x ≠ "__name__" → mb x = bootBuiltins x) (hlim : s₁.heap.NoLimit) (hg : s₁.gens = #[])
  (ha : s₁.heap.get? a = some { cls := .type "list", data := .seq vs.toArray }) (hi : IntsAre vs ns) (hl : ns.length ≤ sizeLine) (hl2 : ns.length ≤ 63) (hr : Room k callerA)
  (F : ∀ base : Heap, K.In base → base.Ns mainGlobals mg → Bm mg base → FnOk P w K mg base CX0 k fa fd [x] (spLaw K)) (hbind : ∀ (s : Shared) (u : Value), BindsTo s fd ⟨[u], []⟩ [(x, u)]) :
  codeAny (model P w) callerA (.call (.ref fa) ⟨[.ref a], []⟩) (fun r s' => r = .ok (.ret (.bool true)) ∧ OldK s₁.heap s'.heap ∧ s'.os = s₁.os ∧ AllBare s'.gens) s₁ := by
 have rv := vals_ints hi
 have lenV := hi.length
 have tne : ∀ {b : Addr} {u : HO}, tblAt b = some u → s₁.heap.get? b = some (PySem.W.tabObj #[]) := fun {b u} e => by
  obtain ⟨p, hp, rfl, _⟩ := tblAt_some e
  exact (tb p hp).2
 have core : ∀ S : Option HO, (S = none ∨ S = some (.frz { cls := .type "list", data := .seq vs.toArray } (.lst (ns.map V.int)))) → (S ≠ none → K.lookup a = none) → SqL K (fun b => if b = a then S else tblAt b) a (ns.map V.int) →
   codeAny (model P w) callerA (.call (.ref fa) ⟨[.ref a], []⟩) (fun r s' => r = .ok (.ret (.bool true)) ∧ OldK s₁.heap s'.heap ∧ s'.os = s₁.os ∧ AllBare s'.gens) s₁ := by
  intro S hS hSK sq
  generalize hH : (fun b => if b = a then S else tblAt b) = H at sq
  have Ha : H a = S := by rw [← hH]; exact if_pos rfl
  have Hb : ∀ b, b ≠ a → H b = tblAt b := fun b hb => by rw [← hH]; exact if_neg hb
  have kind : ∀ {b : Addr} {u : HO}, H b = some u → (b = a ∧ u = .frz { cls := .type "list", data := .seq vs.toArray } (.lst (ns.map V.int)) ∧ K.lookup a = none) ∨ ∃ p ∈ tbs, p.2.1 = b ∧ u = .tbl p.2.2 := fun {b u} e => by
   by_cases z : b = a
   ·rw [z, Ha] at e
    rcases hS with y | y
    ·rw [y] at e; cases e
    ·rw [y] at e; cases e; exact .inl ⟨z, rfl, hSK (by rw [y]; simp)⟩
   ·rw [Hb b z] at e; exact .inr (tblAt_some e)
  have hok : HOk P w H s₁.heap := fun b u e => by
   rcases kind e with ⟨rfl, rfl, _⟩ | ⟨p, hp, rfl, rfl⟩
   ·exact ⟨ha, by rw [List.length_map]; exact hl, vs, _, rv, ha⟩
   ·exact ⟨#[], (tb p hp).2, trivial⟩
  have base_of : ∀ {b : Addr} {o : Obj}, s₁.heap.get? b = some o → H b = none → (hidT s₁.heap H).get? b = some o := fun e n => hidT_get e n
  have free : ∀ {b : Addr} {o : Obj}, s₁.heap.get? b = some o → (∀ n, o.data ≠ .seq vs.toArray n) → o ≠ PySem.W.tabObj #[] → H b = none := fun {b o} e h1 h2 => by
   cases q : H b with
   | none => rfl
   | some u =>
    rcases kind q with ⟨rfl, _⟩ | ⟨p, hp, rfl, _⟩
    ·rw [ha] at e; cases e; exact absurd rfl (h1 _)
    ·rw [(tb p hp).2] at e; cases e; exact absurd rfl h2
  have nsK : ∀ {b : Addr} {m : Str → Option Value}, s₁.heap.Ns b m → (hidT s₁.heap H).Ns b m := fun {b m} ⟨o, es, ep, e, d, r⟩ => ⟨o, es, ep, base_of e (free e (fun n z => by rw [d] at z; cases z) fun z => by rw [z] at d; cases d), d, r⟩
  have hKb : K.In (hidT s₁.heap H) := fun b o e => base_of (KX b o e) (by
   cases q : H b with
   | none => rfl
   | some u =>
    rcases kind q with ⟨rfl, _, z⟩ | ⟨p, hp, rfl, _⟩
    ·rw [z] at e; cases e
    ·have e2 := KX _ _ e
     rw [(tb p hp).2] at e2
     have h2 := List.all_eq_true.mp nK _ (PySem.W.mem_of_lookupK e)
     cases e2
     exact absurd (show false = true from h2) Bool.false_ne_true)
  have bmK : Bm mg (hidT s₁.heap H) := by
   obtain ⟨m, o, b1, b2, b3, b4, b5, b6, b7⟩ := bm
   exact ⟨m, o, b1, b2, b3, base_of b4 (free b4 (fun n z => by rw [b7] at z; cases z) fun z => by rw [z] at b5; cases b5), b5, b6, b7⟩
  have hM : Mod K mg (hidT s₁.heap H) := ⟨hKb, nsK hns, ⟨mb, nsK hb, hbb⟩, let ⟨mc, h1, h2⟩ := hlim; ⟨mc, nsK h1, h2⟩⟩
  have e0 : Env0 P w K mg (hidT s₁.heap H) callerA [] s₁ H := ⟨rfl, hM, fun b o e => of_hidT e, Nat.le_of_eq (hidT_size _ _), trivial, fun b hb => absurd (show b ∈ ([] : List Addr) from hb) (by simp), hok, .of_eq hg⟩
  have gb : GOk H := fun p hp => by
   have : p.2.1 ≠ a := fun z => by
    have := (tb p hp).2
    rw [z, ha] at this; cases this
   rw [Hb _ this]; exact tblAt_mem nd hp
  refine codeAny_mono ((F _ hKb (nsK hns) bmK).run callerA [] s₁ H ⟨[.ref a], []⟩ [.ref a] [.ref a] (fun v _ => v = .bl true) E0 hr e0 (hbind s₁ (.ref a)) (.cons rfl .nil) ⟨gb, a, ns, rfl, sq, hl2, fun _ => rfl⟩) fun r s' h => ?_
  cases r with
  | error e => exact False.elim h
  | ok fl =>
   cases fl with
   | next => exact False.elim h
   | brk => exact False.elim h
   | cont => exact False.elim h
   | ret u =>
    obtain ⟨v, H', os, bare, un, hok', r', q⟩ := h
    have q' : v = .bl true := q
    subst q'
    obtain rfl : u = Value.bool true := r'
    have keep : ∀ b o, s₁.heap.get? b = some o → (s'.heap.get? b = some o) ∨ ∃ p ∈ tbs, p.2.1 = b ∧ ∃ ps, s'.heap.get? b = some (PySem.W.tabObj ps) := fun b o e => by
     cases q : H b with
     | none => exact .inl (un.keep b o e q (by intro z; exact absurd (show b ∈ ([] : List Addr) from z) (by simp)) (by simp))
     | some u =>
      rcases kind q with ⟨rfl, rfl, _⟩ | ⟨p, hp, rfl, rfl⟩
      ·obtain ⟨e1, _⟩ := hok b _ q
       obtain ⟨e2, _⟩ := hok' b _ (un.frzs b _ _ q)
       rw [e] at e1; cases e1
       exact .inl e2
      ·obtain ⟨ps, e2, _⟩ := hok' _ _ (un.tbls _ _ q)
       exact .inr ⟨p, hp, rfl, ps, e2⟩
    refine ⟨rfl, ⟨fun b o e => ?_, fun b o e => ?_⟩, os, bare⟩
    ·rcases keep b o e with z | ⟨p, hp, rfl, ps, z⟩
     ·exact .inl z
     ·obtain ⟨c1, c2⟩ := tb p hp
      rw [c2] at e; cases e
      exact .inr (.inl ⟨(c1.tab c2).isCodeTable, rfl, #[], ps, rfl, by rw [Array.empty_append]; exact z⟩)
    ·rcases keep b o e with z | ⟨p, hp, rfl, ps, z⟩
     ·exact ⟨_, z⟩
     ·exact ⟨_, z⟩
 cases hk : K.lookup a with
 | some o =>
  have e := KX a o hk
  rw [ha] at e
  cases e
  exact core none (.inl rfl) (fun z => absurd rfl z) (.inr ⟨_, vs.toArray, _, hk, rfl, rfl, rfl, by rw [List.size_toArray, lenV]; exact hl, by simpa using rv⟩)
 | none => exact core _ (.inr rfl) (fun _ => hk) (.inl (.inr ⟨{ cls := .type "list", data := .seq vs.toArray }, if_pos rfl⟩))
theorem walkT {l : PySem.W.OpenLaw} {k : Nat} {q : Program} {loose : List Str} {XP : (Str → Option Value) → Heap → Prop} {YP : World → Heap → Prop} {d : DefRec} {K : Params → PySem.W.Frag} (hn : l.most = some 63) (hdf : d.params.defaults = []) (hr : Room k callerA) (nd : (tbs.map (·.2.1)).Nodup)
  (hY : ∀ (w : World) (h : Heap), YP w h → (K w.params).In h) (nK : ∀ w : World, PySem.W.noTabs (K w.params) = true)
  (tb : ∀ (w : World) (h : Heap), YP w h → TabsIn h)
  (F : ∀ (w : World) (mg : Str → Option Value) (fa : Addr) (h : Heap), (K w.params).In h → h.Ns mainGlobals mg → mg d.name = some (.ref fa) →
   ∃ fd : FuncData, (∀ (s : Shared) (u : Value), BindsTo s fd ⟨[u], []⟩ [("_law_script", u)]) ∧ ∀ base : Heap, (K w.params).In base → base.Ns mainGlobals mg → Bm mg base → FnOk l.prog w (K w.params) mg base CX0 k fa fd ["_law_script"] (spLaw (K w.params))) :
  PySem.W.WalkO q loose XP YP l.row.toRowW d [] (fun f vs => PySem.call f vs) := by
 refine Att.attach_call hn hdf fun w s₀ s₁ mg mb fa o pm cd doc a vs ns G Y ho hd hcd hmg hobj hints hlen hg => ?_
 have KX := hY w _ Y
 obtain ⟨fd, hb, hF⟩ := F w mg fa _ KX G.T.g hmg
 obtain ⟨bm, ob, b1, b2, b3, b4, b5, b6⟩ := G.T.bmain
 have bG : bm ≠ mainGlobals := fun z => by
  obtain ⟨o, es, ep, e, hd, _⟩ := G.T.g
  rw [z, e] at b3; cases b3; rw [hd] at b6; cases b6
 exact law_callT KX (nK w) nd (tb w _ Y) ⟨bm, ob, b1, b2, bG, b3, b4, b5, b6⟩ G.T.g G.T.b G.T.builtins G.T.nolimit hg hobj hints (Nat.le_trans hlen (by decide)) hlen hr hF hb
end Pu
end
section
namespace LK
open PySem PySem.Spec PyProof.Rows L2 Pu
def top (i : Nat) : Stmt := PySem.Challenge.pw_askbook_k13_whole_keys.main.body.getD i (.Pass ⟨0, 0, 0, 0⟩)
def bx : DefR := ⟨"is_number", top 5, [true], false⟩
def bj : DefR := ⟨"is_tuple_of", top 6, [true, true, true, true], false⟩
def cc : DefR := ⟨"is_pair", top 7, [true], false⟩
def br : DefR := ⟨"are_rising", top 8, [true], false⟩
def bb : DefR := ⟨"is_columns", top 10, [true, false], true⟩
def ca : DefR := ⟨"is_bond", top 11, [true, false], false⟩
def aq : DefR := ⟨"checked_bonds", top 12, [false, false], false⟩
def ah : DefR := ⟨"checked_columns", top 13, [false, false], false⟩
def be : DefR := ⟨"lies_in", top 14, [true, true], false⟩
def bi : DefR := ⟨"next_step", top 15, [true, true], false⟩
def cj : DefR := ⟨"walked", top 16, [true, true, true], false⟩
def b9 : DefR := ⟨"hanging", top 17, [true, true, true], false⟩
def b0 : DefR := ⟨"choices", top 19, [true], true⟩
def d7 : DefR := ⟨"keys", top 20, [false, false, false], false⟩
def bq : DefR := ⟨"_law_cell_at", top 22, [true, true], false⟩
def az : DefR := ⟨"_law_mixed", top 23, [true, true, true], false⟩
def af : DefR := ⟨"_law_columns", top 24, [true, true, true, true], false⟩
def bw : DefR := ⟨"_law_bonds", top 25, [true, true, true], false⟩
def bz : DefR := ⟨"_law_span", top 26, [true, true], false⟩
def bu : DefR := ⟨"_law_parts", top 27, [true], false⟩
def ba : DefR := ⟨"_law_holds", top 28, [true, true, true], false⟩
def d_law : DefR := ⟨"law", top 29, [false], false⟩
def defs : List DefR := [bx, bj, cc, br, bb, ca, aq, ah, be, bi, cj, b9, b0, d7, bq, az, af, bw, bz, bu, ba, d_law]
def xs : XT := ⟨fun x => decide (x = "AskError") || (decide (x = "NoBonds") || (decide (x = "NoColumns") || (false))), fun c y => (decide (c = "AskError") && decide (y = "AskError")) || ((decide (c = "NoBonds") && decide (y = "NoBonds")) || ((decide (c = "NoBonds") && decide (y = "AskError")) || ((decide (c = "NoColumns") && decide (y = "NoColumns")) || ((decide (c = "NoColumns") && decide (y = "AskError")) || (false))))), fun c => decide (c = "AskError") || (decide (c = "NoBonds") || (decide (c = "NoColumns") || (false))), fun c y => false⟩
def gs (x : Str) : Option Str := none
theorem ok_is_number : fq bx = true := by decide +kernel
theorem bd_is_number : cn bx.st bx.x := fun _ _ _ _ _ _ us hl => match us, hl with | [_], _ => rfl
theorem ok_is_tuple_of : fq bj = true := by decide +kernel
theorem bd_is_tuple_of : cn bj.st bj.x := fun _ _ _ _ _ _ us hl => match us, hl with | [_, _, _, _], _ => rfl
theorem ok_is_pair : fq cc = true := by decide +kernel
theorem bd_is_pair : cn cc.st cc.x := fun _ _ _ _ _ _ us hl => match us, hl with | [_], _ => rfl
theorem ok_are_rising : fq br = true := by decide +kernel
theorem bd_are_rising : cn br.st br.x := fun _ _ _ _ _ _ us hl => match us, hl with | [_], _ => rfl
theorem ok_is_columns : fq bb = true := by decide +kernel
theorem bd_is_columns : cn bb.st bb.x := fun _ _ _ _ _ _ us hl => match us, hl with | [_, _], _ => rfl
theorem ok_is_bond : fq ca = true := by decide +kernel
theorem bd_is_bond : cn ca.st ca.x := fun _ _ _ _ _ _ us hl => match us, hl with | [_, _], _ => rfl
theorem ok_checked_bonds : fq aq = true := by decide +kernel
theorem bd_checked_bonds : cn aq.st aq.x := fun _ _ _ _ _ _ us hl => match us, hl with | [_, _], _ => rfl
theorem ok_checked_columns : fq ah = true := by decide +kernel
theorem bd_checked_columns : cn ah.st ah.x := fun _ _ _ _ _ _ us hl => match us, hl with | [_, _], _ => rfl
theorem ok_lies_in : fq be = true := by decide +kernel
theorem bd_lies_in : cn be.st be.x := fun _ _ _ _ _ _ us hl => match us, hl with | [_, _], _ => rfl
theorem ok_next_step : fq bi = true := by decide +kernel
theorem bd_next_step : cn bi.st bi.x := fun _ _ _ _ _ _ us hl => match us, hl with | [_, _], _ => rfl
theorem ok_walked : fq cj = true := by decide +kernel
theorem bd_walked : cn cj.st cj.x := fun _ _ _ _ _ _ us hl => match us, hl with | [_, _, _], _ => rfl
theorem ok_hanging : fq b9 = true := by decide +kernel
theorem bd_hanging : cn b9.st b9.x := fun _ _ _ _ _ _ us hl => match us, hl with | [_, _, _], _ => rfl
theorem ok_choices : fq b0 = true := by decide +kernel
theorem bd_choices : cn b0.st b0.x := fun _ _ _ _ _ _ us hl => match us, hl with | [_], _ => rfl
theorem ok_keys : fq d7 = true := by decide +kernel
theorem bd_keys : cn d7.st d7.x := fun _ _ _ _ _ _ us hl => match us, hl with | [_, _, _], _ => rfl
theorem ok_law_cell_at : fq bq = true := by decide +kernel
theorem bd_law_cell_at : cn bq.st bq.x := fun _ _ _ _ _ _ us hl => match us, hl with | [_, _], _ => rfl
theorem ok_law_mixed : fq az = true := by decide +kernel
theorem bd_law_mixed : cn az.st az.x := fun _ _ _ _ _ _ us hl => match us, hl with | [_, _, _], _ => rfl
theorem ok_law_columns : fq af = true := by decide +kernel
theorem bd_law_columns : cn af.st af.x := fun _ _ _ _ _ _ us hl => match us, hl with | [_, _, _, _], _ => rfl
theorem ok_law_bonds : fq bw = true := by decide +kernel
theorem bd_law_bonds : cn bw.st bw.x := fun _ _ _ _ _ _ us hl => match us, hl with | [_, _, _], _ => rfl
theorem ok_law_span : fq bz = true := by decide +kernel
theorem bd_law_span : cn bz.st bz.x := fun _ _ _ _ _ _ us hl => match us, hl with | [_, _], _ => rfl
theorem ok_law_parts : fq bu = true := by decide +kernel
theorem bd_law_parts : cn bu.st bu.x := fun _ _ _ _ _ _ us hl => match us, hl with | [_], _ => rfl
theorem ok_law_holds : fq ba = true := by decide +kernel
theorem bd_law_holds : cn ba.st ba.x := fun _ _ _ _ _ _ us hl => match us, hl with | [_, _, _], _ => rfl
theorem ok_law : fq d_law = true := by decide +kernel
theorem bd_law : cn d_law.st d_law.x := fun _ _ _ _ _ _ us hl => match us, hl with | [_], _ => rfl
noncomputable def tab (n : Nat) : GT := tabOf defs gs xs n
noncomputable def veB : List Value := [.type "ValueError", .type "Exception", .type "BaseException", .type "object"]
theorem veB_ok : ExBase veB "ValueError.__new__" := ⟨"ValueError", _, _, _, _, _, PySem.F.excBase_ValueError, by decide +kernel, PySem.F.excBase_ValueError⟩
end LK
end
section
namespace Pu
open PySem PySem.Spec PyProof.Rows L2
noncomputable def lamOf : Nat → Expr → Option Expr
 | 0, _ => none
 | n + 1, e => match e with
  | .Lambda p b s q => some (.Lambda p b s q)
  | .BoolOp _ vs _ => vs.findSome? (lamOf n)
  | .Call _ as ks _ => (match as.findSome? (lamOf n) with
   | some e => some e
   | none => ks.findSome? fun k => lamOf n k.value)
  | _ => none
noncomputable def lamOfS (st : Stmt) : Expr := ((ao st).findSome? fun s => match s with
 | .Return (some e) _ => lamOf 10 e
 | _ => none).getD (.Name "" ⟨0, 0, 0, 0⟩)
theorem fn_eq {T : GT} {d : DefR} {F : En → Out} {k : Nat} {ms : List Bool} (h : gB T fw (cOf d.st d.lm) (ao d.st) = F) (hn : (nOf d.st).length = k) (hm : d.ms = ms) (ds : List D) : ae T d ds = outR (F (cu ms ds ++ List.replicate (k - ds.length) .no)) := by
 unfold ae fnD
 rw [h, hn, hm]
theorem sFor_ok {tg : D → En → Option En} {r : En → ResL} {F : En → Out} {δ : En} {ds : List D} (h : r δ = .ok ds) : sFor tg r F δ = turns tg F ds δ := by
 unfold sFor; rw [h]
theorem fu {tg : D → En → Option En} {F : En → Out} {δ δ1 : En} {d : D} {r : List D} (h : tg d δ = some δ1) : turns tg F (d :: r) δ = (match F δ1 with
  | .nx δ' => turns tg F r δ'
  | .ct δ' => turns tg F r δ'
  | .bk δ' => .nx δ'
  | .rt d => .rt d
  | .er c => .er c
  | .st => .st) := by
 show (match tg d δ with
  | none => Out.st
  | some δ1 => match F δ1 with
   | .nx δ' => turns tg F r δ'
   | .ct δ' => turns tg F r δ'
   | .bk δ' => .nx δ'
   | .rt d => .rt d
   | .er c => .er c
   | .st => .st) = _
 rw [h]
theorem compL_map {f : D → Option (Option D)} {g : D → Option D} : ∀ {ds : List D}, (∀ d ∈ ds, f d = some (g d)) → compL f ds = some (ds.filterMap g)
 | [], _ => rfl
 | d :: r, h => by
  unfold compL
  rw [h d List.mem_cons_self]
  dsimp only
  rw [compL_map fun d hd => h d (List.mem_cons_of_mem _ hd), List.filterMap_cons]
  cases g d <;> rfl
theorem gComp_ok {r : En → ResL} {ix : List Nat} {t g : En → Res} {δ : En} {ds : List D} {h : D → Option D} (hr : r δ = .ok ds) (hl : ds.length ≤ sizeLine) (hf : ∀ d ∈ ds, turnD ix t g δ d = some (h d)) : ci r ix t g δ = .ok (.lst (ds.filterMap h)) := by
 unfold ci
 rw [hr]
 dsimp only
 rw [if_pos hl, compL_map hf]
theorem turn_all {ix : List Nat} {g : En → Res} {δ : En} {d y : D} (h : g (cr ix δ (.pu d)) = .ok y) : turnD ix (gC (.bl true)) g δ d = some (some y) := by
 unfold turnD gC
 dsimp only
 rw [h]
theorem turn_if {ix : List Nat} {t g : En → Res} {δ : En} {d y : D} {b : Bool} (ht : t (cr ix δ (.pu d)) = .ok (.bl b)) (h : b = true → g (cr ix δ (.pu d)) = .ok y) : turnD ix t g δ d = some (if b then some y else none) := by
 unfold turnD
 rw [ht]
 cases b with
 | true => dsimp only; rw [h rfl]; rfl
 | false => rfl
section
variable (δ : En) (d e : D) (i j : Nat) (g h k c : En → Res) (F F' : En → Out) (r : En → ResL) (f : D → Option D) (f2 f3 : D → D → Option D)
@[simp] theorem cz (ms : List Bool) : cu ms [] = [] := by cases ms <;> rfl
@[simp] theorem v_entry_t (ms : List Bool) (ds : List D) : cu (true :: ms) (d :: ds) = .bo d :: cu ms ds := rfl
@[simp] theorem v_entry_f (ms : List Bool) (ds : List D) : cu (false :: ms) (d :: ds) = .pu d :: cu ms ds := rfl
@[simp] theorem fh : sSeq F F' δ = match F δ with
 | .nx δ' => F' δ'
 | o => o := rfl
@[simp] theorem v_nil : sNil δ = .nx δ := rfl
@[simp] theorem v_pass : sPass δ = .nx δ := rfl
@[simp] theorem v_st : sSt δ = .st := rfl
@[simp] theorem v_gst : gSt δ = .st := rfl
@[simp] theorem v_ret : sRet g δ = (g δ).then .rt := rfl
@[simp] theorem v_if : sIf c F F' δ = (c δ).then fun d => match d with
 | .bl true => F δ
 | .bl false => F' δ
 | _ => .st := rfl
@[simp] theorem v_set : sSet i g δ = (g δ).then fun d => .nx (δ.set i (.pu d)) := rfl
@[simp] theorem v_setO : sSetO i g δ = (g δ).then fun d => match d with
 | .lst ds => .nx (δ.set i (.ow ds))
 | _ => .st := rfl
@[simp] theorem v_setD : sSetD i δ = .nx (δ.set i (.od false [])) := rfl
@[simp] theorem ff (f : D → Out) : (Res.ok d).then f = f d := rfl
@[simp] theorem v_then_st (f : D → Out) : Res.st.then f = .st := rfl
@[simp] theorem v_then_er (f : D → Out) (c : Str) : (Res.er c).then f = .er c := rfl
@[simp] theorem cb (f : D → Res) : (Res.ok d).bind f = f d := rfl
@[simp] theorem v_bind_st (f : D → Res) : Res.st.bind f = .st := rfl
@[simp] theorem v_bind_er (f : D → Res) (c : Str) : (Res.er c).bind f = .er c := rfl
@[simp] theorem fg : Res.of (some d) = .ok d := rfl
@[simp] theorem v_of_none : Res.of none = .st := rfl
@[simp] theorem v_out_rt : outR (.rt d) = .ok d := rfl
@[simp] theorem v_out_nx : outR (.nx δ) = .ok .non := rfl
@[simp] theorem v_out_st : outR .st = .st := rfl
@[simp] theorem v_out_er (c : Str) : outR (.er c) = .er c := rfl
@[simp] theorem v_var : gVar i δ = match δ[i]? with
 | some (.pu d) => .ok d
 | _ => .st := rfl
@[simp] theorem v_arg : gArg i δ = match δ[i]? with
 | some (.pu d) => .ok d
 | some (.bo d) => .ok d
 | some (.ow ds) => .ok (.lst ds)
 | some (.od t kvs) => .ok (.dct t kvs)
 | _ => .st := rfl
@[simp] theorem v_bo : gBo i δ = match δ[i]? with
 | some (.pu d) => .ok d
 | some (.bo d) => .ok d
 | _ => .st := rfl
@[simp] theorem v_c : gC d δ = .ok d := rfl
@[simp] theorem v_g1 : g1 f g δ = (g δ).bind fun x => Res.of (f x) := rfl
@[simp] theorem v_g2 : g2 f2 g h δ = (g δ).bind fun x => (h δ).bind fun y => Res.of (f2 x y) := rfl
@[simp] theorem v_gif : gIf c g h δ = (c δ).bind fun d => match d with
 | .bl true => g δ
 | .bl false => h δ
 | _ => .st := rfl
@[simp] theorem v_not : gNot c δ = (c δ).bind fun d => match d with
 | .bl b => .ok (.bl !b)
 | _ => .st := rfl
@[simp] theorem v_and : gAnd g h δ = (g δ).bind fun d => match d with
 | .bl true => h δ
 | .bl false => .ok (.bl false)
 | _ => .st := rfl
@[simp] theorem v_or : gOr g h δ = (g δ).bind fun d => match d with
 | .bl true => .ok (.bl true)
 | .bl false => h δ
 | _ => .st := rfl
@[simp] theorem v_tru : gTru g δ = (g δ).bind fun x => Res.of (bD (truD x)) := rfl
@[simp] theorem v_tru_bl (b : Bool) : bD (truD (.bl b)) = some (.bl b) := rfl
@[simp] theorem v_chain : gChain f2 f3 g h k δ = (g δ).bind fun x => (h δ).bind fun y => (Res.of (f2 x y)).bind fun z => match z with
 | .bl true => (k δ).bind fun w => Res.of (f3 y w)
 | .bl false => .ok (.bl false)
 | _ => .st := rfl
@[simp] theorem v_cons : Pu.aa g r δ = match g δ with
 | .ok d => (match r δ with
  | .ok ds => .ok (d :: ds)
  | .er c => .er c
  | .st => .st)
 | .er c => .er c
 | .st => .st := rfl
@[simp] theorem v_gnil : Pu.gNil δ = .ok [] := rfl
@[simp] theorem v_call (fn : List D → Res) : bp fn r δ = match r δ with
 | .ok ds => fn ds
 | .er c => .er c
 | .st => .st := rfl
@[simp] theorem v_lst : gLst r δ = match r δ with
 | .ok ds => if ds.length ≤ 16777216 then .ok (.lst ds) else .st
 | .er c => .er c
 | .st => .st := rfl
@[simp] theorem v_tup : Pu.gTup r δ = match r δ with
 | .ok ds => if ds.length ≤ 16777216 then .ok (.tup ds) else .st
 | .er c => .er c
 | .st => .st := rfl
@[simp] theorem v_walk : cq g δ = match g δ with
 | .ok d => (match walkD d with
  | some ds => .ok ds
  | none => .st)
 | .er c => .er c
 | .st => .st := rfl
@[simp] theorem v_walk_l (ds : List D) : walkD (.lst ds) = some ds := rfl
@[simp] theorem v_walk_t (ds : List D) : walkD (.tup ds) = some ds := rfl
@[simp] theorem v_fz_nil : fz [] F δ = F δ := rfl
@[simp] theorem v_fz (is : List Nat) : fz (i :: is) F δ = fz is F (frz i δ) := rfl
@[simp] theorem v_frz : frz i δ = match δ[i]? with
 | some (.ow ds) => δ.set i (.pu (.lst ds))
 | some (.od t kvs) => δ.set i (.pu (.dct t kvs))
 | _ => δ := rfl
@[simp] theorem v_gtName : dz i d δ = some (δ.set i (.pu d)) := rfl
@[simp] theorem v_app : sApp i g δ = match δ[i]? with
 | some (.ow ds) => (g δ).then fun d => if ds.length < 16777216 then .nx (δ.set i (.ow (ds ++ [d]))) else .st
 | _ => .st := rfl
@[simp] theorem v_ext : sExt i g δ = match δ[i]? with
 | some (.ow ds) => (g δ).then fun d => match itemsD d with
  | some es => if ds.length + es.length ≤ 16777216 then .nx (δ.set i (.ow (ds ++ es))) else .st
  | none => .st
 | _ => .st := rfl
@[simp] theorem v_items_l (ds : List D) : itemsD (.lst ds) = some ds := rfl
@[simp] theorem v_items_t (ds : List D) : itemsD (.tup ds) = some ds := rfl
@[simp] theorem v_len_l (ds : List D) : Pu.pyLen (.lst ds) = some (.int ds.length) := rfl
@[simp] theorem v_len_t (ds : List D) : Pu.pyLen (.tup ds) = some (.int ds.length) := rfl
@[simp] theorem v_lt (a b : Int) : pyLtI (.int a) (.int b) = some (.bl (decide (a < b))) := rfl
@[simp] theorem v_le (a b : Int) : pyLe (.int a) (.int b) = some (.bl (decide (a ≤ b))) := rfl
@[simp] theorem v_gt (a b : Int) : pyGt (.int a) (.int b) = some (.bl (decide (b < a))) := rfl
@[simp] theorem v_ge (a b : Int) : pyGe (.int a) (.int b) = some (.bl (decide (b ≤ a))) := rfl
@[simp] theorem v_eqi (a b : Int) : pyEq (.int a) (.int b) = some (.bl (a == b)) := rfl
@[simp] theorem v_nei (a b : Int) : pyNe (.int a) (.int b) = some (.bl (!(a == b))) := rfl
@[simp] theorem v_add (a b : Int) : cf (.int a) (.int b) = some (.int (a + b)) := rfl
@[simp] theorem v_sub (a b : Int) : pySub (.int a) (.int b) = some (.int (a - b)) := rfl
@[simp] theorem v_isN : pyIsN d .non = some (.bl (isNon d)) := rfl
@[simp] theorem v_isNotN : pyIsNotN d .non = some (.bl (!isNon d)) := rfl
@[simp] theorem v_tuple_l (ds : List D) : pyTuple (.lst ds) = some (.tup ds) := rfl
@[simp] theorem v_tuple_t (ds : List D) : pyTuple (.tup ds) = some (.tup ds) := rfl
@[simp] theorem v_gM : gM f2 g h δ = (g δ).bind fun x => match x with
 | .lst xs => (h δ).bind fun y => Res.of (f2 (.lst xs) y)
 | _ => .st := rfl
@[simp] theorem v_is_ss (x : Str) : dc "str" (.str x) = some (.bl true) := by kernel_rfl
@[simp] theorem v_is_si (x : Int) : dc "str" (.int x) = some (.bl false) := by kernel_rfl
@[simp] theorem v_is_sb (x : Bool) : dc "str" (.bl x) = some (.bl false) := by kernel_rfl
@[simp] theorem v_is_sn : dc "str" .non = some (.bl false) := by kernel_rfl
@[simp] theorem v_is_st (x : List D) : dc "str" (.tup x) = some (.bl false) := by kernel_rfl
@[simp] theorem v_is_sl (x : List D) : dc "str" (.lst x) = some (.bl false) := by kernel_rfl
@[simp] theorem v_is_is (x : Str) : dc "int" (.str x) = some (.bl false) := by kernel_rfl
@[simp] theorem v_is_ii (x : Int) : dc "int" (.int x) = some (.bl true) := by kernel_rfl
@[simp] theorem v_is_ib (x : Bool) : dc "int" (.bl x) = some (.bl true) := by kernel_rfl
@[simp] theorem v_is_in : dc "int" .non = some (.bl false) := by kernel_rfl
@[simp] theorem v_is_it (x : List D) : dc "int" (.tup x) = some (.bl false) := by kernel_rfl
@[simp] theorem v_is_il (x : List D) : dc "int" (.lst x) = some (.bl false) := by kernel_rfl
@[simp] theorem v_is_bs (x : Str) : dc "bool" (.str x) = some (.bl false) := by kernel_rfl
@[simp] theorem v_is_bi (x : Int) : dc "bool" (.int x) = some (.bl false) := by kernel_rfl
@[simp] theorem v_is_bb (x : Bool) : dc "bool" (.bl x) = some (.bl true) := by kernel_rfl
@[simp] theorem v_is_bn : dc "bool" .non = some (.bl false) := by kernel_rfl
@[simp] theorem v_is_bt (x : List D) : dc "bool" (.tup x) = some (.bl false) := by kernel_rfl
@[simp] theorem v_is_bL (x : List D) : dc "bool" (.lst x) = some (.bl false) := by kernel_rfl
@[simp] theorem v_is_ts (x : Str) : dc "tuple" (.str x) = some (.bl false) := by kernel_rfl
@[simp] theorem v_is_ti (x : Int) : dc "tuple" (.int x) = some (.bl false) := by kernel_rfl
@[simp] theorem v_is_tb (x : Bool) : dc "tuple" (.bl x) = some (.bl false) := by kernel_rfl
@[simp] theorem v_is_tn : dc "tuple" .non = some (.bl false) := by kernel_rfl
@[simp] theorem v_is_tt (x : List D) : dc "tuple" (.tup x) = some (.bl true) := by kernel_rfl
@[simp] theorem v_is_tl (x : List D) : dc "tuple" (.lst x) = some (.bl false) := by kernel_rfl
@[simp] theorem v_is_ls (x : Str) : dc "list" (.str x) = some (.bl false) := by kernel_rfl
@[simp] theorem v_is_li (x : Int) : dc "list" (.int x) = some (.bl false) := by kernel_rfl
@[simp] theorem v_is_lb (x : Bool) : dc "list" (.bl x) = some (.bl false) := by kernel_rfl
@[simp] theorem v_is_ln : dc "list" .non = some (.bl false) := by kernel_rfl
@[simp] theorem v_is_lt (x : List D) : dc "list" (.tup x) = some (.bl false) := by kernel_rfl
@[simp] theorem v_is_ll (x : List D) : dc "list" (.lst x) = some (.bl true) := by kernel_rfl
@[simp] theorem v_ix2_0 (a b : D) : pyIx (.tup [a, b]) (.int 0) = some a := rfl
@[simp] theorem v_ix2_1 (a b : D) : pyIx (.tup [a, b]) (.int 1) = some b := rfl
@[simp] theorem v_ix3_0 (a b c : D) : pyIx (.tup [a, b, c]) (.int 0) = some a := rfl
@[simp] theorem v_ix3_1 (a b c : D) : pyIx (.tup [a, b, c]) (.int 1) = some b := rfl
@[simp] theorem v_ix3_2 (a b c : D) : pyIx (.tup [a, b, c]) (.int 2) = some c := rfl
noncomputable def Smp (d : D) : Prop := ∃ p, toPy d = some p ∧ PyData.canLay0 p = true ∧ p.depth ≤ 8
theorem smp_int (i : Int) : Smp (.int i) := ⟨.int i, rfl, rfl, Nat.zero_le _⟩
noncomputable def SmpL (ds : List D) : Prop := ∃ ps, d5 ds = some ps ∧ PyData.canLayAll0 ps = true ∧ PyData.depthAll ps ≤ 8
theorem smpL : ∀ {ds : List D}, (∀ d ∈ ds, Smp d) → SmpL ds
 | [], _ => ⟨[], rfl, rfl, Nat.zero_le _⟩
 | d :: r, h => by
  obtain ⟨p, e1, e2, e3⟩ := h d List.mem_cons_self
  obtain ⟨ps, f1, f2, f3⟩ := smpL (ds := r) fun d hd => h d (List.mem_cons_of_mem _ hd)
  refine ⟨p :: ps, by unfold d5; rw [e1, f1], ?_, Nat.max_le.mpr ⟨e3, f3⟩⟩
  show (PyData.canLay0 p && PyData.canLayAll0 ps) = true
  rw [e2, f2]; rfl
theorem shaped_smp {p : PyData} (h1 : PyData.canLay0 p = true) (h2 : p.depth ≤ 63) : SeqAt.shaped p = true := by
 unfold SeqAt.shaped
 rw [h1, decide_eq_true (by omega)]; rfl
theorem eq_smp {d e : D} {p q : PyData} (h1 : toPy d = some p) (h2 : toPy e = some q) (a1 : PyData.canLay0 p = true) (a2 : p.depth ≤ 63) (b1 : PyData.canLay0 q = true) (b2 : q.depth ≤ 63) : eqD d e = some (PyData.eqv p q) := by
 unfold eqD
 rw [h1, h2]
 dsimp only
 rw [shaped_smp a1 a2, shaped_smp b1 b2]
 rfl
theorem eq_nilL {ds : List D} (h : SmpL ds) : pyEq (.lst ds) (.lst []) = some (.bl ds.isEmpty) ∧ pyNe (.lst ds) (.lst []) = some (.bl (!ds.isEmpty)) := by
 obtain ⟨ps, e1, e2, e3⟩ := h
 have q : eqD (.lst ds) (.lst []) = some (PyData.eqv (.list ps) (.list [])) := eq_smp (by unfold toPy; rw [e1]) rfl e2 (show PyData.depthAll ps + 1 ≤ 63 by omega) rfl (show 0 + 1 ≤ 63 by omega)
 have e : PyData.eqv (.list ps) (.list []) = ds.isEmpty := by
  cases ds with
  | nil => cases e1; rfl
  | cons d r =>
   unfold d5 at e1
   cases h1 : toPy d with
   | none => rw [h1] at e1; cases e1
   | some p =>
    cases h2 : d5 r with
    | none => rw [h1, h2] at e1; cases e1
    | some ps' => rw [h1, h2] at e1; cases e1; rfl
 unfold pyEq pyNe
 rw [q, e]
 exact ⟨rfl, rfl⟩
theorem v_mod (a b : Int) (h : 0 < b) : pyMod (.int a) (.int b) = some (.int (a % b)) := if_pos h
theorem v_mul (a b : Int) (h : (-(2 ^ 64) < a ∧ a < 2 ^ 64) ∨ (-(2 ^ 64) < b ∧ b < 2 ^ 64)) : pyMul (.int a) (.int b) = some (.int (a * b)) := if_pos h
theorem v_range1 (hr : r δ = .ok [.int j']) (h : -(2 ^ 62) ≤ j' ∧ j' < 2 ^ 62) : dj r δ = .ok (d8 0 j'.toNat) := by
 unfold dj
 rw [hr]
 exact if_pos h
end
end Pu
end
section
namespace LK
open PySem PySem.Spec PyProof.Rows L2 Pu
noncomputable def b_is_number (n : Nat) : En → Out := (sRet (gAnd (g1 (dc "int") (gArg 0)) (gNot (g1 (dc "bool") (gArg 0)))))
theorem m_is_number (n : Nat) : gB (tab (n + 1)) fw (cOf bx.st bx.lm) (ao bx.st) = b_is_number n := by kernel_rfl
theorem n_is_number : (nOf bx.st).length = 1 := by decide +kernel
theorem e_is_number (n : Nat) (ds : List D) : ae (tab (n + 1)) bx ds = outR (b_is_number n (cu [true] ds ++ List.replicate (1 - ds.length) .no)) := fn_eq (m_is_number n) n_is_number rfl ds
noncomputable def b_is_tuple_of (n : Nat) : En → Out := (sSeq (sIf (gOr (gNot (gTru (g1 (dc "tuple") (gArg 0)))) (gNot (gChain pyLe pyLe (gArg 1) (g1 pyLen (gArg 0)) (gArg 2)))) (sRet (gC (.bl false))) sNil)
 (sRet (g1 pyAll (ci (cq (gArg 0)) [3] (gC (.bl true)) (gCallX (tab (n + 1)) 1 [((gArg 0), (gVar 0))])))))
theorem m_is_tuple_of (n : Nat) : gB (tab (n + 1)) fw (cOf bj.st bj.lm) (ao bj.st) = b_is_tuple_of n := by kernel_rfl
theorem n_is_tuple_of : (nOf bj.st).length = 4 := by decide +kernel
theorem e_is_tuple_of (n : Nat) (ds : List D) : ae (tab (n + 1)) bj ds = outR (b_is_tuple_of n (cu [true, true, true, true] ds ++ List.replicate (4 - ds.length) .no)) := fn_eq (m_is_tuple_of n) n_is_tuple_of rfl ds
noncomputable def b_is_pair (n : Nat) : En → Out := (sRet (gAnd (g1 (dc "tuple") (gArg 0)) (g2 pyEq (g1 pyLen (gArg 0)) (gC (.int 2)))))
theorem m_is_pair (n : Nat) : gB (tab (n + 1)) fw (cOf cc.st cc.lm) (ao cc.st) = b_is_pair n := by kernel_rfl
theorem n_is_pair : (nOf cc.st).length = 1 := by decide +kernel
theorem e_is_pair (n : Nat) (ds : List D) : ae (tab (n + 1)) cc ds = outR (b_is_pair n (cu [true] ds ++ List.replicate (1 - ds.length) .no)) := fn_eq (m_is_pair n) n_is_pair rfl ds
noncomputable def b_are_rising (n : Nat) : En → Out := (sRet (g1 pyAll (ci (dj (aa (g2 pySub (g1 pyLen (gArg 0)) (gC (.int 1))) gNil)) [0] (gC (.bl true)) (g2 pyLtI (g2 pyIx (gArg 1) (gArg 0)) (g2 pyIx (gArg 1) (g2 cf (gArg 0) (gC (.int 1))))))))
theorem m_are_rising (n : Nat) : gB (tab (n + 1)) fw (cOf br.st br.lm) (ao br.st) = b_are_rising n := by kernel_rfl
theorem n_are_rising : (nOf br.st).length = 1 := by decide +kernel
theorem e_are_rising (n : Nat) (ds : List D) : ae (tab (n + 1)) br ds = outR (b_are_rising n (cu [true] ds ++ List.replicate (1 - ds.length) .no)) := fn_eq (m_are_rising n) n_are_rising rfl ds
noncomputable def di : Expr := lamOfS bb.st
noncomputable def c_is_columns (n : Nat) : En → Res := (gAnd (bp (ae (tab n) bx) (aa (gArg 0) gNil)) (gChain pyLe pyLtI (gC (.int 0)) (gArg 0) (gArg 1)))
theorem el_is_columns (n : Nat) (v0 d : D) : (tab (n + 2)).lam di [("many", v0)] [d] = c_is_columns n [.pu d, .pu v0] := by kernel_rfl
noncomputable def b_is_columns (n : Nat) : En → Out := (sRet (gAnd (bp (ae (tab n) bj) (aa (gArg 0) (aa (gC (.int 0)) (aa (gArg 1) (aa (gLamI di ["many"] [1]) gNil))))) (bp (ae (tab n) br) (aa (gArg 0) gNil))))
theorem m_is_columns (n : Nat) : gB (tab (n + 1)) fw (cOf bb.st bb.lm) (ao bb.st) = b_is_columns n := by kernel_rfl
theorem n_is_columns : (nOf bb.st).length = 2 := by decide +kernel
theorem e_is_columns (n : Nat) (ds : List D) : ae (tab (n + 1)) bb ds = outR (b_is_columns n (cu [true, false] ds ++ List.replicate (2 - ds.length) .no)) := fn_eq (m_is_columns n) n_is_columns rfl ds
noncomputable def b_is_bond (n : Nat) : En → Out := (fz [1, 1] (sRet (gAnd (bp (ae (tab n) cc) (aa (gArg 0) gNil)) (gAnd (bp (ae (tab n) bb) (aa (g2 pyIx (gArg 0) (gC (.int 0))) (aa (gVar 1) gNil))) (bp (ae (tab n) bb) (aa (g2 pyIx (gArg 0) (gC (.int 1))) (aa (gVar 1) gNil)))))))
theorem m_is_bond (n : Nat) : gB (tab (n + 1)) fw (cOf ca.st ca.lm) (ao ca.st) = b_is_bond n := by kernel_rfl
theorem n_is_bond : (nOf ca.st).length = 2 := by decide +kernel
theorem e_is_bond (n : Nat) (ds : List D) : ae (tab (n + 1)) ca ds = outR (b_is_bond n (cu [true, false] ds ++ List.replicate (2 - ds.length) .no)) := fn_eq (m_is_bond n) n_is_bond rfl ds
noncomputable def b_checked_bonds (n : Nat) : En → Out := (sSeq (sIf (gOr (gNot (gTru (bp (ae (tab n) bx) (aa (gArg 1) gNil)))) (gNot (gChain pyLe pyLe (gC (.int 1)) (gArg 1) (gC (.int 6))))) (sRaise "NoBonds" (aa (gC (.str "a table has 1 to 6 columns")) gNil)) sNil)
 (sSeq (sIf (gOr (gNot (gTru (g1 (dc "list") (gArg 0)))) (g2 pyGt (g1 pyLen (gArg 0)) (gC (.int 10)))) (sRaise "NoBonds" (aa (gC (.str "bonds are a list of at most 10")) gNil)) sNil)
 (sSeq (fz [1] (sIf (gNot (gTru (g1 pyAll (ci (cq (gArg 0)) [1] (gC (.bl true)) (bp (ae (tab n) ca) (aa (gArg 0) (aa (gVar 1) gNil))))))) (sRaise "NoBonds" (aa (gC (.str "a bond is a tuple of two rising tuples of columns")) gNil)) sNil))
 (fz [0] (sRet (gVar 0))))))
theorem m_checked_bonds (n : Nat) : gB (tab (n + 1)) fw (cOf aq.st aq.lm) (ao aq.st) = b_checked_bonds n := by kernel_rfl
theorem n_checked_bonds : (nOf aq.st).length = 2 := by decide +kernel
theorem e_checked_bonds (n : Nat) (ds : List D) : ae (tab (n + 1)) aq ds = outR (b_checked_bonds n (cu [false, false] ds ++ List.replicate (2 - ds.length) .no)) := fn_eq (m_checked_bonds n) n_checked_bonds rfl ds
noncomputable def fk (n : Nat) : En → Out := (sSeq (fz [1] (sIf (gNot (gTru (bp (ae (tab n) bb) (aa (gArg 0) (aa (gVar 1) gNil))))) (sRaise "NoColumns" (aa (gC (.str "columns are a rising tuple of numbers from 0 on, below how many there are")) gNil)) sNil))
 (fz [0] (sRet (gVar 0))))
theorem m_checked_columns (n : Nat) : gB (tab (n + 1)) fw (cOf ah.st ah.lm) (ao ah.st) = fk n := by kernel_rfl
theorem n_checked_columns : (nOf ah.st).length = 2 := by decide +kernel
theorem e_checked_columns (n : Nat) (ds : List D) : ae (tab (n + 1)) ah ds = outR (fk n (cu [false, false] ds ++ List.replicate (2 - ds.length) .no)) := fn_eq (m_checked_columns n) n_checked_columns rfl ds
noncomputable def b_lies_in (n : Nat) : En → Out := (sRet (g1 pyAll (ci (cq (gArg 0)) [1] (gC (.bl true)) (g2 pyIn (gArg 0) (gArg 1)))))
theorem m_lies_in (n : Nat) : gB (tab (n + 1)) fw (cOf be.st be.lm) (ao be.st) = b_lies_in n := by kernel_rfl
theorem n_lies_in : (nOf be.st).length = 2 := by decide +kernel
theorem e_lies_in (n : Nat) (ds : List D) : ae (tab (n + 1)) be ds = outR (b_lies_in n (cu [true, true] ds ++ List.replicate (2 - ds.length) .no)) := fn_eq (m_lies_in n) n_lies_in rfl ds
noncomputable def b_next_step (n : Nat) : En → Out := (sSeq (sFor (gtTup [2, 3]) (gEnum (gBo 0)) (sIf (gAnd (gTru (bp (ae (tab n) be) (aa (g2 pyIx (gArg 3) (gC (.int 0))) (aa (gArg 1) gNil)))) (gNot (gTru (bp (ae (tab n) be) (aa (g2 pyIx (gArg 3) (gC (.int 1))) (aa (gArg 1) gNil)))))) (fz [2] (sRet (gVar 2))) sNil))
 (sRet (gC .non)))
theorem m_next_step (n : Nat) : gB (tab (n + 1)) fw (cOf bi.st bi.lm) (ao bi.st) = b_next_step n := by kernel_rfl
theorem n_next_step : (nOf bi.st).length = 4 := by decide +kernel
theorem e_next_step (n : Nat) (ds : List D) : ae (tab (n + 1)) bi ds = outR (b_next_step n (cu [true, true] ds ++ List.replicate (4 - ds.length) .no)) := fn_eq (m_next_step n) n_next_step rfl ds
noncomputable def b_walked (n : Nat) : En → Out := (sSeq (sSetO 3 (g1 d4 (gArg 1)))
 (sSeq (sSetO 4 (gLst gNil))
 (sSeq (sSet 5 (bp (ae (tab n) bi) (aa (gArg 0) (aa (gArg 3) gNil))))
 (sSeq (fz [] (sWh (gAnd (g2 pyIsNotN (gArg 5) (gC .non)) (gNot (gTru (bp (ae (tab n) be) (aa (gArg 2) (aa (gArg 3) gNil)))))) (sSeq (fz [5] (sApp 4 (gVar 5)))
 (sSeq (sExt 3 (g2 pyIx (g2 pyIx (gArg 0) (gArg 5)) (gC (.int 1))))
 (sSet 5 (bp (ae (tab n) bi) (aa (gArg 0) (aa (gArg 3) gNil))))))))
 (fz [4, 3] (sRet (gTup (aa (gVar 4) (aa (gVar 3) gNil)))))))))
theorem m_walked (n : Nat) : gB (tab (n + 1)) fw (cOf cj.st cj.lm) (ao cj.st) = b_walked n := by kernel_rfl
theorem n_walked : (nOf cj.st).length = 6 := by decide +kernel
theorem e_walked (n : Nat) (ds : List D) : ae (tab (n + 1)) cj ds = outR (b_walked n (cu [true, true, true] ds ++ List.replicate (6 - ds.length) .no)) := fn_eq (m_walked n) n_walked rfl ds
noncomputable def b_hanging (n : Nat) : En → Out := (sSeq (sSet 3 (g2 pyIx (bp (ae (tab n) cj) (aa (gArg 0) (aa (gArg 1) (aa (gArg 2) gNil)))) (gC (.int 1))))
 (sRet (g1 pyTuple (ci (cq (gArg 2)) [3] (g2 pyIn (gArg 0) (gArg 1)) (gVar 0)))))
theorem m_hanging (n : Nat) : gB (tab (n + 1)) fw (cOf b9.st b9.lm) (ao b9.st) = b_hanging n := by kernel_rfl
theorem n_hanging : (nOf b9.st).length = 4 := by decide +kernel
theorem e_hanging (n : Nat) (ds : List D) : ae (tab (n + 1)) b9 ds = outR (b_hanging n (cu [true, true, true] ds ++ List.replicate (4 - ds.length) .no)) := fn_eq (m_hanging n) n_hanging rfl ds
noncomputable def l_choices : Expr := lamOfS b0.st
noncomputable def c_choices (n : Nat) : En → Res := (gTup (aa (g1 pyLen (gArg 0)) (aa (gVar 0) gNil)))
theorem el_choices (n : Nat) ( d : D) : (tab (n + 2)).lam l_choices [] [d] = c_choices n [.pu d] := by kernel_rfl
noncomputable def b_choices (n : Nat) : En → Out := (sSeq (sSetO 1 (gLst (aa (gTup gNil) gNil)))
 (sSeq (fz [0] (sFor (dz 2) (cq (gBo 0)) (fz [2] (sSet 1 (g2 cf (gArg 1) (ci (cq (gArg 1)) [2] (gC (.bl true)) (g2 cf (gArg 0) (gTup (aa (gVar 1) gNil)))))))))
 (sRet (gSortK (tab (n + 1)) (gArg 1) (gLamI l_choices [] [])))))
theorem m_choices (n : Nat) : gB (tab (n + 1)) fw (cOf b0.st b0.lm) (ao b0.st) = b_choices n := by kernel_rfl
theorem n_choices : (nOf b0.st).length = 3 := by decide +kernel
theorem e_choices (n : Nat) (ds : List D) : ae (tab (n + 1)) b0 ds = outR (b_choices n (cu [true] ds ++ List.replicate (3 - ds.length) .no)) := fn_eq (m_choices n) n_choices rfl ds
noncomputable def b_keys (n : Nat) : En → Out := (sSeq (fz [0, 1] (sDrop (bp (ae (tab n) aq) (aa (gVar 0) (aa (gVar 1) gNil)))))
 (sSeq (fz [2, 1] (sDrop (bp (ae (tab n) ah) (aa (gVar 2) (aa (gVar 1) gNil)))))
 (sSeq (sSetO 3 (gLst gNil))
 (sSeq (sFor (dz 4) (cq (bp (ae (tab n) b0) (aa (gArg 2) gNil))) (sIf (gAnd (g2 pyEq (bp (ae (tab n) b9) (aa (gArg 0) (aa (gArg 4) (aa (gArg 2) gNil)))) (gArg 2)) (gNot (gTru (g1 pyAny (ci (cq (gArg 3)) [4] (gC (.bl true)) (bp (ae (tab n) be) (aa (gArg 0) (aa (gArg 1) gNil)))))))) (fz [4] (sApp 3 (gVar 4))) sNil))
 (sRet (g1 cw (gArg 3)))))))
theorem m_keys (n : Nat) : gB (tab (n + 1)) fw (cOf d7.st d7.lm) (ao d7.st) = b_keys n := by kernel_rfl
theorem n_keys : (nOf d7.st).length = 5 := by decide +kernel
theorem e_keys (n : Nat) (ds : List D) : ae (tab (n + 1)) d7 ds = outR (b_keys n (cu [false, false, false] ds ++ List.replicate (5 - ds.length) .no)) := fn_eq (m_keys n) n_keys rfl ds
noncomputable def fe (n : Nat) : En → Out := (sSeq (sIf (g2 pyLtI (gArg 1) (g1 pyLen (gArg 0))) (sRet (g2 pyIx (gArg 0) (gArg 1))) sNil)
 (sSeq (sIf (g2 pyEq (gArg 0) (gLst gNil)) (sRet (gC (.int 0))) sNil)
 (sRet (g2 cf (g2 pyMul (g2 pyIx (gArg 0) (g2 pyMod (gArg 1) (g1 pyLen (gArg 0)))) (gC (.int 31))) (gArg 1)))))
theorem m_law_cell_at (n : Nat) : gB (tab (n + 1)) fw (cOf bq.st bq.lm) (ao bq.st) = fe n := by kernel_rfl
theorem n_law_cell_at : (nOf bq.st).length = 2 := by decide +kernel
theorem e_law_cell_at (n : Nat) (ds : List D) : ae (tab (n + 1)) bq ds = outR (fe n (cu [true, true] ds ++ List.replicate (2 - ds.length) .no)) := fn_eq (m_law_cell_at n) n_law_cell_at rfl ds
noncomputable def b_law_mixed (n : Nat) : En → Out := (sSeq (sSet 3 (g2 pyMod (g2 pyMul (g2 cf (g2 cf (bp (ae (tab n) bq) (aa (gArg 0) (aa (gArg 1) gNil))) (g2 pyMul (gC (.int 7919)) (gArg 1))) (gC (.int 1))) (gC (.int 48271))) (gC (.int 2147483647))))
 (sRet (g2 pyMod (g2 pyMod (g2 cf (g2 cf (g2 pyMul (gArg 3) (gArg 3)) (g2 pyMul (gC (.int 7)) (gArg 3))) (gArg 1)) (gC (.int 2147483629))) (gArg 2))))
theorem m_law_mixed (n : Nat) : gB (tab (n + 1)) fw (cOf az.st az.lm) (ao az.st) = b_law_mixed n := by kernel_rfl
theorem n_law_mixed : (nOf az.st).length = 4 := by decide +kernel
theorem e_law_mixed (n : Nat) (ds : List D) : ae (tab (n + 1)) az ds = outR (b_law_mixed n (cu [true, true, true] ds ++ List.replicate (4 - ds.length) .no)) := fn_eq (m_law_mixed n) n_law_mixed rfl ds
noncomputable def b_law_columns (n : Nat) : En → Out := (sRet (g1 pyTuple (ci (dj (aa (gArg 2) gNil)) [1, 0, 3] (g2 pyEq (bp (ae (tab n) az) (aa (gArg 2) (aa (g2 cf (gArg 1) (gArg 0)) (aa (gArg 3) gNil)))) (gC (.int 0))) (gVar 0))))
theorem m_law_columns (n : Nat) : gB (tab (n + 1)) fw (cOf af.st af.lm) (ao af.st) = b_law_columns n := by kernel_rfl
theorem n_law_columns : (nOf af.st).length = 4 := by decide +kernel
theorem e_law_columns (n : Nat) (ds : List D) : ae (tab (n + 1)) af ds = outR (b_law_columns n (cu [true, true, true, true] ds ++ List.replicate (4 - ds.length) .no)) := fn_eq (m_law_columns n) n_law_columns rfl ds
noncomputable def b_law_bonds (n : Nat) : En → Out := (sSeq (sSetO 3 (gLst gNil))
 (sSeq (sFor (dz 4) (dj (aa (bp (ae (tab n) az) (aa (gArg 0) (aa (gArg 1) (aa (gC (.int 6)) gNil)))) gNil)) (sApp 3 (gTup (aa (bp (ae (tab n) af) (aa (gArg 0) (aa (g2 cf (g2 cf (gArg 1) (gC (.int 1))) (g2 pyMul (gC (.int 12)) (gArg 4))) (aa (gArg 2) (aa (gC (.int 3)) gNil))))) (aa (bp (ae (tab n) af) (aa (gArg 0) (aa (g2 cf (g2 cf (gArg 1) (gC (.int 7))) (g2 pyMul (gC (.int 12)) (gArg 4))) (aa (gArg 2) (aa (gC (.int 3)) gNil))))) gNil)))))
 (fz [3] (sRet (gVar 3)))))
theorem m_law_bonds (n : Nat) : gB (tab (n + 1)) fw (cOf bw.st bw.lm) (ao bw.st) = b_law_bonds n := by kernel_rfl
theorem n_law_bonds : (nOf bw.st).length = 5 := by decide +kernel
theorem e_law_bonds (n : Nat) (ds : List D) : ae (tab (n + 1)) bw ds = outR (b_law_bonds n (cu [true, true, true] ds ++ List.replicate (5 - ds.length) .no)) := fn_eq (m_law_bonds n) n_law_bonds rfl ds
noncomputable def b_law_span (n : Nat) : En → Out := (sSeq (sSet 2 (g1 fc (gArg 1)))
 (sSeq (sFor (dz 3) (dj (aa (g1 pyLen (gArg 0)) gNil)) (fz [0] (sFor (dz 4) (cq (gBo 0)) (sIf (g2 pyEq (ci (cq (g2 pyIx (gArg 4) (gC (.int 0)))) [2] (g2 ft (gArg 0) (gArg 1)) (gVar 0)) (gLst gNil)) (sSet 2 (g1 fc (g2 cf (gArg 2) (g1 d4 (g2 pyIx (gArg 4) (gC (.int 1))))))) sNil))))
 (sRet (g1 pyTuple (gArg 2)))))
theorem m_law_span (n : Nat) : gB (tab (n + 1)) fw (cOf bz.st bz.lm) (ao bz.st) = b_law_span n := by kernel_rfl
theorem n_law_span : (nOf bz.st).length = 5 := by decide +kernel
theorem e_law_span (n : Nat) (ds : List D) : ae (tab (n + 1)) bz ds = outR (b_law_span n (cu [true, true] ds ++ List.replicate (5 - ds.length) .no)) := fn_eq (m_law_span n) n_law_span rfl ds
noncomputable def b_law_parts (n : Nat) : En → Out := (sSeq (sSetO 1 (gLst (aa (gTup gNil) gNil)))
 (sSeq (fz [0] (sFor (dz 2) (cq (gBo 0)) (fz [2] (sSet 1 (g2 cf (gArg 1) (ci (cq (gArg 1)) [2] (gC (.bl true)) (g2 cf (gArg 0) (gTup (aa (gVar 1) gNil)))))))))
 (fz [1] (sRet (gVar 1)))))
theorem m_law_parts (n : Nat) : gB (tab (n + 1)) fw (cOf bu.st bu.lm) (ao bu.st) = b_law_parts n := by kernel_rfl
theorem n_law_parts : (nOf bu.st).length = 3 := by decide +kernel
theorem e_law_parts (n : Nat) (ds : List D) : ae (tab (n + 1)) bu ds = outR (b_law_parts n (cu [true] ds ++ List.replicate (3 - ds.length) .no)) := fn_eq (m_law_parts n) n_law_parts rfl ds
noncomputable def b_law_holds (n : Nat) : En → Out := (sSeq (sSet 3 (bp (ae (tab n) bz) (aa (gArg 0) (aa (gArg 1) gNil))))
 (sRet (g2 pyEq (ci (cq (gArg 2)) [3] (g2 ft (gArg 0) (gArg 1)) (gVar 0)) (gLst gNil))))
theorem m_law_holds (n : Nat) : gB (tab (n + 1)) fw (cOf ba.st ba.lm) (ao ba.st) = b_law_holds n := by kernel_rfl
theorem n_law_holds : (nOf ba.st).length = 4 := by decide +kernel
theorem e_law_holds (n : Nat) (ds : List D) : ae (tab (n + 1)) ba ds = outR (b_law_holds n (cu [true, true, true] ds ++ List.replicate (4 - ds.length) .no)) := fn_eq (m_law_holds n) n_law_holds rfl ds
noncomputable def b_law (n : Nat) : En → Out := (sSeq (sSet 1 (g2 cf (gC (.int 1)) (bp (ae (tab n) az) (aa (gArg 0) (aa (gC (.int 0)) (aa (gC (.int 6)) gNil))))))
 (sSeq (sSet 2 (bp (ae (tab n) bw) (aa (gArg 0) (aa (gC (.int 1)) (aa (gArg 1) gNil)))))
 (sSeq (sSet 3 (g1 pyTupRange (gArg 1)))
 (sSeq (sIf (g2 pyEq (bp (ae (tab n) az) (aa (gArg 0) (aa (gC (.int 80)) (aa (gC (.int 2)) gNil)))) (gC (.int 1))) (sSet 3 (bp (ae (tab n) af) (aa (gArg 0) (aa (gC (.int 81)) (aa (gArg 1) (aa (gC (.int 2)) gNil)))))) sNil)
 (sSeq (sSetO 4 (gLst gNil))
 (sSeq (sFor (dz 5) (cq (bp (ae (tab n) bu) (aa (gArg 3) gNil))) (sSeq (sSetO 6 (ci (dj (aa (g1 pyLen (gArg 5)) gNil)) [5] (gC (.bl true)) (g2 cf (gSl (gArg 1) none (some (gVar 0))) (gSl (gArg 1) (some (g2 cf (gArg 0) (gC (.int 1)))) none))))
 (sIf (gAnd (gTru (bp (ae (tab n) ba) (aa (gArg 2) (aa (gArg 5) (aa (gArg 3) gNil))))) (gNot (gTru (g1 pyAny (ci (cq (gArg 6)) [2, 3] (gC (.bl true)) (bp (ae (tab n) ba) (aa (gArg 1) (aa (gArg 0) (aa (gArg 2) gNil))))))))) (fz [5] (sApp 4 (gVar 5))) sNil)))
 (sSeq (sSetO 7 (g1 d4 (gArg 2)))
 (fz [7, 1, 3] (sRet (gAnd (g2 pyEq (bp (ae (tab n) d7) (aa (gVar 7) (aa (gVar 1) (aa (gVar 3) gNil)))) (g1 cw (gArg 4))) (g2 pyEq (gArg 7) (gArg 2))))))))))))
theorem m_law (n : Nat) : gB (tab (n + 1)) fw (cOf d_law.st d_law.lm) (ao d_law.st) = b_law n := by kernel_rfl
theorem n_law : (nOf d_law.st).length = 8 := by decide +kernel
theorem e_law (n : Nat) (ds : List D) : ae (tab (n + 1)) d_law ds = outR (b_law n (cu [false] ds ++ List.replicate (8 - ds.length) .no)) := fn_eq (m_law n) n_law rfl ds
end LK
end
section
namespace Pu
open PySem PySem.Spec PyProof.Rows
theorem compL_if {α : Type} {f f' : α → D} {F : D → Option (Option D)} {b : α → Bool} : ∀ (l : List α), (∀ a ∈ l, F (f a) = some (if b a then some (f' a) else none)) → compL F (l.map f) = some ((l.filter b).map f')
 | [], _ => rfl
 | a :: l, h => by
  rw [List.map_cons]
  unfold compL
  rw [h a List.mem_cons_self, compL_if l fun c hc => h c (List.mem_cons_of_mem _ hc), List.filter_cons]
  cases b a <;> rfl
theorem comp_if {α : Type} {r : En → ResL} {ix : List Nat} {t g : En → Res} {δ : En} {l : List α} {f f' : α → D} {b : α → Bool} (hr : r δ = .ok (l.map f)) (hl : l.length ≤ 16777216) (ht : ∀ a ∈ l, t (cr ix δ (.pu (f a))) = .ok (.bl (b a))) (hg : ∀ a ∈ l, g (cr ix δ (.pu (f a))) = .ok (f' a)) :
  ci r ix t g δ = .ok (.lst ((l.filter b).map f')) := by
 unfold ci
 rw [hr]
 dsimp only
 rw [if_pos (by rw [List.length_map]; exact hl), compL_if (b := b) (f' := f') l fun a ha => by
  rw [turn_if (b := b a) (y := f' a) (ht a ha) fun _ => hg a ha]]
theorem comp_filter {α : Type} {r : En → ResL} {ix : List Nat} {t : En → Res} {δ : En} {l : List α} {f : α → D} {b : α → Bool} (hr : r δ = .ok (l.map f)) (hl : l.length ≤ 16777216) (ht : ∀ a ∈ l, t (cr ix δ (.pu (f a))) = .ok (.bl (b a))) :
  ci r ix t (gVar 0) δ = .ok (.lst ((l.filter b).map f)) := comp_if hr hl ht fun a _ => rfl
theorem comp_map {α : Type} {r : En → ResL} {ix : List Nat} {g : En → Res} {δ : En} {l : List α} {f f' : α → D} (hr : r δ = .ok (l.map f)) (hl : l.length ≤ 16777216) (hg : ∀ a ∈ l, g (cr ix δ (.pu (f a))) = .ok (f' a)) :
  ci r ix (gC (.bl true)) g δ = .ok (.lst (l.map f')) := by
 have := comp_if (b := fun _ => true) (t := gC (.bl true)) hr hl (fun _ _ => rfl) hg
 rwa [List.filter_eq_self.mpr (fun _ _ => rfl)] at this
theorem boolsOf_map {α : Type} (b : α → Bool) : ∀ l : List α, ga (l.map fun a => D.bl (b a)) = some (l.map b)
 | [] => rfl
 | a :: l => by
  show (ga (l.map fun a => D.bl (b a))).map (b a :: ·) = _
  rw [boolsOf_map b l]; rfl
theorem all_map {α : Type} (b : α → Bool) (l : List α) : pyAll (.lst (l.map fun a => D.bl (b a))) = some (.bl (l.all b)) := by
 unfold pyAll
 dsimp only
 rw [boolsOf_map]
 show some (D.bl ((l.map b).all id)) = _
 rw [List.all_map]; rfl
noncomputable def SmpN (n : Nat) (d : D) : Prop := ∃ p, toPy d = some p ∧ PyData.canLay0 p = true ∧ p.depth ≤ n
theorem smpNL {n : Nat} : ∀ {ds : List D}, (∀ d ∈ ds, SmpN n d) → ∃ ps, d5 ds = some ps ∧ PyData.canLayAll0 ps = true ∧ PyData.depthAll ps ≤ n
 | [], _ => ⟨[], rfl, rfl, Nat.zero_le _⟩
 | d :: r, h => by
  obtain ⟨p, e1, e2, e3⟩ := h d List.mem_cons_self
  obtain ⟨ps, f1, f2, f3⟩ := smpNL (ds := r) fun d hd => h d (List.mem_cons_of_mem _ hd)
  refine ⟨p :: ps, by unfold d5; rw [e1, f1], ?_, Nat.max_le.mpr ⟨e3, f3⟩⟩
  show (PyData.canLay0 p && PyData.canLayAll0 ps) = true
  rw [e2, f2]; rfl
theorem smpN_tup {n : Nat} {ds : List D} (h : ∀ d ∈ ds, SmpN n d) : SmpN (n + 1) (.tup ds) := by
 obtain ⟨ps, e1, e2, e3⟩ := smpNL h
 exact ⟨.tuple ps, by unfold toPy; rw [e1], e2, show PyData.depthAll ps + 1 ≤ n + 1 by omega⟩
theorem smpN_lst {n : Nat} {ds : List D} (h : ∀ d ∈ ds, SmpN n d) : SmpN (n + 1) (.lst ds) := by
 obtain ⟨ps, e1, e2, e3⟩ := smpNL h
 exact ⟨.list ps, by unfold toPy; rw [e1], e2, show PyData.depthAll ps + 1 ≤ n + 1 by omega⟩
theorem smpN_int (i : Int) : SmpN 0 (.int i) := ⟨.int i, rfl, rfl, Nat.le_refl _⟩
theorem eq_self {n : Nat} {d : D} (h : SmpN n d) (hn : n ≤ 63) : pyEq d d = some (.bl true) ∧ pyNe d d = some (.bl false) := by
 obtain ⟨p, e1, e2, e3⟩ := h
 have e : eqD d d = some true := by rw [eq_smp e1 e1 e2 (by omega) e2 (by omega), PySem.SeqAt.eqv_refl p e2]
 unfold pyEq pyNe
 rw [e]
 exact ⟨rfl, rfl⟩
noncomputable def tI (ns : List Int) : D := .tup (ns.map D.int)
theorem toPyL_int : ∀ ns : List Int, d5 (ns.map D.int) = some (ns.map PyData.int)
 | [] => rfl
 | n :: ns => by show (match toPy (.int n) with | some p => (match d5 (ns.map D.int) with | some ps => some (p :: ps) | none => none) | none => none) = _; rw [toPyL_int ns]; rfl
theorem lay_int : ∀ ns : List Int, PyData.canLayAll0 (ns.map PyData.int) = true
 | [] => rfl
 | n :: ns => by show (PyData.canLay0 (.int n) && PyData.canLayAll0 (ns.map PyData.int)) = true; rw [lay_int ns]; rfl
theorem deep_int : ∀ ns : List Int, PyData.depthAll (ns.map PyData.int) = 0
 | [] => rfl
 | n :: ns => by
  show max (PyData.depth (.int n)) (PyData.depthAll (ns.map PyData.int)) = 0
  rw [deep_int ns]; rfl
theorem eqv_int : ∀ xs ys : List Int, PyData.eqvAll (xs.map PyData.int) (ys.map PyData.int) = decide (xs = ys)
 | [], [] => rfl
 | [], _ :: _ => rfl
 | _ :: _, [] => rfl
 | x :: xs, y :: ys => by
  show ((x == y) && PyData.eqvAll (xs.map PyData.int) (ys.map PyData.int)) = _
  rw [eqv_int xs ys]
  by_cases h : x = y
  ·subst h; simp
  ·have : (x == y) = false := by simpa using h
   rw [this]; simp [h]
theorem eqD_tI (xs ys : List Int) : eqD (tI xs) (tI ys) = some (decide (xs = ys)) := by
 have t : ∀ l : List Int, toPy (tI l) = some (.tuple (l.map PyData.int)) := fun l => by unfold tI toPy; rw [toPyL_int]
 have d : ∀ l : List Int, PyData.depth (.tuple (l.map PyData.int)) ≤ 63 := fun l => by show PyData.depthAll (l.map PyData.int) + 1 ≤ 63; rw [deep_int]; decide
 rw [eq_smp (t xs) (t ys) (lay_int xs) (d xs) (lay_int ys) (d ys)]
 exact congrArg some (eqv_int xs ys)
theorem eq_tI (xs ys : List Int) : pyEq (tI xs) (tI ys) = some (.bl (decide (xs = ys))) := by unfold pyEq; rw [eqD_tI]; rfl
theorem smpN_tI (xs : List Int) : SmpN 1 (tI xs) := smpN_tup fun d hd => by
 obtain ⟨i, _, rfl⟩ := List.mem_map.mp hd
 exact smpN_int i
theorem ix_tI {xs : List Int} {k : Nat} (h : k < xs.length) : pyIx (tI xs) (.int (k : Int)) = some (.int (xs.getD k 0)) := by
 show L2.atI (xs.map D.int) (k : Int) = _
 refine L2.atI_nat ?_
 rw [List.getElem?_map, List.getElem?_eq_getElem h, List.getD_eq_getElem?_getD, List.getElem?_eq_getElem h]
 rfl
end Pu
end
section
namespace LK
open PySem PySem.Spec PyProof.Rows Pu
noncomputable abbrev scr (ns : List Int) : D := .lst (ns.map D.int)
noncomputable def cellZ (ns : List Int) (k : Int) : Int := if k < ns.length then (ns[k.toNat]?).getD 0 else if ns = [] then 0 else (ns[(k % ns.length).toNat]?).getD 0 * 31 + k
theorem toPyL_ints : ∀ ns : List Int, d5 (ns.map D.int) = some (ns.map PyData.int)
 | [] => rfl
 | n :: ns => by show (match toPy (.int n) with | some p => (match d5 (ns.map D.int) with | some ps => some (p :: ps) | none => none) | none => none) = _; rw [toPyL_ints ns]; rfl
theorem fj : ∀ ns : List Int, PyData.canLayAll0 (ns.map PyData.int) = true
 | [] => rfl
 | n :: ns => by show (PyData.canLay0 (.int n) && PyData.canLayAll0 (ns.map PyData.int)) = true; rw [fj ns]; rfl
theorem depth_ints : ∀ ns : List Int, PyData.depthAll (ns.map PyData.int) ≤ 1
 | [] => by decide
 | n :: ns => by
  show max (PyData.depth (.int n)) (PyData.depthAll (ns.map PyData.int)) ≤ 1
  have := depth_ints ns
  have h : PyData.depth (.int n) ≤ 1 := Nat.zero_le _
  omega
theorem shaped_ints (ns : List Int) : SeqAt.shaped (.list (ns.map PyData.int)) = true := by
 unfold SeqAt.shaped
 have h1 : PyData.canLay0 (.list (ns.map PyData.int)) = true := fj ns
 have h2 : PyData.depth (.list (ns.map PyData.int)) ≤ 2 := by
  have := depth_ints ns
  show PyData.depthAll (ns.map PyData.int) + 1 ≤ 2
  omega
 rw [h1]
 simp only [Bool.true_and, decide_eq_true_eq]
 omega
theorem eq_nil (ns : List Int) : pyEq (scr ns) (.lst []) = some (.bl (decide (ns = []))) := by
 unfold pyEq eqD scr
 have e1 : toPy (.lst (ns.map D.int)) = some (.list (ns.map PyData.int)) := by unfold toPy; rw [toPyL_ints]
 have e2 : toPy (.lst []) = some (.list []) := rfl
 rw [e1, e2]
 dsimp only
 rw [shaped_ints, show SeqAt.shaped (.list []) = true from by decide]
 cases ns <;> rfl
theorem ix_scr (ns : List Int) (k : Int) (h0 : 0 ≤ k) (h1 : k < ns.length) : pyIx (scr ns) (.int k) = some (.int ((ns[k.toNat]?).getD 0)) := by
 show L2.atI (ns.map D.int) k = _
 have hk : k = ((k.toNat : Nat) : Int) := by omega
 have hl : k.toNat < ns.length := by omega
 rw [hk]
 refine (L2.atI_nat (j := k.toNat) (v := D.int ((ns[k.toNat]?).getD 0)) ?_).trans (by rw [← hk])
 rw [List.getElem?_map, List.getElem?_eq_getElem hl]
 rfl
theorem cell_ok (n : Nat) (ns : List Int) (k : Int) (hk : 0 ≤ k) : ae (tab (n + 1)) bq [scr ns, .int k] = .ok (.int (cellZ ns k)) := by
 rw [e_law_cell_at]
 unfold cellZ
 by_cases h1 : k < ns.length
 ·have e1 := ix_scr ns k hk h1
  simp [fe, h1, e1]
 ·by_cases h2 : ns = []
  ·subst h2
   have e2 := eq_nil []
   have h3 : ¬ k < 0 := by omega
   simp [fe, h3, e2]
  ·have hp : 0 < ns.length := by cases ns <;> simp_all
   have hm1 : 0 ≤ k % (ns.length : Int) := Int.emod_nonneg _ (by omega)
   have hm2 : k % (ns.length : Int) < ns.length := Int.emod_lt_of_pos _ (by omega)
   have e1 := ix_scr ns (k % ns.length) hm1 hm2
   have e2 := eq_nil ns
   have e3 := v_mod k ns.length (by omega)
   have e4 := fun a => v_mul a 31 (.inr (by decide))
   simp [fe, h1, h2, e1, e2, e3, e4]
noncomputable def mixZ (ns : List Int) (k m : Int) : Int :=
 let x := (cellZ ns k + 7919 * k + 1) * 48271 % 2147483647
 (x * x + 7 * x + k) % 2147483629 % m
theorem mixed_eq (n : Nat) (ns : List Int) (k m : Int) (hk : 0 ≤ k) (hm : 0 < m) : ae (tab (n + 2)) az [scr ns, .int k, .int m] = .ok (.int (mixZ ns k m)) := by
 rw [e_law_mixed]
 have e0 := cell_ok n ns k hk
 have e1 := v_mul 7919 k (.inl (by decide))
 have e2 := fun a => v_mul a 48271 (.inr (by decide))
 have e3 := fun a => v_mod a 2147483647 (by decide)
 have e4 := fun a => v_mod a 2147483629 (by decide)
 have e5 := fun a => v_mod a m hm
 have e6 := fun a => v_mul 7 a (.inl (by decide))
 have e7 : ∀ a : Int, pyMul (.int (a % 2147483647)) (.int (a % 2147483647)) = some (.int (a % 2147483647 * (a % 2147483647))) := fun a => v_mul _ _ (.inl (by omega))
 simp [b_law_mixed, e0, e1, e2, e3, e4, e5, e6, e7, mixZ]
theorem mixZ_range (ns : List Int) (k m : Int) (hm : 0 < m) : 0 ≤ mixZ ns k m ∧ mixZ ns k m < m := ⟨Int.emod_nonneg _ (by omega), Int.emod_lt_of_pos _ hm⟩
theorem filterMap_of {h : Pu.D → Option Pu.D} {f : Nat → Pu.D} : ∀ (l : List Nat), (∀ j ∈ l, h (.int (0 + (j : Int))) = some (f j)) → (l.map fun (i : Nat) => Pu.D.int (0 + (i : Int))).filterMap h = l.map f
 | [], _ => rfl
 | a :: l, hf => by
  rw [List.map_cons, List.filterMap_cons, hf a List.mem_cons_self]
  dsimp only
  rw [filterMap_of l fun j hj => hf j (List.mem_cons_of_mem _ hj), List.map_cons]
theorem filterMap_range {h : Pu.D → Option Pu.D} {f : Nat → Pu.D} (n : Nat) (hf : ∀ j : Nat, j < n → h (.int (0 + (j : Int))) = some (f j)) : (d8 0 n).filterMap h = (List.range n).map f :=
 filterMap_of _ fun j hj => hf j (List.mem_range.mp hj)
theorem rangeD_len (n : Nat) : (d8 0 n).length = n := by unfold d8; simp
theorem mem_rangeD {n : Nat} {d : Pu.D} (h : d ∈ d8 0 n) : ∃ j : Nat, j < n ∧ d = .int (0 + (j : Int)) := by
 unfold d8 at h
 obtain ⟨j, hj, e⟩ := List.mem_map.mp h
 exact ⟨j, List.mem_range.mp hj, e.symm⟩
theorem comp_range {r : En → ResL} {ix : List Nat} {g : En → Res} {δ : En} {m : Nat} {f : Nat → Pu.D} (hr : r δ = .ok (d8 0 m)) (hm : m ≤ 16777216) (hf : ∀ j : Nat, j < m → g (cr ix δ (.pu (.int (0 + (j : Int))))) = .ok (f j)) :
  ci r ix (gC (.bl true)) g δ = .ok (.lst ((List.range m).map f)) := by
 let h : Pu.D → Option Pu.D := fun d => match d with
  | .int k => some (f k.toNat)
  | _ => none
 have := gComp_ok (r := r) (ix := ix) (t := gC (.bl true)) (g := g) (δ := δ) (h := h) hr (by rw [rangeD_len]; exact hm) fun d hd => by
  obtain ⟨j, hj, rfl⟩ := mem_rangeD hd
  rw [turn_all (hf j hj)]
  show some (some (f j)) = some (some (f (0 + (j : Int)).toNat))
  have : (0 + (j : Int)).toNat = j := by omega
  rw [this]
 rw [this, filterMap_range m (f := f)]
 intro j hj
 show some (f (0 + (j : Int)).toNat) = some (f j)
 have : (0 + (j : Int)).toNat = j := by omega
 rw [this]
noncomputable def rangeI (m : Nat) : List Int := (List.range m).map fun (i : Nat) => 0 + (i : Int)
theorem rangeD_I (m : Nat) : d8 0 m = (rangeI m).map Pu.D.int := by unfold d8 rangeI; rw [List.map_map]; rfl
theorem rangeI_nn {m : Nat} {i : Int} (h : i ∈ rangeI m) : 0 ≤ i ∧ i < m := by
 unfold rangeI at h
 obtain ⟨j, hj, rfl⟩ := List.mem_map.mp h
 have := List.mem_range.mp hj
 omega
noncomputable def colI (cs : List Nat) : List Int := cs.map fun (c : Nat) => (c : Int)
theorem tI_map (cs : List Nat) : tI (colI cs) = .tup (cs.map fun (c : Nat) => Pu.D.int (c : Int)) := by unfold tI colI; rw [List.map_map]; rfl
structure Good (m : Nat) (cs : List Nat) : Prop where
 lt : ∀ c ∈ cs, c < m
 ris : cs.Pairwise (· < ·)
theorem pw_len : ∀ {cs : List Nat} {k m : Nat}, (∀ c ∈ cs, k ≤ c ∧ c < m) → cs.Pairwise (· < ·) → cs.length ≤ m - k
 | [], _, _, _, _ => Nat.zero_le _
 | a :: r, k, m, h, p => by
  obtain ⟨p1, p2⟩ := List.pairwise_cons.mp p
  have h1 := h a List.mem_cons_self
  have := pw_len (cs := r) (k := a + 1) (m := m) (fun c hc => ⟨p1 c hc, (h c (List.mem_cons_of_mem _ hc)).2⟩) p2
  rw [List.length_cons]; omega
theorem Good.len {m : Nat} {cs : List Nat} (g : Good m cs) : cs.length ≤ m := by
 have := pw_len (k := 0) (fun c hc => ⟨Nat.zero_le _, g.lt c hc⟩) g.ris
 omega
theorem Good.filter {m : Nat} {cs : List Nat} (g : Good m cs) (p : Nat → Bool) : Good m (cs.filter p) := ⟨fun c hc => g.lt c (List.mem_filter.mp hc).1, List.Pairwise.filter _ g.ris⟩
noncomputable def colB (ns : List Int) (k sh : Int) (j : Nat) : Bool := mixZ ns (k + (0 + (j : Int))) sh == 0
theorem columns_eq (n : Nat) (ns : List Int) (k m sh : Int) (hk : 0 ≤ k) (hm : 0 ≤ m) (hm2 : m ≤ 1000) (hsh : 0 < sh) : ∃ cs : List Nat, Good m.toNat cs ∧ ae (tab (n + 3)) af [scr ns, .int k, .int m, .int sh] = .ok (tI (colI cs)) := by
 rw [e_law_columns]
 refine ⟨(List.range m.toNat).filter (colB ns k sh), ⟨fun c hc => List.mem_range.mp (List.mem_filter.mp hc).1, ?_⟩, ?_⟩
 ·exact List.Pairwise.filter _ List.pairwise_lt_range
 have hc : ci (dj (Pu.aa (gArg 2) Pu.gNil)) [1, 0, 3] (g2 pyEq (bp (ae (tab (n + 2)) az) (Pu.aa (gArg 2) (Pu.aa (g2 cf (gArg 1) (gArg 0)) (Pu.aa (gArg 3) Pu.gNil)))) (gC (.int 0))) (gVar 0) [.bo (scr ns), .bo (.int k), .bo (.int m), .bo (.int sh)]
   = .ok (.lst (((List.range m.toNat).filter (colB ns k sh)).map fun (i : Nat) => Pu.D.int (0 + (i : Int)))) := by
  refine comp_filter (f := fun (i : Nat) => Pu.D.int (0 + (i : Int))) ((v_range1 _ _ (j' := m) (by simp) (by omega)).trans rfl) (by rw [List.length_range]; omega) fun j hj => ?_
  have e := mixed_eq n ns (k + (0 + (j : Int))) sh (by omega) hsh
  unfold colB
  generalize (0 + (j : Int)) = z at e ⊢
  simp [cr, e]
 rw [tI_map]
 have e0 : ∀ l : List Nat, (l.map fun (i : Nat) => Pu.D.int (0 + (i : Int))) = l.map fun (c : Nat) => Pu.D.int (c : Int) := fun l => by simp
 rw [e0] at hc
 simp -implicitDefEqProofs [b_law_columns, hc]
noncomputable def bondD (L R : List Nat) : Pu.D := .tup [tI (colI L), tI (colI R)]
theorem ce {fn : List Pu.D → Res} {r : En → ResL} {δ : En} {ds : List Pu.D} {x : Res} (h1 : r δ = .ok ds) (h2 : fn ds = x) : bp fn r δ = x := by
 unfold bp
 rw [h1]
 exact h2
theorem is_number_eq (n : Nat) (i : Int) : ae (tab (n + 1)) bx [.int i] = .ok (.bl true) := by
 rw [e_is_number]
 simp [b_is_number]
noncomputable def lamD (m : Int) : Pu.D := .obj di [("many", .int m)]
theorem lam_eq (n : Nat) (m i : Int) (h0 : 0 ≤ i) (h1 : i < m) : (tab (n + 3)).lam di [("many", .int m)] [.int i] = .ok (.bl true) := by
 rw [el_is_columns (n + 1)]
 have e := is_number_eq n i
 simp -implicitDefEqProofs [c_is_columns, e, h0, h1]
theorem callX_lam (n : Nat) (m i : Int) (h0 : 0 ≤ i) (h1 : i < m) : gCallX (tab (n + 3)) 1 [(gArg 0, gVar 0)] [.pu (.int i), .bo (lamD m)] = .ok (.bl true) := by
 have e := lam_eq n m i h0 h1
 show bp (fun ds => okO ((tab (n + 3)).lam di [("many", .int m)] ds)) (selA [false] [(gArg 0, gVar 0)]) [.pu (.int i), .bo (lamD m)] = _
 refine ce (ds := [.int i]) ?_ ?_
 ·simp [selA]
 ·show okO ((tab (n + 3)).lam di [("many", .int m)] [.int i]) = _
  rw [e]; rfl
theorem all_true {α : Type} (l : List α) : pyAll (.lst (l.map fun _ => Pu.D.bl true)) = some (.bl true) := by
 rw [all_map (fun _ => true) l]
 simp
theorem tuple_of_eq (n : Nat) (m : Int) {cs : List Nat} (h : ∀ c ∈ cs, (c : Int) < m) (hl : (cs.length : Int) ≤ m) (hm : m ≤ 1000) : ae (tab (n + 3)) bj [tI (colI cs), .int 0, .int m, lamD m] = .ok (.bl true) := by
 rw [e_is_tuple_of (n + 2), tI_map]
 have hc : ci (cq (gArg 0)) [3] (gC (.bl true)) (gCallX (tab (n + 3)) 1 [(gArg 0, gVar 0)]) [.bo (.tup (cs.map fun (c : Nat) => Pu.D.int (c : Int))), .bo (.int 0), .bo (.int m), .bo (lamD m)] = .ok (.lst (cs.map fun _ => Pu.D.bl true)) :=
  comp_map (f := fun (c : Nat) => Pu.D.int (c : Int)) (by simp) (by omega) fun c hc => by
   have := callX_lam n m (c : Int) (by omega) (h c hc)
   show gCallX (tab (n + 3)) 1 [(gArg 0, gVar 0)] [.pu (.int (c : Int)), .bo (lamD m)] = _
   exact this
 have ha := all_true cs
 simp -implicitDefEqProofs [b_is_tuple_of, hc, ha, hl]
theorem rising_eq (n : Nat) {cs : List Nat} (hp : cs.Pairwise (· < ·)) (hl : cs.length ≤ 1000) : ae (tab (n + 1)) br [tI (colI cs)] = .ok (.bl true) := by
 rw [e_are_rising]
 have len : (colI cs).length = cs.length := by unfold colI; simp
 have get : ∀ j, j < cs.length → (colI cs).getD j 0 = ((cs.getD j 0 : Nat) : Int) := fun j hj => by unfold colI; simp [hj]
 have hc : ci (dj (Pu.aa (g2 pySub (g1 Pu.pyLen (gArg 0)) (gC (.int 1))) Pu.gNil)) [0] (gC (.bl true)) (g2 pyLtI (g2 pyIx (gArg 1) (gArg 0)) (g2 pyIx (gArg 1) (g2 cf (gArg 0) (gC (.int 1))))) [.bo (tI (colI cs))] = .ok (.lst ((List.range (cs.length - 1)).map fun _ => Pu.D.bl true)) := by
  refine comp_range (m := cs.length - 1) ?_ (by omega) fun j hj => ?_
  ·have : ((cs.length : Int) - 1).toNat = cs.length - 1 := by omega
   rw [← this]
   exact Pu.v_range1 _ _ (j' := (cs.length : Int) - 1) (by simp [tI, len]) (by omega)
  ·have e1 := ix_tI (xs := colI cs) (k := j) (by rw [len]; omega)
   have e2 := ix_tI (xs := colI cs) (k := j + 1) (by rw [len]; omega)
   rw [get j (by omega)] at e1
   rw [get (j + 1) (by omega)] at e2
   have lt : cs.getD j 0 < cs.getD (j + 1) 0 := by
    have h1 : j < cs.length := by omega
    have h2 : j + 1 < cs.length := by omega
    have := List.pairwise_iff_getElem.mp hp j (j + 1) h1 h2 (Nat.lt_succ_self j)
    simpa [h1, h2] using this
   have e3 : (0 + (j : Int)) + 1 = ((j + 1 : Nat) : Int) := by push_cast; omega
   have e4 : (0 + (j : Int)) = ((j : Nat) : Int) := by omega
   have d : decide (((cs.getD j 0 : Nat) : Int) < ((cs.getD (j + 1) 0 : Nat) : Int)) = true := decide_eq_true (by omega)
   show (g2 pyLtI (g2 pyIx (gArg 1) (gArg 0)) (g2 pyIx (gArg 1) (g2 cf (gArg 0) (gC (.int 1))))) [.pu (.int (0 + (j : Int))), .bo (tI (colI cs))] = _
   simp only [Pu.v_g2, Pu.v_arg, Pu.v_c, List.getElem?_cons_zero, List.getElem?_cons_succ, Pu.cb, Pu.fg, Pu.v_add, e3]
   rw [e4, e1, e2]
   simp only [Pu.fg, Pu.cb, Pu.v_lt, d]
 have ha := all_true (List.range (cs.length - 1))
 simp -implicitDefEqProofs [b_are_rising, hc, ha]
theorem columns_ok (n : Nat) {m : Nat} {cs : List Nat} (g : Good m cs) (hm : m ≤ 1000) : ae (tab (n + 4)) bb [tI (colI cs), .int (m : Int)] = .ok (.bl true) := by
 rw [e_is_columns (n + 3)]
 have e1 := tuple_of_eq n (m : Int) (cs := cs) (fun c hc => by have := g.lt c hc; omega) (by have := g.len; omega) (by omega)
 have e2 := rising_eq (n + 2) g.ris (by have := g.len; omega)
 have hl : gLamI di ["many"] [1] [.bo (tI (colI cs)), .pu (.int (m : Int))] = .ok (lamD (m : Int)) := rfl
 simp -implicitDefEqProofs [b_is_columns, hl, e1, e2]
structure GoodB (m : Nat) (b : List Nat × List Nat) : Prop where
 l : Good m b.1
 r : Good m b.2
theorem bond_ok (n : Nat) {m : Nat} {b : List Nat × List Nat} (g : GoodB m b) (hm : m ≤ 1000) : ae (tab (n + 5)) ca [bondD b.1 b.2, .int (m : Int)] = .ok (.bl true) := by
 rw [e_is_bond (n + 4)]
 have e1 := columns_ok n g.l hm
 have e2 := columns_ok n g.r hm
 have e3 : ae (tab (n + 4)) cc [bondD b.1 b.2] = .ok (.bl true) := by
  rw [e_is_pair (n + 3)]
  unfold bondD
  simp -implicitDefEqProofs [b_is_pair]
 unfold bondD at e3 ⊢
 simp -implicitDefEqProofs [b_is_bond, e1, e2, e3]
noncomputable def bsD (bs : List (List Nat × List Nat)) : Pu.D := .lst (bs.map fun b => bondD b.1 b.2)
theorem checked_bonds_ok (n : Nat) {m : Nat} {bs : List (List Nat × List Nat)} (g : ∀ b ∈ bs, GoodB m b) (h1 : 1 ≤ m) (h6 : m ≤ 6) (hb : bs.length ≤ 10) : ae (tab (n + 6)) aq [bsD bs, .int (m : Int)] = .ok (bsD bs) := by
 rw [e_checked_bonds (n + 5)]
 have e1 := is_number_eq (n + 4) (m : Int)
 have hc : ci (cq (gArg 0)) [1] (gC (.bl true)) (bp (ae (tab (n + 5)) ca) (Pu.aa (gArg 0) (Pu.aa (gVar 1) Pu.gNil))) [.pu (bsD bs), .pu (.int (m : Int))] = .ok (.lst (bs.map fun _ => Pu.D.bl true)) :=
  comp_map (f := fun b => bondD b.1 b.2) (by simp [bsD]) (by omega) fun b hb => by
   have e := bond_ok n (g b hb) (by omega)
   show bp (ae (tab (n + 5)) ca) (Pu.aa (gArg 0) (Pu.aa (gVar 1) Pu.gNil)) [.pu (bondD b.1 b.2), .pu (.int (m : Int))] = _
   exact ce (ds := [bondD b.1 b.2, .int (m : Int)]) (by simp) e
 have ha := all_true bs
 have q1 : (1 : Int) ≤ m := by omega
 have q2 : (m : Int) ≤ 6 := by omega
 have q3 : ¬ (10 : Int) < (bs.length : Int) := by omega
 unfold bsD at hc ⊢
 simp -implicitDefEqProofs [b_checked_bonds, e1, hc, ha, q1, q2, q3]
theorem toPyL_nats : ∀ S : List Nat, d5 (ai S) = some (S.map fun (k : Nat) => PyData.int (k : Int))
 | [] => rfl
 | k :: S => by
  show (match toPy (.int (k : Int)) with | some p => (match d5 (ai S) with | some ps => some (p :: ps) | none => none) | none => none) = _
  rw [toPyL_nats S]; rfl
theorem lay_nats : ∀ S : List Nat, PyData.canLayAll0 (S.map fun (k : Nat) => PyData.int (k : Int)) = true
 | [] => rfl
 | k :: S => by show (PyData.canLay0 (.int (k : Int)) && PyData.canLayAll0 (S.map fun (k : Nat) => PyData.int (k : Int))) = true; rw [lay_nats S]; rfl
theorem any_nats (c : Nat) : ∀ S : List Nat, ((S.map fun (k : Nat) => PyData.int (k : Int)).any fun y => PyData.eqv y (.int (c : Int))) = decide (c ∈ S)
 | [] => rfl
 | k :: S => by
  rw [List.map_cons, List.any_cons, any_nats c S]
  show (((k : Int) == (c : Int)) || decide (c ∈ S)) = _
  by_cases h : c = k
  ·subst h; simp
  ·have : ((k : Int) == (c : Int)) = false := beq_eq_false_iff_ne.mpr fun z => h (by omega)
   rw [this]; simp [h]
theorem inB_nats (c : Nat) (S : List Nat) : pyInB (.int (c : Int)) (.lst (ai S)) = some (decide (c ∈ S)) ∧ pyInB (.int (c : Int)) (.tup (ai S)) = some (decide (c ∈ S)) := by
 have e : (match d5 (ai S), toPy (.int (c : Int)) with
  | some ps, some q => if PyData.canLayAll0 ps && SeqAt.shaped q then some (ps.any fun y => PyData.eqv y q) else none
  | _, _ => none) = some (decide (c ∈ S)) := by
  rw [toPyL_nats]
  show (if PyData.canLayAll0 (S.map fun (k : Nat) => PyData.int (k : Int)) && SeqAt.shaped (.int (c : Int)) then some ((S.map fun (k : Nat) => PyData.int (k : Int)).any fun y => PyData.eqv y (.int (c : Int))) else none) = _
  rw [lay_nats, any_nats]
  rfl
 exact ⟨e, e⟩
theorem in_nats (c : Nat) (S : List Nat) : pyIn (.int (c : Int)) (.lst (ai S)) = some (.bl (decide (c ∈ S))) ∧ ft (.int (c : Int)) (.lst (ai S)) = some (.bl (!decide (c ∈ S))) ∧ pyIn (.int (c : Int)) (.tup (ai S)) = some (.bl (decide (c ∈ S))) := by
 unfold pyIn ft
 rw [(inB_nats c S).1, (inB_nats c S).2]
 exact ⟨rfl, rfl, rfl⟩
noncomputable def tN (S : List Nat) : Pu.D := .tup (ai S)
theorem tI_nats (S : List Nat) : tI (colI S) = tN S := tI_map S
noncomputable def sub (cs rs : List Nat) : Bool := cs.all fun c => decide (c ∈ rs)
theorem cg {cs rs : List Nat} : sub cs rs = true ↔ ∀ c ∈ cs, c ∈ rs := by
 unfold sub
 rw [List.all_eq_true]
 exact ⟨fun h c hc => of_decide_eq_true (h c hc), fun h c hc => decide_eq_true (h c hc)⟩
theorem lies_eq (n : Nat) (cs rs : List Nat) (hl : cs.length ≤ 1000) : ae (tab (n + 1)) be [tN cs, .lst (ai rs)] = .ok (.bl (sub cs rs)) := by
 rw [e_lies_in]
 have hc : ci (cq (gArg 0)) [1] (gC (.bl true)) (g2 pyIn (gArg 0) (gArg 1)) [.bo (tN cs), .bo (.lst (ai rs))] = .ok (.lst (cs.map fun c => Pu.D.bl (decide (c ∈ rs)))) :=
  comp_map (f := fun (c : Nat) => Pu.D.int (c : Int)) (by simp [tN, ai]) (by omega) fun c hc => by
   have e := (in_nats c rs).1
   show (g2 pyIn (gArg 0) (gArg 1)) [.pu (.int (c : Int)), .bo (.lst (ai rs))] = _
   simp [e]
 have ha := all_map (fun c => decide (c ∈ rs)) cs
 simp -implicitDefEqProofs [b_lies_in, hc, ha, sub]
noncomputable abbrev Bd := List Nat × List Nat
noncomputable def bD' (b : Bd) : Pu.D := .tup [tN b.1, tN b.2]
theorem bondD_eq (b : Bd) : bondD b.1 b.2 = bD' b := by unfold bondD bD'; rw [tI_nats, tI_nats]
noncomputable def bsN (bs : List Bd) : Pu.D := .lst (bs.map bD')
theorem bsD_eq (bs : List Bd) : bsD bs = bsN bs := by
 unfold bsD bsN
 congr 1
 exact List.map_congr_left fun b _ => bondD_eq b
noncomputable def nextP : List Bd → Nat → List Nat → Option Nat
 | [], _, _ => none
 | b :: r, i, rs => if sub b.1 rs && !sub b.2 rs then some i else nextP r (i + 1) rs
noncomputable def nD : Option Nat → Pu.D
 | some i => .int (i : Int)
 | none => .non
noncomputable def nxB (n : Nat) : En → Out := (sIf (gAnd (gTru (bp (ae (tab n) be) (Pu.aa (g2 pyIx (gArg 3) (gC (.int 0))) (Pu.aa (gArg 1) Pu.gNil)))) (gNot (gTru (bp (ae (tab n) be) (Pu.aa (g2 pyIx (gArg 3) (gC (.int 1))) (Pu.aa (gArg 1) Pu.gNil)))))) (fz [2] (sRet (gVar 2))) sNil)
theorem nxB_at (n : Nat) {b : Bd} {rs : List Nat} {i : Nat} {v0 : Sl} (h1 : b.1.length ≤ 1000) (h2 : b.2.length ≤ 1000) : nxB (n + 1) [v0, .bo (.lst (ai rs)), .pu (.int (i : Int)), .pu (bD' b)] = if sub b.1 rs && !sub b.2 rs then .rt (.int (i : Int)) else .nx [v0, .bo (.lst (ai rs)), .pu (.int (i : Int)), .pu (bD' b)] := by
 have e1 := lies_eq n b.1 rs h1
 have e2 := lies_eq n b.2 rs h2
 have c1 : bp (ae (tab (n + 1)) be) (Pu.aa (g2 pyIx (gArg 3) (gC (.int 0))) (Pu.aa (gArg 1) Pu.gNil)) [v0, .bo (.lst (ai rs)), .pu (.int (i : Int)), .pu (bD' b)] = .ok (.bl (sub b.1 rs)) := ce (ds := [tN b.1, .lst (ai rs)]) (by simp [bD']) e1
 have c2 : bp (ae (tab (n + 1)) be) (Pu.aa (g2 pyIx (gArg 3) (gC (.int 1))) (Pu.aa (gArg 1) Pu.gNil)) [v0, .bo (.lst (ai rs)), .pu (.int (i : Int)), .pu (bD' b)] = .ok (.bl (sub b.2 rs)) := ce (ds := [tN b.2, .lst (ai rs)]) (by simp [bD']) e2
 unfold nxB
 rw [Pu.v_if, Pu.v_and, Pu.v_tru, c1, Pu.v_not, Pu.v_tru, c2]
 cases sub b.1 rs <;> cases sub b.2 rs <;> simp
theorem nx_loop (n : Nat) {rs : List Nat} {v0 : Sl} : ∀ (bs : List Bd) (i : Nat) (v2 v3 : Sl), (∀ b ∈ bs, b.1.length ≤ 1000 ∧ b.2.length ≤ 1000) →
  (∃ j, nextP bs i rs = some j ∧ turns (gtTup [2, 3]) (nxB (n + 1)) (enumD i (bs.map bD')) [v0, .bo (.lst (ai rs)), v2, v3] = .rt (.int (j : Int))) ∨ (nextP bs i rs = none ∧ ∃ w2 w3, turns (gtTup [2, 3]) (nxB (n + 1)) (enumD i (bs.map bD')) [v0, .bo (.lst (ai rs)), v2, v3] = .nx [v0, .bo (.lst (ai rs)), w2, w3]) := by
 intro bs
 induction bs with
 | nil => intro i v2 v3 _; exact .inr ⟨rfl, v2, v3, rfl⟩
 | cons b bs ih =>
  intro i v2 v3 h
  obtain ⟨h1, h2⟩ := h b List.mem_cons_self
  rw [List.map_cons, enumD, fu (δ1 := [v0, .bo (.lst (ai rs)), .pu (.int (i : Int)), .pu (bD' b)]) rfl, nxB_at n h1 h2]
  unfold nextP
  by_cases hb : (sub b.1 rs && !sub b.2 rs) = true
  ·rw [if_pos hb, if_pos hb]
   exact .inl ⟨i, rfl, rfl⟩
  ·rw [if_neg hb, if_neg hb]
   exact ih (i + 1) _ _ fun c hc => h c (List.mem_cons_of_mem _ hc)
theorem next_eq (n : Nat) {bs : List Bd} {rs : List Nat} (h : ∀ b ∈ bs, b.1.length ≤ 1000 ∧ b.2.length ≤ 1000) : ae (tab (n + 2)) bi [bsN bs, .lst (ai rs)] = .ok (nD (nextP bs 0 rs)) := by
 rw [e_next_step (n + 1)]
 have hs0 : sFor (gtTup [2, 3]) (gEnum (gBo 0)) (nxB (n + 1)) [.bo (bsN bs), .bo (.lst (ai rs)), .no, .no] = turns (gtTup [2, 3]) (nxB (n + 1)) (enumD 0 (bs.map bD')) [.bo (bsN bs), .bo (.lst (ai rs)), .no, .no] := sFor_ok (by simp [gEnum, bsN])
 unfold nxB at hs0
 rcases nx_loop n bs 0 .no .no h (v0 := .bo (bsN bs)) (rs := rs) with ⟨j, e, t⟩ | ⟨e, w2, w3, t⟩
 ·unfold nxB at t
  rw [t] at hs0
  rw [e]
  simp -implicitDefEqProofs [b_next_step, hs0, nD]
 ·unfold nxB at t
  rw [t] at hs0
  rw [e]
  simp -implicitDefEqProofs [b_next_step, hs0, nD]
inductive Run (bs : List Bd) (wt : List Nat) : List Nat → List Nat → List Nat → Prop
 | stop {rs : List Nat} (h : nextP bs 0 rs = none ∨ sub wt rs = true) : Run bs wt rs [] rs
 | step {rs ss rs' : List Nat} {i : Nat} {b : Bd} (h1 : nextP bs 0 rs = some i) (h2 : sub wt rs = false) (h3 : bs[i]? = some b) (h4 : Run bs wt (rs ++ b.2) ss rs') : Run bs wt rs (i :: ss) rs'
theorem nextP_some : ∀ {bs : List Bd} {i j : Nat} {rs : List Nat}, nextP bs i rs = some j → ∃ b, i ≤ j ∧ bs[j - i]? = some b ∧ sub b.1 rs = true ∧ sub b.2 rs = false
 | [], _, _, _, h => by cases h
 | b :: r, i, j, rs, h => by
  unfold nextP at h
  by_cases hb : (sub b.1 rs && !sub b.2 rs) = true
  ·rw [if_pos hb] at h
   cases h
   rw [Bool.and_eq_true] at hb
   exact ⟨b, Nat.le_refl _, by simp, hb.1, by simpa using hb.2⟩
  ·rw [if_neg hb] at h
   obtain ⟨c, h1, h2, h3⟩ := nextP_some h
   exact ⟨c, by omega, by rw [show j - i = (j - (i + 1)) + 1 by omega]; simpa using h2, h3⟩
theorem nextP_none : ∀ {bs : List Bd} {i : Nat} {rs : List Nat}, nextP bs i rs = none → ∀ b ∈ bs, sub b.1 rs = true → sub b.2 rs = true
 | [], _, _, _, b, hb, _ => by simp at hb
 | c :: r, i, rs, h, b, hb, h1 => by
  unfold nextP at h
  by_cases hc : (sub c.1 rs && !sub c.2 rs) = true
  ·rw [if_pos hc] at h; cases h
  ·rw [if_neg hc] at h
   rcases List.mem_cons.mp hb with rfl | hb
   ·rw [h1, Bool.true_and] at hc
    simpa using hc
   ·exact nextP_none h b hb h1
noncomputable def todo (bs : List Bd) (rs : List Nat) : Nat := (bs.filter fun b => !sub b.2 rs).length
theorem sub_app {cs rs ts : List Nat} (h : sub cs rs = true) : sub cs (rs ++ ts) = true := cg.mpr fun c hc => List.mem_append_left _ (cg.mp h c hc)
theorem sub_self (rs ts : List Nat) : sub ts (rs ++ ts) = true := cg.mpr fun c hc => List.mem_append_right _ hc
theorem len_filter_lt {α : Type} {p q : α → Bool} : ∀ {l : List α} {a : α}, (∀ x, q x = true → p x = true) → a ∈ l → p a = true → q a = false → (l.filter q).length < (l.filter p).length
 | [], _, _, h, _, _ => by simp at h
 | x :: r, a, hpq, h, h1, h2 => by
  have le : ∀ l : List α, (l.filter q).length ≤ (l.filter p).length := fun l => by
   induction l with
   | nil => exact Nat.le_refl _
   | cons y r ih =>
    rw [List.filter_cons, List.filter_cons]
    cases e : q y with
    | true => rw [hpq y e]; simp; exact ih
    | false =>
     cases p y
     ·exact ih
     ·simp; omega
  rw [List.filter_cons, List.filter_cons]
  rcases List.mem_cons.mp h with rfl | h
  ·rw [h1, h2]
   have := le r
   simp; omega
  ·have := len_filter_lt hpq h h1 h2
   cases e : q x with
   | true => rw [hpq x e]; simp; exact this
   | false =>
    cases p x
    ·exact this
    ·simp; omega
theorem todo_lt {bs : List Bd} {rs : List Nat} {b : Bd} (hb : b ∈ bs) (h : sub b.2 rs = false) : todo bs (rs ++ b.2) < todo bs rs := by
 refine len_filter_lt (a := b) (fun x hx => ?_) hb (by rw [h]; rfl) (by rw [sub_self]; rfl)
 cases e : sub x.2 rs with
 | false => rfl
 | true => rw [sub_app e] at hx; cases hx
noncomputable def wkC (n : Nat) : En → Res := (gAnd (g2 pyIsNotN (gArg 5) (gC .non)) (gNot (gTru (bp (ae (tab n) be) (Pu.aa (gArg 2) (Pu.aa (gArg 3) Pu.gNil))))))
noncomputable def wkB (n : Nat) : En → Out := (sSeq (fz [5] (sApp 4 (gVar 5)))
 (sSeq (sExt 3 (g2 pyIx (g2 pyIx (gArg 0) (gArg 5)) (gC (.int 1))))
 (sSet 5 (bp (ae (tab n) bi) (Pu.aa (gArg 0) (Pu.aa (gArg 3) Pu.gNil))))))
section
variable {bs : List Bd} {wt : List Nat} {v1 : Sl}
theorem natsD_app (a b : List Nat) : ai (a ++ b) = ai a ++ ai b := List.map_append
theorem fx (a : List Nat) : (ai a).length = a.length := List.length_map ..
theorem ix_bs {i : Nat} {b : Bd} (h : bs[i]? = some b) : pyIx (bsN bs) (.int (i : Int)) = some (bD' b) := by
 show L2.atI (bs.map bD') (i : Int) = _
 refine L2.atI_nat ?_
 rw [List.getElem?_map, h]
 rfl
theorem wkC_at (n : Nat) (hw : wt.length ≤ 1000) (rs st : List Nat) (o : Option Nat) : wkC (n + 1) [.bo (bsN bs), v1, .bo (tN wt), .ow (ai rs), .ow (ai st), .pu (nD o)] = .ok (.bl (o.isSome && !sub wt rs)) := by
 have c1 : bp (ae (tab (n + 1)) be) (Pu.aa (gArg 2) (Pu.aa (gArg 3) Pu.gNil)) [.bo (bsN bs), v1, .bo (tN wt), .ow (ai rs), .ow (ai st), .pu (nD o)] = .ok (.bl (sub wt rs)) := ce (ds := [tN wt, .lst (ai rs)]) (by simp) (lies_eq n wt rs hw)
 unfold wkC
 rw [Pu.v_and, Pu.v_not, Pu.v_tru, c1]
 cases o with
 | none => simp [nD, isNon]
 | some i => cases sub wt rs <;> simp [nD, isNon]
theorem wkB_at (n : Nat) (hg : ∀ b ∈ bs, b.1.length ≤ 10 ∧ b.2.length ≤ 10) {rs st : List Nat} {i : Nat} {b : Bd} (h3 : bs[i]? = some b) (hr : rs.length ≤ 1000) (hs : st.length ≤ 1000) :
  wkB (n + 2) [.bo (bsN bs), v1, .bo (tN wt), .ow (ai rs), .ow (ai st), .pu (.int (i : Int))] = .nx [.bo (bsN bs), v1, .bo (tN wt), .ow (ai (rs ++ b.2)), .ow (ai (st ++ [i])), .pu (nD (nextP bs 0 (rs ++ b.2)))] := by
 have hb := (hg b (List.mem_of_getElem? h3)).2
 have s1 : fz [5] (sApp 4 (gVar 5)) [.bo (bsN bs), v1, .bo (tN wt), .ow (ai rs), .ow (ai st), .pu (.int (i : Int))] = .nx [.bo (bsN bs), v1, .bo (tN wt), .ow (ai rs), .ow (ai (st ++ [i])), .pu (.int (i : Int))] := by
  have : st.length < 16777216 := by omega
  simp [this, natsD_app, ai]
 have s2 : sExt 3 (g2 pyIx (g2 pyIx (gArg 0) (gArg 5)) (gC (.int 1))) [.bo (bsN bs), v1, .bo (tN wt), .ow (ai rs), .ow (ai (st ++ [i])), .pu (.int (i : Int))] = .nx [.bo (bsN bs), v1, .bo (tN wt), .ow (ai (rs ++ b.2)), .ow (ai (st ++ [i])), .pu (.int (i : Int))] := by
  have e := ix_bs h3
  have : (ai rs).length + (ai b.2).length ≤ 16777216 := by rw [fx, fx]; omega
  simp [e, bD', tN, this, natsD_app]
 have s3 : bp (ae (tab (n + 2)) bi) (Pu.aa (gArg 0) (Pu.aa (gArg 3) Pu.gNil)) [.bo (bsN bs), v1, .bo (tN wt), .ow (ai (rs ++ b.2)), .ow (ai (st ++ [i])), .pu (.int (i : Int))] = .ok (nD (nextP bs 0 (rs ++ b.2))) :=
  ce (ds := [bsN bs, .lst (ai (rs ++ b.2))]) (by simp) (next_eq n fun c hc => by have := hg c hc; omega)
 unfold wkB
 rw [Pu.fh, s1]
 dsimp only
 rw [Pu.fh, s2]
 dsimp only
 rw [Pu.v_set, s3]
 rfl
theorem wk_loop (n : Nat) (hg : ∀ b ∈ bs, b.1.length ≤ 10 ∧ b.2.length ≤ 10) (hw : wt.length ≤ 1000) : ∀ (k : Nat) (rs st : List Nat) (fuel : Nat), todo bs rs ≤ k → k < fuel → rs.length + 10 * k ≤ 1000 → st.length + k ≤ 1000 →
  ∃ ss rs' o, Run bs wt rs ss rs' ∧ whileN (wkC (n + 2)) (wkB (n + 2)) fuel [.bo (bsN bs), v1, .bo (tN wt), .ow (ai rs), .ow (ai st), .pu (nD (nextP bs 0 rs))] = .nx [.bo (bsN bs), v1, .bo (tN wt), .ow (ai rs'), .ow (ai (st ++ ss)), .pu o] := by
 intro k
 induction k with
 | zero =>
  intro rs st fuel ht hf hr hs
  obtain ⟨f, rfl⟩ : ∃ f, fuel = f + 1 := ⟨fuel - 1, by omega⟩
  have hn : nextP bs 0 rs = none := by
   cases e : nextP bs 0 rs with
   | none => rfl
   | some i =>
    obtain ⟨b, _, h2, _, h4⟩ := nextP_some e
    have := todo_lt (List.mem_of_getElem? h2) h4
    omega
  refine ⟨[], rs, nD (nextP bs 0 rs), .stop (.inl hn), ?_⟩
  rw [List.append_nil]
  unfold whileN
  rw [wkC_at (n + 1) hw, hn]
  rfl
 | succ k ih =>
  intro rs st fuel ht hf hr hs
  obtain ⟨f, rfl⟩ : ∃ f, fuel = f + 1 := ⟨fuel - 1, by omega⟩
  cases e : nextP bs 0 rs with
  | none =>
   refine ⟨[], rs, nD none, .stop (.inl e), ?_⟩
   rw [List.append_nil]
   unfold whileN
   rw [wkC_at (n + 1) hw]
   rfl
  | some i =>
   cases hsub : sub wt rs with
   | true =>
    refine ⟨[], rs, nD (some i), .stop (.inr hsub), ?_⟩
    rw [List.append_nil]
    unfold whileN
    rw [wkC_at (n + 1) hw, hsub]
    rfl
   | false =>
    obtain ⟨b, _, h2, h3, h4⟩ := nextP_some e
    have h2' : bs[i]? = some b := by simpa using h2
    have lt := todo_lt (List.mem_of_getElem? h2) h4
    have hb := (hg b (List.mem_of_getElem? h2)).2
    obtain ⟨ss, rs', o, R, w⟩ := ih (rs ++ b.2) (st ++ [i]) f (by omega) (by omega) (by rw [List.length_append]; omega) (by rw [List.length_append]; simp; omega)
    refine ⟨i :: ss, rs', o, .step e hsub h2' R, ?_⟩
    unfold whileN
    rw [wkC_at (n + 1) hw, hsub]
    show (match wkB (n + 2) [.bo (bsN bs), v1, .bo (tN wt), .ow (ai rs), .ow (ai st), .pu (.int (i : Int))] with
     | .nx δ' => whileN (wkC (n + 2)) (wkB (n + 2)) f δ'
     | .ct δ' => whileN (wkC (n + 2)) (wkB (n + 2)) f δ'
     | .bk δ' => .nx δ'
     | o => o) = _
    rw [wkB_at n hg h2' (by omega) (by omega)]
    dsimp only
    rw [w, List.append_assoc]
    rfl
theorem todo_le (rs : List Nat) : todo bs rs ≤ bs.length := List.length_filter_le _ _
theorem walked_eq (n : Nat) (hg : ∀ b ∈ bs, b.1.length ≤ 10 ∧ b.2.length ≤ 10) (hw : wt.length ≤ 1000) (hb : bs.length ≤ 80) (cs : List Nat) (hc : cs.length ≤ 100) :
  ∃ ss rs', Run bs wt cs ss rs' ∧ ae (tab (n + 3)) cj [bsN bs, tN cs, tN wt] = .ok (.tup [.lst (ai ss), .lst (ai rs')]) := by
 obtain ⟨ss, rs', o, R, w⟩ := wk_loop n hg hw (v1 := .bo (tN cs)) bs.length cs [] wFuel (todo_le cs) (by unfold wFuel; omega) (by omega) (by simp; omega)
 refine ⟨ss, rs', R, ?_⟩
 rw [e_walked (n + 2)]
 have hwh : sWh (wkC (n + 2)) (wkB (n + 2)) [.bo (bsN bs), .bo (tN cs), .bo (tN wt), .ow (ai cs), .ow [], .pu (nD (nextP bs 0 cs))] = .nx [.bo (bsN bs), .bo (tN cs), .bo (tN wt), .ow (ai rs'), .ow (ai ss), .pu o] := by
  unfold sWh
  rw [List.nil_append] at w
  exact w
 have c0 : bp (ae (tab (n + 2)) bi) (Pu.aa (gArg 0) (Pu.aa (gArg 3) Pu.gNil)) [.bo (bsN bs), .bo (tN cs), .bo (tN wt), .ow (ai cs), .ow [], .no] = .ok (nD (nextP bs 0 cs)) :=
  ce (ds := [bsN bs, .lst (ai cs)]) (by simp) (next_eq n fun c hc => by have := hg c hc; omega)
 have l0 : d4 (tN cs) = some (.lst (ai cs)) := rfl
 unfold wkC wkB at hwh
 unfold b_walked
 simp only [List.length_cons, List.length_nil, Pu.v_entry_t, Pu.cz, List.replicate, Nat.reduceAdd, Nat.reduceSub, List.cons_append, List.nil_append]
 rw [Pu.fh, Pu.v_setO]
 simp only [Pu.v_g1, Pu.v_arg, List.getElem?_cons_zero, List.getElem?_cons_succ, Pu.cb, l0, Pu.fg, Pu.ff, List.set_cons_succ, List.set_cons_zero]
 rw [Pu.fh, Pu.v_setO]
 simp only [Pu.v_lst, Pu.v_gnil, List.length_nil, Nat.zero_le, if_true, Pu.ff, List.set_cons_succ, List.set_cons_zero]
 rw [Pu.fh, Pu.v_set]
 rw [show bp (ae (tab (n + 2)) bi) (Pu.aa (gArg 0) (Pu.aa (gArg 3) Pu.gNil)) [.bo (bsN bs), .bo (tN cs), .bo (tN wt), .ow (ai cs), .ow [], .no] = .ok (nD (nextP bs 0 cs)) from c0]
 simp only [Pu.ff, List.set_cons_succ, List.set_cons_zero]
 rw [Pu.fh, Pu.v_fz_nil, hwh]
 simp
end
theorem foldS_rise : ∀ (ns : List Int) (S : List Nat), small ns → riseF 0 S → riseF 0 (ns.foldl (fun S n => insS n.toNat S) S)
 | [], _, _, h => h
 | n :: ns, S, hs, h => by
  have := hs n List.mem_cons_self
  exact foldS_rise ns _ (fun m hm => hs m (List.mem_cons_of_mem _ hm)) (insS_rise (by omega) (Nat.zero_le _) h)
theorem foldS_mem {x : Nat} : ∀ (ns : List Int) (S : List Nat), x ∈ ns.foldl (fun S n => insS n.toNat S) S ↔ x ∈ S ∨ x ∈ ns.map Int.toNat
 | [], _ => by simp
 | n :: ns, S => by
  rw [List.foldl_cons, foldS_mem ns, mem_insS, List.map_cons, List.mem_cons]
  constructor
  ·rintro ((h | h) | h)
   ·exact .inr (.inl h)
   ·exact .inl h
   ·exact .inr (.inr h)
  ·rintro (h | h | h)
   ·exact .inl (.inr h)
   ·exact .inl (.inl h)
   ·exact .inr h
noncomputable def intsN (S : List Nat) : List Int := S.map fun (k : Nat) => (k : Int)
theorem intsD_nats : ∀ S : List Nat, intsD (ai S) = some (intsN S)
 | [] => rfl
 | k :: S => by
  show (intsD (ai S)).map ((k : Int) :: ·) = _
  rw [intsD_nats S]; rfl
noncomputable def uni (S : List Nat) : List Nat := setS (intsN S)
noncomputable def lt6 (S : List Nat) : Prop := ∀ c ∈ S, c < 6
theorem small_nats {S : List Nat} (h : lt6 S) : small (intsN S) := fun n hn => by
 obtain ⟨c, hc, rfl⟩ := List.mem_map.mp hn
 have := h c hc
 omega
theorem smallB_nats {S : List Nat} (h : lt6 S) : smallB (intsN S) = true := List.all_eq_true.mpr fun n hn => by
 have := small_nats h n hn
 simp; omega
theorem uni_rise {S : List Nat} (h : lt6 S) : riseF 0 (uni S) := foldS_rise _ _ (small_nats h) trivial
theorem mem_uni {S : List Nat} {x : Nat} : x ∈ uni S ↔ x ∈ S := by
 unfold uni setS
 rw [foldS_mem]
 unfold intsN
 rw [List.map_map]
 simp
theorem uni_lt {S : List Nat} (h : lt6 S) : lt6 (uni S) := fun c hc => h c (mem_uni.mp hc)
theorem uni_len {S : List Nat} (h : lt6 S) : (uni S).length ≤ 6 := by
 have := (uni_rise h).len (by omega)
 omega
theorem setOf_nats {S : List Nat} (h : lt6 S) : setOf (.lst (ai S)) = some (uni S) ∧ setOf (tN S) = some (uni S) := by
 have e : ((intsD (ai S)).bind fun ns => if smallB ns then some (setS ns) else none) = some (uni S) := by
  rw [intsD_nats]
  show (if smallB (intsN S) then some (setS (intsN S)) else none) = _
  rw [if_pos (smallB_nats h)]
  rfl
 exact ⟨e, e⟩
theorem sortSet_eq {S : List Nat} (h : lt6 S) : fc (.lst (ai S)) = some (.lst (ai (uni S))) ∧ fc (tN S) = some (.lst (ai (uni S))) := by
 unfold fc
 rw [(setOf_nats h).1, (setOf_nats h).2]
 exact ⟨rfl, rfl⟩
theorem ie_nats (cs : List Nat) : (ai cs).isEmpty = cs.isEmpty := by cases cs <;> rfl
theorem smpL_nats (cs : List Nat) : SmpL (ai cs) := smpL fun d hd => by
 obtain ⟨c, _, rfl⟩ := List.mem_map.mp hd
 exact smp_int _
noncomputable def outOf (cs rs : List Nat) : List Nat := cs.filter fun c => !decide (c ∈ rs)
theorem out_sub (cs rs : List Nat) : (outOf cs rs).isEmpty = sub cs rs := by
 unfold outOf sub
 induction cs with
 | nil => rfl
 | cons c cs ih =>
  rw [List.filter_cons, List.all_cons, ← ih]
  by_cases h : c ∈ rs
  ·rw [decide_eq_true h]; simp
  ·rw [decide_eq_false h]; simp
theorem comp_out {g : En → Res} {δ : En} {cs rs : List Nat} {i : Nat} {s : Sl} (hg : g δ = .ok (tN cs)) (hs : δ[i]? = some s) (h1 : ∀ d, gArg 1 [d, s] = .ok (.lst (ai rs))) (hl : cs.length ≤ 1000) :
  ci (cq g) [i] (g2 ft (gArg 0) (gArg 1)) (gVar 0) δ = .ok (.lst (ai (outOf cs rs))) := by
 refine comp_filter (f := fun (c : Nat) => Pu.D.int (c : Int)) (by rw [Pu.v_walk, hg]; rfl) (by omega) fun c hc => ?_
 have e := (in_nats c rs).2.1
 have ec : cr [i] δ (.pu (.int (c : Int))) = [.pu (.int (c : Int)), s] := by
  unfold cr
  simp [hs]
 rw [ec, Pu.v_g2, h1]
 simp [e]
theorem out_nil (cs rs : List Nat) : pyEq (.lst (ai (outOf cs rs))) (.lst []) = some (.bl (sub cs rs)) ∧ pyNe (.lst (ai (outOf cs rs))) (.lst []) = some (.bl (!sub cs rs)) := by
 have h := eq_nilL (smpL_nats (outOf cs rs))
 rw [ie_nats, out_sub] at h
 exact h
noncomputable def spB (n : Nat) : En → Out := (sIf (g2 pyEq (ci (cq (g2 pyIx (gArg 4) (gC (.int 0)))) [2] (g2 ft (gArg 0) (gArg 1)) (gVar 0)) (gLst Pu.gNil)) (sSet 2 (g1 fc (g2 cf (gArg 2) (g1 d4 (g2 pyIx (gArg 4) (gC (.int 1))))))) sNil)
noncomputable def spS (S : List Nat) (b : Bd) : List Nat := if sub b.1 S then uni (S ++ b.2) else S
theorem spB_at (n : Nat) {S : List Nat} {b : Bd} {v0 v1 v3 : Sl} (hS : lt6 S) (hl : S.length ≤ 100) (h1 : b.1.length ≤ 100) (h2 : b.2.length ≤ 100) (h3 : lt6 b.2) : spB n [v0, v1, .pu (.lst (ai S)), v3, .pu (bD' b)] = .nx [v0, v1, .pu (.lst (ai (spS S b))), v3, .pu (bD' b)] := by
 have c := comp_out (g := g2 pyIx (gArg 4) (gC (.int 0))) (δ := [v0, v1, .pu (.lst (ai S)), v3, .pu (bD' b)]) (cs := b.1) (rs := S) (i := 2) (s := .pu (.lst (ai S))) (by simp [bD']) rfl (fun d => rfl) (by omega)
 have e := (out_nil b.1 S).1
 have hap : lt6 (S ++ b.2) := fun c hc => (List.mem_append.mp hc).elim (hS c) (h3 c)
 have so := (sortSet_eq hap).1
 have ad : cf (.lst (ai S)) (.lst (ai b.2)) = some (.lst (ai (S ++ b.2))) := by
  show (if (ai S).length + (ai b.2).length ≤ sizeLine then some (Pu.D.lst (ai S ++ ai b.2)) else none) = _
  rw [if_pos (by rw [fx, fx, sizeLine_eq]; omega), natsD_app]
 have li : d4 (tN b.2) = some (.lst (ai b.2)) := rfl
 unfold spB spS
 rw [Pu.v_if, Pu.v_g2, c]
 simp only [Pu.v_lst, Pu.v_gnil, List.length_nil, Nat.zero_le, if_true, Pu.cb, e, Pu.fg, Pu.ff]
 cases hb : sub b.1 S with
 | true => simp [bD', li, ad, so]
 | false => simp
theorem spS_lt {S : List Nat} {b : Bd} (hS : lt6 S) (h3 : lt6 b.2) (hl : S.length ≤ 6) : lt6 (spS S b) ∧ (spS S b).length ≤ 6 := by
 have hap : lt6 (S ++ b.2) := fun c hc => (List.mem_append.mp hc).elim (hS c) (h3 c)
 unfold spS
 split
 ·exact ⟨uni_lt hap, uni_len hap⟩
 ·exact ⟨hS, hl⟩
theorem sp_in (n : Nat) {v0 v1 v3 : Sl} : ∀ (bs : List Bd) (S : List Nat) (v4 : Sl), (∀ b ∈ bs, b.1.length ≤ 100 ∧ b.2.length ≤ 100 ∧ lt6 b.2) → lt6 S → S.length ≤ 6 →
  (lt6 (bs.foldl spS S) ∧ (bs.foldl spS S).length ≤ 6) ∧ ∃ w4, turns (dz 4) (spB n) (bs.map bD') [v0, v1, .pu (.lst (ai S)), v3, v4] = .nx [v0, v1, .pu (.lst (ai (bs.foldl spS S))), v3, w4] := by
 intro bs
 induction bs with
 | nil => intro S v4 _ h1 h2; exact ⟨⟨h1, h2⟩, v4, rfl⟩
 | cons b bs ih =>
  intro S v4 h h1 h2
  obtain ⟨q1, q2, q3⟩ := h b List.mem_cons_self
  rw [List.map_cons, fu (δ1 := [v0, v1, .pu (.lst (ai S)), v3, .pu (bD' b)]) rfl, spB_at n h1 (by omega) q1 q2 q3, List.foldl_cons]
  obtain ⟨z1, z2⟩ := spS_lt h1 q3 h2
  exact ih (spS S b) _ (fun c hc => h c (List.mem_cons_of_mem _ hc)) z1 z2
noncomputable def spR (n : Nat) : En → Out := fz [0] (sFor (dz 4) (cq (gBo 0)) (spB n))
noncomputable def spT (bs : List Bd) : Nat → List Nat → List Nat
 | 0, S => S
 | k + 1, S => spT bs k (bs.foldl spS S)
theorem sp_out (n : Nat) {bs : List Bd} {v1 : Sl} (h : ∀ b ∈ bs, b.1.length ≤ 100 ∧ b.2.length ≤ 100 ∧ lt6 b.2) : ∀ (l : List Int) (S : List Nat) (v3 v4 : Sl), lt6 S → S.length ≤ 6 →
  lt6 (spT bs l.length S) ∧ (spT bs l.length S).length ≤ 6 ∧ ∃ w3 w4, turns (dz 3) (spR n) (l.map Pu.D.int) [.bo (bsN bs), v1, .pu (.lst (ai S)), v3, v4] = .nx [.bo (bsN bs), v1, .pu (.lst (ai (spT bs l.length S))), w3, w4] := by
 intro l
 induction l with
 | nil => intro S v3 v4 h1 h2; exact ⟨h1, h2, v3, v4, rfl⟩
 | cons i l ih =>
  intro S v3 v4 h1 h2
  obtain ⟨⟨z1, z2⟩, w4, t⟩ := sp_in n (v0 := .bo (bsN bs)) (v1 := v1) (v3 := .pu (.int i)) bs S v4 h h1 h2
  have hs0 : spR n [.bo (bsN bs), v1, .pu (.lst (ai S)), .pu (.int i), v4] = .nx [.bo (bsN bs), v1, .pu (.lst (ai (bs.foldl spS S))), .pu (.int i), w4] := by
   unfold spR
   simp only [Pu.v_fz, Pu.v_fz_nil, Pu.v_frz, List.getElem?_cons_zero]
   rw [sFor_ok (ds := bs.map bD') (by simp [bsN])]
   exact t
  rw [List.map_cons, fu (δ1 := [.bo (bsN bs), v1, .pu (.lst (ai S)), .pu (.int i), v4]) rfl, hs0]
  exact ih (bs.foldl spS S) _ _ z1 z2
noncomputable def spanZ (bs : List Bd) (cs : List Nat) : List Nat := spT bs bs.length (uni cs)
theorem span_eq (n : Nat) {bs : List Bd} {cs : List Nat} (h : ∀ b ∈ bs, b.1.length ≤ 100 ∧ b.2.length ≤ 100 ∧ lt6 b.2) (hb : bs.length ≤ 1000) (hc : lt6 cs) :
  (lt6 (spanZ bs cs) ∧ (spanZ bs cs).length ≤ 6) ∧ ae (tab (n + 1)) bz [bsN bs, tN cs] = .ok (tN (spanZ bs cs)) := by
 obtain ⟨z1, z2, w3, w4, t⟩ := sp_out n (v1 := .bo (tN cs)) h (rangeI bs.length) (uni cs) .no .no (uni_lt hc) (uni_len hc)
 have rl : (rangeI bs.length).length = bs.length := by unfold rangeI; simp
 rw [rl] at z1 z2 t
 refine ⟨⟨z1, z2⟩, ?_⟩
 rw [e_law_span]
 have so := (sortSet_eq hc).2
 have hs0 : sFor (dz 3) (dj (Pu.aa (g1 Pu.pyLen (gArg 0)) Pu.gNil)) (spR n) [.bo (bsN bs), .bo (tN cs), .pu (.lst (ai (uni cs))), .no, .no] = .nx [.bo (bsN bs), .bo (tN cs), .pu (.lst (ai (spanZ bs cs))), w3, w4] := by
  rw [sFor_ok (ds := (rangeI bs.length).map Pu.D.int)]
  ·exact t
  ·rw [← rangeD_I]
   have : ((bs.length : Int)).toNat = bs.length := by omega
   rw [show d8 0 bs.length = d8 0 ((bs.length : Int)).toNat by rw [this]]
   exact Pu.v_range1 _ _ (j' := (bs.length : Int)) (by simp [bsN]) (by omega)
 unfold spR spB at hs0
 unfold b_law_span
 simp only [List.length_cons, List.length_nil, Pu.v_entry_t, Pu.cz, List.replicate, Nat.reduceAdd, Nat.reduceSub, List.cons_append, List.nil_append]
 rw [Pu.fh, Pu.v_set]
 simp only [Pu.v_g1, Pu.v_arg, List.getElem?_cons_zero, List.getElem?_cons_succ, Pu.cb, so, Pu.fg, Pu.ff, List.set_cons_succ, List.set_cons_zero]
 rw [Pu.fh, hs0]
 simp [tN]
noncomputable def lbB (n : Nat) : En → Out := (sApp 3 (Pu.gTup (Pu.aa (bp (ae (tab n) af) (Pu.aa (gArg 0) (Pu.aa (g2 cf (g2 cf (gArg 1) (gC (.int 1))) (g2 pyMul (gC (.int 12)) (gArg 4))) (Pu.aa (gArg 2) (Pu.aa (gC (.int 3)) Pu.gNil))))) (Pu.aa (bp (ae (tab n) af) (Pu.aa (gArg 0) (Pu.aa (g2 cf (g2 cf (gArg 1) (gC (.int 7))) (g2 pyMul (gC (.int 12)) (gArg 4))) (Pu.aa (gArg 2) (Pu.aa (gC (.int 3)) Pu.gNil))))) Pu.gNil))))
theorem lb_loop (n : Nat) (ns : List Int) (k : Int) (hk : 0 ≤ k) (m : Nat) (hm : m ≤ 6) : ∀ (l : List Int) (v4 : Sl) (bs : List Bd), (∀ i ∈ l, 0 ≤ i ∧ i < 1000) → (∀ b ∈ bs, GoodB m b) → bs.length + l.length ≤ 1000 →
  ∃ bs' : List Bd, bs'.length = bs.length + l.length ∧ (∀ b ∈ bs', GoodB m b) ∧ ∃ w4, turns (dz 4) (lbB (n + 3)) (l.map Pu.D.int) [.bo (scr ns), .bo (.int k), .bo (.int (m : Int)), .ow (bs.map bD'), v4] = .nx [.bo (scr ns), .bo (.int k), .bo (.int (m : Int)), .ow (bs'.map bD'), w4] := by
 intro l
 induction l with
 | nil => intro v4 bs _ h _; exact ⟨bs, by simp, h, v4, rfl⟩
 | cons i l ih =>
  intro v4 bs hl h hz
  rw [List.length_cons] at hz
  obtain ⟨i0, i1⟩ := hl i List.mem_cons_self
  obtain ⟨c1, g1, e1⟩ := columns_eq n ns (k + 1 + 12 * i) (m : Int) 3 (by omega) (by omega) (by omega) (by decide)
  obtain ⟨c2, g2, e2⟩ := columns_eq n ns (k + 7 + 12 * i) (m : Int) 3 (by omega) (by omega) (by omega) (by decide)
  rw [show (m : Int).toNat = m by omega] at g1 g2
  rw [tI_nats] at e1 e2
  have em := Pu.v_mul 12 i (.inl (by decide))
  have k1 : bp (ae (tab (n + 3)) af) (Pu.aa (gArg 0) (Pu.aa (Pu.g2 cf (Pu.g2 cf (gArg 1) (gC (.int 1))) (Pu.g2 pyMul (gC (.int 12)) (gArg 4))) (Pu.aa (gArg 2) (Pu.aa (gC (.int 3)) Pu.gNil)))) [.bo (scr ns), .bo (.int k), .bo (.int (m : Int)), .ow (bs.map bD'), .pu (.int i)] = .ok (tN c1) :=
   ce (ds := [scr ns, .int (k + 1 + 12 * i), .int (m : Int), .int 3]) (by simp [em]) e1
  have k2 : bp (ae (tab (n + 3)) af) (Pu.aa (gArg 0) (Pu.aa (Pu.g2 cf (Pu.g2 cf (gArg 1) (gC (.int 7))) (Pu.g2 pyMul (gC (.int 12)) (gArg 4))) (Pu.aa (gArg 2) (Pu.aa (gC (.int 3)) Pu.gNil)))) [.bo (scr ns), .bo (.int k), .bo (.int (m : Int)), .ow (bs.map bD'), .pu (.int i)] = .ok (tN c2) :=
   ce (ds := [scr ns, .int (k + 7 + 12 * i), .int (m : Int), .int 3]) (by simp [em]) e2
  have st : lbB (n + 3) [.bo (scr ns), .bo (.int k), .bo (.int (m : Int)), .ow (bs.map bD'), .pu (.int i)] = .nx [.bo (scr ns), .bo (.int k), .bo (.int (m : Int)), .ow ((bs ++ [(c1, c2)]).map bD'), .pu (.int i)] := by
   have hlt : bs.length < 16777216 := by omega
   unfold lbB
   rw [Pu.v_app]
   simp only [List.getElem?_cons_zero, List.getElem?_cons_succ]
   rw [Pu.v_tup, Pu.v_cons, k1, Pu.v_cons, k2]
   simp [hlt, bD']
  rw [List.map_cons, fu (δ1 := [.bo (scr ns), .bo (.int k), .bo (.int (m : Int)), .ow (bs.map bD'), .pu (.int i)]) rfl, st]
  obtain ⟨bs', q1, q2, w4, t⟩ := ih (.pu (.int i)) (bs ++ [(c1, c2)]) (fun j hj => hl j (List.mem_cons_of_mem _ hj)) (fun b hb => by
   rcases List.mem_append.mp hb with hb | hb
   ·exact h b hb
   ·rw [List.mem_singleton.mp hb]; exact ⟨g1, g2⟩) (by rw [List.length_append]; simp; omega)
  exact ⟨bs', by rw [q1, List.length_append]; simp; omega, q2, w4, t⟩
theorem law_bonds_eq (n : Nat) (ns : List Int) (k : Int) (hk : 0 ≤ k) (m : Nat) (hm : m ≤ 6) : ∃ bs : List Bd, (∀ b ∈ bs, GoodB m b) ∧ bs.length ≤ 5 ∧ ae (tab (n + 4)) bw [scr ns, .int k, .int (m : Int)] = .ok (bsN bs) := by
 obtain ⟨r0, r1⟩ := mixZ_range ns k 6 (by decide)
 obtain ⟨bs, q1, q2, w4, t⟩ := lb_loop n ns k hk m hm (rangeI (mixZ ns k 6).toNat) .no [] (fun i hi => by have := rangeI_nn hi; omega) (fun b hb => by simp at hb) (by unfold rangeI; simp; omega)
 have rl : (rangeI (mixZ ns k 6).toNat).length = (mixZ ns k 6).toNat := by unfold rangeI; simp
 refine ⟨bs, q2, by rw [q1, rl]; simp; omega, ?_⟩
 rw [e_law_bonds (n + 3)]
 have e0 := mixed_eq (n + 1) ns k 6 hk (by decide)
 have hs0 : sFor (dz 4) (dj (Pu.aa (bp (ae (tab (n + 3)) az) (Pu.aa (gArg 0) (Pu.aa (gArg 1) (Pu.aa (gC (.int 6)) Pu.gNil)))) Pu.gNil)) (lbB (n + 3)) [.bo (scr ns), .bo (.int k), .bo (.int (m : Int)), .ow [], .no] = .nx [.bo (scr ns), .bo (.int k), .bo (.int (m : Int)), .ow (bs.map bD'), w4] := by
  rw [sFor_ok (ds := (rangeI (mixZ ns k 6).toNat).map Pu.D.int)]
  ·exact t
  ·rw [← rangeD_I]
   refine Pu.v_range1 _ _ (j' := mixZ ns k 6) ?_ (by omega)
   rw [Pu.v_cons, ce (ds := [scr ns, .int k, .int 6]) (by simp) e0]
   rfl
 unfold lbB at hs0
 unfold b_law_bonds
 simp only [List.length_cons, List.length_nil, Pu.v_entry_t, Pu.cz, List.replicate, Nat.reduceAdd, Nat.reduceSub, List.cons_append, List.nil_append]
 rw [Pu.fh, Pu.v_setO]
 simp only [Pu.v_lst, Pu.v_gnil, List.length_nil, Nat.zero_le, if_true, Pu.ff, List.set_cons_succ, List.set_cons_zero]
 rw [Pu.fh, hs0]
 simp [bsN]
theorem Run.sub0 {bs : List Bd} {wt rs ss rs' : List Nat} (R : Run bs wt rs ss rs') : ∀ c ∈ rs, c ∈ rs' := by
 induction R with
 | stop _ => exact fun c hc => hc
 | step _ _ _ _ ih => exact fun c hc => ih c (List.mem_append_left _ hc)
theorem Run.end_ {bs : List Bd} {wt rs ss rs' : List Nat} (R : Run bs wt rs ss rs') : nextP bs 0 rs' = none ∨ sub wt rs' = true := by
 induction R with
 | stop h => exact h
 | step _ _ _ _ ih => exact ih
inductive Cl (bs : List Bd) (cs : List Nat) : Nat → Prop
 | base {c : Nat} (h : c ∈ cs) : Cl bs cs c
 | step {b : Bd} {d : Nat} (hb : b ∈ bs) (hl : ∀ c ∈ b.1, Cl bs cs c) (hd : d ∈ b.2) : Cl bs cs d
noncomputable def Closed (bs : List Bd) (S : List Nat) : Prop := ∀ b ∈ bs, sub b.1 S = true → sub b.2 S = true
theorem Cl.le {bs : List Bd} {cs S : List Nat} (hS : Closed bs S) (h : ∀ c ∈ cs, c ∈ S) {c : Nat} (k : Cl bs cs c) : c ∈ S := by
 induction k with
 | base hc => exact h _ hc
 | step hb _ hd ih => exact cg.mp (hS _ hb (cg.mpr ih)) _ hd
theorem Cl.trans {bs bs' : List Bd} {cs cs' : List Nat} (hb : ∀ b ∈ bs, ∀ d ∈ b.2, Cl bs' b.1 d) (mono : ∀ b ∈ bs, ∀ d, Cl bs' b.1 d → (∀ c ∈ b.1, Cl bs' cs' c) → Cl bs' cs' d) (h : ∀ c ∈ cs, Cl bs' cs' c) {c : Nat} (k : Cl bs cs c) : Cl bs' cs' c := by
 induction k with
 | base hc => exact h _ hc
 | step hb' _ hd ih => exact mono _ hb' _ (hb _ hb' _ hd) ih
theorem Cl.cut {bs : List Bd} {cs ds : List Nat} (h : ∀ c ∈ ds, Cl bs cs c) {d : Nat} (k : Cl bs ds d) : Cl bs cs d := by
 induction k with
 | base hc => exact h _ hc
 | step hb _ hd ih => exact .step hb ih hd
theorem Run.sound {bs : List Bd} {wt rs ss rs' cs : List Nat} (R : Run bs wt rs ss rs') (h : ∀ c ∈ rs, Cl bs cs c) : ∀ c ∈ rs', Cl bs cs c := by
 induction R with
 | stop _ => exact h
 | @step rs ss rs' i b h1 h2 h3 _ ih =>
  refine ih fun c hc => ?_
  rcases List.mem_append.mp hc with hc | hc
  ·exact h c hc
  ·obtain ⟨b', _, q2, q3, _⟩ := nextP_some h1
   rw [Nat.sub_zero, h3] at q2
   cases q2
   exact .step (List.mem_of_getElem? h3) (fun c hc => h c (cg.mp q3 c hc)) hc
theorem Run.mem {bs : List Bd} {wt cs ss rs' : List Nat} (R : Run bs wt cs ss rs') {c : Nat} (hc : c ∈ wt) : c ∈ rs' ↔ Cl bs cs c := by
 refine ⟨R.sound (fun _ h => .base h) c, fun k => ?_⟩
 rcases R.end_ with h | h
 ·exact k.le (fun b hb => nextP_none h b hb) R.sub0
 ·exact cg.mp h c hc
theorem spS_mem {S : List Nat} {b : Bd} {c : Nat} : c ∈ spS S b ↔ c ∈ S ∨ (sub b.1 S = true ∧ c ∈ b.2) := by
 unfold spS
 by_cases h : sub b.1 S = true
 ·rw [if_pos h, mem_uni, List.mem_append]
  exact ⟨fun k => k.imp id fun k => ⟨h, k⟩, fun k => k.imp id fun k => k.2⟩
 ·rw [if_neg h]
  exact ⟨.inl, fun k => k.elim id fun k => absurd k.1 h⟩
theorem fold_mono : ∀ {bs : List Bd} {S : List Nat} {c : Nat}, c ∈ S → c ∈ bs.foldl spS S
 | [], _, _, h => h
 | b :: bs, S, c, h => fold_mono (bs := bs) (spS_mem.mpr (.inl h))
theorem sub_mono {cs S T : List Nat} (h : sub cs S = true) (hT : ∀ c ∈ S, c ∈ T) : sub cs T = true := cg.mpr fun c hc => hT c (cg.mp h c hc)
theorem fold_fire : ∀ {bs : List Bd} {S : List Nat} {b : Bd}, b ∈ bs → sub b.1 S = true → sub b.2 (bs.foldl spS S) = true
 | a :: bs, S, b, hb, h => by
  rcases List.mem_cons.mp hb with rfl | hb
  ·exact cg.mpr fun c hc => fold_mono (bs := bs) (spS_mem.mpr (.inr ⟨h, hc⟩))
  ·exact fold_fire (bs := bs) hb (sub_mono h fun c hc => spS_mem.mpr (.inl hc))
theorem fold_sound {bs : List Bd} {cs : List Nat} : ∀ {l : List Bd} {S : List Nat}, (∀ b ∈ l, b ∈ bs) → (∀ c ∈ S, Cl bs cs c) → ∀ c ∈ l.foldl spS S, Cl bs cs c
 | [], _, _, h => h
 | b :: l, S, hl, h => fold_sound (l := l) (fun x hx => hl x (List.mem_cons_of_mem _ hx)) fun c hc => by
  rcases spS_mem.mp hc with hc | ⟨h1, h2⟩
  ·exact h c hc
  ·exact .step (hl b List.mem_cons_self) (fun x hx => h x (cg.mp h1 x hx)) h2
theorem spT_sound {bs : List Bd} {cs : List Nat} : ∀ {k : Nat} {S : List Nat}, (∀ c ∈ S, Cl bs cs c) → ∀ c ∈ spT bs k S, Cl bs cs c
 | 0, _, h => h
 | k + 1, S, h => spT_sound (k := k) (fold_sound (fun _ h => h) h)
theorem spT_mono {bs : List Bd} : ∀ {k : Nat} {S : List Nat} {c : Nat}, c ∈ S → c ∈ spT bs k S
 | 0, _, _, h => h
 | k + 1, S, c, h => spT_mono (k := k) (fold_mono h)
theorem fold_closed {bs : List Bd} {S : List Nat} (hS : Closed bs S) : ∀ {l : List Bd} {T : List Nat}, (∀ b ∈ l, b ∈ bs) → (∀ c, c ∈ T ↔ c ∈ S) → ∀ c, c ∈ l.foldl spS T ↔ c ∈ S
 | [], _, _, h => h
 | b :: l, T, hl, h => fold_closed hS (l := l) (fun x hx => hl x (List.mem_cons_of_mem _ hx)) fun c => by
  rw [spS_mem, h]
  refine ⟨fun k => k.elim id fun ⟨h1, h2⟩ => ?_, .inl⟩
  exact cg.mp (hS b (hl b List.mem_cons_self) (sub_mono h1 fun c hc => (h c).mp hc)) c h2
theorem Closed.congr {bs : List Bd} {S T : List Nat} (hS : Closed bs S) (h : ∀ c, c ∈ T ↔ c ∈ S) : Closed bs T := fun b hb k =>
 sub_mono (hS b hb (sub_mono k fun c hc => (h c).mp hc)) fun c hc => (h c).mpr hc
theorem spT_stays {bs : List Bd} : ∀ {k : Nat} {S : List Nat}, Closed bs S → Closed bs (spT bs k S)
 | 0, _, h => h
 | k + 1, S, h => spT_stays (k := k) (h.congr (fold_closed h (fun _ h => h) fun _ => Iff.rfl))
theorem spT_closed {bs : List Bd} : ∀ {k : Nat} {S : List Nat}, todo bs S ≤ k → Closed bs (spT bs k S)
 | 0, S, h => fun b hb _ => by
  cases e : sub b.2 S with
  | true => exact e
  | false =>
   have : b ∈ bs.filter fun b => !sub b.2 S := List.mem_filter.mpr ⟨hb, by rw [e]; rfl⟩
   have := List.length_pos_of_mem this
   unfold todo at h
   omega
 | k + 1, S, h => by
  by_cases hc : Closed bs S
  ·exact spT_stays (k := k + 1) hc
  ·obtain ⟨b, hb, h1, h2⟩ : ∃ b ∈ bs, sub b.1 S = true ∧ sub b.2 S = false := by
    refine Classical.byContradiction fun z => hc fun b hb h1 => ?_
    cases e : sub b.2 S with
    | true => rfl
    | false => exact absurd ⟨b, hb, h1, e⟩ z
   refine spT_closed (k := k) ?_
   have : todo bs (bs.foldl spS S) < todo bs S := by
    refine len_filter_lt (a := b) (fun x hx => ?_) hb (by rw [h2]; rfl) (by rw [fold_fire hb h1]; rfl)
    cases e : sub x.2 S with
    | false => rfl
    | true => rw [sub_mono e fun c hc => fold_mono hc] at hx; cases hx
   omega
theorem span_mem {bs : List Bd} {cs : List Nat} {c : Nat} : c ∈ spanZ bs cs ↔ Cl bs cs c := by
 refine ⟨fun h => spT_sound (fun x hx => .base (mem_uni.mp hx)) c h, fun k => ?_⟩
 exact k.le (spT_closed (todo_le _)) fun x hx => spT_mono (mem_uni.mpr hx)
theorem drop_eq {g : En → Res} {δ : En} {d : Pu.D} (h : g δ = .ok d) : sDrop g δ = .nx δ := by
 unfold sDrop; rw [h]; rfl
section
variable {bs : List Bd} {m : Nat} {wt cs : List Nat}
theorem hanging_eq (n : Nat) (hg : ∀ b ∈ bs, b.1.length ≤ 10 ∧ b.2.length ≤ 10) (hw : wt.length ≤ 1000) (hb : bs.length ≤ 80) (hc : cs.length ≤ 100) :
  ∃ rs' : List Nat, (∀ c ∈ wt, c ∈ rs' ↔ Cl bs cs c) ∧ ae (tab (n + 4)) b9 [bsN bs, tN cs, tN wt] = .ok (tN (wt.filter fun c => decide (c ∈ rs'))) := by
 obtain ⟨ss, rs', R, w⟩ := walked_eq n hg hw hb cs hc
 refine ⟨rs', fun c h => R.mem h, ?_⟩
 rw [e_hanging (n + 3)]
 simp only [List.length_cons, List.length_nil, Pu.v_entry_t, Pu.cz, List.replicate, Nat.reduceAdd, Nat.reduceSub, List.cons_append, List.nil_append]
 unfold b_hanging
 have s1 : bp (ae (tab (n + 3)) cj) (Pu.aa (gArg 0) (Pu.aa (gArg 1) (Pu.aa (gArg 2) Pu.gNil))) [.bo (bsN bs), .bo (tN cs), .bo (tN wt), .no] = .ok (.tup [.lst (ai ss), .lst (ai rs')]) :=
  ce (ds := [bsN bs, tN cs, tN wt]) (by simp) w
 rw [Pu.fh, Pu.v_set, Pu.v_g2, s1]
 simp only [Pu.v_c, Pu.cb, Pu.v_ix2_1, Pu.fg, Pu.ff, List.set_cons_succ, List.set_cons_zero]
 have s2 : ci (cq (gArg 2)) [3] (g2 pyIn (gArg 0) (gArg 1)) (gVar 0) [.bo (bsN bs), .bo (tN cs), .bo (tN wt), .pu (.lst (ai rs'))] = .ok (.lst (ai (wt.filter fun c => decide (c ∈ rs')))) :=
  comp_filter (l := wt) (f := fun (c : Nat) => Pu.D.int (c : Int)) (b := fun c => decide (c ∈ rs')) (by simp [tN, ai]) (by omega) fun c _ => by
   have := (in_nats c rs').1
   simp [cr, this]
 rw [Pu.v_ret, Pu.v_g1, s2]
 rfl
end
noncomputable def fol (L : List Bd) (cs rs : List Nat) : Bool := sub rs (spanZ L cs)
theorem fol_iff {L : List Bd} {cs rs : List Nat} : fol L cs rs = true ↔ ∀ c ∈ rs, Cl L cs c := by
 unfold fol
 rw [cg]
 exact ⟨fun h c hc => span_mem.mp (h c hc), fun h c hc => span_mem.mpr (h c hc)⟩
theorem notIn_tN (c : Nat) (S : List Nat) : ft (.int (c : Int)) (tN S) = some (.bl (!decide (c ∈ S))) := by
 unfold ft tN
 rw [(inB_nats c S).2]; rfl
theorem in_tN (c : Nat) (S : List Nat) : pyIn (.int (c : Int)) (tN S) = some (.bl (decide (c ∈ S))) := (in_nats c S).2.2
theorem colI_inj : ∀ {S T : List Nat}, colI S = colI T → S = T
 | [], [], _ => rfl
 | [], _ :: _, h => by cases h
 | _ :: _, [], h => by cases h
 | a :: S, b :: T, h => by
  injection h with h1 h2
  rw [Int.ofNat.inj h1, colI_inj h2]
theorem eq_tN (S T : List Nat) : pyEq (tN S) (tN T) = some (.bl (decide (S = T))) := by
 rw [← tI_nats, ← tI_nats, eq_tI]
 congr 2
 refine decide_eq_decide.mpr ⟨fun h => ?_, fun h => by rw [h]⟩
 exact colI_inj h
structure Few (L : List Bd) : Prop where
 g : ∀ b ∈ L, b.1.length ≤ 10 ∧ b.2.length ≤ 10 ∧ lt6 b.2 ∧ lt6 b.1
 l : L.length ≤ 80
theorem few_of {m : Nat} {L : List Bd} (g : ∀ b ∈ L, GoodB m b) (h6 : m ≤ 6) (h : L.length ≤ 80) : Few L := ⟨fun b hb => by
 have h1 := (g b hb).l.len
 have h2 := (g b hb).r.len
 exact ⟨by omega, by omega, fun c hc => by have := (g b hb).r.lt c hc; omega, fun c hc => by have := (g b hb).l.lt c hc; omega⟩, h⟩
section
variable {L : List Bd} {cs rs : List Nat} {b : Bd}
theorem span_few (n : Nat) (F : Few L) (hc : lt6 cs) : ae (tab (n + 1)) bz [bsN L, tN cs] = .ok (tN (spanZ L cs)) :=
 (span_eq n (fun b hb => ⟨by have := (F.g b hb).1; omega, by have := (F.g b hb).2.1; omega, (F.g b hb).2.2.1⟩) (by have := F.l; omega) hc).2
end
theorem add_l {xs ys : List Pu.D} (h : xs.length + ys.length ≤ 1000) : cf (.lst xs) (.lst ys) = some (.lst (xs ++ ys)) := by
 show (if xs.length + ys.length ≤ sizeLine then some (Pu.D.lst (xs ++ ys)) else none) = _
 rw [if_pos (by rw [sizeLine_eq]; omega)]
noncomputable def isP (s : Sl) (P : List (List Nat)) : Prop := s = .ow (P.map tN) ∨ s = .pu (.lst (P.map tN))
theorem isP.arg {s v0 v2 : Sl} {P : List (List Nat)} (h : isP s P) : gArg 1 [v0, s, v2] = .ok (.lst (P.map tN)) := by
 rcases h with rfl | rfl <;> rfl
noncomputable def paB : En → Out := (fz [2] (sSet 1 (g2 cf (gArg 1) (ci (cq (gArg 1)) [2] (gC (.bl true)) (g2 cf (gArg 0) (Pu.gTup (Pu.aa (gVar 1) Pu.gNil)))))))
theorem paB_at {P : List (List Nat)} {c : Nat} {s v0 : Sl} (h : isP s P) (hl : P.length ≤ 400) (hr : ∀ r ∈ P, r.length ≤ 100) : paB [v0, s, .pu (.int (c : Int))] = .nx [v0, .pu (.lst ((P ++ P.map fun r => r ++ [c]).map tN)), .pu (.int (c : Int))] := by
 have ha := h.arg (v0 := v0) (v2 := .pu (.int (c : Int)))
 have cm : ci (cq (gArg 1)) [2] (gC (.bl true)) (g2 cf (gArg 0) (Pu.gTup (Pu.aa (gVar 1) Pu.gNil))) [v0, s, .pu (.int (c : Int))] = .ok (.lst (P.map fun r => tN (r ++ [c]))) := by
  refine comp_map (f := tN) (by rw [Pu.v_walk, ha]; rfl) (by omega) fun r hr' => ?_
  have ec : cr [2] [v0, s, .pu (.int (c : Int))] (.pu (tN r)) = [.pu (tN r), .pu (.int (c : Int))] := rfl
  have ad : cf (tN r) (.tup [.int (c : Int)]) = some (tN (r ++ [c])) := by
   show (if (ai r).length + [Pu.D.int (c : Int)].length ≤ sizeLine then some (Pu.D.tup (ai r ++ [Pu.D.int (c : Int)])) else none) = _
   have := hr r hr'
   rw [if_pos (by rw [fx, sizeLine_eq]; simp; omega)]
   unfold tN
   rw [natsD_app]; rfl
  rw [ec]
  simp [ad]
 unfold paB
 simp only [Pu.v_fz, Pu.v_fz_nil, Pu.v_frz, List.getElem?_cons_zero, List.getElem?_cons_succ]
 rw [Pu.v_set, Pu.v_g2, ha, cm]
 simp only [Pu.cb]
 rw [add_l (by rw [List.length_map, List.length_map]; omega), List.map_append, List.map_map]
 rfl
noncomputable def grow (P : List (List Nat)) (c : Nat) : List (List Nat) := P ++ P.map fun r => r ++ [c]
noncomputable def ar (cs : List Nat) : List (List Nat) := cs.foldl grow [[]]
theorem mem_fold {r : List Nat} : ∀ {cs : List Nat} {P : List (List Nat)}, r ∈ cs.foldl grow P ↔ ∃ p ∈ P, ∃ q, q.Sublist cs ∧ r = p ++ q
 | [], P => by
  constructor
  ·intro h; exact ⟨r, h, [], .slnil, by simp⟩
  ·rintro ⟨p, hp, q, hq, rfl⟩
   rw [List.sublist_nil] at hq
   subst hq
   simpa using hp
 | c :: cs, P => by
  rw [List.foldl_cons, mem_fold]
  constructor
  ·rintro ⟨p, hp, q, hq, rfl⟩
   rcases List.mem_append.mp hp with hp | hp
   ·exact ⟨p, hp, q, hq.cons c, rfl⟩
   ·obtain ⟨p', hp', rfl⟩ := List.mem_map.mp hp
    exact ⟨p', hp', c :: q, hq.cons_cons c, by simp⟩
  ·rintro ⟨p, hp, q, hq, rfl⟩
   cases hq with
   | cons _ h => exact ⟨p, List.mem_append_left _ hp, q, h, rfl⟩
   | cons_cons _ h => exact ⟨p ++ [c], List.mem_append_right _ (List.mem_map.mpr ⟨p, hp, rfl⟩), _, h, by simp⟩
theorem mem_subs {cs r : List Nat} : r ∈ ar cs ↔ r.Sublist cs := by
 unfold ar
 rw [mem_fold]
 constructor
 ·rintro ⟨p, hp, q, hq, rfl⟩
  rw [List.mem_singleton.mp hp]; exact hq
 ·intro h; exact ⟨[], by simp, r, h, rfl⟩
theorem fold_len : ∀ (cs : List Nat) (P : List (List Nat)), (cs.foldl grow P).length = P.length * 2 ^ cs.length
 | [], P => by simp
 | c :: cs, P => by
  rw [List.foldl_cons, fold_len cs]
  unfold grow
  rw [List.length_append, List.length_map, List.length_cons, Nat.pow_succ, ← Nat.mul_two, Nat.mul_assoc, Nat.mul_comm 2]
theorem fold_nodup : ∀ {cs : List Nat} {P : List (List Nat)}, cs.Nodup → P.Nodup → (∀ p ∈ P, ∀ x ∈ p, x ∉ cs) → (cs.foldl grow P).Nodup
 | [], P, _, h, _ => h
 | c :: cs, P, hc, h, hd => by
  obtain ⟨c1, c2⟩ := List.nodup_cons.mp hc
  rw [List.foldl_cons]
  refine fold_nodup c2 ?_ fun p hp x hx => ?_
  ·refine List.nodup_append.mpr ⟨h, ?_, ?_⟩
   ·exact List.Pairwise.map _ (fun a b hab z => hab (List.append_cancel_right z)) h
   ·intro a ha b hb z
    obtain ⟨b', _, rfl⟩ := List.mem_map.mp hb
    exact hd a ha c (by rw [z]; simp) List.mem_cons_self
  ·rcases List.mem_append.mp hp with hp | hp
   ·exact fun z => hd p hp x hx (List.mem_cons_of_mem _ z)
   ·obtain ⟨p', hp', rfl⟩ := List.mem_map.mp hp
    rcases List.mem_append.mp hx with hx | hx
    ·exact fun z => hd p' hp' x hx (List.mem_cons_of_mem _ z)
    ·rw [List.mem_singleton.mp hx]; exact c1
theorem subs_nodup {cs : List Nat} (h : cs.Nodup) : (ar cs).Nodup := fold_nodup h (by simp) fun p hp x hx => by rw [List.mem_singleton.mp hp] at hx; simp at hx
theorem ris_nodup {cs : List Nat} (h : cs.Pairwise (· < ·)) : cs.Nodup := h.imp fun hab => Nat.ne_of_lt hab
theorem len_lt : ∀ {q r : List Nat}, q.Pairwise (· < ·) → r.Pairwise (· < ·) → (∀ x ∈ q, x ∈ r) → q ≠ r → q.length < r.length
 | q, [], _, _, hs, ne => by
  cases q with
  | nil => exact absurd rfl ne
  | cons a _ => have := hs a List.mem_cons_self; simp at this
 | [], b :: r, _, _, _, _ => by simp
 | a :: q, b :: r, hq, hr, hs, ne => by
  obtain ⟨q1, q2⟩ := List.pairwise_cons.mp hq
  obtain ⟨r1, r2⟩ := List.pairwise_cons.mp hr
  by_cases e : a = b
  ·subst e
   have : q.length < r.length := len_lt q2 r2 (fun x hx => by
    rcases List.mem_cons.mp (hs x (List.mem_cons_of_mem _ hx)) with z | z
    ·have := q1 x hx; omega
    ·exact z) fun z => ne (by rw [z])
   simpa using this
  ·have ab : b < a := by
    rcases List.mem_cons.mp (hs a List.mem_cons_self) with z | z
    ·exact absurd z e
    ·exact r1 a z
   have sub' : ∀ x ∈ a :: q, x ∈ r := fun x hx => by
    rcases List.mem_cons.mp (hs x hx) with z | z
    ·rcases List.mem_cons.mp hx with y | y
     ·omega
     ·have := q1 x y; omega
    ·exact z
   by_cases z : a :: q = r
   ·rw [← z]; simp
   ·have := len_lt hq r2 sub' z
    rw [List.length_cons (a := b)]; omega
section
variable {hol : List Nat → Bool} {P : List (List Nat)}
noncomputable def Min (hol : List Nat → Bool) (P : List (List Nat)) (r : List Nat) : Bool := hol r && P.all fun q => !(sub q r && !decide (q = r) && hol q)
theorem min_iff {r : List Nat} : Min hol P r = true ↔ hol r = true ∧ ∀ q ∈ P, sub q r = true → q ≠ r → hol q = false := by
 unfold Min
 rw [Bool.and_eq_true, List.all_eq_true]
 constructor
 ·rintro ⟨h1, h2⟩
  refine ⟨h1, fun q hq hs ne => ?_⟩
  have := h2 q hq
  simpa [hs, ne] using this
 ·rintro ⟨h1, h2⟩
  refine ⟨h1, fun q hq => ?_⟩
  by_cases hs : sub q r = true
  ·by_cases ne : q = r
   ·simp [ne]
   ·simp [h2 q hq hs ne]
  ·simp [hs]
theorem sub_trans {a b c : List Nat} (h : sub a b = true) (k : sub b c = true) : sub a c = true := cg.mpr fun x hx => cg.mp k x (cg.mp h x hx)
theorem ex_min (ris : ∀ r ∈ P, r.Pairwise (· < ·)) : ∀ (n : Nat) (r : List Nat), r ∈ P → r.length ≤ n → hol r = true → ∃ q ∈ P, Min hol P q = true ∧ sub q r = true := by
 intro n
 induction n with
 | zero =>
  intro r hr hl hh
  have : r = [] := List.length_eq_zero_iff.mp (by omega)
  subst this
  refine ⟨[], hr, min_iff.mpr ⟨hh, fun q hq hs ne => ?_⟩, by simp [sub]⟩
  cases q with
  | nil => exact absurd rfl ne
  | cons a _ => have := cg.mp hs a List.mem_cons_self; simp at this
 | succ n ih =>
  intro r hr hl hh
  by_cases hm : Min hol P r = true
  ·exact ⟨r, hr, hm, cg.mpr fun _ h => h⟩
  ·have : ∃ q ∈ P, sub q r = true ∧ q ≠ r ∧ hol q = true := by
    apply Classical.byContradiction
    intro no
    refine hm (min_iff.mpr ⟨hh, fun q hq hs ne => ?_⟩)
    cases hq' : hol q with
    | false => rfl
    | true => exact absurd ⟨q, hq, hs, ne, hq'⟩ no
   obtain ⟨q, hq, hs, ne, hq'⟩ := this
   have lt := len_lt (ris q hq) (ris r hr) (cg.mp hs) ne
   obtain ⟨q', h1, h2, h3⟩ := ih q hq (by omega) hq'
   exact ⟨q', h1, h2, sub_trans h3 hs⟩
noncomputable def kstep (hol : List Nat → Bool) (F : List (List Nat)) (r : List Nat) : List (List Nat) := if hol r && !(F.any fun k => sub k r) then F ++ [r] else F
theorem kstep_eq {S pre suf : List (List Nat)} {r : List Nat} (ris : ∀ r ∈ P, r.Pairwise (· < ·)) (mem : ∀ r, r ∈ S ↔ r ∈ P) (nd : S.Nodup) (le : S.Pairwise fun a b => a.length ≤ b.length) (e : S = pre ++ r :: suf) :
  kstep hol (pre.filter (Min hol P)) r = (pre ++ [r]).filter (Min hol P) := by
 have rP : r ∈ P := (mem r).mp (by rw [e]; simp)
 have key : (hol r && !((pre.filter (Min hol P)).any fun k => sub k r)) = Min hol P r := by
  cases hr : hol r with
  | false => unfold Min; rw [hr]; rfl
  | true =>
   rw [Bool.true_and]
   cases hm : Min hol P r with
   | true =>
    have : ((pre.filter (Min hol P)).any fun k => sub k r) = false := by
     rw [List.any_eq_false]
     intro k hk hs
     obtain ⟨k1, k2⟩ := List.mem_filter.mp hk
     have ne : k ≠ r := fun z => by
      rw [e] at nd
      exact (List.nodup_append.mp nd).2.2 k k1 r List.mem_cons_self z
     have := (min_iff.mp hm).2 k ((mem k).mp (by rw [e]; exact List.mem_append_left _ k1)) hs ne
     rw [(min_iff.mp k2).1] at this; cases this
    rw [this]; rfl
   | false =>
    obtain ⟨q, q1, q2, q3⟩ := ex_min (hol := hol) ris r.length r rP (Nat.le_refl _) hr
    have ne : q ≠ r := fun z => by rw [z, hm] at q2; cases q2
    have lt := len_lt (ris q q1) (ris r rP) (cg.mp q3) ne
    have qp : q ∈ pre := by
     have : q ∈ pre ++ r :: suf := by rw [← e]; exact (mem q).mpr q1
     rcases List.mem_append.mp this with h | h
     ·exact h
     ·rcases List.mem_cons.mp h with h | h
      ·exact absurd h ne
      ·rw [e] at le
       have := (List.pairwise_cons.mp (List.pairwise_append.mp le).2.1).1 q h
       omega
    have : ((pre.filter (Min hol P)).any fun k => sub k r) = true := List.any_eq_true.mpr ⟨q, List.mem_filter.mpr ⟨qp, q2⟩, q3⟩
    rw [this]; rfl
 unfold kstep
 rw [key, List.filter_append]
 cases hm : Min hol P r with
 | true => simp [hm]
 | false => simp [hm]
theorem kloop {S : List (List Nat)} (ris : ∀ r ∈ P, r.Pairwise (· < ·)) (mem : ∀ r, r ∈ S ↔ r ∈ P) (nd : S.Nodup) (le : S.Pairwise fun a b => a.length ≤ b.length) : ∀ (suf pre : List (List Nat)), S = pre ++ suf → suf.foldl (kstep hol) (pre.filter (Min hol P)) = S.filter (Min hol P)
 | [], pre, e => by rw [e, List.append_nil]; rfl
 | r :: suf, pre, e => by
  rw [List.foldl_cons, kstep_eq ris mem nd le e]
  exact kloop ris mem nd le suf (pre ++ [r]) (by rw [e]; simp)
noncomputable def lessOf (r : List Nat) : List (List Nat) := (List.range r.length).map fun k => r.take k ++ r.drop (k + 1)
noncomputable def Due (hol : List Nat → Bool) (r : List Nat) : Bool := hol r && !((lessOf r).any hol)
theorem due_eq {cs r : List Nat} (mono : ∀ a b, sub a b = true → hol a = true → hol b = true) (hc : cs.Pairwise (· < ·)) (hr : r ∈ ar cs) : Due hol r = Min hol (ar cs) r := by
 have sl := mem_subs.mp hr
 have rr : r.Pairwise (· < ·) := hc.sublist sl
 unfold Due
 cases hh : hol r with
 | false => unfold Min; rw [hh]; rfl
 | true =>
  rw [Bool.true_and]
  cases hm : Min hol (ar cs) r with
  | true =>
   have : (lessOf r).any hol = false := by
    rw [List.any_eq_false]
    intro l hl hol'
    obtain ⟨k, hk, rfl⟩ := List.mem_map.mp hl
    have hk := List.mem_range.mp hk
    have lsub : (r.take k ++ r.drop (k + 1)).Sublist r := by
     have : (r.take k ++ r.drop (k + 1)).Sublist (r.take k ++ r.drop k) := (List.Sublist.refl _).append (by
      rw [List.drop_eq_getElem_cons hk]; exact List.sublist_cons_self _ _)
     rwa [List.take_append_drop] at this
    have := (min_iff.mp hm).2 _ (mem_subs.mpr (lsub.trans sl)) (cg.mpr fun x hx => lsub.subset hx) fun z => by
     have := congrArg List.length z
     rw [List.length_append, List.length_take, List.length_drop] at this
     omega
    rw [hol'] at this; cases this
   rw [this]; rfl
  | false =>
   have : (lessOf r).any hol = true := by
    have : ∃ q ∈ ar cs, sub q r = true ∧ q ≠ r ∧ hol q = true := by
     apply Classical.byContradiction
     intro no
     have : Min hol (ar cs) r = true := min_iff.mpr ⟨hh, fun q hq hs ne => by
      cases hq' : hol q with
      | false => rfl
      | true => exact absurd ⟨q, hq, hs, ne, hq'⟩ no⟩
     rw [hm] at this; cases this
    obtain ⟨q, hq, hs, ne, hq'⟩ := this
    have qq : q.Pairwise (· < ·) := hc.sublist (mem_subs.mp hq)
    have lt := len_lt qq rr (cg.mp hs) ne
    have : ∃ x ∈ r, x ∉ q := by
     apply Classical.byContradiction
     intro no
     have all : ∀ x ∈ r, x ∈ q := fun x hx => Classical.byContradiction fun z => no ⟨x, hx, z⟩
     have := len_lt rr qq all ne.symm
     omega
    obtain ⟨x, hx, hxq⟩ := this
    obtain ⟨k, hk, rfl⟩ := List.mem_iff_getElem.mp hx
    refine List.any_eq_true.mpr ⟨_, List.mem_map.mpr ⟨k, List.mem_range.mpr hk, rfl⟩, mono q _ (cg.mpr fun y hy => ?_) hq'⟩
    have yr := cg.mp hs y hy
    rw [← List.take_append_drop k r] at yr
    rcases List.mem_append.mp yr with z | z
    ·exact List.mem_append_left _ z
    ·rw [List.drop_eq_getElem_cons hk] at z
     rcases List.mem_cons.mp z with z | z
     ·exact absurd (z ▸ hy) hxq
     ·exact List.mem_append_right _ z
   rw [this]; rfl
theorem min_nonempty {cs r : List Nat} {F : List (List Nat)} (hF : F = (ar cs).filter (Min hol (ar cs)) ∨ F.Perm ((ar cs).filter (Min hol (ar cs)))) (nd : F.Nodup) (h2 : 2 ≤ F.length) (hr : r ∈ F) : r ≠ [] := by
 have mem : ∀ q ∈ F, q ∈ ar cs ∧ Min hol (ar cs) q = true := fun q hq => by
  rcases hF with z | z
  ·rw [z] at hq; exact List.mem_filter.mp hq
  ·exact List.mem_filter.mp (z.mem_iff.mp hq)
 intro e
 subst e
 have all : ∀ q ∈ F, q = [] := fun q hq => by
  apply Classical.byContradiction
  intro ne
  have := (min_iff.mp (mem q hq).2).2 [] (mem [] hr).1 (by simp [sub]) fun z => ne z.symm
  rw [(min_iff.mp (mem [] hr).2).1] at this; cases this
 match F, nd, h2, all with
 | a :: b :: _, nd, _, all =>
  have h1 := all a (by simp)
  have h2 := all b (by simp)
  rw [h1, h2] at nd
  simp at nd
end
theorem any_map {α : Type} (f : α → Bool) (l : List α) : pyAny (.lst (l.map fun a => Pu.D.bl (f a))) = some (.bl (l.any f)) := by
 unfold pyAny
 have : ga (l.map fun a => Pu.D.bl (f a)) = some (l.map f) := boolsOf_map f l
 simp [this]
theorem lies_eqT (n : Nat) (cs rs : List Nat) (hl : cs.length ≤ 1000) : ae (tab (n + 1)) be [tN cs, tN rs] = .ok (.bl (sub cs rs)) := by
 rw [e_lies_in]
 have hc : ci (cq (gArg 0)) [1] (gC (.bl true)) (g2 pyIn (gArg 0) (gArg 1)) [.bo (tN cs), .bo (tN rs)] = .ok (.lst (cs.map fun c => Pu.D.bl (decide (c ∈ rs)))) :=
  comp_map (f := fun (c : Nat) => Pu.D.int (c : Int)) (by simp [tN, ai]) (by omega) fun c hc => by
   have e := in_tN c rs
   show (g2 pyIn (gArg 0) (gArg 1)) [.pu (.int (c : Int)), .bo (tN rs)] = _
   simp [e]
 have ha := all_map (fun c => decide (c ∈ rs)) cs
 simp -implicitDefEqProofs [b_lies_in, hc, ha, sub]
theorem pa_loop2 {v0 : Sl} : ∀ (cs : List Nat) (P : List (List Nat)) (s v2 : Sl), isP s P → (∀ r ∈ P, r.length + cs.length ≤ 90) → P.length * 2 ^ cs.length ≤ 400 →
  ∃ s' w2, isP s' (cs.foldl grow P) ∧ turns (dz 2) paB (ai cs) [v0, s, v2] = .nx [v0, s', w2] := by
 intro cs
 induction cs with
 | nil => intro P s v2 h hr hl; exact ⟨s, v2, h, rfl⟩
 | cons c cs ih =>
  intro P s v2 h hr hl
  rw [List.length_cons, Nat.pow_succ] at hl
  have h1 : 1 ≤ 2 ^ cs.length := Nat.one_le_two_pow
  have h2 : P.length * 2 * 2 ^ cs.length ≤ 400 := by rw [Nat.mul_assoc, Nat.mul_comm 2]; exact hl
  have h3 : P.length ≤ 400 := by
   have : P.length * 1 ≤ P.length * 2 * 2 ^ cs.length := by
    rw [Nat.mul_assoc]
    exact Nat.mul_le_mul_left _ (by omega)
   omega
  rw [show ai (c :: cs) = .int (c : Int) :: ai cs from rfl, fu (δ1 := [v0, s, .pu (.int (c : Int))]) rfl, paB_at h h3 fun r hr' => by have := hr r hr'; omega]
  refine ih _ _ _ (.inr rfl) (fun r hr' => ?_) (by unfold grow; rw [List.length_append, List.length_map, ← Nat.mul_two]; exact h2)
  rw [List.length_cons] at hr
  rcases List.mem_append.mp hr' with hr' | hr'
  ·have := hr r hr'; omega
  ·obtain ⟨r', hr'', rfl⟩ := List.mem_map.mp hr'
   have := hr r' hr''
   rw [List.length_append]; simp; omega
theorem pa_run {cs : List Nat} (hc : cs.length ≤ 6) {v0 : Sl} (hv : v0 = .bo (tN cs)) : ∃ s' w2, isP s' (ar cs) ∧ sFor (dz 2) (cq (gBo 0)) paB [v0, .ow [tN []], .no] = .nx [v0, s', w2] := by
 have h64 : 2 ^ cs.length ≤ 2 ^ 6 := Nat.pow_le_pow_right (by decide) hc
 obtain ⟨s', w2, h1, h2⟩ := pa_loop2 (v0 := v0) cs [[]] (.ow [tN []]) .no (.inl rfl) (fun r hr => by rw [List.mem_singleton.mp hr]; simp; omega) (by simp; omega)
 refine ⟨s', w2, h1, ?_⟩
 subst hv
 rw [sFor_ok (ds := ai cs) (by simp [tN])]
 exact h2
theorem law_parts_eq (n : Nat) {cs : List Nat} (hc : cs.length ≤ 6) : ae (tab (n + 1)) bu [tN cs] = .ok (.lst ((ar cs).map tN)) := by
 obtain ⟨s', w2, p3, t⟩ := pa_run hc (v0 := .bo (tN cs)) rfl
 unfold paB at t
 rw [e_law_parts n]
 simp only [List.length_cons, List.length_nil, Pu.v_entry_t, Pu.cz, List.replicate, Nat.reduceAdd, Nat.reduceSub, List.cons_append, List.nil_append]
 unfold b_law_parts
 have s0 : sSetO 1 (gLst (Pu.aa (Pu.gTup Pu.gNil) Pu.gNil)) [.bo (tN cs), .no, .no] = .nx [.bo (tN cs), .ow [tN []], .no] := by
  simp [tN, ai]
 rw [Pu.fh, s0]
 dsimp only
 rw [Pu.fh]
 simp only [Pu.v_fz, Pu.v_fz_nil, Pu.v_frz, List.getElem?_cons_zero, List.getElem?_cons_succ]
 rw [t]
 rcases p3 with rfl | rfl <;> simp
noncomputable def keyL (r : List Nat) : List Int := (r.length : Int) :: intsN r
noncomputable def decN (k : List Int) : List Nat := k.map Int.toNat
theorem dec_ints (r : List Nat) : decN (intsN r) = r := by
 unfold decN intsN
 rw [List.map_map]
 have : (Int.toNat ∘ fun (k : Nat) => (k : Int)) = id := by funext k; simp
 rw [this, List.map_id]
theorem sort_shape {key : List Nat → List Int} {dec : List Int → List Nat} (hd : ∀ r, dec (key r) = r) {P : List (List Nat)} (nd : P.Nodup) :
  ∃ S : List (List Nat), S.Perm P ∧ S.Pairwise (fun a b => key a < key b) ∧ sortK (P.map fun r => (key r, tN r)) = S.map fun r => (key r, tN r) := by
 have pr := sortK_perm (P.map fun r => (key r, tN r))
 have nk : ((P.map fun r => (key r, tN r)).map (·.1)).Nodup := by
  rw [List.map_map]
  exact List.Pairwise.map _ (fun a b hab z => hab (by have := congrArg dec z; simpa [hd] using this)) nd
 have pw := sortK_pw nk
 have sh : ∀ x ∈ sortK (P.map fun r => (key r, tN r)), x = (key (dec x.1), tN (dec x.1)) := fun x hx => by
  obtain ⟨r, _, rfl⟩ := List.mem_map.mp (pr.mem_iff.mp hx)
  show (key r, tN r) = (key (dec (key r)), tN (dec (key r)))
  rw [hd]
 refine ⟨(sortK (P.map fun r => (key r, tN r))).map fun x => dec x.1, ?_, ?_, ?_⟩
 ·have := pr.map fun x : List Int × Pu.D => dec x.1
  rw [List.map_map] at this
  have e : ((fun x : List Int × Pu.D => dec x.1) ∘ fun r => (key r, tN r)) = id := by funext r; exact hd r
  rwa [e, List.map_id] at this
 ·rw [List.pairwise_map]
  refine List.Pairwise.imp_of_mem (fun {a b} ha hb hab => ?_) pw
  have e1 := congrArg Prod.fst (sh a ha)
  have e2 := congrArg Prod.fst (sh b hb)
  dsimp only at e1 e2
  rw [← e1, ← e2]; exact hab
 ·rw [List.map_map]
  exact ((List.map_congr_left fun x hx => (sh x hx).symm).trans (List.map_id _)).symm
theorem zip_map2 {α β γ : Type} (f : α → β) (g : α → γ) : ∀ l : List α, (l.map f).zip (l.map g) = l.map fun a => (f a, g a)
 | [] => rfl
 | a :: l => by rw [List.map_cons, List.map_cons, List.zip_cons_cons, zip_map2 f g l]; rfl
theorem intsL_nats : ∀ r : List Nat, intsL (ai r) = some (intsN r)
 | [] => rfl
 | k :: r => by
  show (match Pu.intD (.int (k : Int)), intsL (ai r) with
   | some i, some q => some (i :: q)
   | _, _ => none) = _
  rw [intsL_nats r]; rfl
noncomputable def keyD (r : List Nat) : Pu.D := .tup [.int (r.length : Int), tN r]
theorem lam_keys (n : Nat) : ∀ P : List (List Nat), fm (tab (n + 2)) l_choices [] (P.map tN) = some (P.map keyD)
 | [] => rfl
 | r :: P => by
  have e : (tab (n + 2)).lam l_choices [] [tN r] = .ok (keyD r) := by
   rw [el_choices]
   unfold c_choices
   simp [tN, keyD, ai]
  rw [List.map_cons, fm, e, lam_keys n P]
  rfl
theorem keys_B : ∀ P : List (List Nat), keysB (P.map keyD) = some (P.map keyL)
 | [] => rfl
 | r :: P => by
  have e : keyB (keyD r) = some (keyL r) := by
   show (match Pu.intD (.int (r.length : Int)), tupL (tN r) with
    | some i, some c => some (i :: c)
    | _, _ => none) = _
   rw [show tupL (tN r) = some (intsN r) from intsL_nats r]; rfl
  rw [List.map_cons, keysB, e, keys_B P]
  rfl
theorem all6 {cs : List Nat} (hp : cs.Pairwise (· < ·)) (h6 : lt6 cs) (hl : cs.length = 6) : cs = [0, 1, 2, 3, 4, 5] := by
 apply Classical.byContradiction
 intro ne
 have := len_lt hp (show ([0, 1, 2, 3, 4, 5] : List Nat).Pairwise (· < ·) by decide) (fun x hx => by
  have := h6 x hx
  have : x = 0 ∨ x = 1 ∨ x = 2 ∨ x = 3 ∨ x = 4 ∨ x = 5 := by omega
  rcases this with rfl | rfl | rfl | rfl | rfl | rfl <;> decide) ne
 simp [hl] at this
theorem key64 : (ar [0, 1, 2, 3, 4, 5]).map keyL = K64 := by decide +kernel
theorem choices_eq (n : Nat) {cs : List Nat} (hp : cs.Pairwise (· < ·)) (h6 : lt6 cs) (hc : cs.length ≤ 6) : ∃ S : List (List Nat), S.Perm (ar cs) ∧ S.Pairwise (fun a b => a.length ≤ b.length) ∧ ae (tab (n + 2)) b0 [tN cs] = .ok (.lst (S.map tN)) := by
 obtain ⟨s', w2, p3, t⟩ := pa_run hc (v0 := .bo (tN cs)) rfl
 have nd := subs_nodup (ris_nodup hp)
 have hlen : (ar cs).length = 2 ^ cs.length := by unfold ar; rw [fold_len]; simp
 obtain ⟨S, h1, h2, h3⟩ := sort_shape (key := keyL) (dec := fun k => decN k.tail) (fun r => dec_ints r) nd
 have le : S.Pairwise fun a b => a.length ≤ b.length := h2.imp fun {a b} hab => by
  unfold keyL at hab
  rcases List.cons_lt_cons_iff.mp hab with z | ⟨z, _⟩
  ·omega
  ·omega
 have sb : ∃ S : List (List Nat), S.Perm (ar cs) ∧ S.Pairwise (fun a b => a.length ≤ b.length) ∧ sortBy ((ar cs).map keyD) ((ar cs).map tN) = some (S.map tN) := by
  by_cases z : (ar cs).length < 2
  ·refine ⟨ar cs, .refl _, ?_, ?_⟩
   ·rw [List.pairwise_iff_getElem]
    intro i j hi hj hij
    omega
   ·unfold sortBy
    rw [if_pos (by simpa using z)]
  ·refine ⟨S, h1, le, ?_⟩
   unfold sortBy
   rw [if_neg (by simpa using z), keys_B]
   dsimp only
   have cond : (((ar cs).map tN).length < 64 ∨ (ar cs).map keyL = K64) ∧ ((ar cs).map keyL).Nodup := by
    refine ⟨?_, List.Pairwise.map _ (fun a b hab e => hab (by have := congrArg (fun k : List Int => decN k.tail) e; simpa [keyL, dec_ints] using this)) nd⟩
    by_cases h : cs.length = 6
    ·right
     rw [all6 hp h6 h]; exact key64
    ·left
     rw [List.length_map, hlen]
     have : 2 ^ cs.length ≤ 2 ^ 5 := Nat.pow_le_pow_right (by decide) (by omega)
     omega
   rw [if_pos cond, zip_map2, h3, List.map_map]
   rfl
 obtain ⟨S, g1, g2, g3⟩ := sb
 refine ⟨S, g1, g2, ?_⟩
 unfold paB at t
 rw [e_choices (n + 1)]
 simp only [List.length_cons, List.length_nil, Pu.v_entry_t, Pu.cz, List.replicate, Nat.reduceAdd, Nat.reduceSub, List.cons_append, List.nil_append]
 unfold b_choices
 have s0 : sSetO 1 (gLst (Pu.aa (Pu.gTup Pu.gNil) Pu.gNil)) [.bo (tN cs), .no, .no] = .nx [.bo (tN cs), .ow [tN []], .no] := by
  simp [tN, ai]
 rw [Pu.fh, s0]
 dsimp only
 rw [Pu.fh]
 simp only [Pu.v_fz, Pu.v_fz_nil, Pu.v_frz, List.getElem?_cons_zero, List.getElem?_cons_succ]
 rw [t]
 dsimp only
 have ha : gArg 1 [.bo (tN cs), s', w2] = .ok (.lst ((ar cs).map tN)) := p3.arg
 have hk : sortKD (tab (n + 2)) (.lst ((ar cs).map tN)) (.obj l_choices []) = some (.lst (S.map tN)) := by
  unfold sortKD
  dsimp only
  rw [lam_keys n]
  dsimp only
  rw [if_pos (by rw [List.length_map, hlen]; have : 2 ^ cs.length ≤ 2 ^ 6 := Nat.pow_le_pow_right (by decide) hc; omega), g3]
  rfl
 have hg : gSortK (tab (n + 2)) (gArg 1) (gLamI l_choices [] []) [.bo (tN cs), s', w2] = .ok (.lst (S.map tN)) := by
  unfold gSortK
  rw [ha]
  show Res.of (sortKD (tab (n + 2)) (.lst ((ar cs).map tN)) (.obj l_choices [])) = _
  rw [hk]; rfl
 rw [Pu.v_ret, hg]
 rfl
theorem checked_columns_ok (n : Nat) {m : Nat} {cs : List Nat} (g : Good m cs) (hm : m ≤ 1000) : ae (tab (n + 5)) ah [tI (colI cs), .int (m : Int)] = .ok (tI (colI cs)) := by
 have h := columns_ok n g hm
 rw [e_checked_columns]
 simp -implicitDefEqProofs [fk, h]
noncomputable abbrev holB (bs : List Bd) (cs r : List Nat) : Bool := fol bs r cs
theorem hang_eq (n : Nat) {bs : List Bd} {cs r : List Nat} (F : Few bs) (hc : cs.length ≤ 1000) (hr : r.length ≤ 100) : ∃ d, ae (tab (n + 4)) b9 [bsN bs, tN r, tN cs] = .ok d ∧ pyEq d (tN cs) = some (.bl (holB bs cs r)) := by
 obtain ⟨rs', h1, h2⟩ := hanging_eq n (bs := bs) (fun b hb => ⟨(F.g b hb).1, (F.g b hb).2.1⟩) (wt := cs) (cs := r) hc F.l hr
 have e : decide ((cs.filter fun c => decide (c ∈ rs')) = cs) = fol bs r cs := by
  cases hf : fol bs r cs with
  | true =>
   refine decide_eq_true (List.filter_eq_self.mpr fun c hc => ?_)
   exact decide_eq_true ((h1 c hc).mpr (fol_iff.mp hf c hc))
  | false =>
   refine decide_eq_false fun z => ?_
   rw [fol_iff.mpr fun c hc => (h1 c hc).mp (of_decide_eq_true (List.filter_eq_self.mp z c hc))] at hf
   cases hf
 have q := eq_tN (cs.filter fun c => decide (c ∈ rs')) cs
 rw [e] at q
 exact ⟨_, h2, q⟩
noncomputable def kyB (n : Nat) : En → Out := (sIf (gAnd (g2 pyEq (bp (ae (tab n) b9) (Pu.aa (gArg 0) (Pu.aa (gArg 4) (Pu.aa (gArg 2) Pu.gNil)))) (gArg 2)) (gNot (gTru (g1 pyAny (ci (cq (gArg 3)) [4] (gC (.bl true)) (bp (ae (tab n) be) (Pu.aa (gArg 0) (Pu.aa (gArg 1) Pu.gNil)))))))) (fz [4] (sApp 3 (gVar 4))) sNil)
section
variable {bs : List Bd} {cs : List Nat} {v1 : Sl}
theorem kyB_at (n : Nat) (F : Few bs) (hc : cs.length ≤ 1000) {L : List (List Nat)} {r : List Nat} (hL : L.length ≤ 1000) (hl : ∀ k ∈ L, k.length ≤ 100) (hr : r.length ≤ 100) :
  kyB (n + 4) [.pu (bsN bs), v1, .pu (tN cs), .ow (L.map tN), .pu (tN r)] = .nx [.pu (bsN bs), v1, .pu (tN cs), .ow ((kstep (holB bs cs) L r).map tN), .pu (tN r)] := by
 obtain ⟨d, h1, h2⟩ := hang_eq n F hc hr
 have c1 : bp (ae (tab (n + 4)) b9) (Pu.aa (gArg 0) (Pu.aa (gArg 4) (Pu.aa (gArg 2) Pu.gNil))) [.pu (bsN bs), v1, .pu (tN cs), .ow (L.map tN), .pu (tN r)] = .ok d := ce (ds := [bsN bs, tN r, tN cs]) (by simp) h1
 have c2 : ci (cq (gArg 3)) [4] (gC (.bl true)) (bp (ae (tab (n + 4)) be) (Pu.aa (gArg 0) (Pu.aa (gArg 1) Pu.gNil))) [.pu (bsN bs), v1, .pu (tN cs), .ow (L.map tN), .pu (tN r)] = .ok (.lst (L.map fun k => Pu.D.bl (sub k r))) :=
  comp_map (f := tN) (by simp) (by omega) fun k hk => by
   show bp (ae (tab (n + 4)) be) (Pu.aa (gArg 0) (Pu.aa (gArg 1) Pu.gNil)) [.pu (tN k), .pu (tN r)] = _
   exact ce (ds := [tN k, tN r]) (by simp) (lies_eqT (n + 3) k r (by have := hl k hk; omega))
 have c3 : g1 pyAny (ci (cq (gArg 3)) [4] (gC (.bl true)) (bp (ae (tab (n + 4)) be) (Pu.aa (gArg 0) (Pu.aa (gArg 1) Pu.gNil)))) [.pu (bsN bs), v1, .pu (tN cs), .ow (L.map tN), .pu (tN r)] = .ok (.bl (L.any fun k => sub k r)) := by
  rw [Pu.v_g1, c2, Pu.cb, any_map]; rfl
 unfold kyB kstep
 rw [Pu.v_if, Pu.v_and, Pu.v_g2, c1, Pu.cb]
 rw [Pu.v_not, Pu.v_tru, c3]
 have ha : gArg 2 [.pu (bsN bs), v1, .pu (tN cs), .ow (L.map tN), .pu (tN r)] = .ok (tN cs) := rfl
 rw [ha, Pu.cb, h2]
 cases hh : holB bs cs r with
 | false => simp
 | true =>
  cases hy : L.any fun k => sub k r with
  | true => simp
  | false => simp [show L.length < 16777216 by omega]
theorem kstep_len (hol : List Nat → Bool) (L : List (List Nat)) (r : List Nat) : (kstep hol L r).length ≤ L.length + 1 := by
 unfold kstep
 split
 ·simp
 ·omega
theorem kstep_mem {hol : List Nat → Bool} {L : List (List Nat)} {r k : List Nat} (h : k ∈ kstep hol L r) : k ∈ L ∨ k = r := by
 unfold kstep at h
 split at h
 ·rcases List.mem_append.mp h with z | z
  ·exact .inl z
  ·exact .inr (List.mem_singleton.mp z)
 ·exact .inl h
theorem ky_loop (n : Nat) (F : Few bs) (hc : cs.length ≤ 1000) : ∀ (S L : List (List Nat)) (v4 : Sl), L.length + S.length ≤ 1000 → (∀ k ∈ L, k.length ≤ 100) → (∀ k ∈ S, k.length ≤ 100) →
  ∃ w4, turns (dz 4) (kyB (n + 4)) (S.map tN) [.pu (bsN bs), v1, .pu (tN cs), .ow (L.map tN), v4] = .nx [.pu (bsN bs), v1, .pu (tN cs), .ow ((S.foldl (kstep (holB bs cs)) L).map tN), w4] := by
 intro S
 induction S with
 | nil => intro L v4 _ _ _; exact ⟨v4, rfl⟩
 | cons r S ih =>
  intro L v4 hl h1 h2
  rw [List.length_cons] at hl
  rw [List.map_cons, fu (δ1 := [.pu (bsN bs), v1, .pu (tN cs), .ow (L.map tN), .pu (tN r)]) rfl, kyB_at n F hc (by omega) h1 (h2 r List.mem_cons_self)]
  have := kstep_len (holB bs cs) L r
  refine ih _ _ (by omega) (fun k hk => ?_) fun k hk => h2 k (List.mem_cons_of_mem _ hk)
  rcases kstep_mem hk with z | z
  ·exact h1 k z
  ·rw [z]; exact h2 r List.mem_cons_self
theorem keys_eqS (n : Nat) {m : Nat} (g : ∀ b ∈ bs, GoodB m b) (gc : Good m cs) (h1 : 1 ≤ m) (h6 : m ≤ 6) (hb : bs.length ≤ 10) :
  ∃ S : List (List Nat), S.Perm (ar cs) ∧ ∀ d : Pu.D, (cw (.lst ((S.filter (Min (holB bs cs) (ar cs))).map tN)) = some d → ae (tab (n + 7)) d7 [bsN bs, .int (m : Int), tN cs] = .ok d) := by
 have l6 : lt6 cs := fun c hc => by have := gc.lt c hc; omega
 have cl := gc.len
 have F := few_of g h6 (show bs.length ≤ 80 by omega)
 obtain ⟨S, p1, p2, p3⟩ := choices_eq (n + 4) gc.ris l6 (by omega)
 refine ⟨S, p1, fun d hd => ?_⟩
 have c1 := checked_bonds_ok n g h1 h6 hb
 have c2 := checked_columns_ok (n + 1) gc (by omega)
 rw [bsD_eq] at c1
 rw [tI_nats] at c2
 have sl : S.length = 2 ^ cs.length := by rw [p1.length_eq]; unfold ar; rw [fold_len]; simp
 have s64 : S.length ≤ 64 := by
  have : 2 ^ cs.length ≤ 2 ^ 6 := Nat.pow_le_pow_right (by decide) (by omega)
  omega
 have short : ∀ k ∈ S, k.length ≤ 100 := fun k hk => by
  have := (mem_subs.mp (p1.mem_iff.mp hk)).length_le
  omega
 obtain ⟨w4, t⟩ := ky_loop (n + 2) F (cs := cs) (v1 := .pu (.int (m : Int))) (by omega) S [] .no (by simp; omega) (fun k hk => by simp at hk) short
 have fin := kloop (hol := holB bs cs) (P := ar cs) (S := S) (fun r hr => gc.ris.sublist (mem_subs.mp hr)) (fun r => p1.mem_iff) (p1.nodup_iff.mpr (subs_nodup (ris_nodup gc.ris))) p2 S [] rfl
 rw [List.filter_nil] at fin
 rw [fin] at t
 rw [e_keys (n + 6)]
 simp only [List.length_cons, List.length_nil, Pu.v_entry_f, Pu.cz, List.replicate, Nat.reduceAdd, Nat.reduceSub, List.cons_append, List.nil_append, List.append_nil]
 unfold b_keys
 have s1 : fz [0, 1] (sDrop (bp (ae (tab (n + 6)) aq) (Pu.aa (gVar 0) (Pu.aa (gVar 1) Pu.gNil)))) [.pu (bsN bs), .pu (.int (m : Int)), .pu (tN cs), .no, .no] = .nx [.pu (bsN bs), .pu (.int (m : Int)), .pu (tN cs), .no, .no] := by
  simp only [Pu.v_fz, Pu.v_fz_nil, Pu.v_frz, List.getElem?_cons_zero, List.getElem?_cons_succ]
  exact drop_eq (ce (ds := [bsN bs, .int (m : Int)]) (by simp) c1)
 have s2 : fz [2, 1] (sDrop (bp (ae (tab (n + 6)) ah) (Pu.aa (gVar 2) (Pu.aa (gVar 1) Pu.gNil)))) [.pu (bsN bs), .pu (.int (m : Int)), .pu (tN cs), .no, .no] = .nx [.pu (bsN bs), .pu (.int (m : Int)), .pu (tN cs), .no, .no] := by
  simp only [Pu.v_fz, Pu.v_fz_nil, Pu.v_frz, List.getElem?_cons_zero, List.getElem?_cons_succ]
  exact drop_eq (ce (ds := [tN cs, .int (m : Int)]) (by simp) c2)
 have k3 : bp (ae (tab (n + 6)) b0) (Pu.aa (gArg 2) Pu.gNil) [.pu (bsN bs), .pu (.int (m : Int)), .pu (tN cs), .ow [], .no] = .ok (.lst (S.map tN)) := ce (ds := [tN cs]) (by simp) p3
 have s3 : sFor (dz 4) (cq (bp (ae (tab (n + 6)) b0) (Pu.aa (gArg 2) Pu.gNil))) (kyB (n + 6)) [.pu (bsN bs), .pu (.int (m : Int)), .pu (tN cs), .ow [], .no] = .nx [.pu (bsN bs), .pu (.int (m : Int)), .pu (tN cs), .ow ((S.filter (Min (holB bs cs) (ar cs))).map tN), w4] := by
  rw [sFor_ok (ds := S.map tN) (by rw [Pu.v_walk, k3]; rfl)]
  exact t
 unfold kyB at s3
 have s0 : sSetO 3 (gLst Pu.gNil) [.pu (bsN bs), .pu (.int (m : Int)), .pu (tN cs), .no, .no] = .nx [.pu (bsN bs), .pu (.int (m : Int)), .pu (tN cs), .ow [], .no] := by simp
 rw [Pu.fh, s1]
 dsimp only
 rw [Pu.fh, s2]
 dsimp only
 rw [Pu.fh, s0]
 dsimp only
 rw [Pu.fh, s3]
 dsimp only
 rw [Pu.v_ret, Pu.v_g1]
 have ha : gArg 3 [.pu (bsN bs), .pu (.int (m : Int)), .pu (tN cs), .ow ((S.filter (Min (holB bs cs) (ar cs))).map tN), w4] = .ok (.lst ((S.filter (Min (holB bs cs) (ar cs))).map tN)) := rfl
 rw [ha, Pu.cb, hd]
 rfl
end
theorem keysA_nats : ∀ {L : List (List Nat)}, (∀ r ∈ L, r ≠ []) → keysA (L.map tN) = some (L.map intsN)
 | [], _ => rfl
 | r :: L, h => by
  have e : keyA (tN r) = some (intsN r) := by
   show (match intsL (ai r) with
    | some (i :: q) => some (i :: q)
    | _ => none) = _
   rw [intsL_nats]
   cases r with
   | nil => exact absurd rfl (h [] List.mem_cons_self)
   | cons a r => rfl
  rw [List.map_cons, keysA, e, keysA_nats fun q hq => h q (List.mem_cons_of_mem _ hq)]
  rfl
theorem sorted_same {L M : List (List Nat)} (p : L.Perm M) (nd : M.Nodup) (hl : M.length < 64) (ne : 2 ≤ M.length → ∀ r ∈ M, r ≠ []) : ∃ S : List (List Nat), cw (.lst (L.map tN)) = some (.lst (S.map tN)) ∧ cw (.lst (M.map tN)) = some (.lst (S.map tN)) := by
 by_cases h2 : M.length < 2
 ·have e : L = M := by
   match L, M, p, h2 with
   | [], [], _, _ => rfl
   | [a], [b], p, _ => exact List.perm_singleton.mp p
   | [], [b], p, _ => have := p.length_eq; simp at this
   | _ :: _, [], p, _ => have := p.length_eq; simp at this
   | _ :: _ :: _, [b], p, _ => have := p.length_eq; simp at this
   | _, _ :: _ :: _, _, h => simp at h; omega
  subst e
  refine ⟨L, ?_, ?_⟩ <;> (unfold cw; dsimp only; rw [if_pos (by simpa using h2)])
 ·have h2' : 2 ≤ M.length := by omega
  have lL : L.length = M.length := p.length_eq
  obtain ⟨S, s1, s2, s3⟩ := sort_shape (key := intsN) (dec := decN) dec_ints nd
  have ndL : L.Nodup := p.nodup_iff.mpr nd
  obtain ⟨S', s1', s2', s3'⟩ := sort_shape (key := intsN) (dec := decN) dec_ints ndL
  have eS : S' = S := List.Perm.eq_of_pairwise (le := fun a b => intsN a < intsN b) (fun a b _ _ x y => absurd (List.lt_trans x y) (List.lt_irrefl _)) s2' s2 (s1'.trans (p.trans s1.symm))
  have nk : ∀ {L : List (List Nat)}, L.Nodup → (L.map intsN).Nodup := fun h => List.Pairwise.map _ (fun a b hab e => hab (by have := congrArg decN e; simpa [dec_ints] using this)) h
  refine ⟨S, ?_, ?_⟩
  ·unfold cw
   dsimp only
   rw [if_neg (by rw [List.length_map]; omega), if_pos (by rw [List.length_map]; omega), keysA_nats fun r hr => ne h2' r (p.mem_iff.mp hr)]
   dsimp only
   rw [if_pos (nk ndL), zip_map2, s3', eS, List.map_map]
   rfl
  ·unfold cw
   dsimp only
   rw [if_neg (by rw [List.length_map]; omega), if_pos (by rw [List.length_map]; omega), keysA_nats fun r hr => ne h2' r hr]
   dsimp only
   rw [if_pos (nk nd), zip_map2, s3, List.map_map]
   rfl
theorem holds_eq (n : Nat) {bs : List Bd} {cs r : List Nat} (F : Few bs) (hc : cs.length ≤ 1000) (hr : lt6 r) : ae (tab (n + 2)) ba [bsN bs, tN r, tN cs] = .ok (.bl (holB bs cs r)) := by
 have s1 := span_few n F hr
 have k1 : bp (ae (tab (n + 1)) bz) (Pu.aa (gArg 0) (Pu.aa (gArg 1) Pu.gNil)) [.bo (bsN bs), .bo (tN r), .bo (tN cs), .no] = .ok (tN (spanZ bs r)) := ce (ds := [bsN bs, tN r]) (by simp) s1
 have c1 : ci (cq (gArg 2)) [3] (g2 ft (gArg 0) (gArg 1)) (gVar 0) [.bo (bsN bs), .bo (tN r), .bo (tN cs), .pu (tN (spanZ bs r))] = .ok (.lst (ai (outOf cs (spanZ bs r)))) := by
  refine comp_filter (f := fun (c : Nat) => Pu.D.int (c : Int)) (by simp [tN, ai]) (by omega) fun c hc => ?_
  have e := notIn_tN c (spanZ bs r)
  show (g2 ft (gArg 0) (gArg 1)) [.pu (.int (c : Int)), .pu (tN (spanZ bs r))] = _
  simp [e]
 have e := (out_nil cs (spanZ bs r)).1
 rw [e_law_holds (n + 1)]
 simp only [List.length_cons, List.length_nil, Pu.v_entry_t, Pu.cz, List.replicate, Nat.reduceAdd, Nat.reduceSub, List.cons_append, List.nil_append]
 unfold b_law_holds
 have s : sSet 3 (bp (ae (tab (n + 1)) bz) (Pu.aa (gArg 0) (Pu.aa (gArg 1) Pu.gNil))) [.bo (bsN bs), .bo (tN r), .bo (tN cs), .no] = .nx [.bo (bsN bs), .bo (tN r), .bo (tN cs), .pu (tN (spanZ bs r))] := by
  rw [Pu.v_set, k1]; rfl
 rw [Pu.fh, s]
 dsimp only
 rw [Pu.v_ret, Pu.v_g2, c1]
 simp [e, holB, fol]
theorem cutT_to {ds : List Pu.D} {p : Nat} (h : p < ds.length) : pySlice (.tup ds) none (some (p : Int)) = some (.tup (ds.take p)) := by
 show (if HT.sIx ds.length 0 none = 0 ∧ HT.sIx ds.length ds.length (some (p : Int)) = ds.length then none else some (Pu.D.tup (Pu.cutD ds none (some (p : Int))))) = _
 rw [if_neg (by rw [HT.sIx_nat]; omega)]
 unfold Pu.cutD
 rw [HT.sIx_none, HT.sIx_nat, List.drop_zero, Nat.sub_zero]
 congr 2
 rw [← List.take_eq_take_min]
theorem cutT_from {ds : List Pu.D} {p : Nat} (h : p < ds.length) : pySlice (.tup ds) (some ((p : Int) + 1)) none = some (.tup (ds.drop (p + 1))) := by
 have e : ((p : Int) + 1) = ((p + 1 : Nat) : Int) := by omega
 show (if HT.sIx ds.length 0 (some ((p : Int) + 1)) = 0 ∧ HT.sIx ds.length ds.length none = ds.length then none else some (Pu.D.tup (Pu.cutD ds (some ((p : Int) + 1)) none))) = _
 rw [if_neg (by rw [e, HT.sIx_nat]; omega)]
 unfold Pu.cutD
 rw [e, HT.sIx_none, HT.sIx_nat]
 congr 2
 rw [Nat.min_eq_left (by omega), List.take_of_length_le (by rw [List.length_drop]; omega)]
theorem add_tN {a b : List Nat} (h : a.length + b.length ≤ 1000) : cf (tN a) (tN b) = some (tN (a ++ b)) := by
 show (if (ai a).length + (ai b).length ≤ sizeLine then some (Pu.D.tup (ai a ++ ai b)) else none) = _
 rw [if_pos (by rw [fx, fx, sizeLine_eq]; omega)]
 unfold tN
 rw [natsD_app]
noncomputable def lsE : En → Res := (g2 cf (gSl (gArg 1) none (some (gVar 0))) (gSl (gArg 1) (some (g2 cf (gArg 0) (gC (.int 1)))) none))
theorem lsE_at {r : List Nat} {j : Nat} (hj : j < r.length) (hl : r.length ≤ 1000) : lsE [.pu (.int (0 + (j : Int))), .pu (tN r)] = .ok (tN (r.take j ++ r.drop (j + 1))) := by
 have e0 : (0 + (j : Int)) = (j : Int) := by omega
 rw [e0]
 have hl' : (ai r).length = r.length := fx r
 have a1 : gSl (gArg 1) none (some (gVar 0)) [.pu (.int (j : Int)), .pu (tN r)] = .ok (tN (r.take j)) := by
  show Res.of (pySlice (.tup (ai r)) none (some (j : Int))) = _
  rw [cutT_to (by omega)]
  unfold tN ai
  rw [List.map_take]; rfl
 have a2 : gSl (gArg 1) (some (g2 cf (gArg 0) (gC (.int 1)))) none [.pu (.int (j : Int)), .pu (tN r)] = .ok (tN (r.drop (j + 1))) := by
  show Res.of (pySlice (.tup (ai r)) (some ((j : Int) + 1)) none) = _
  rw [cutT_from (by omega)]
  unfold tN ai
  rw [List.map_drop]; rfl
 unfold lsE
 rw [Pu.v_g2, a1, Pu.cb, a2, Pu.cb, add_tN (by rw [List.length_take, List.length_drop]; omega)]
 rfl
noncomputable def lwB (n : Nat) : En → Out := (sSeq (sSetO 6 (ci (dj (Pu.aa (g1 Pu.pyLen (gArg 5)) Pu.gNil)) [5] (gC (.bl true)) (g2 cf (gSl (gArg 1) none (some (gVar 0))) (gSl (gArg 1) (some (g2 cf (gArg 0) (gC (.int 1)))) none))))
 (sIf (gAnd (gTru (bp (ae (tab n) ba) (Pu.aa (gArg 2) (Pu.aa (gArg 5) (Pu.aa (gArg 3) Pu.gNil))))) (gNot (gTru (g1 pyAny (ci (cq (gArg 6)) [2, 3] (gC (.bl true)) (bp (ae (tab n) ba) (Pu.aa (gArg 1) (Pu.aa (gArg 0) (Pu.aa (gArg 2) Pu.gNil))))))))) (fz [5] (sApp 4 (gVar 5))) sNil))
section
variable {bs : List Bd} {cs : List Nat} {v0 v1 : Sl}
theorem lwB_at (n : Nat) (F : Few bs) (hc : cs.length ≤ 1000) {L : List (List Nat)} {r : List Nat} (hL : L.length ≤ 1000) (hr : lt6 r) (hl : r.length ≤ 100) {v6 : Sl} :
  ∃ w6, lwB (n + 2) [v0, v1, .pu (bsN bs), .pu (tN cs), .ow (L.map tN), .pu (tN r), v6, .no] = .nx [v0, v1, .pu (bsN bs), .pu (tN cs), .ow ((if Due (holB bs cs) r then L ++ [r] else L).map tN), .pu (tN r), w6, .no] := by
 have c0 : ci (dj (Pu.aa (g1 Pu.pyLen (gArg 5)) Pu.gNil)) [5] (gC (.bl true)) lsE [v0, v1, .pu (bsN bs), .pu (tN cs), .ow (L.map tN), .pu (tN r), v6, .no] = .ok (.lst ((List.range r.length).map fun j => tN (r.take j ++ r.drop (j + 1)))) := by
  refine comp_range (m := r.length) (f := fun j => tN (r.take j ++ r.drop (j + 1))) ?_ (by omega) fun j hj => ?_
  ·have e : ((r.length : Int)).toNat = r.length := by omega
   rw [show d8 0 r.length = d8 0 ((r.length : Int)).toNat by rw [e]]
   exact Pu.v_range1 _ _ (j' := (r.length : Int)) (by simp [tN, ai]) (by omega)
  ·show lsE [.pu (.int (0 + (j : Int))), .pu (tN r)] = _
   exact lsE_at hj (by omega)
 unfold lsE at c0
 have lm : ((List.range r.length).map fun j => tN (r.take j ++ r.drop (j + 1))) = (lessOf r).map tN := by
  unfold lessOf; rw [List.map_map]; rfl
 rw [lm] at c0
 have k1 : bp (ae (tab (n + 2)) ba) (Pu.aa (gArg 2) (Pu.aa (gArg 5) (Pu.aa (gArg 3) Pu.gNil))) [v0, v1, .pu (bsN bs), .pu (tN cs), .ow (L.map tN), .pu (tN r), .ow ((lessOf r).map tN), .no] = .ok (.bl (holB bs cs r)) := ce (ds := [bsN bs, tN r, tN cs]) (by simp) (holds_eq n F hc hr)
 have c2 : ci (cq (gArg 6)) [2, 3] (gC (.bl true)) (bp (ae (tab (n + 2)) ba) (Pu.aa (gArg 1) (Pu.aa (gArg 0) (Pu.aa (gArg 2) Pu.gNil)))) [v0, v1, .pu (bsN bs), .pu (tN cs), .ow (L.map tN), .pu (tN r), .ow ((lessOf r).map tN), .no] = .ok (.lst ((lessOf r).map fun l => Pu.D.bl (holB bs cs l))) :=
  comp_map (f := tN) (by simp) (by unfold lessOf; simp; omega) fun l hl' => by
   show bp (ae (tab (n + 2)) ba) (Pu.aa (gArg 1) (Pu.aa (gArg 0) (Pu.aa (gArg 2) Pu.gNil))) [.pu (tN l), .pu (bsN bs), .pu (tN cs)] = _
   obtain ⟨k, _, rfl⟩ := List.mem_map.mp hl'
   refine ce (ds := [bsN bs, tN (r.take k ++ r.drop (k + 1)), tN cs]) (by simp) (holds_eq n F hc fun c hc' => hr c ?_)
   rcases List.mem_append.mp hc' with z | z
   ·exact List.mem_of_mem_take z
   ·exact List.mem_of_mem_drop z
 have c3 : g1 pyAny (ci (cq (gArg 6)) [2, 3] (gC (.bl true)) (bp (ae (tab (n + 2)) ba) (Pu.aa (gArg 1) (Pu.aa (gArg 0) (Pu.aa (gArg 2) Pu.gNil))))) [v0, v1, .pu (bsN bs), .pu (tN cs), .ow (L.map tN), .pu (tN r), .ow ((lessOf r).map tN), .no] = .ok (.bl ((lessOf r).any (holB bs cs))) := by
  rw [Pu.v_g1, c2, Pu.cb, any_map]; rfl
 refine ⟨.ow ((lessOf r).map tN), ?_⟩
 unfold lwB
 have s6 : sSetO 6 (ci (dj (Pu.aa (g1 Pu.pyLen (gArg 5)) Pu.gNil)) [5] (gC (.bl true)) (g2 cf (gSl (gArg 1) none (some (gVar 0))) (gSl (gArg 1) (some (g2 cf (gArg 0) (gC (.int 1)))) none))) [v0, v1, .pu (bsN bs), .pu (tN cs), .ow (L.map tN), .pu (tN r), v6, .no] = .nx [v0, v1, .pu (bsN bs), .pu (tN cs), .ow (L.map tN), .pu (tN r), .ow ((lessOf r).map tN), .no] := by
  rw [Pu.v_setO, c0]; rfl
 rw [Pu.fh, s6]
 dsimp only
 rw [Pu.v_if, Pu.v_and, Pu.v_tru, k1, Pu.cb, Pu.v_not, Pu.v_tru, c3]
 unfold Due
 cases hh : holB bs cs r with
 | false => simp
 | true =>
  cases hy : (lessOf r).any (holB bs cs) with
  | true => simp [hy]
  | false => simp [hy, show L.length < 16777216 by omega]
theorem lw_loop (n : Nat) (F : Few bs) (hc : cs.length ≤ 1000) : ∀ (S L : List (List Nat)) (v5 v6 : Sl), L.length + S.length ≤ 1000 → (∀ r ∈ S, lt6 r ∧ r.length ≤ 100) →
  ∃ w5 w6, turns (dz 5) (lwB (n + 2)) (S.map tN) [v0, v1, .pu (bsN bs), .pu (tN cs), .ow (L.map tN), v5, v6, .no] = .nx [v0, v1, .pu (bsN bs), .pu (tN cs), .ow ((L ++ S.filter (Due (holB bs cs))).map tN), w5, w6, .no] := by
 intro S
 induction S with
 | nil => intro L v5 v6 _ _; exact ⟨v5, v6, by rw [List.filter_nil, List.append_nil]; rfl⟩
 | cons r S ih =>
  intro L v5 v6 hl h
  rw [List.length_cons] at hl
  obtain ⟨r1, r2⟩ := h r List.mem_cons_self
  obtain ⟨w, e⟩ := lwB_at n F hc (v0 := v0) (v1 := v1) (L := L) (by omega) r1 r2 (v6 := v6)
  rw [List.map_cons, fu (δ1 := [v0, v1, .pu (bsN bs), .pu (tN cs), .ow (L.map tN), .pu (tN r), v6, .no]) rfl, e]
  cases hd : Due (holB bs cs) r with
  | true =>
   rw [if_pos rfl]
   obtain ⟨w5, w6, t⟩ := ih (L ++ [r]) (.pu (tN r)) w (by rw [List.length_append]; simp; omega) fun k hk => h k (List.mem_cons_of_mem _ hk)
   refine ⟨w5, w6, ?_⟩
   rw [List.filter_cons, if_pos hd]
   rw [List.append_assoc] at t
   exact t
  | false =>
   rw [if_neg (by decide)]
   obtain ⟨w5, w6, t⟩ := ih L (.pu (tN r)) w (by omega) fun k hk => h k (List.mem_cons_of_mem _ hk)
   refine ⟨w5, w6, ?_⟩
   rw [List.filter_cons, if_neg (by rw [hd]; decide)]
   exact t
theorem hol_mono (a b : List Nat) (h : sub a b = true) (k : holB bs cs a = true) : holB bs cs b = true := fol_iff.mpr fun c hc => (fol_iff.mp k c hc).cut fun d hd => .base (cg.mp h d hd)
end
theorem tupR_eq {m : Nat} (h6 : m ≤ 6) : pyTupRange (.int (m : Int)) = some (tN (List.range m)) := by
 match m, h6 with
 | 0, _ => rfl
 | 1, _ => rfl
 | 2, _ => rfl
 | 3, _ => rfl
 | 4, _ => rfl
 | 5, _ => rfl
 | 6, _ => rfl
theorem smp_bs (bs : List Bd) : SmpN 3 (bsN bs) := smpN_lst fun d hd => by
 obtain ⟨b, _, rfl⟩ := List.mem_map.mp hd
 refine smpN_tup fun d hd => ?_
 rcases List.mem_cons.mp hd with rfl | hd
 ·rw [← tI_nats]; exact smpN_tI _
 ·rw [List.mem_singleton.mp hd, ← tI_nats]; exact smpN_tI _
theorem smp_ts (S : List (List Nat)) : SmpN 2 (.lst (S.map tN)) := smpN_lst fun d hd => by
 obtain ⟨r, _, rfl⟩ := List.mem_map.mp hd
 rw [← tI_nats]; exact smpN_tI _
theorem due_list {bs : List Bd} {cs : List Nat} (hc : cs.Pairwise (· < ·)) : (ar cs).filter (Due (holB bs cs)) = (ar cs).filter (Min (holB bs cs) (ar cs)) :=
 List.filter_congr fun r hr => due_eq (fun a b h k => hol_mono a b h k) hc hr
theorem due_few {bs : List Bd} {cs : List Nat} (hc : cs.Pairwise (· < ·)) (hl : cs.length ≤ 6) : ((ar cs).filter (Min (holB bs cs) (ar cs))).length < 64 := by
 have h64 : (ar cs).length ≤ 64 := by
  unfold ar
  rw [fold_len]
  have : 2 ^ cs.length ≤ 2 ^ 6 := Nat.pow_le_pow_right (by decide) hl
  simp; omega
 have le := List.length_filter_le (Min (holB bs cs) (ar cs)) (ar cs)
 apply Classical.byContradiction
 intro no
 have e : ((ar cs).filter (Min (holB bs cs) (ar cs))).length = (ar cs).length := by omega
 have all := List.length_filter_eq_length_iff.mp e
 have m0 : ([] : List Nat) ∈ ar cs := mem_subs.mpr (List.nil_sublist _)
 exact min_nonempty (hol := holB bs cs) (cs := cs) (.inl rfl) ((subs_nodup (ris_nodup hc)).filter _) (by omega) (List.mem_filter.mpr ⟨m0, all [] m0⟩) rfl
theorem law_gen (n : Nat) (ns : List Int) : ae (tab (n + 8)) d_law [.lst (ns.map Pu.D.int)] = .ok (.bl true) := by
 obtain ⟨r0, r1⟩ := mixZ_range ns 0 6 (by decide)
 obtain ⟨m, hm⟩ : ∃ m : Nat, 1 + mixZ ns 0 6 = (m : Int) := ⟨(1 + mixZ ns 0 6).toNat, by omega⟩
 have m1 : 1 ≤ m := by omega
 have m6 : m ≤ 6 := by omega
 obtain ⟨bs, gbs, l5, eb⟩ := law_bonds_eq (n + 3) ns 1 (by decide) m m6
 have e0 := mixed_eq (n + 5) ns 0 6 (by decide) (by decide)
 have e80 := mixed_eq (n + 5) ns 80 2 (by decide) (by decide)
 have Fb := few_of gbs m6 (show bs.length ≤ 80 by omega)
 have tr := tupR_eq m6
 have rg : Good m (List.range m) := ⟨fun c hc => List.mem_range.mp hc, List.pairwise_lt_range⟩
 rw [e_law (n + 7)]
 simp -implicitDefEqProofs only [List.length_cons, List.length_nil, Pu.v_entry_f, Pu.cz, List.replicate, Nat.reduceAdd, Nat.reduceSub, List.cons_append, List.nil_append]
 have k0 : bp (ae (tab (n + 7)) az) (Pu.aa (gArg 0) (Pu.aa (gC (.int 0)) (Pu.aa (gC (.int 6)) Pu.gNil))) [.pu (scr ns), .no, .no, .no, .no, .no, .no, .no] = .ok (.int (mixZ ns 0 6)) := ce (ds := [scr ns, .int 0, .int 6]) (by simp) e0
 have k1 : bp (ae (tab (n + 7)) bw) (Pu.aa (gArg 0) (Pu.aa (gC (.int 1)) (Pu.aa (gArg 1) Pu.gNil))) [.pu (scr ns), .pu (.int (m : Int)), .no, .no, .no, .no, .no, .no] = .ok (bsN bs) := ce (ds := [scr ns, .int 1, .int (m : Int)]) (by simp) eb
 have s1 : sSet 1 (g2 cf (gC (.int 1)) (bp (ae (tab (n + 7)) az) (Pu.aa (gArg 0) (Pu.aa (gC (.int 0)) (Pu.aa (gC (.int 6)) Pu.gNil))))) [.pu (scr ns), .no, .no, .no, .no, .no, .no, .no] = .nx [.pu (scr ns), .pu (.int (m : Int)), .no, .no, .no, .no, .no, .no] := by
  rw [Pu.v_set, Pu.v_g2, k0]
  simp [hm]
 have s2 : sSet 2 (bp (ae (tab (n + 7)) bw) (Pu.aa (gArg 0) (Pu.aa (gC (.int 1)) (Pu.aa (gArg 1) Pu.gNil)))) [.pu (scr ns), .pu (.int (m : Int)), .no, .no, .no, .no, .no, .no] = .nx [.pu (scr ns), .pu (.int (m : Int)), .pu (bsN bs), .no, .no, .no, .no, .no] := by
  rw [Pu.v_set, k1]
  rfl
 have s3 : sSet 3 (g1 pyTupRange (gArg 1)) [.pu (scr ns), .pu (.int (m : Int)), .pu (bsN bs), .no, .no, .no, .no, .no] = .nx [.pu (scr ns), .pu (.int (m : Int)), .pu (bsN bs), .pu (tN (List.range m)), .no, .no, .no, .no] := by
  simp [tr]
 have s4 : ∃ cs : List Nat, Good m cs ∧ sIf (g2 pyEq (bp (ae (tab (n + 7)) az) (Pu.aa (gArg 0) (Pu.aa (gC (.int 80)) (Pu.aa (gC (.int 2)) Pu.gNil)))) (gC (.int 1))) (sSet 3 (bp (ae (tab (n + 7)) af) (Pu.aa (gArg 0) (Pu.aa (gC (.int 81)) (Pu.aa (gArg 1) (Pu.aa (gC (.int 2)) Pu.gNil)))))) sNil [.pu (scr ns), .pu (.int (m : Int)), .pu (bsN bs), .pu (tN (List.range m)), .no, .no, .no, .no] = .nx [.pu (scr ns), .pu (.int (m : Int)), .pu (bsN bs), .pu (tN cs), .no, .no, .no, .no] := by
  have k80 : bp (ae (tab (n + 7)) az) (Pu.aa (gArg 0) (Pu.aa (gC (.int 80)) (Pu.aa (gC (.int 2)) Pu.gNil))) [.pu (scr ns), .pu (.int (m : Int)), .pu (bsN bs), .pu (tN (List.range m)), .no, .no, .no, .no] = .ok (.int (mixZ ns 80 2)) := ce (ds := [scr ns, .int 80, .int 2]) (by simp) e80
  rw [Pu.v_if, Pu.v_g2, k80]
  by_cases h : mixZ ns 80 2 = 1
  ·obtain ⟨cs, gc, ec⟩ := columns_eq (n + 4) ns 81 (m : Int) 2 (by decide) (by omega) (by omega) (by decide)
   rw [Int.toNat_natCast] at gc
   rw [tI_nats] at ec
   refine ⟨cs, gc, ?_⟩
   have kc : bp (ae (tab (n + 7)) af) (Pu.aa (gArg 0) (Pu.aa (gC (.int 81)) (Pu.aa (gArg 1) (Pu.aa (gC (.int 2)) Pu.gNil)))) [.pu (scr ns), .pu (.int (m : Int)), .pu (bsN bs), .pu (tN (List.range m)), .no, .no, .no, .no] = .ok (tN cs) := ce (ds := [scr ns, .int 81, .int (m : Int), .int 2]) (by simp) ec
   have sc : sSet 3 (bp (ae (tab (n + 7)) af) (Pu.aa (gArg 0) (Pu.aa (gC (.int 81)) (Pu.aa (gArg 1) (Pu.aa (gC (.int 2)) Pu.gNil))))) [.pu (scr ns), .pu (.int (m : Int)), .pu (bsN bs), .pu (tN (List.range m)), .no, .no, .no, .no] = .nx [.pu (scr ns), .pu (.int (m : Int)), .pu (bsN bs), .pu (tN cs), .no, .no, .no, .no] := by
    rw [Pu.v_set, kc]; rfl
   rw [h]
   simp -implicitDefEqProofs only [Pu.cb, Pu.v_c, Pu.v_eqi, Pu.fg, Pu.ff, beq_self_eq_true]
   exact sc
  ·refine ⟨List.range m, rg, ?_⟩
   have : (mixZ ns 80 2 == 1) = false := by simpa using h
   simp -implicitDefEqProofs only [Pu.cb, Pu.v_c, Pu.v_eqi, Pu.fg, Pu.ff, this, Pu.v_nil]
 obtain ⟨cs, gc, s4⟩ := s4
 have l6 : lt6 cs := fun c hc => by have := gc.lt c hc; omega
 have cl := gc.len
 have ep := law_parts_eq (n + 6) (cs := cs) (by omega)
 have few := due_few (bs := bs) gc.ris (show cs.length ≤ 6 by omega)
 have sub64 : (ar cs).length ≤ 64 := by
  unfold ar
  rw [fold_len]
  have : 2 ^ cs.length ≤ 2 ^ 6 := Nat.pow_le_pow_right (by decide) (by omega)
  simp; omega
 obtain ⟨w5, w6, t⟩ := lw_loop (n + 5) Fb (cs := cs) (v0 := .pu (scr ns)) (v1 := .pu (.int (m : Int))) (by omega) (ar cs) [] .no .no (by simp; omega) fun r hr => ⟨fun c hc => l6 c ((mem_subs.mp hr).subset hc), by have := (mem_subs.mp hr).length_le; omega⟩
 rw [List.nil_append, due_list gc.ris] at t
 have nd := subs_nodup (ris_nodup gc.ris)
 have mnd : ((ar cs).filter (Min (holB bs cs) (ar cs))).Nodup := nd.filter _
 have ky : ∃ S : List (List Nat), ae (tab (n + 7)) d7 [bsN bs, .int (m : Int), tN cs] = .ok (.lst (S.map tN)) ∧ cw (.lst (((ar cs).filter (Min (holB bs cs) (ar cs))).map tN)) = some (.lst (S.map tN)) := by
  obtain ⟨S, p1, p2⟩ := keys_eqS n gbs gc m1 m6 (show bs.length ≤ 10 by omega)
  obtain ⟨S', q1, q2⟩ := sorted_same (p1.filter (Min (holB bs cs) (ar cs))) mnd few fun h2 r hr => min_nonempty (hol := holB bs cs) (cs := cs) (.inl rfl) mnd h2 hr
  exact ⟨S', p2 _ q1, q2⟩
 obtain ⟨S, ek, es⟩ := ky
 have kp : bp (ae (tab (n + 7)) bu) (Pu.aa (gArg 3) Pu.gNil) [.pu (scr ns), .pu (.int (m : Int)), .pu (bsN bs), .pu (tN cs), .ow [], .no, .no, .no] = .ok (.lst ((ar cs).map tN)) := ce (ds := [tN cs]) (by simp) ep
 have hs : sFor (dz 5) (cq (bp (ae (tab (n + 7)) bu) (Pu.aa (gArg 3) Pu.gNil))) (lwB (n + 7)) [.pu (scr ns), .pu (.int (m : Int)), .pu (bsN bs), .pu (tN cs), .ow [], .no, .no, .no] = .nx [.pu (scr ns), .pu (.int (m : Int)), .pu (bsN bs), .pu (tN cs), .ow (((ar cs).filter (Min (holB bs cs) (ar cs))).map tN), w5, w6, .no] := by
  rw [sFor_ok (ds := (ar cs).map tN) (by rw [Pu.v_walk, kp]; rfl)]
  exact t
 unfold lwB at hs
 have s5 : sSetO 4 (gLst Pu.gNil) [.pu (scr ns), .pu (.int (m : Int)), .pu (bsN bs), .pu (tN cs), .no, .no, .no, .no] = .nx [.pu (scr ns), .pu (.int (m : Int)), .pu (bsN bs), .pu (tN cs), .ow [], .no, .no, .no] := by simp
 have li : d4 (bsN bs) = some (bsN bs) := rfl
 have s7 : sSetO 7 (g1 d4 (gArg 2)) [.pu (scr ns), .pu (.int (m : Int)), .pu (bsN bs), .pu (tN cs), .ow (((ar cs).filter (Min (holB bs cs) (ar cs))).map tN), w5, w6, .no] = .nx [.pu (scr ns), .pu (.int (m : Int)), .pu (bsN bs), .pu (tN cs), .ow (((ar cs).filter (Min (holB bs cs) (ar cs))).map tN), w5, w6, .ow (bs.map bD')] := by
  rw [Pu.v_setO]
  simp [li]
  rfl
 have k8 : bp (ae (tab (n + 7)) d7) (Pu.aa (gVar 7) (Pu.aa (gVar 1) (Pu.aa (gVar 3) Pu.gNil))) [.pu (scr ns), .pu (.int (m : Int)), .pu (bsN bs), .pu (tN cs), .ow (((ar cs).filter (Min (holB bs cs) (ar cs))).map tN), w5, w6, .pu (bsN bs)] = .ok (.lst (S.map tN)) := ce (ds := [bsN bs, .int (m : Int), tN cs]) (by simp) ek
 have q1 := (eq_self (smp_ts S) (by decide)).1
 have q2 := (eq_self (smp_bs bs) (by decide)).1
 unfold b_law
 rw [Pu.fh, s1]
 dsimp only
 rw [Pu.fh, s2]
 dsimp only
 rw [Pu.fh, s3]
 dsimp only
 rw [Pu.fh, s4]
 dsimp only
 rw [Pu.fh, s5]
 dsimp only
 rw [Pu.fh, hs]
 dsimp only
 rw [Pu.fh, s7]
 dsimp only
 simp -implicitDefEqProofs only [Pu.v_fz, Pu.v_fz_nil, Pu.v_frz, List.getElem?_cons_zero, List.getElem?_cons_succ, List.set_cons_succ, List.set_cons_zero]
 rw [Pu.v_ret, Pu.v_and, Pu.v_g2, show (bp (ae (tab (n + 7)) d7) (Pu.aa (gVar 7) (Pu.aa (gVar 1) (Pu.aa (gVar 3) Pu.gNil))) [.pu (scr ns), .pu (.int (m : Int)), .pu (bsN bs), .pu (tN cs), .ow (((ar cs).filter (Min (holB bs cs) (ar cs))).map tN), w5, w6, .pu (.lst (bs.map bD'))]) = _ from k8]
 have a4 : g1 cw (gArg 4) [.pu (scr ns), .pu (.int (m : Int)), .pu (bsN bs), .pu (tN cs), .ow (((ar cs).filter (Min (holB bs cs) (ar cs))).map tN), w5, w6, .pu (.lst (bs.map bD'))] = .ok (.lst (S.map tN)) := by
  rw [Pu.v_g1]
  show Res.of (cw (.lst (((ar cs).filter (Min (holB bs cs) (ar cs))).map tN))) = _
  rw [es]; rfl
 rw [a4, Pu.cb, Pu.cb, q1]
 have a7x : pyEq (.lst (bs.map bD')) (bsN bs) = some (.bl true) := q2
 have a7 : g2 pyEq (gArg 7) (gArg 2) [.pu (scr ns), .pu (.int (m : Int)), .pu (bsN bs), .pu (tN cs), .ow (((ar cs).filter (Min (holB bs cs) (ar cs))).map tN), w5, w6, .pu (.lst (bs.map bD'))] = .ok (.bl true) := by
  show Res.of (pyEq (bsN bs) (bsN bs)) = _
  rw [q2]; rfl
 rw [Pu.fg, a7]
 rfl
theorem law_true (ns : List Int) (hn : ns.length ≤ 63) : ae (tab 29) d_law [.lst (ns.map Pu.D.int)] = .ok (.bl true) := law_gen 21 ns
end LK
end
section
namespace LK
open PySem PySem.Spec PyProof.Rows L2 Pu
theorem all_mk {l : PySem.W.OpenLaw} {w : World} {K : PySem.W.Frag} {h : Heap} {mg : Str → Option Value} {fa : Addr} {n : Nat} {s : FS} (X : K.In h) (G : h.Ns mainGlobals mg) (hfa : mg "law" = some (.ref fa)) (hl : (tab n).fns "law" = some s) (hm : s.ms = [false]) (law : ∀ ns : List Int, ns.length ≤ 63 → s.f [.lst (ns.map D.int)] = .ok (.bl true))
  {f0 : Addr} {oc0 kV0 dc0 pm0 cd0 ct0 : Value} {od0 an0 : Option Addr} {sl0 : Array (Option Value)}
  {f1 : Addr} {oc1 kV1 dc1 pm1 cd1 ct1 : Value} {od1 an1 : Option Addr} {sl1 : Array (Option Value)}
  {f2 : Addr} {oc2 kV2 dc2 pm2 cd2 ct2 : Value} {od2 an2 : Option Addr} {sl2 : Array (Option Value)}
  {f3 : Addr} {oc3 kV3 dc3 pm3 cd3 ct3 : Value} {od3 an3 : Option Addr} {sl3 : Array (Option Value)}
  {f4 : Addr} {oc4 kV4 dc4 pm4  ct4 : Value} {od4 an4 : Option Addr} {sl4 : Array (Option Value)} {cc4 PP4 : Addr}
  {f5 : Addr} {oc5 kV5 dc5 pm5 cd5 ct5 : Value} {od5 an5 : Option Addr} {sl5 : Array (Option Value)}
  {f6 : Addr} {oc6 kV6 dc6 pm6 cd6 ct6 : Value} {od6 an6 : Option Addr} {sl6 : Array (Option Value)}
  {f7 : Addr} {oc7 kV7 dc7 pm7 cd7 ct7 : Value} {od7 an7 : Option Addr} {sl7 : Array (Option Value)}
  {f8 : Addr} {oc8 kV8 dc8 pm8 cd8 ct8 : Value} {od8 an8 : Option Addr} {sl8 : Array (Option Value)}
  {f9 : Addr} {oc9 kV9 dc9 pm9 cd9 ct9 : Value} {od9 an9 : Option Addr} {sl9 : Array (Option Value)}
  {f10 : Addr} {oc10 kV10 dc10 pm10 cd10 ct10 : Value} {od10 an10 : Option Addr} {sl10 : Array (Option Value)}
  {f11 : Addr} {oc11 kV11 dc11 pm11 cd11 ct11 : Value} {od11 an11 : Option Addr} {sl11 : Array (Option Value)}
  {f12 : Addr} {oc12 kV12 dc12 pm12  ct12 : Value} {od12 an12 : Option Addr} {sl12 : Array (Option Value)} {cc12 PP12 : Addr}
  {f13 : Addr} {oc13 kV13 dc13 pm13 cd13 ct13 : Value} {od13 an13 : Option Addr} {sl13 : Array (Option Value)}
  {f14 : Addr} {oc14 kV14 dc14 pm14 cd14 ct14 : Value} {od14 an14 : Option Addr} {sl14 : Array (Option Value)}
  {f15 : Addr} {oc15 kV15 dc15 pm15 cd15 ct15 : Value} {od15 an15 : Option Addr} {sl15 : Array (Option Value)}
  {f16 : Addr} {oc16 kV16 dc16 pm16 cd16 ct16 : Value} {od16 an16 : Option Addr} {sl16 : Array (Option Value)}
  {f17 : Addr} {oc17 kV17 dc17 pm17 cd17 ct17 : Value} {od17 an17 : Option Addr} {sl17 : Array (Option Value)}
  {f18 : Addr} {oc18 kV18 dc18 pm18 cd18 ct18 : Value} {od18 an18 : Option Addr} {sl18 : Array (Option Value)}
  {f19 : Addr} {oc19 kV19 dc19 pm19 cd19 ct19 : Value} {od19 an19 : Option Addr} {sl19 : Array (Option Value)}
  {f20 : Addr} {oc20 kV20 dc20 pm20 cd20 ct20 : Value} {od20 an20 : Option Addr} {sl20 : Array (Option Value)}
  {f21 : Addr} {oc21 kV21 dc21 pm21 cd21 ct21 : Value} {od21 an21 : Option Addr} {sl21 : Array (Option Value)}
  {C0 : Addr}
  {C1 : Addr}
  {C2 : Addr}
  (a0 : PySem.W.nsIn K mainGlobals bx.x = some (some (.ref f0)))
  (l0 : K.lookup f0 = some ⟨oc0, od0, .func (PySem.W.fnOf bx.x bx.x (b8 bx.st) (ao bx.st) (aj bx.st) .none kV0 dc0 pm0 an0 cd0 ct0), sl0⟩)
  (c0 : PySem.W.codeIn K cd0 bx.x = true)
  (k0 : PySem.W.keepIn K (.ref f0) = true)
  (a1 : PySem.W.nsIn K mainGlobals bj.x = some (some (.ref f1)))
  (l1 : K.lookup f1 = some ⟨oc1, od1, .func (PySem.W.fnOf bj.x bj.x (b8 bj.st) (ao bj.st) (aj bj.st) .none kV1 dc1 pm1 an1 cd1 ct1), sl1⟩)
  (c1 : PySem.W.codeIn K cd1 bj.x = true)
  (k1 : PySem.W.keepIn K (.ref f1) = true)
  (a2 : PySem.W.nsIn K mainGlobals cc.x = some (some (.ref f2)))
  (l2 : K.lookup f2 = some ⟨oc2, od2, .func (PySem.W.fnOf cc.x cc.x (b8 cc.st) (ao cc.st) (aj cc.st) .none kV2 dc2 pm2 an2 cd2 ct2), sl2⟩)
  (c2 : PySem.W.codeIn K cd2 cc.x = true)
  (k2 : PySem.W.keepIn K (.ref f2) = true)
  (a3 : PySem.W.nsIn K mainGlobals br.x = some (some (.ref f3)))
  (l3 : K.lookup f3 = some ⟨oc3, od3, .func (PySem.W.fnOf br.x br.x (b8 br.st) (ao br.st) (aj br.st) .none kV3 dc3 pm3 an3 cd3 ct3), sl3⟩)
  (c3 : PySem.W.codeIn K cd3 br.x = true)
  (k3 : PySem.W.keepIn K (.ref f3) = true)
  (a4 : PySem.W.nsIn K mainGlobals bb.x = some (some (.ref f4)))
  (l4 : K.lookup f4 = some ⟨oc4, od4, .func (PySem.W.fnOf bb.x bb.x (b8 bb.st) (ao bb.st) (aj bb.st) .none kV4 dc4 pm4 an4 (.ref cc4) ct4), sl4⟩)
  (c4 : PySem.W.codeIn K (.ref cc4) bb.x = true)
  (k4 : PySem.W.keepIn K (.ref f4) = true)
  (y4 : (cc4, PP4, bb.x ++ ".<locals>." ++ "<lambda>") ∈ tbs)
  (u4 : PySem.W.codeHdIn K cc4 PP4 = true)
  (a5 : PySem.W.nsIn K mainGlobals ca.x = some (some (.ref f5)))
  (l5 : K.lookup f5 = some ⟨oc5, od5, .func (PySem.W.fnOf ca.x ca.x (b8 ca.st) (ao ca.st) (aj ca.st) .none kV5 dc5 pm5 an5 cd5 ct5), sl5⟩)
  (c5 : PySem.W.codeIn K cd5 ca.x = true)
  (k5 : PySem.W.keepIn K (.ref f5) = true)
  (a6 : PySem.W.nsIn K mainGlobals aq.x = some (some (.ref f6)))
  (l6 : K.lookup f6 = some ⟨oc6, od6, .func (PySem.W.fnOf aq.x aq.x (b8 aq.st) (ao aq.st) (aj aq.st) .none kV6 dc6 pm6 an6 cd6 ct6), sl6⟩)
  (c6 : PySem.W.codeIn K cd6 aq.x = true)
  (k6 : PySem.W.keepIn K (.ref f6) = true)
  (a7 : PySem.W.nsIn K mainGlobals ah.x = some (some (.ref f7)))
  (l7 : K.lookup f7 = some ⟨oc7, od7, .func (PySem.W.fnOf ah.x ah.x (b8 ah.st) (ao ah.st) (aj ah.st) .none kV7 dc7 pm7 an7 cd7 ct7), sl7⟩)
  (c7 : PySem.W.codeIn K cd7 ah.x = true)
  (k7 : PySem.W.keepIn K (.ref f7) = true)
  (a8 : PySem.W.nsIn K mainGlobals be.x = some (some (.ref f8)))
  (l8 : K.lookup f8 = some ⟨oc8, od8, .func (PySem.W.fnOf be.x be.x (b8 be.st) (ao be.st) (aj be.st) .none kV8 dc8 pm8 an8 cd8 ct8), sl8⟩)
  (c8 : PySem.W.codeIn K cd8 be.x = true)
  (k8 : PySem.W.keepIn K (.ref f8) = true)
  (a9 : PySem.W.nsIn K mainGlobals bi.x = some (some (.ref f9)))
  (l9 : K.lookup f9 = some ⟨oc9, od9, .func (PySem.W.fnOf bi.x bi.x (b8 bi.st) (ao bi.st) (aj bi.st) .none kV9 dc9 pm9 an9 cd9 ct9), sl9⟩)
  (c9 : PySem.W.codeIn K cd9 bi.x = true)
  (k9 : PySem.W.keepIn K (.ref f9) = true)
  (a10 : PySem.W.nsIn K mainGlobals cj.x = some (some (.ref f10)))
  (l10 : K.lookup f10 = some ⟨oc10, od10, .func (PySem.W.fnOf cj.x cj.x (b8 cj.st) (ao cj.st) (aj cj.st) .none kV10 dc10 pm10 an10 cd10 ct10), sl10⟩)
  (c10 : PySem.W.codeIn K cd10 cj.x = true)
  (k10 : PySem.W.keepIn K (.ref f10) = true)
  (a11 : PySem.W.nsIn K mainGlobals b9.x = some (some (.ref f11)))
  (l11 : K.lookup f11 = some ⟨oc11, od11, .func (PySem.W.fnOf b9.x b9.x (b8 b9.st) (ao b9.st) (aj b9.st) .none kV11 dc11 pm11 an11 cd11 ct11), sl11⟩)
  (c11 : PySem.W.codeIn K cd11 b9.x = true)
  (k11 : PySem.W.keepIn K (.ref f11) = true)
  (a12 : PySem.W.nsIn K mainGlobals b0.x = some (some (.ref f12)))
  (l12 : K.lookup f12 = some ⟨oc12, od12, .func (PySem.W.fnOf b0.x b0.x (b8 b0.st) (ao b0.st) (aj b0.st) .none kV12 dc12 pm12 an12 (.ref cc12) ct12), sl12⟩)
  (c12 : PySem.W.codeIn K (.ref cc12) b0.x = true)
  (k12 : PySem.W.keepIn K (.ref f12) = true)
  (y12 : (cc12, PP12, b0.x ++ ".<locals>." ++ "<lambda>") ∈ tbs)
  (u12 : PySem.W.codeHdIn K cc12 PP12 = true)
  (a13 : PySem.W.nsIn K mainGlobals d7.x = some (some (.ref f13)))
  (l13 : K.lookup f13 = some ⟨oc13, od13, .func (PySem.W.fnOf d7.x d7.x (b8 d7.st) (ao d7.st) (aj d7.st) .none kV13 dc13 pm13 an13 cd13 ct13), sl13⟩)
  (c13 : PySem.W.codeIn K cd13 d7.x = true)
  (k13 : PySem.W.keepIn K (.ref f13) = true)
  (a14 : PySem.W.nsIn K mainGlobals bq.x = some (some (.ref f14)))
  (l14 : K.lookup f14 = some ⟨oc14, od14, .func (PySem.W.fnOf bq.x bq.x (b8 bq.st) (ao bq.st) (aj bq.st) .none kV14 dc14 pm14 an14 cd14 ct14), sl14⟩)
  (c14 : PySem.W.codeIn K cd14 bq.x = true)
  (k14 : PySem.W.keepIn K (.ref f14) = true)
  (a15 : PySem.W.nsIn K mainGlobals az.x = some (some (.ref f15)))
  (l15 : K.lookup f15 = some ⟨oc15, od15, .func (PySem.W.fnOf az.x az.x (b8 az.st) (ao az.st) (aj az.st) .none kV15 dc15 pm15 an15 cd15 ct15), sl15⟩)
  (c15 : PySem.W.codeIn K cd15 az.x = true)
  (k15 : PySem.W.keepIn K (.ref f15) = true)
  (a16 : PySem.W.nsIn K mainGlobals af.x = some (some (.ref f16)))
  (l16 : K.lookup f16 = some ⟨oc16, od16, .func (PySem.W.fnOf af.x af.x (b8 af.st) (ao af.st) (aj af.st) .none kV16 dc16 pm16 an16 cd16 ct16), sl16⟩)
  (c16 : PySem.W.codeIn K cd16 af.x = true)
  (k16 : PySem.W.keepIn K (.ref f16) = true)
  (a17 : PySem.W.nsIn K mainGlobals bw.x = some (some (.ref f17)))
  (l17 : K.lookup f17 = some ⟨oc17, od17, .func (PySem.W.fnOf bw.x bw.x (b8 bw.st) (ao bw.st) (aj bw.st) .none kV17 dc17 pm17 an17 cd17 ct17), sl17⟩)
  (c17 : PySem.W.codeIn K cd17 bw.x = true)
  (k17 : PySem.W.keepIn K (.ref f17) = true)
  (a18 : PySem.W.nsIn K mainGlobals bz.x = some (some (.ref f18)))
  (l18 : K.lookup f18 = some ⟨oc18, od18, .func (PySem.W.fnOf bz.x bz.x (b8 bz.st) (ao bz.st) (aj bz.st) .none kV18 dc18 pm18 an18 cd18 ct18), sl18⟩)
  (c18 : PySem.W.codeIn K cd18 bz.x = true)
  (k18 : PySem.W.keepIn K (.ref f18) = true)
  (a19 : PySem.W.nsIn K mainGlobals bu.x = some (some (.ref f19)))
  (l19 : K.lookup f19 = some ⟨oc19, od19, .func (PySem.W.fnOf bu.x bu.x (b8 bu.st) (ao bu.st) (aj bu.st) .none kV19 dc19 pm19 an19 cd19 ct19), sl19⟩)
  (c19 : PySem.W.codeIn K cd19 bu.x = true)
  (k19 : PySem.W.keepIn K (.ref f19) = true)
  (a20 : PySem.W.nsIn K mainGlobals ba.x = some (some (.ref f20)))
  (l20 : K.lookup f20 = some ⟨oc20, od20, .func (PySem.W.fnOf ba.x ba.x (b8 ba.st) (ao ba.st) (aj ba.st) .none kV20 dc20 pm20 an20 cd20 ct20), sl20⟩)
  (c20 : PySem.W.codeIn K cd20 ba.x = true)
  (k20 : PySem.W.keepIn K (.ref f20) = true)
  (a21 : PySem.W.nsIn K mainGlobals d_law.x = some (some (.ref f21)))
  (l21 : K.lookup f21 = some ⟨oc21, od21, .func (PySem.W.fnOf d_law.x d_law.x (b8 d_law.st) (ao d_law.st) (aj d_law.st) .none kV21 dc21 pm21 an21 cd21 ct21), sl21⟩)
  (c21 : PySem.W.codeIn K cd21 d_law.x = true)
  (k21 : PySem.W.keepIn K (.ref f21) = true)
  (z0 : PySem.W.nsIn K mainGlobals "len" = some none)
  (z1 : PySem.W.nsIn K mainGlobals "list" = some none)
  (z2 : PySem.W.nsIn K mainGlobals "tuple" = some none)
  (z3 : PySem.W.nsIn K mainGlobals "int" = some none)
  (z4 : PySem.W.nsIn K mainGlobals "isinstance" = some none)
  (z5 : PySem.W.nsIn K mainGlobals "range" = some none)
  (z6 : PySem.W.nsIn K mainGlobals "all" = some none)
  (z7 : PySem.W.nsIn K mainGlobals "any" = some none)
  (z8 : PySem.W.nsIn K mainGlobals "sorted" = some none)
  (z9 : PySem.W.nsIn K mainGlobals "set" = some none)
  (z10 : PySem.W.nsIn K mainGlobals "min" = some none)
  (z11 : PySem.W.nsIn K mainGlobals "max" = some none)
  (z12 : PySem.W.nsIn K mainGlobals "abs" = some none)
  (z13 : PySem.W.nsIn K mainGlobals "str" = some none)
  (z14 : PySem.W.nsIn K mainGlobals "bool" = some none)
  (z15 : PySem.W.nsIn K mainGlobals "dict" = some none)
  (z16 : PySem.W.nsIn K mainGlobals "enumerate" = some none)
  (z17 : PySem.W.nsIn K mainGlobals "zip" = some none)
  (z18 : PySem.W.nsIn K mainGlobals "reversed" = some none)
  (z19 : PySem.W.nsIn K mainGlobals "ValueError" = some none)
  (xa0 : PySem.W.nsIn K mainGlobals "AskError" = some (some (.ref C0)))
  (xe0 : PySem.W.excIn K C0 [.type "ValueError", .type "Exception", .type "BaseException", .type "object"] "ValueError.__new__" = true)
  (xv0 : PySem.W.subIn K (.ref C0) (.type "ValueError") = some true)
  (xa1 : PySem.W.nsIn K mainGlobals "NoBonds" = some (some (.ref C1)))
  (xe1 : PySem.W.excIn K C1 [.type "ValueError", .type "Exception", .type "BaseException", .type "object"] "ValueError.__new__" = true)
  (xv1 : PySem.W.subIn K (.ref C1) (.type "ValueError") = some true)
  (xa2 : PySem.W.nsIn K mainGlobals "NoColumns" = some (some (.ref C2)))
  (xe2 : PySem.W.excIn K C2 [.type "ValueError", .type "Exception", .type "BaseException", .type "object"] "ValueError.__new__" = true)
  (xv2 : PySem.W.subIn K (.ref C2) (.type "ValueError") = some true)
  (xp0 : PySem.W.exmOne K (.ref C0) (.ref C0) = some true)
  (xp1 : PySem.W.exmOne K (.ref C1) (.ref C1) = some true)
  (xp2 : PySem.W.exmOne K (.ref C1) (.ref C0) = some true)
  (xp3 : PySem.W.exmOne K (.ref C2) (.ref C2) = some true)
  (xp4 : PySem.W.exmOne K (.ref C2) (.ref C0) = some true) :
  ∃ fd : FuncData, (∀ (s : Shared) (v : Value), BindsTo s fd ⟨[v], []⟩ [("_law_script", v)]) ∧ ∀ base : Heap, K.In base → base.Ns mainGlobals mg → Bm mg base → FnOk l.prog w K mg base CX0 n fa fd ["_law_script"] (spLaw K) := by
 have e := hfa.symm.trans (PySem.W.mg_of X G a21)
 cases e
 have hd : ∀ d ∈ defs, DefIn K mg d := by
  intro d hd
  simp only [defs, List.mem_cons, List.not_mem_nil, or_false] at hd
  rcases hd with rfl | rfl | rfl | rfl | rfl | rfl | rfl | rfl | rfl | rfl | rfl | rfl | rfl | rfl | rfl | rfl | rfl | rfl | rfl | rfl | rfl | rfl
  ·exact dq X G ok_is_number bd_is_number a0 l0 c0 k0 (fun z => absurd (show false = true from z) (by decide))
  ·exact dq X G ok_is_tuple_of bd_is_tuple_of a1 l1 c1 k1 (fun z => absurd (show false = true from z) (by decide))
  ·exact dq X G ok_is_pair bd_is_pair a2 l2 c2 k2 (fun z => absurd (show false = true from z) (by decide))
  ·exact dq X G ok_are_rising bd_are_rising a3 l3 c3 k3 (fun z => absurd (show false = true from z) (by decide))
  ·exact dq X G ok_is_columns bd_is_columns a4 l4 c4 k4 (fun _ => ⟨cc4, PP4, rfl, y4, u4⟩)
  ·exact dq X G ok_is_bond bd_is_bond a5 l5 c5 k5 (fun z => absurd (show false = true from z) (by decide))
  ·exact dq X G ok_checked_bonds bd_checked_bonds a6 l6 c6 k6 (fun z => absurd (show false = true from z) (by decide))
  ·exact dq X G ok_checked_columns bd_checked_columns a7 l7 c7 k7 (fun z => absurd (show false = true from z) (by decide))
  ·exact dq X G ok_lies_in bd_lies_in a8 l8 c8 k8 (fun z => absurd (show false = true from z) (by decide))
  ·exact dq X G ok_next_step bd_next_step a9 l9 c9 k9 (fun z => absurd (show false = true from z) (by decide))
  ·exact dq X G ok_walked bd_walked a10 l10 c10 k10 (fun z => absurd (show false = true from z) (by decide))
  ·exact dq X G ok_hanging bd_hanging a11 l11 c11 k11 (fun z => absurd (show false = true from z) (by decide))
  ·exact dq X G ok_choices bd_choices a12 l12 c12 k12 (fun _ => ⟨cc12, PP12, rfl, y12, u12⟩)
  ·exact dq X G ok_keys bd_keys a13 l13 c13 k13 (fun z => absurd (show false = true from z) (by decide))
  ·exact dq X G ok_law_cell_at bd_law_cell_at a14 l14 c14 k14 (fun z => absurd (show false = true from z) (by decide))
  ·exact dq X G ok_law_mixed bd_law_mixed a15 l15 c15 k15 (fun z => absurd (show false = true from z) (by decide))
  ·exact dq X G ok_law_columns bd_law_columns a16 l16 c16 k16 (fun z => absurd (show false = true from z) (by decide))
  ·exact dq X G ok_law_bonds bd_law_bonds a17 l17 c17 k17 (fun z => absurd (show false = true from z) (by decide))
  ·exact dq X G ok_law_span bd_law_span a18 l18 c18 k18 (fun z => absurd (show false = true from z) (by decide))
  ·exact dq X G ok_law_parts bd_law_parts a19 l19 c19 k19 (fun z => absurd (show false = true from z) (by decide))
  ·exact dq X G ok_law_holds bd_law_holds a20 l20 c20 k20 (fun z => absurd (show false = true from z) (by decide))
  ·exact dq X G ok_law bd_law a21 l21 c21 k21 (fun z => absurd (show false = true from z) (by decide))
 have hs : ∀ x y, gs x = some y → ∃ t, mg x = some (.str y t) := by
  intro x y e
  unfold gs at e
  cases e
 have hb : ∀ x ∈ bnames, mg x = none := by
  intro x hx
  simp only [bnames, List.mem_cons, List.not_mem_nil, or_false] at hx
  rcases hx with rfl | rfl | rfl | rfl | rfl | rfl | rfl | rfl | rfl | rfl | rfl | rfl | rfl | rfl | rfl | rfl | rfl | rfl | rfl | rfl
  ·exact PySem.W.mg_none_of X G z0
  ·exact PySem.W.mg_none_of X G z1
  ·exact PySem.W.mg_none_of X G z2
  ·exact PySem.W.mg_none_of X G z3
  ·exact PySem.W.mg_none_of X G z4
  ·exact PySem.W.mg_none_of X G z5
  ·exact PySem.W.mg_none_of X G z6
  ·exact PySem.W.mg_none_of X G z7
  ·exact PySem.W.mg_none_of X G z8
  ·exact PySem.W.mg_none_of X G z9
  ·exact PySem.W.mg_none_of X G z10
  ·exact PySem.W.mg_none_of X G z11
  ·exact PySem.W.mg_none_of X G z12
  ·exact PySem.W.mg_none_of X G z13
  ·exact PySem.W.mg_none_of X G z14
  ·exact PySem.W.mg_none_of X G z15
  ·exact PySem.W.mg_none_of X G z16
  ·exact PySem.W.mg_none_of X G z17
  ·exact PySem.W.mg_none_of X G z18
  ·exact PySem.W.mg_none_of X G z19
 have hX : XsIn K mg xs := by
  refine ⟨fun x h => ?_, fun c y h => ?_, fun c h => ?_, fun c y h => ?_⟩
  ·simp only [xs, Bool.or_eq_true, Bool.and_eq_true, decide_eq_true_eq, Bool.false_eq_true, or_false] at h
   rcases h with rfl | rfl | rfl
   ·exact ⟨C0, _, _, PySem.W.mg_of X G xa0, xe0, veB_ok⟩
   ·exact ⟨C1, _, _, PySem.W.mg_of X G xa1, xe1, veB_ok⟩
   ·exact ⟨C2, _, _, PySem.W.mg_of X G xa2, xe2, veB_ok⟩
  ·simp only [xs, Bool.or_eq_true, Bool.and_eq_true, decide_eq_true_eq, Bool.false_eq_true, or_false] at h
   rcases h with ⟨rfl, rfl⟩ | ⟨rfl, rfl⟩ | ⟨rfl, rfl⟩ | ⟨rfl, rfl⟩ | ⟨rfl, rfl⟩
   ·exact ⟨C0, PySem.W.mg_of X G xa0, by rw [adr_of (PySem.W.mg_of X G xa0)]; exact xp0⟩
   ·exact ⟨C1, PySem.W.mg_of X G xa1, by rw [adr_of (PySem.W.mg_of X G xa1)]; exact xp1⟩
   ·exact ⟨C0, PySem.W.mg_of X G xa0, by rw [adr_of (PySem.W.mg_of X G xa1)]; exact xp2⟩
   ·exact ⟨C2, PySem.W.mg_of X G xa2, by rw [adr_of (PySem.W.mg_of X G xa2)]; exact xp3⟩
   ·exact ⟨C0, PySem.W.mg_of X G xa0, by rw [adr_of (PySem.W.mg_of X G xa2)]; exact xp4⟩
  ·simp only [xs, Bool.or_eq_true, Bool.and_eq_true, decide_eq_true_eq, Bool.false_eq_true, or_false] at h
   rcases h with rfl | rfl | rfl
   ·rw [adr_of (PySem.W.mg_of X G xa0)]; show (if PySem.W.kitMeta "ValueError" = true then PySem.W.subIn K (.ref C0) (.type "ValueError") else none) = some true; rw [if_pos (by decide +kernel)]; exact xv0
   ·rw [adr_of (PySem.W.mg_of X G xa1)]; show (if PySem.W.kitMeta "ValueError" = true then PySem.W.subIn K (.ref C1) (.type "ValueError") else none) = some true; rw [if_pos (by decide +kernel)]; exact xv1
   ·rw [adr_of (PySem.W.mg_of X G xa2)]; show (if PySem.W.kitMeta "ValueError" = true then PySem.W.subIn K (.ref C2) (.type "ValueError") else none) = some true; rw [if_pos (by decide +kernel)]; exact xv2
  ·simp only [xs, Bool.or_eq_true, Bool.and_eq_true, decide_eq_true_eq, Bool.false_eq_true, or_false] at h
 refine ⟨PySem.W.fnOf d_law.x d_law.x (b8 d_law.st) (ao d_law.st) (aj d_law.st) .none kV21 dc21 pm21 an21 cd21 ct21, fun s v => .of_eq rfl, fun base kb _ bm => ?_⟩
 exact law_at ok_law rfl a21 l21 c21 k21 kb bm hd hs hb hX hl hm law
end LK
open PySem PySem.W PyProof.Rows
set_option maxRecDepth 100000 in
set_option maxHeartbeats 0 in
theorem PySem.Challenge.cw_askbook_k13_whole_keys_holds : PySem.Challenge.rw_askbook_k13_whole_keys.Holds := by
 w_on; o_law; k_head; (case hw => w_witness2)
 k_fill
 refine Pu.walkT (l := PySem.Challenge.rw_askbook_k13_whole_keys) (k := 30) rfl rfl ⟨rfl, by decide, by decide⟩ (by decide) (fun w h Y => PySem.W.km_in_of Y) ?hNt ?hTb ?hFn
 case hNt => intro w; kernel_rfl
 case hTb =>
  intro w h Y p hp
  rcases List.mem_cons.mp hp with rfl | hp
  ·exact ⟨PySem.W.codeHd_of_K (PySem.W.km_in_of Y) (by kernel_rfl), PySem.W.km_tabs_of Y _ (by decide)⟩
  obtain rfl := List.mem_singleton.mp hp
  exact ⟨PySem.W.codeHd_of_K (PySem.W.km_in_of Y) (by kernel_rfl), PySem.W.km_tabs_of Y _ (by decide)⟩
 case hFn =>
  intro w mg fa h KX G hmg
  refine' LK.all_mk (n := 30) KX G hmg (Pu.tab_at 29 rfl) rfl LK.law_true ?a0 ?l0 ?c0 ?k0 ?a1 ?l1 ?c1 ?k1 ?a2 ?l2 ?c2 ?k2 ?a3 ?l3 ?c3 ?k3 ?a4 ?l4 ?c4 ?k4 ?y4 ?u4 ?a5 ?l5 ?c5 ?k5 ?a6 ?l6 ?c6 ?k6 ?a7 ?l7 ?c7 ?k7 ?a8 ?l8 ?c8 ?k8 ?a9 ?l9 ?c9 ?k9 ?a10 ?l10 ?c10 ?k10 ?a11 ?l11 ?c11 ?k11 ?a12 ?l12 ?c12 ?k12 ?y12 ?u12 ?a13 ?l13 ?c13 ?k13 ?a14 ?l14 ?c14 ?k14 ?a15 ?l15 ?c15 ?k15 ?a16 ?l16 ?c16 ?k16 ?a17 ?l17 ?c17 ?k17 ?a18 ?l18 ?c18 ?k18 ?a19 ?l19 ?c19 ?k19 ?a20 ?l20 ?c20 ?k20 ?a21 ?l21 ?c21 ?k21 ?z0 ?z1 ?z2 ?z3 ?z4 ?z5 ?z6 ?z7 ?z8 ?z9 ?z10 ?z11 ?z12 ?z13 ?z14 ?z15 ?z16 ?z17 ?z18 ?z19 ?xa0 ?xe0 ?xv0 ?xa1 ?xe1 ?xv1 ?xa2 ?xe2 ?xv2 ?xp0 ?xp1 ?xp2 ?xp3 ?xp4
  (case a0 => k_is)
  (case l0 => k_is)
  (case c0 => k_is)
  (case k0 => k_is)
  (case a1 => k_is)
  (case l1 => k_is)
  (case c1 => k_is)
  (case k1 => k_is)
  (case a2 => k_is)
  (case l2 => k_is)
  (case c2 => k_is)
  (case k2 => k_is)
  (case a3 => k_is)
  (case l3 => k_is)
  (case c3 => k_is)
  (case k3 => k_is)
  (case a4 => k_is)
  (case l4 => k_is)
  (case c4 => k_is)
  (case k4 => k_is)
  (case y4 => exact List.Mem.head _)
  (case u4 => kernel_rfl)
  (case a5 => k_is)
  (case l5 => k_is)
  (case c5 => k_is)
  (case k5 => k_is)
  (case a6 => k_is)
  (case l6 => k_is)
  (case c6 => k_is)
  (case k6 => k_is)
  (case a7 => k_is)
  (case l7 => k_is)
  (case c7 => k_is)
  (case k7 => k_is)
  (case a8 => k_is)
  (case l8 => k_is)
  (case c8 => k_is)
  (case k8 => k_is)
  (case a9 => k_is)
  (case l9 => k_is)
  (case c9 => k_is)
  (case k9 => k_is)
  (case a10 => k_is)
  (case l10 => k_is)
  (case c10 => k_is)
  (case k10 => k_is)
  (case a11 => k_is)
  (case l11 => k_is)
  (case c11 => k_is)
  (case k11 => k_is)
  (case a12 => k_is)
  (case l12 => k_is)
  (case c12 => k_is)
  (case k12 => k_is)
  (case y12 => exact List.Mem.tail _ (List.Mem.head _))
  (case u12 => kernel_rfl)
  (case a13 => k_is)
  (case l13 => k_is)
  (case c13 => k_is)
  (case k13 => k_is)
  (case a14 => k_is)
  (case l14 => k_is)
  (case c14 => k_is)
  (case k14 => k_is)
  (case a15 => k_is)
  (case l15 => k_is)
  (case c15 => k_is)
  (case k15 => k_is)
  (case a16 => k_is)
  (case l16 => k_is)
  (case c16 => k_is)
  (case k16 => k_is)
  (case a17 => k_is)
  (case l17 => k_is)
  (case c17 => k_is)
  (case k17 => k_is)
  (case a18 => k_is)
  (case l18 => k_is)
  (case c18 => k_is)
  (case k18 => k_is)
  (case a19 => k_is)
  (case l19 => k_is)
  (case c19 => k_is)
  (case k19 => k_is)
  (case a20 => k_is)
  (case l20 => k_is)
  (case c20 => k_is)
  (case k20 => k_is)
  (case a21 => k_is)
  (case l21 => k_is)
  (case c21 => k_is)
  (case k21 => k_is)
  (case z0 => k_is)
  (case z1 => k_is)
  (case z2 => k_is)
  (case z3 => k_is)
  (case z4 => k_is)
  (case z5 => k_is)
  (case z6 => k_is)
  (case z7 => k_is)
  (case z8 => k_is)
  (case z9 => k_is)
  (case z10 => k_is)
  (case z11 => k_is)
  (case z12 => k_is)
  (case z13 => k_is)
  (case z14 => k_is)
  (case z15 => k_is)
  (case z16 => k_is)
  (case z17 => k_is)
  (case z18 => k_is)
  (case z19 => k_is)
  (case xa0 => k_is)
  (case xe0 => k_exc)
  (case xv0 => k_is)
  (case xa1 => k_is)
  (case xe1 => k_exc)
  (case xv1 => k_is)
  (case xa2 => k_is)
  (case xe2 => k_exc)
  (case xv2 => k_is)
  (case xp0 => kts_exm)
  (case xp1 => kts_exm)
  (case xp2 => kts_exm)
  (case xp3 => kts_exm)
  (case xp4 => kts_exm)
end
