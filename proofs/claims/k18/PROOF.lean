import PyProof.Rows.All
import Wide.All
import OpenK.AllK
import Wide.FinOn
import Lean
import PyProof.EqAt
import PyProof.EqKinds
import PyProof.TupleCall
import KE.KTryMore
import KE.KDictLaws
import KE.KDictList
import KE.KIntText
import KE.RegKTryMore
import PySem.Challenge.RW_askbook_k18_bonds_refused
set_option Elab.async false
set_option linter.all false
set_option maxRecDepth 100000
set_option maxHeartbeats 4000000
section
namespace L2
open PySem
noncomputable def lamCaps : List Str := ["many"]
end L2
end
section
namespace L2
open PySem PySem.Spec PyProof.Rows
noncomputable abbrev Key := Sum Int Str
noncomputable def keyIs : Key → Value → Bool
 | .inl k, v => Value.isInt k v
 | .inr x, v => Value.isStrOf x v
noncomputable def keyH (w : World) : Key → Int
 | .inl k => hashInt k
 | .inr x => hashStr w x
theorem keyIs_shape : ∀ {k : Key} {v : Value}, keyIs k v = true → (∃ i t, k = Sum.inl i ∧ v = Value.int i t) ∨ (∃ x t, k = Sum.inr x ∧ v = Value.str x t)
 | .inl i, v, h => by
  obtain ⟨t, e⟩ := Value.isInt_shape (k := i) (v := v) h
  exact .inl ⟨i, t, rfl, e⟩
 | .inr x, v, h => by
  obtain ⟨t, e⟩ := Value.isStrOf_shape (x := x) (v := v) h
  exact .inr ⟨x, t, rfl, e⟩
theorem keyIs_int (i : Int) (t : Tok) : keyIs (.inl i) (.int i t) = true := by simp [keyIs, Value.isInt]
theorem keyIs_str (x : Str) (t : Tok) : keyIs (.inr x) (.str x t) = true := by simp [keyIs, Value.isStrOf]
theorem key_ll (a b : Int) : decide ((Sum.inl a : Key) = Sum.inl b) = (a == b) := by
 by_cases e : a = b
 ·subst e; simp
 ·have h : ¬ (Sum.inl a : Key) = Sum.inl b := fun q => e (Sum.inl.inj q)
  rw [decide_eq_false h]
  exact (beq_eq_false_iff_ne.mpr e).symm
theorem key_rr (a b : Str) : decide ((Sum.inr a : Key) = Sum.inr b) = decide (a = b) := by
 by_cases e : a = b
 ·subst e; simp
 ·have h : ¬ (Sum.inr a : Key) = Sum.inr b := fun q => e (Sum.inr.inj q)
  rw [decide_eq_false h, decide_eq_false e]
theorem key_lr (a : Int) (b : Str) : decide ((Sum.inl a : Key) = Sum.inr b) = false := decide_eq_false (fun q => nomatch q)
theorem key_rl (a : Str) (b : Int) : decide ((Sum.inr a : Key) = Sum.inl b) = false := decide_eq_false (fun q => nomatch q)
noncomputable def mixKind (prog : Program) (w : World) : PySem.KeyKind prog w Key where
 is := keyIs
 hash := keyH w
 inj := fun v a b ha hb => by
  rcases keyIs_shape ha with ⟨i, t, rfl, rfl⟩ | ⟨x, t, rfl, rfl⟩
  ·rcases keyIs_shape hb with ⟨j, u, rfl, e⟩ | ⟨y, u, rfl, e⟩
   ·injection e with e1 _; rw [e1]
   ·exact nomatch e
  ·rcases keyIs_shape hb with ⟨j, u, rfl, e⟩ | ⟨y, u, rfl, e⟩
   ·exact nomatch e
   ·injection e with e1 _; rw [e1]
 byValue := fun k v h => by
  rcases keyIs_shape h with ⟨i, t, rfl, rfl⟩ | ⟨x, t, rfl, rfl⟩ <;> rfl
 pyHash := fun hv h => by
  rcases keyIs_shape hv with ⟨i, t, rfl, rfl⟩ | ⟨x, t, rfl, rfl⟩
  ·exact wpAny_pyHash_int h
  ·exact wpAny_pyHash_str h
 eqBool := fun hu hv h => by
  rcases keyIs_shape hu with ⟨i, t, rfl, rfl⟩ | ⟨x, t, rfl, rfl⟩
  ·rcases keyIs_shape hv with ⟨j, u, rfl, rfl⟩ | ⟨y, u, rfl, rfl⟩
   ·rw [key_ll] at h; exact wpAny_eqBool_int h
   ·rw [key_lr] at h; exact SeqAt.EqAt.int_str i t y u _ _ _ _ h
  ·rcases keyIs_shape hv with ⟨j, u, rfl, rfl⟩ | ⟨y, u, rfl, rfl⟩
   ·rw [key_rl] at h; exact SeqAt.EqAt.str_int x t j u _ _ _ _ h
   ·rw [key_rr] at h; exact wpAny_eqBool_str h
 «strs» := fun k x t v h => by
  rcases keyIs_shape h with ⟨i, u, rfl, e⟩ | ⟨y, u, rfl, e⟩
  ·exact nomatch e
  ·injection e with e1 _
   subst e1
   cases v <;> rfl
theorem mixKind_int (prog : Program) (w : World) (i : Int) (t : Tok) : (mixKind prog w).is (.inl i) (.int i t) = true := keyIs_int i t
theorem mixKind_str (prog : Program) (w : World) (x : Str) (t : Tok) : (mixKind prog w).is (.inr x) (.str x t) = true := keyIs_str x t
end L2
namespace L2
open PySem PySem.Spec PyProof.Rows
inductive V where
 | non | bl (b : Bool) | int (i : Int) | str (x : Str) | byt (b : Array UInt8) | flt (b : UInt64) | ref (a : Addr) | ty (n : String)
 deriving DecidableEq
noncomputable def RelV : V → Value → Prop
 | .non, u => u = Value.none
 | .bl b, u => u = Value.bool b
 | .int i, u => ∃ t, u = Value.int i t
 | .str x, u => ∃ t, u = Value.str x t
 | .byt b, u => ∃ t, u = Value.bytes b t
 | .flt b, u => ∃ t, u = Value.float b t
 | .ref a, u => u = Value.ref a
 | .ty n, u => u = Value.type n
noncomputable abbrev Vals : List V → List Value → Prop := Paired RelV
theorem Vals.length {xs : List V} {us : List Value} (r : Vals xs us) : xs.length = us.length := Paired.length r
theorem Vals.get : ∀ {xs : List V} {us : List Value} {i : Nat} {x : V}, Vals xs us → xs[i]? = some x → ∃ u, us[i]? = some u ∧ RelV x u
 | _, _, _, _, .nil, e => by simp at e
 | _, _, 0, _, .cons r _, e => by simp at e; subst e; exact ⟨_, rfl, r⟩
 | _, _, i + 1, x, .cons _ t, e => by
  obtain ⟨u, h1, h2⟩ := Vals.get (i := i) (x := x) t (by simpa using e)
  exact ⟨u, by simpa using h1, h2⟩
theorem Vals.set {x : V} {u : Value} (r : RelV x u) : ∀ {xs : List V} {us : List Value} (i : Nat), Vals xs us → Vals (xs.set i x) (us.set i u)
 | _, _, _, .nil => .nil
 | _, _, 0, .cons _ t => .cons r t
 | _, _, i + 1, .cons q t => .cons q (Vals.set r i t)
theorem Vals.append : ∀ {xs ys : List V} {us ws : List Value}, Vals xs us → Vals ys ws → Vals (xs ++ ys) (us ++ ws)
 | _, _, _, _, .nil, s => s
 | _, _, _, _, .cons r t, s => .cons r (Vals.append t s)
theorem Vals.take : ∀ {xs : List V} {us : List Value} (n : Nat), Vals xs us → Vals (xs.take n) (us.take n)
 | _, _, 0, _ => .nil
 | _, _, _ + 1, .nil => .nil
 | _, _, n + 1, .cons r t => .cons r (Vals.take n t)
theorem Vals.drop : ∀ {xs : List V} {us : List Value} (n : Nat), Vals xs us → Vals (xs.drop n) (us.drop n)
 | _, _, 0, r => r
 | _, _, _ + 1, .nil => .nil
 | _, _, n + 1, .cons _ t => Vals.drop n t
noncomputable def RelO : Option V → Option Value → Prop
 | some v, some u => RelV v u
 | none, none => True
 | _, _ => False
noncomputable def KV {κ : Type} : List (κ × V) → List (κ × Value) → Prop := Paired fun (p : κ × V) (q : κ × Value) => p.1 = q.1 ∧ RelV p.2 q.2
noncomputable def kV : Key → V
 | .inl i => .int i
 | .inr x => .str x
inductive HO where
 | lst (xs : List V)
 | tup (xs : List V)
 | dK (kvs : List (Key × V)) | dT (kvs : List (List Key × V))
 | set (S : Int → Bool) (n : Nat)
 | ins (C dx : Addr) (fs : List (Str × V))
 | own (x : Addr)
 | xd (fs : List (Str × V))
 | met (f x : Addr)
 | rng (lo hi : Int)
 | frz (o : Obj) (u : HO)
 | tbl (q : Str)
 | ext (φ : Heap → Prop)
noncomputable abbrev Hp := Addr → Option HO
noncomputable def upd (H : Hp) (a : Addr) (o : HO) : Hp := fun b => if b = a then some o else H b
theorem upd_same {H : Hp} {a : Addr} {o : HO} : upd H a o a = some o := by unfold upd; rw [if_pos rfl]
theorem upd_ne {H : Hp} {a b : Addr} {o : HO} (h : b ≠ a) : upd H a o b = H b := by unfold upd; rw [if_neg h]
theorem ne_of {H : Hp} {a b : Addr} {o u : HO} (h : H a = some o) (h' : H b = some u) (d : o ≠ u) : a ≠ b := by
 intro e; subst e; rw [h] at h'; exact d (Option.some.inj h')
theorem ne_of_none {H : Hp} {a b : Addr} {o : HO} (h : H a = some o) (h' : H b = none) : a ≠ b := by
 intro e; subst e; rw [h] at h'; cases h'
noncomputable def Trip (H : Hp) (q : Str) : List Value → Prop
 | [] => True
 | .int _ _ :: .int _ _ :: .ref c' :: r => (∃ (oc : Obj) (vs : Array Value) (t : Tok), H c' = some (.frz oc (.own 0)) ∧ oc.data = .fields vs ∧ vs[1]? = some (.str q t)) ∧ Trip H q r
 | _ => False
theorem Trip.mono {H H' : Hp} {q : Str} (hz : ∀ b o u, H b = some (.frz o u) → H' b = some (.frz o u)) (l : List Value) (h : Trip H q l) : Trip H' q l := by
 fun_induction Trip H q l with
 | case1 => unfold Trip; trivial
 | case2 _ _ _ _ c' r ih =>
  obtain ⟨⟨oc, vs, t, e1, e2⟩, h2⟩ := h
  unfold Trip
  exact ⟨⟨oc, vs, t, hz _ _ _ e1, e2⟩, ih h2⟩
 | case3 => exact h.elim
section
variable (P : Program) (w : World)
noncomputable def ObjOk (H : Hp) (h : Heap) (a : Addr) : HO → Prop
 | .lst xs => xs.length ≤ sizeLine ∧ ∃ (its : List Value) (n : Nat), Vals xs its ∧ h.get? a = some { cls := .type "list", data := .seq its.toArray n }
 | .tup xs => xs.length ≤ sizeLine ∧ ∃ its : List Value, Vals xs its ∧ IsTup h a its.toArray
 | .dK kvs => kvs.length ≤ sizeLine ∧ (a == sysModules) = false ∧ ∃ vs, KV kvs vs ∧ h.DictOf (mixKind P w) a vs
 | .dT kvs => kvs.length ≤ sizeLine ∧ (a == sysModules) = false ∧ ∃ xs : List (List Key × Addr × Value),
   Paired (fun (p : List Key × V) (q : List Key × Addr × Value) => p.1 = q.1 ∧ H q.2.1 = some (.tup (p.1.map kV)) ∧ RelV p.2 q.2.2) kvs xs ∧
   ∃ o es ep, h.get? a = some o ∧ o.ExactDict ∧ o.data = .dict es ep ∧ es.toList = xs.map (entryOfKey (tupleKind (mixKind P w))) ∧ (xs.map (·.1)).Nodup
 | .set S n => h.SetOf (intKind P w) a S n
 | .ins C dx fs => H dx = some (.own a) ∧ fs.length ≤ 1000 ∧ dx ≠ a ∧ h.get? a = some (PySem.W.instObj C dx) ∧
   ∃ mA, h.Ns1 dx mA ∧ (∀ f, RelO (fs.lookup f) (mA f)) ∧ PySem.Within mA (fs.map (·.1))
 | .own _ => ∃ o, h.get? a = some o
 | .xd fs => ∃ mA, h.Ns1 a mA ∧ ∀ f, RelO (fs.lookup f) (mA f)
 | .rng lo hi => ∃ t u v, h.get? a = some { cls := .type "range", data := .fields #[.int lo t, .int hi u, .int 1 v] }
 | .frz o u => h.get? a = some o ∧ ObjOk H h a u
 | .tbl q => ∃ ps : Array Value, h.get? a = some { cls := .none, data := .fields ps } ∧ Trip H q ps.toList
 | .met f x => h.get? a = some (PySem.W.methodObj (.ref f) (.ref x))
 | .ext φ => φ h ∧ (∃ o, h.get? a = some o) ∧ ∀ h1 h2 : Heap, φ h1 → (∀ o, h1.get? a = some o → h2.get? a = some o) → φ h2
noncomputable def HOk (H : Hp) (h : Heap) : Prop := ∀ a o, H a = some o → ObjOk P w H h a o
end
section
variable {P : Program} {w : World} {H H' : Hp} {h h' : Heap} {a : Addr} {o : HO}
theorem ObjOk.lt (x : ObjOk P w H h a o) : a < h.objs.size := by
 cases o with
 | lst xs => obtain ⟨_, _, _, _, e⟩ := x; exact Heap.lt_size e
 | tup xs => obtain ⟨_, _, _, p⟩ := x; exact p.lt
 | dK kvs => obtain ⟨_, _, _, _, o, _, _, e, _⟩ := x; exact Heap.lt_size e
 | dT kvs => obtain ⟨_, _, _, _, o, _, _, e, _⟩ := x; exact Heap.lt_size e
 | set S n => obtain ⟨o, _, _, _, e, _⟩ := x; exact Heap.lt_size e
 | ins C dx fs => obtain ⟨_, _, _, e, _⟩ := x; exact Heap.lt_size e
 | own y => obtain ⟨_, e⟩ := x; exact Heap.lt_size e
 | xd fs => obtain ⟨_, ⟨_, _, _, e, _⟩, _⟩ := x; exact Heap.lt_size e
 | rng lo hi => obtain ⟨_, _, _, e⟩ := x; exact Heap.lt_size e
 | frz ob u => obtain ⟨e, _⟩ := x; exact Heap.lt_size e
 | tbl q => obtain ⟨ps, e, _⟩ := x; exact Heap.lt_size e
 | met f y => exact Heap.lt_size (show h.get? a = some _ from x)
 | ext φ => obtain ⟨_, ⟨_, e⟩, _⟩ := x; exact Heap.lt_size e
theorem Paired.mapP {α β : Type} {F G : α → β → Prop} : ∀ {l₁ : List α} {l₂ : List β}, Paired F l₁ l₂ → (∀ a b, F a b → G a b) → Paired G l₁ l₂
 | _, _, .nil, _ => .nil
 | _, _, .cons r t, f => .cons (f _ _ r) (Paired.mapP t f)
theorem ObjOk.stay (x : ObjOk P w H h a o) (k : ∀ b u, (b = a ∨ H b = some (.own a)) → h.get? b = some u → h'.get? b = some u)
  (ho : ∀ b, H b = some (.own a) → H' b = some (.own a)) (ht : ∀ b xs, H b = some (.tup xs) → H' b = some (.tup xs)) (hz : ∀ b o u, H b = some (.frz o u) → H' b = some (.frz o u) := by exact fun _ _ _ q => q) : ObjOk P w H' h' a o := by
 induction o with
 | lst xs => obtain ⟨z, its, n, r, e⟩ := x; exact ⟨z, its, n, r, k _ _ (.inl rfl) e⟩
 | tup xs => obtain ⟨z, its, r, ob, e, c⟩ := x; exact ⟨z, its, r, ob, k _ _ (.inl rfl) e, c⟩
 | dK kvs => obtain ⟨z, y, vs, r, ob, es, ep, e, c⟩ := x; exact ⟨z, y, vs, r, ob, es, ep, k _ _ (.inl rfl) e, c⟩
 | dT kvs =>
  obtain ⟨z, y, xs, r, ob, es, ep, e, c⟩ := x
  exact ⟨z, y, xs, Paired.mapP r fun p q z => ⟨z.1, ht _ _ z.2.1, z.2.2⟩, ob, es, ep, k _ _ (.inl rfl) e, c⟩
 | set S n => obtain ⟨ob, es, ep, t, e, c⟩ := x; exact ⟨ob, es, ep, t, k _ _ (.inl rfl) e, c⟩
 | ins C dx fs =>
  obtain ⟨d, z, ne, e, mA, ⟨od, es, ep, e2, c⟩, r⟩ := x
  exact ⟨ho _ d, z, ne, k _ _ (.inl rfl) e, mA, ⟨od, es, ep, k _ _ (.inr d) e2, c⟩, r⟩
 | own y => obtain ⟨ob, e⟩ := x; exact ⟨ob, k _ _ (.inl rfl) e⟩
 | xd fs => obtain ⟨mA, ⟨od, es, ep, e, c⟩, r⟩ := x; exact ⟨mA, ⟨od, es, ep, k _ _ (.inl rfl) e, c⟩, r⟩
 | rng lo hi => obtain ⟨t, u, v, e⟩ := x; exact ⟨t, u, v, k _ _ (.inl rfl) e⟩
 | frz ob u ih => obtain ⟨e, q⟩ := x; exact ⟨k _ _ (.inl rfl) e, ih q⟩
 | tbl q =>
  obtain ⟨ps, e, r⟩ := x
  exact ⟨ps, k a _ (.inl rfl) e, r.mono hz⟩
 | met f y =>
  have e : h.get? a = some (PySem.W.methodObj (.ref f) (.ref y)) := x
  show h'.get? a = some (PySem.W.methodObj (.ref f) (.ref y))
  exact k a _ (.inl rfl) e
 | ext φ => obtain ⟨p, ⟨o, e⟩, st⟩ := x; exact ⟨st _ _ p fun o q => k _ _ (.inl rfl) q, ⟨o, k _ _ (.inl rfl) e⟩, st⟩
theorem HOk.lt (x : HOk P w H h) (e : H a = some o) : a < h.objs.size := (x a o e).lt
theorem HOk.fresh (x : HOk P w H h) (e : h.objs.size ≤ a) : H a = none := by
 cases q : H a with
 | none => rfl
 | some u => exact absurd (Nat.lt_of_lt_of_le (x.lt q) e) (Nat.lt_irrefl _)
theorem HOk.kept (x : HOk P w H h) (k : ∀ b u, h.get? b = some u → h'.get? b = some u) : HOk P w H h' := fun a o e =>
 (x a o e).stay (fun b u _ q => k b u q) (fun _ q => q) fun _ _ q => q
theorem HOk.laid (x : HOk P w H h) (k : ∀ b u, h.get? b = some u → h'.get? b = some u) (hp : h.objs.size ≤ a) (new : ObjOk P w (upd H a o) h' a o) : HOk P w (upd H a o) h' := fun b u e => by
 have hn := x.fresh hp
 by_cases hb : b = a
 ·subst hb; rw [upd_same] at e; cases e; exact new
 ·rw [upd_ne hb] at e
  exact (x b u e).stay (fun c v _ q => k c v q) (fun c q => by rw [upd_ne (ne_of_none q hn)]; exact q) (fun c xs q => by rw [upd_ne (ne_of_none q hn)]; exact q) fun c ob u q => by rw [upd_ne (ne_of_none q hn)]; exact q
end
noncomputable def Rd (H : Hp) (a : Addr) (u : HO) : Prop := H a = some u ∨ ∃ o, H a = some (.frz o u)
theorem Rd.of {H : Hp} {a : Addr} {u : HO} (h : H a = some u) : Rd H a u := .inl h
theorem Rd.ok {P : Program} {w : World} {H : Hp} {h : Heap} {a : Addr} {u : HO} (r : Rd H a u) (x : HOk P w H h) : ObjOk P w H h a u := by
 rcases r with r | ⟨o, r⟩
 ·exact x a u r
 ·obtain ⟨_, q⟩ := x a _ r
  exact q
noncomputable def Mut : Option HO → Prop
 | some (.lst _) => True
 | some (.dK _) => True
 | some (.dT _) => True
 | some (.set _ _) => True
 | some (.ins _ _ _) => True
 | some (.ext _) => True
 | _ => False
section
variable {P : Program} {w : World} {H : Hp} {h h' : Heap} {x e : Addr} {o' : HO}
theorem HOk.write (ok : HOk P w H h) (mu : Mut (H x)) (he : e = x ∨ H e = some (.own x)) (k : ∀ b u, b ≠ e → h.get? b = some u → h'.get? b = some u) (heo : ∃ u, h'.get? e = some u)
  (new : ObjOk P w (upd H x o') h' x o') : HOk P w (upd H x o') h' := fun b u q => by
 have nown : ∀ c y, H c = some (.own y) → c ≠ x := fun c y r z => by subst z; rw [r] at mu; exact mu
 have ntup : ∀ c xs, H c = some (.tup xs) → c ≠ x := fun c xs r z => by subst z; rw [r] at mu; exact mu
 have nfrz : ∀ c ob v, H c = some (.frz ob v) → c ≠ x := fun c ob v r z => by subst z; rw [r] at mu; exact mu
 by_cases hb : b = x
 ·subst hb; rw [upd_same] at q; cases q; exact new
 ·rw [upd_ne hb] at q
  by_cases hbe : b = e
  ·have q' : H b = some (.own x) := by
    rcases he with z | z
    ·exact absurd (hbe.trans z) hb
    ·rw [hbe]; exact z
   rw [q] at q'; cases q'
   obtain ⟨v, hv⟩ := heo
   exact ⟨v, by rw [hbe]; exact hv⟩
  ·refine (ok b u q).stay (fun c v hc r => k c v ?_ r) (fun c r => by rw [upd_ne (nown c b r)]; exact r) (fun c xs r => by rw [upd_ne (ntup c xs r)]; exact r) fun c ob v r => by rw [upd_ne (nfrz c ob v r)]; exact r
   rcases hc with rfl | hc
   ·exact hbe
   ·rintro rfl
    rcases he with z | z
    ·exact nown c b hc z
    ·rw [hc] at z; cases z; exact hb rfl
end
structure Un (fs ex : List Addr) (H H' : Hp) (h h' : Heap) : Prop where
 keep : ∀ b o, h.get? b = some o → H b = none → b ∉ fs → b ∉ ex → h'.get? b = some o
 slot : ∀ b o, h.get? b = some o → H b = none → b ∈ fs → b ∉ ex → ∃ sl, h'.get? b = some { o with slots := sl }
 free : ∀ b o, h.get? b = some o → H b = none → b ∉ ex → H' b = none
 there : ∀ b o, h.get? b = some o → b ∉ ex → ∃ o', h'.get? b = some o'
 tups : ∀ b xs, H b = some (.tup xs) → H' b = some (.tup xs)
 frzs : ∀ b o u, H b = some (.frz o u) → H' b = some (.frz o u)
 tbls : ∀ b q, H b = some (.tbl q) → H' b = some (.tbl q)
section
variable {fs fs' ex ex' : List Addr} {H H1 H2 : Hp} {h h1 h2 h' : Heap} {a x e : Addr} {o : HO}
theorem Un.any (u : Un fs ex H H1 h h1) {b : Addr} {ob : Obj} (q : h.get? b = some ob) (n : H b = none) (hx : b ∉ ex) : ∃ sl, h1.get? b = some { ob with slots := sl } := by
 by_cases hb : b ∈ fs
 ·exact u.slot b ob q n hb hx
 ·exact ⟨ob.slots, u.keep b ob q n hb hx⟩
theorem Un.trans (a : Un fs ex H H1 h h1) (b : Un fs ex H1 H2 h1 h2) : Un fs ex H H2 h h2 where
 keep := fun c ob q n hc hx => b.keep c ob (a.keep c ob q n hc hx) (a.free c ob q n hx) hc hx
 slot := fun c ob q n hc hx => by
  obtain ⟨sl, e1⟩ := a.slot c ob q n hc hx
  obtain ⟨sl', e2⟩ := b.slot c _ e1 (a.free c ob q n hx) hc hx
  exact ⟨sl', e2⟩
 free := fun c ob q n hx => by
  obtain ⟨o', e1⟩ := a.there c ob q hx
  exact b.free c o' e1 (a.free c ob q n hx) hx
 there := fun c ob q hx => by
  obtain ⟨o', e1⟩ := a.there c ob q hx
  exact b.there c o' e1 hx
 tups := fun c xs q => b.tups c xs (a.tups c xs q)
 frzs := fun c ob xs q => b.frzs c ob xs (a.frzs c ob xs q)
 tbls := fun p q z => b.tbls p q (a.tbls p q z)
theorem Un.kept (k : ∀ b u, h.get? b = some u → h'.get? b = some u) : Un fs ex H H h h' :=
 ⟨fun b ob q _ _ _ => k b ob q, fun b ob q _ _ _ => ⟨ob.slots, k b ob q⟩, fun _ _ _ n _ => n, fun b ob q _ => ⟨ob, k b ob q⟩, fun _ _ q => q, fun _ _ _ q => q, fun _ _ q => q⟩
theorem Un.refl : Un fs ex H H h h := Un.kept fun _ _ q => q
theorem Un.laid (k : ∀ b u, h.get? b = some u → h'.get? b = some u) (hp : h.objs.size ≤ a) (hn : H a = none) : Un fs ex H (upd H a o) h h' where
 keep := fun b u q _ _ _ => k b u q
 slot := fun b u q _ _ _ => ⟨u.slots, k b u q⟩
 free := fun b u q n _ => by rw [upd_ne (Nat.ne_of_lt (Nat.lt_of_lt_of_le (Heap.lt_size q) hp))]; exact n
 there := fun b u q _ => ⟨u, k b u q⟩
 tups := fun b xs q => by rw [upd_ne (ne_of_none q hn)]; exact q
 frzs := fun b u xs q => by rw [upd_ne (ne_of_none q hn)]; exact q
 tbls := fun b _ q => by rw [upd_ne (ne_of_none q hn)]; exact q
theorem Un.write (mu : Mut (H x)) (he : e = x ∨ H e = some (.own x)) (k : ∀ b u, b ≠ e → h.get? b = some u → h'.get? b = some u) (heo : ∃ u, h'.get? e = some u) : Un fs ex H (upd H x o) h h' := by
 have hx : ∀ b, H b = none → b ≠ x := fun b n z => by subst z; rw [n] at mu; exact mu
 have hb : ∀ b, H b = none → b ≠ e := fun b n z => by
  subst z
  rcases he with r | r
  ·exact hx b n r
  ·rw [n] at r; cases r
 have hm : ∀ b u, H b = some u → ¬ Mut (some u) → b ≠ x := fun b u q nm z => by subst z; rw [q] at mu; exact nm mu
 refine ⟨fun b u q n _ _ => k b u (hb b n) q, fun b u q n _ _ => ⟨u.slots, k b u (hb b n) q⟩, fun b u q n _ => by rw [upd_ne (hx b n)]; exact n, fun b u q _ => ?_,
  fun b xs q => by rw [upd_ne (hm b _ q fun z => z)]; exact q, fun b u xs q => by rw [upd_ne (hm b _ q fun z => z)]; exact q, fun b _ q => by rw [upd_ne (hm b _ q fun z => z)]; exact q⟩
 by_cases hbe : b = e
 ·subst hbe; exact heo
 ·exact ⟨u, k b u hbe q⟩
theorem Un.mono (u : Un fs ex H H1 h h1) (hs : ∀ b ∈ fs, b ∈ fs') (hx : ∀ b ∈ ex, b ∈ ex') : Un fs' ex' H H1 h h1 :=
 ⟨fun b ob q n hb he => u.keep b ob q n (fun z => hb (hs b z)) fun z => he (hx b z), fun _ _ q n _ he => u.any q n fun z => he (hx _ z), fun b ob q n he => u.free b ob q n fun z => he (hx b z), fun b ob q he => u.there b ob q fun z => he (hx b z), u.tups, u.frzs, u.tbls⟩
end
noncomputable def trk (h : Heap) (H : Hp) : List Addr := (List.range h.objs.size).filter fun a => (H a).isSome
noncomputable def hidT (h : Heap) (H : Hp) : Heap := PySem.W.hideAll h (trk h H)
theorem hidT_size (h : Heap) (H : Hp) : (hidT h H).objs.size = h.objs.size := PySem.W.hideAll_size _ _
theorem hidT_get {h : Heap} {H : Hp} {b : Addr} {o : Obj} (e : h.get? b = some o) (n : H b = none) : (hidT h H).get? b = some o :=
 PySem.W.hideAll_get _ e fun hm => by
  have q : (H b).isSome = true := (List.mem_filter.mp hm).2
  rw [n] at q; simp at q
theorem of_hidT {h : Heap} {H : Hp} {b : Addr} {o : Obj} (e : (hidT h H).get? b = some o) : h.get? b = some o ∧ H b = none := by
 have e' : h.get? b = some o := PySem.W.of_hideAll (trk h H) e
 refine ⟨e', ?_⟩
 cases q : H b with
 | none => rfl
 | some x =>
  have hm : b ∈ trk h H := List.mem_filter.mpr ⟨List.mem_range.mpr (Heap.lt_size e'), by simp [q]⟩
  have z : (hidT h H).get? b = none := PySem.W.hideAll_none (trk h H) hm
  rw [z] at e; cases e
noncomputable def allNews (g h : Heap) (L : Addr) : List (Addr × Obj) := (List.range h.objs.size).filterMap fun a => if a = L ∨ (g.get? a).isSome = true then none else (h.get? a).map fun o => (a, o)
noncomputable def rest (g h : Heap) (L d : Addr) : List (Addr × Obj) := (allNews g h L).filter fun p => decide (p.1 ≠ d)
end L2
namespace L2
open PySem PySem.Spec PyProof.Rows
structure Mod (K : PySem.W.Frag) (mg : Str → Option Value) (base : Heap) : Prop where
 kin : K.In base
 glob : base.Ns mainGlobals mg
 blt : ∃ mb, base.Ns builtinsNs mb ∧ ∀ x : Str, x ≠ "__name__" → mb x = bootBuiltins x
 nolimit : base.NoLimit
structure Cx where
 prog : Program
 w : World
 K : PySem.W.Frag
 mg : Str → Option Value
 base : Heap
 A : Around
 N : List Str
 s₀ : Shared
 H₀ : Hp
 env : Env
 outer : List Env
 stack : List Env
 ex : List Addr
 fn : Str → Bool
 calm : Bool
 pn : List (Addr × Obj)
 xe : Value → Shared → Prop
noncomputable def frs (l : List Env) : List Addr := l.filterMap (·.frame)
noncomputable abbrev Cx.fs (X : Cx) : List Addr := frs X.outer
noncomputable def Vis (sc : Scope) (x : Str) : Prop := sc.names.lookup x = some .local ∨ sc.names.lookup x = some .cell ∨ sc.names.lookup x = some .free
noncomputable def Loc (sc : Scope) (x : Str) : Prop := sc.names.lookup x = some .local ∨ sc.names.lookup x = some .cell
noncomputable def Look (env : Env) (h : Heap) (m : Str → Option Value) (x : Str) (u : Value) : Prop :=
 (env.kindOf x = some .local ∧ m x = some u) ∨ ((env.kindOf x = some .cell ∨ env.kindOf x = some .free) ∧ ∃ c, env.cells.lookup x = some c ∧ h.IsCell c (some u))
structure Cx.Ok (X : Cx) : Prop where
 mod : Mod X.K X.mg X.base
 kind : X.env.scope.kind = .function
 glob : X.env.globals = mainGlobals
 blt : X.env.builtins = builtinsNs
 above : X.s₀.heap.objs.size ≤ X.env.locals
 inj : ∀ x y c, X.env.cells.lookup x = some c → X.env.cells.lookup y = some c → x = y
 has : ∀ x, (X.env.kindOf x = some .cell ∨ X.env.kindOf x = some .free) → ∃ c, X.env.cells.lookup x = some c
 cab : ∀ x c, X.fn x = true → X.env.cells.lookup x = some c → X.s₀.heap.objs.size ≤ c
 hd : X.calm = true → X.A.handled = none
 frames : X.A.frames = some X.stack
 stk : X.stack = X.outer ∨ (X.stack = X.env :: X.outer ∧ X.env.frame = some X.env.locals)
 exf : ∀ b ∈ X.ex, b ≠ X.env.locals ∧ ∀ x c, X.env.cells.lookup x = some c → c ≠ b
 bs : ∀ b o, X.base.get? b = some o → X.s₀.heap.get? b = some o ∧ X.H₀ b = none
 bsz : X.base.objs.size ≤ X.s₀.heap.objs.size
 noex : ∀ b o, X.base.get? b = some o → b ∉ X.ex
 exfs : ∀ b ∈ X.ex, b ∉ X.fs
 funs : X.s₀.heap.FunFrames X.base X.outer
 frf : ∀ b ∈ X.fs, X.H₀ b = none
structure Inv (X : Cx) (pins : List (Addr × Obj)) (σ : List (Option V)) (H : Hp) (s : Shared) : Prop where
 ok : X.Ok
 os : s.os = X.s₀.os
 bare : AllBare s.gens
 base : Un X.fs X.ex X.H₀ H X.s₀.heap s.heap
 loc : ∃ m, s.heap.Ns X.env.locals m ∧ ∀ (i : Nat) (x : Str) (v : V), X.N[i]? = some x → σ[i]? = some (some v) → Vis X.env.scope x → ∃ u, RelV v u ∧ Look X.env s.heap m x u
 cell : ∀ x c, X.env.cells.lookup x = some c → ∃ v, s.heap.IsCell c v
 free : H X.env.locals = none
 freeC : ∀ x c, X.env.cells.lookup x = some c → H c = none ∨ (X.fn x = false ∧ ∃ o, H c = some (.frz o (.own 0)))
 pin : ∀ p ∈ X.pn ++ pins, s.heap.get? p.1 = some p.2 ∧ H p.1 = none ∧ p.1 ≠ X.env.locals ∧ p.1 ∉ X.fs ∧ ∀ v, p.2.data ≠ .cell v
 hok : HOk X.prog X.w H s.heap
 len : σ.length = X.N.length
section
variable {X : Cx} {pins : List (Addr × Obj)} {σ : List (Option V)} {H H' : Hp} {s : Shared} {h' : Heap}
theorem Cx.Ok.nofr (ok : X.Ok) {b : Addr} {o : Obj} (e : X.base.get? b = some o) : b ∉ X.fs := fun hb => by
 have := (ok.funs.mem hb).1
 rw [e] at this; cases this
theorem Inv.bs (I : Inv X pins σ H s) : ∀ b o, X.base.get? b = some o → s.heap.get? b = some o ∧ H b = none := fun b o e =>
 ⟨I.base.keep b o (I.ok.bs b o e).1 (I.ok.bs b o e).2 (I.ok.nofr e) (I.ok.noex b o e), I.base.free b o (I.ok.bs b o e).1 (I.ok.bs b o e).2 (I.ok.noex b o e)⟩
theorem Inv.bk (I : Inv X pins σ H s) : ∀ b o, X.base.get? b = some o → s.heap.get? b = some o := fun b o e => (I.bs b o e).1
theorem Inv.mod (I : Inv X pins σ H s) : Mod X.K X.mg X.base := I.ok.mod
theorem Inv.kIn (I : Inv X pins σ H s) : X.K.In s.heap := I.ok.mod.kin.keeps I.bk
theorem Inv.nolimit (I : Inv X pins σ H s) : s.heap.NoLimit := I.ok.mod.nolimit.keeps I.bk
theorem Inv.fr (I : Inv X pins σ H s) : ∃ m, Fr X.base X.env.locals s.heap m :=
 let ⟨m, hn, _⟩ := I.loc
 ⟨m, hn, I.bk, Nat.le_trans I.ok.bsz I.ok.above⟩
theorem Inv.lt (I : Inv X pins σ H s) : X.env.locals < s.heap.objs.size := let ⟨_, hn, _⟩ := I.loc; hn.lt
theorem Inv.sz (I : Inv X pins σ H s) : X.s₀.heap.objs.size ≤ s.heap.objs.size := Nat.le_trans I.ok.above (Nat.le_of_lt I.lt)
theorem Inv.nofs (I : Inv X pins σ H s) {a : Addr} (h : s.heap.objs.size ≤ a) : a ∉ X.fs := fun hb => by
 obtain ⟨_, o, ho, _⟩ := I.ok.funs.mem hb
 exact absurd (Nat.lt_of_lt_of_le (Heap.lt_size ho) (Nat.le_trans I.sz h)) (Nat.lt_irrefl _)
theorem Inv.cne (I : Inv X pins σ H s) : ∀ x c, X.env.cells.lookup x = some c → c ≠ X.env.locals := fun x c e z => by
 obtain ⟨v, o, ho, hd⟩ := I.cell x c e
 obtain ⟨m, ⟨o', es, ep, ho', hd', _⟩, _⟩ := I.loc
 rw [z, ho'] at ho; cases ho; rw [hd'] at hd; cases hd
theorem Inv.funs (I : Inv X pins σ H s) : s.heap.FunFrames X.base X.outer := by
 have all : ∀ (l : List Env), (∀ b ∈ frs l, b ∈ X.fs) → X.s₀.heap.FunFrames X.base l → s.heap.FunFrames X.base l := by
  intro l
  induction l with
  | nil => intro _ _; trivial
  | cons env r ih =>
   intro hs hl
   obtain ⟨hk, ⟨L, o, hf, hn, ho, hd⟩, hr⟩ := hl
   have hL : L ∈ X.fs := hs L (by unfold frs; rw [List.filterMap_cons, hf]; exact List.mem_cons_self)
   obtain ⟨sl, e⟩ := I.base.slot L o ho (I.ok.frf L hL) hL fun z => I.ok.exfs L z hL
   exact ⟨hk, ⟨L, _, hf, hn, e, hd⟩, ih (fun b hb => hs b (by unfold frs; rw [List.filterMap_cons, hf]; exact List.mem_cons_of_mem _ hb)) hr⟩
 exact all X.outer (fun _ hb => hb) I.ok.funs
theorem Inv.stack (I : Inv X pins σ H s) : s.heap.FunFrames X.base X.stack := by
 rcases I.ok.stk with e | ⟨e, hf⟩
 ·rw [e]; exact I.funs
 ·rw [e]
  obtain ⟨m, hn, _⟩ := I.loc
  refine .cons (by rw [I.ok.kind]; decide) hf hn ?_ I.funs
  exact Heap.get?_none_of_le (Nat.le_trans I.ok.bsz I.ok.above)
theorem Inv.stkSub (I : Inv X pins σ H s) : ∀ b ∈ frs X.stack, b ∈ X.env.locals :: X.fs := fun b hb => by
 rcases I.ok.stk with e | ⟨e, hf⟩
 ·rw [e] at hb; exact List.mem_cons_of_mem _ hb
 ·rw [e] at hb
  unfold frs at hb
  rw [List.filterMap_cons, hf] at hb
  exact hb
theorem Inv.stkFree (I : Inv X pins σ H s) : ∀ b ∈ frs X.stack, H b = none := fun b hb => by
 rcases List.mem_cons.mp (I.stkSub b hb) with e | hb
 ·rw [e]; exact I.free
 ·obtain ⟨_, o, ho, _⟩ := I.ok.funs.mem hb
  exact I.base.free b o ho (I.ok.frf b hb) fun z => I.ok.exfs b z hb
theorem Inv.step {g' : Array GenState} {t' : Nat} {d' : Drawn} {ch : List Addr} (I : Inv X pins σ H s)
  (hch : ∀ b ∈ ch, (b ∈ X.ex ∨ X.s₀.heap.objs.size ≤ b) ∧ b ≠ X.env.locals ∧ (∀ x c, X.env.cells.lookup x = some c → c ≠ b) ∧ ∀ p ∈ X.pn ++ pins, p.1 ≠ b)
  (keep : ∀ b o, b ≠ X.env.locals → b ∉ X.fs → b ∉ ch → s.heap.get? b = some o → H b = none → h'.get? b = some o)
  (slot : ∀ b o, b ≠ X.env.locals → b ∈ X.fs → b ∉ ch → s.heap.get? b = some o → H b = none → ∃ sl, h'.get? b = some { o with slots := sl }) (free : ∀ b o, b ∉ ch → s.heap.get? b = some o → H b = none → H' b = none)
  (there : ∀ b o, b ∉ ch → s.heap.get? b = some o → ∃ o', h'.get? b = some o')
  (tups : ∀ b xs, H b = some (.tup xs) → H' b = some (.tup xs)) (frzs : ∀ b o u, H b = some (.frz o u) → H' b = some (.frz o u)) (tbls : ∀ b q, H b = some (.tbl q) → H' b = some (.tbl q))
  (ns : ∀ m, s.heap.Ns X.env.locals m → h'.Ns X.env.locals m) (hok : HOk X.prog X.w H' h') (hg : AllBare g') :
  Inv X pins σ H' { s with heap := h', gens := g', drawn := d', toks := t' } := by
 have neL : ∀ b o, X.s₀.heap.get? b = some o → b ≠ X.env.locals := fun b o e => Nat.ne_of_lt (Nat.lt_of_lt_of_le (Heap.lt_size e) I.ok.above)
 have neC : ∀ b o, X.s₀.heap.get? b = some o → b ∉ X.ex → b ∉ ch := fun b o e hx hb => by
  rcases (hch b hb).1 with z | z
  ·exact hx z
  ·exact absurd (Nat.lt_of_lt_of_le (Heap.lt_size e) z) (Nat.lt_irrefl _)
 have cellK : ∀ x c, X.env.cells.lookup x = some c → ∀ v, s.heap.IsCell c v → h'.IsCell c v := fun x c e v ⟨o, ho, hd⟩ => by
  have nch : c ∉ ch := fun z => (hch c z).2.2.1 x c e rfl
  rcases I.freeC x c e with fr | ⟨_, ob, fr⟩
  ·by_cases hc : c ∈ X.fs
   ·obtain ⟨sl, q⟩ := slot c o (I.cne x c e) hc nch ho fr
    exact ⟨_, q, hd⟩
   ·exact ⟨o, keep c o (I.cne x c e) hc nch ho fr, hd⟩
  ·obtain ⟨q1, _⟩ := I.hok c _ fr
   obtain ⟨q2, _⟩ := hok c _ (frzs c ob _ fr)
   rw [ho] at q1; cases q1
   exact ⟨o, q2, hd⟩
 refine ⟨I.ok, I.os, hg, ⟨fun b o e n hb hx => ?_, fun b o e n hb hx => ?_, fun b o e n hx => ?_, fun b o e hx => ?_, fun b xs e => tups b xs (I.base.tups b xs e), fun b o xs e => frzs b o xs (I.base.frzs b o xs e), fun b q e => tbls b q (I.base.tbls b q e)⟩, ?_, fun x c e => ?_, ?_, fun x c e => ?_, fun p hp => ?_, hok, I.len⟩
 ·exact keep b o (neL b o e) hb (neC b o e hx) (I.base.keep b o e n hb hx) (I.base.free b o e n hx)
 ·obtain ⟨sl, e1⟩ := I.base.slot b o e n hb hx
  obtain ⟨sl', e2⟩ := slot b _ (neL b o e) hb (neC b o e hx) e1 (I.base.free b o e n hx)
  exact ⟨sl', e2⟩
 ·obtain ⟨o', e1⟩ := I.base.there b o e hx
  exact free b o' (neC b o e hx) e1 (I.base.free b o e n hx)
 ·obtain ⟨o', e1⟩ := I.base.there b o e hx
  exact there b o' (neC b o e hx) e1
 ·obtain ⟨m, hn, hl⟩ := I.loc
  refine ⟨m, ns m hn, fun i x v e1 e2 e3 => ?_⟩
  obtain ⟨u, r, l⟩ := hl i x v e1 e2 e3
  refine ⟨u, r, ?_⟩
  rcases l with l | ⟨k, c, e, z⟩
  ·exact .inl l
  ·exact .inr ⟨k, c, e, cellK x c e _ z⟩
 ·obtain ⟨v, z⟩ := I.cell x c e
  exact ⟨v, cellK x c e v z⟩
 ·obtain ⟨m, ⟨o, _, _, ho, _⟩, _⟩ := I.loc
  exact free _ o (fun z => (hch _ z).2.1 rfl) ho I.free
 ·obtain ⟨v, o, ho, hd⟩ := I.cell x c e
  rcases I.freeC x c e with fr | ⟨hf, ob, fr⟩
  ·exact .inl (free c o (fun z => (hch c z).2.2.1 x c e rfl) ho fr)
  ·exact .inr ⟨hf, ob, frzs c ob _ fr⟩
 ·obtain ⟨e, n, ne, nf, d⟩ := I.pin p hp
  have nch : p.1 ∉ ch := fun z => (hch p.1 z).2.2.2 p hp rfl
  exact ⟨keep p.1 p.2 ne nf nch e n, free p.1 p.2 nch e n, ne, nf, d⟩
theorem Inv.un {t' : Nat} (I : Inv X pins σ H s) (u : Un X.fs [] H H' s.heap h') (hok : HOk X.prog X.w H' h') : Inv X pins σ H' { s with heap := h', toks := t' } := by
 obtain ⟨m, ⟨o, es, ep, ho, r⟩, _⟩ := id I.loc
 obtain ⟨sl, hL⟩ := u.any ho I.free (by simp)
 exact I.step (g' := s.gens) (d' := s.drawn) (ch := []) (fun _ z => nomatch z) (fun b o _ hb _ e n => u.keep b o e n hb (by simp)) (fun b o _ hb _ e n => u.slot b o e n hb (by simp)) (fun b o _ e n => u.free b o e n (by simp)) (fun b o _ e => u.there b o e (by simp)) u.tups u.frzs u.tbls (fun m' hm => by
  obtain ⟨o', es', ep', ho', r'⟩ := hm
  rw [ho] at ho'; cases ho'
  exact ⟨_, es', ep', hL, r'⟩) hok I.bare
theorem Inv.call {g' : Array GenState} {t' : Nat} {d' : Drawn} {ch : List Addr} (I : Inv X pins σ H s) (u : Un (frs X.stack) ch H H' s.heap h') (hok : HOk X.prog X.w H' h') (hg : AllBare g')
  (hch : ∀ b ∈ ch, (b ∈ X.ex ∨ X.s₀.heap.objs.size ≤ b) ∧ b ≠ X.env.locals ∧ (∀ x c, X.env.cells.lookup x = some c → c ≠ b) ∧ ∀ p ∈ X.pn ++ pins, p.1 ≠ b) :
  Inv X pins σ H' { s with heap := h', gens := g', drawn := d', toks := t' } := by
 obtain ⟨m, ⟨o, es, ep, ho, r⟩, _⟩ := id I.loc
 obtain ⟨sl, hL⟩ := u.any ho I.free fun z => (hch _ z).2.1 rfl
 exact I.step (ch := ch) hch (fun b o hL hb hc e n => u.keep b o e n (fun z => (List.mem_cons.mp (I.stkSub b z)).elim hL hb) hc) (fun b o _ _ hc e n => u.any e n hc) (fun b o hc e n => u.free b o e n hc) (fun b o hc e => u.there b o e hc) u.tups u.frzs u.tbls (fun m' hm => by
  obtain ⟨o', es', ep', ho', r'⟩ := hm
  rw [ho] at ho'; cases ho'
  exact ⟨_, es', ep', hL, r'⟩) hok hg
theorem Inv.turned {t' : Nat} {it : Addr} (I : Inv X pins σ H s) (k : ∀ b o, b ≠ it → s.heap.get? b = some o → h'.get? b = some o) (hn : H it = none) (hL : it ≠ X.env.locals)
  (h1 : it ∈ X.ex ∨ X.s₀.heap.objs.size ≤ it) (h2 : ∀ x c, X.env.cells.lookup x = some c → c ≠ it) (h3 : ∀ p ∈ X.pn ++ pins, p.1 ≠ it) : Inv X pins σ H { s with heap := h', toks := t' } := by
 have nit : ∀ b u, H b = some u → b ≠ it := fun b u e z => by rw [z, hn] at e; cases e
 refine I.step (g' := s.gens) (d' := s.drawn) (ch := [it]) (fun b hb => ?_) (fun b o _ _ hc e _ => k b o (fun z => hc (by simp [z])) e) (fun b o _ _ hc e _ => ⟨o.slots, k b o (fun z => hc (by simp [z])) e⟩) (fun _ _ _ _ n => n)
  (fun b o hc e => ⟨o, k b o (fun z => hc (by simp [z])) e⟩) (fun _ _ e => e) (fun _ _ _ e => e) (fun _ _ e => e) (fun m hm => ?_) (fun b u e => ?_) I.bare
 ·have e : b = it := by simpa using hb
  subst e
  exact ⟨h1, hL, h2, h3⟩
 ·obtain ⟨o, es, ep, ho, r⟩ := hm
  exact ⟨o, es, ep, k _ o (Ne.symm hL) ho, r⟩
 ·refine (I.hok b u e).stay (fun c v hc q => k c v ?_ q) (fun _ q => q) fun _ _ q => q
  rcases hc with z | z
  ·rw [z]; exact nit b u e
  ·exact nit c _ z
theorem Inv.tok (I : Inv X pins σ H s) (t : Nat) : Inv X pins σ H { s with toks := t } := I.un (h' := s.heap) (t' := t) Un.refl I.hok
theorem Inv.kept {t' : Nat} (I : Inv X pins σ H s) (k : ∀ b u, s.heap.get? b = some u → h'.get? b = some u) : Inv X pins σ H { s with heap := h', toks := t' } := I.un (Un.kept k) (I.hok.kept k)
theorem Inv.laid {a : Addr} {o : HO} {t' : Nat} (I : Inv X pins σ H s) (k : ∀ b u, s.heap.get? b = some u → h'.get? b = some u) (hp : s.heap.objs.size ≤ a) (new : ObjOk X.prog X.w (upd H a o) h' a o) :
  Inv X pins σ (upd H a o) { s with heap := h', toks := t' } := I.un (Un.laid k hp (I.hok.fresh hp)) (I.hok.laid k hp new)
theorem Inv.write {x e : Addr} {o : HO} {t' : Nat} (I : Inv X pins σ H s) (mu : Mut (H x)) (he : e = x ∨ H e = some (.own x)) (k : ∀ b u, b ≠ e → s.heap.get? b = some u → h'.get? b = some u) (heo : ∃ u, h'.get? e = some u)
  (new : ObjOk X.prog X.w (upd H x o) h' x o) : Inv X pins σ (upd H x o) { s with heap := h', toks := t' } := I.un (Un.write mu he k heo) (I.hok.write mu he k heo new)
theorem Inv.pins_of {pins' : List (Addr × Obj)} (I : Inv X pins σ H s) (h : ∀ p ∈ pins', s.heap.get? p.1 = some p.2 ∧ H p.1 = none ∧ p.1 ≠ X.env.locals ∧ p.1 ∉ X.fs ∧ ∀ v, p.2.data ≠ .cell v) : Inv X pins' σ H s :=
 ⟨I.ok, I.os, I.bare, I.base, I.loc, I.cell, I.free, I.freeC, fun p hp => (List.mem_append.mp hp).elim (fun z => I.pin p (List.mem_append_left _ z)) (h p), I.hok, I.len⟩
theorem nodup_ix {N : List Str} (hN : N.Nodup) {i j : Nat} {x : Str} (a : N[i]? = some x) (b : N[j]? = some x) : i = j := by
 obtain ⟨h1, e1⟩ := List.getElem?_eq_some_iff.mp a
 obtain ⟨h2, e2⟩ := List.getElem?_eq_some_iff.mp b
 exact (List.getElem_inj hN).mp (e1.trans e2.symm)
theorem store_ok2 {M : Model} {A : Around} {E : Value → Shared → Prop} {i : Nat} {x : Str} {v : V} {u : Value} {Q : Unit → Shared → Prop} (I : Inv X pins σ H s) (hN : X.N.Nodup) (hi : X.N[i]? = some x) (hx : Loc X.env.scope x) (r : RelV v u)
  (h : ∀ s', Inv X pins (σ.set i (some v)) H s' → (∃ a, Heap.SameBut a s.heap s'.heap ∧ (a = X.env.locals ∨ X.env.cells.lookup x = some a)) → Q () s') (hf : X.fn x = true ∨ X.env.scope.names.lookup x = some .local := by first | exact .inl rfl | exact .inr rfl | assumption) : wpAny M A (storeName X.env x u) Q E s := by
 obtain ⟨m, hn, hl⟩ := id I.loc
 have hcls : (X.env.scope.kind == .class || (X.env.scope.kind == .module && X.env.locals != X.env.globals)) = false := by rw [I.ok.kind]; rfl
 have hiσ : i < σ.length := by rw [I.len]; exact (List.getElem?_eq_some_iff.mp hi).1
 have cne := I.cne
 have tracked : ∀ {a : Addr} {h' : Heap}, (∃ o, s.heap.get? a = some o ∧ H a = none) → Heap.SameBut a s.heap h' → HOk X.prog X.w H h' := fun {a h'} ha hs b ob e => by
  obtain ⟨_, _, hfree⟩ := ha
  refine (I.hok b ob e).stay (fun c w' hc q => (hs.2 c ?_).trans q) (fun _ q => q) fun _ _ q => q
  rintro rfl
  rcases hc with rfl | hc
  ·rw [hfree] at e; cases e
  ·rw [hfree] at hc; cases hc
 rcases hx with hk | hk
 ·refine wpAny_storeName_local hk hn (fun h' hn' hs => ?_) hcls
  obtain ⟨oL, _, _, hoL, _⟩ := id hn
  refine h _ ⟨I.ok, I.os, I.bare, ⟨fun b o e n hb hx => ?_, fun b o e n hb hx => ?_, I.base.free, fun b o e hx => ?_, I.base.tups, I.base.frzs, I.base.tbls⟩, ⟨_, hn', fun j y v' e1 e2 e3 => ?_⟩, fun y c e => ?_, I.free, I.freeC, fun p hp => ?_, tracked ⟨oL, hoL, I.free⟩ hs, by simpa using I.len⟩ ⟨_, hs, .inl rfl⟩
  ·exact (hs.2 b (Nat.ne_of_lt (Nat.lt_of_lt_of_le (Heap.lt_size e) I.ok.above))).trans (I.base.keep b o e n hb hx)
  ·obtain ⟨sl, e1⟩ := I.base.slot b o e n hb hx
   exact ⟨sl, (hs.2 b (Nat.ne_of_lt (Nat.lt_of_lt_of_le (Heap.lt_size e) I.ok.above))).trans e1⟩
  ·obtain ⟨o', e1⟩ := I.base.there b o e hx
   exact ⟨o', (hs.2 b (Nat.ne_of_lt (Nat.lt_of_lt_of_le (Heap.lt_size e) I.ok.above))).trans e1⟩
  ·by_cases hj : j = i
   ·subst hj
    rw [hi] at e1; cases e1
    rw [List.getElem?_set_self hiσ] at e2
    cases e2
    exact ⟨u, r, .inl ⟨hk, by simp⟩⟩
   ·rw [List.getElem?_set_ne (Ne.symm hj)] at e2
    obtain ⟨u', r', q⟩ := hl j y v' e1 e2 e3
    refine ⟨u', r', ?_⟩
    rcases q with ⟨k, e⟩ | ⟨k, c, e, z⟩
    ·refine .inl ⟨k, ?_⟩
     have : y ≠ x := fun e => hj (nodup_ix hN e1 (e ▸ hi))
     simp [this, e]
    ·exact .inr ⟨k, c, e, z.sameBut hs (cne y c e)⟩
  ·obtain ⟨w', z⟩ := I.cell y c e
   exact ⟨w', z.sameBut hs (cne y c e)⟩
  ·obtain ⟨e, n, ne, nf, d⟩ := I.pin p hp
   exact ⟨(hs.2 p.1 ne).trans e, n, ne, nf, d⟩
 ·have hfn : X.fn x = true := by
   rcases hf with z | z
   ·exact z
   ·rw [z] at hk; cases hk
  obtain ⟨c, hc⟩ := I.ok.has x (.inl hk)
  obtain ⟨w', z⟩ := I.cell x c hc
  refine wpAny_storeName_cell I.ok.kind hk hc z (fun h' hc' hs => ?_)
  obtain ⟨oc, hoc, hocd⟩ := id z
  have hfr : H c = none := (I.freeC x c hc).elim (fun z => z) fun z => by rw [hfn] at z; exact absurd z.1 (by decide)
  refine h { s with heap := h' } ⟨I.ok, I.os, I.bare, ⟨fun b o e n hb hx => ?_, fun b o e n hb hx => ?_, I.base.free, fun b o e hx => ?_, I.base.tups, I.base.frzs, I.base.tbls⟩, ⟨m, hn.sameBut hs (Ne.symm (cne x c hc)), fun j y v' e1 e2 e3 => ?_⟩, fun y c' e => ?_, I.free, I.freeC, fun p hp => ?_, tracked ⟨oc, hoc, hfr⟩ hs, by simpa using I.len⟩ ⟨c, hs, .inr hc⟩
  ·exact (hs.2 b (Nat.ne_of_lt (Nat.lt_of_lt_of_le (Heap.lt_size e) (I.ok.cab x c hfn hc)))).trans (I.base.keep b o e n hb hx)
  ·obtain ⟨sl, e1⟩ := I.base.slot b o e n hb hx
   exact ⟨sl, (hs.2 b (Nat.ne_of_lt (Nat.lt_of_lt_of_le (Heap.lt_size e) (I.ok.cab x c hfn hc)))).trans e1⟩
  ·obtain ⟨o', e1⟩ := I.base.there b o e hx
   exact ⟨o', (hs.2 b (Nat.ne_of_lt (Nat.lt_of_lt_of_le (Heap.lt_size e) (I.ok.cab x c hfn hc)))).trans e1⟩
  ·by_cases hj : j = i
   ·subst hj
    rw [hi] at e1; cases e1
    rw [List.getElem?_set_self hiσ] at e2
    cases e2
    exact ⟨u, r, .inr ⟨.inl hk, c, hc, hc'⟩⟩
   ·rw [List.getElem?_set_ne (Ne.symm hj)] at e2
    obtain ⟨u', r', q⟩ := hl j y v' e1 e2 e3
    refine ⟨u', r', ?_⟩
    rcases q with q | ⟨k, c', e, z'⟩
    ·exact .inl q
    ·refine .inr ⟨k, c', e, z'.sameBut hs ?_⟩
     rintro rfl
     exact hj (nodup_ix hN e1 (I.ok.inj _ _ _ e hc ▸ hi))
  ·by_cases hcc : c' = c
   ·subst hcc; exact ⟨_, hc'⟩
   ·obtain ⟨w2, z2⟩ := I.cell y c' e
    exact ⟨w2, z2.sameBut hs hcc⟩
  ·obtain ⟨e, n, ne, nf, d⟩ := I.pin p hp
   refine ⟨(hs.2 p.1 ?_).trans e, n, ne, nf, d⟩
   intro q
   rw [q, hoc] at e
   have q' : oc = p.2 := Option.some.inj e
   exact d w' (by rw [← q']; exact hocd)
theorem store_ok {M : Model} {A : Around} {E : Value → Shared → Prop} {i : Nat} {x : Str} {v : V} {u : Value} {Q : Unit → Shared → Prop} (I : Inv X pins σ H s) (hN : X.N.Nodup) (hi : X.N[i]? = some x) (hx : Loc X.env.scope x) (r : RelV v u)
  (h : ∀ s', Inv X pins (σ.set i (some v)) H s' → Q () s') (hf : X.fn x = true ∨ X.env.scope.names.lookup x = some .local := by first | exact .inl rfl | exact .inr rfl | assumption) : wpAny M A (storeName X.env x u) Q E s :=
 store_ok2 I hN hi hx r (fun s' I' _ => h s' I') hf
theorem Inv.call' {s' : Shared} {ch : List Addr} (I : Inv X pins σ H s) (ho : s'.os = s.os) (u : Un (frs X.stack) ch H H' s.heap s'.heap) (hok : HOk X.prog X.w H' s'.heap) (hg : AllBare s'.gens)
  (hch : ∀ b ∈ ch, (b ∈ X.ex ∨ X.s₀.heap.objs.size ≤ b) ∧ b ≠ X.env.locals ∧ (∀ x c, X.env.cells.lookup x = some c → c ≠ b) ∧ ∀ p ∈ X.pn ++ pins, p.1 ≠ b) : Inv X pins σ H' s' := by
 obtain ⟨h', g', d', t', o'⟩ := s'
 have e : o' = s.os := ho
 subst e
 exact I.call (g' := g') (t' := t') (d' := d') u hok hg hch
end
noncomputable abbrev XK := Value → Option Addr → Hp → Prop
noncomputable abbrev St := List (Option V)
noncomputable abbrev VK := V → Hp → Prop
noncomputable abbrev TE := St → Hp → VK → Prop
noncomputable abbrev TT := St → Hp → (Bool → Hp → Prop) → Prop
noncomputable abbrev TA := St → Hp → (List V → Hp → Prop) → Prop
structure Ends where
 nx : St → Hp → Prop
 rt : VK
 bk : St → Hp → Prop := fun _ _ => False
 ct : St → Hp → Prop := fun _ _ => False
noncomputable abbrev TS := Ends → St → Hp → Prop
noncomputable def EP (X : Cx) (pins : List (Addr × Obj)) (σ : St) (Q : VK) (u : Value) (s' : Shared) : Prop := ∃ v H', Inv X pins σ H' s' ∧ RelV v u ∧ Q v H'
noncomputable def TP (X : Cx) (pins : List (Addr × Obj)) (σ : St) (Q : Bool → Hp → Prop) (b : Bool) (s' : Shared) : Prop := ∃ H', Inv X pins σ H' s' ∧ Q b H'
noncomputable def AP (X : Cx) (pins : List (Addr × Obj)) (σ : St) (Q : List V → Hp → Prop) (us : List Value) (s' : Shared) : Prop := ∃ vs H', Inv X pins σ H' s' ∧ Vals vs us ∧ Q vs H'
noncomputable def SP (X : Cx) (pins : List (Addr × Obj)) (D : Ends) (f : Flow) (s' : Shared) : Prop :=
 match f with
 | .next => ∃ σ' H', Inv X pins σ' H' s' ∧ D.nx σ' H'
 | .brk => ∃ σ' H', Inv X pins σ' H' s' ∧ D.bk σ' H'
 | .cont => ∃ σ' H', Inv X pins σ' H' s' ∧ D.ct σ' H'
 | .ret u => ∃ v σ' H', Inv X pins σ' H' s' ∧ RelV v u ∧ D.rt v H'
noncomputable def PE (X : Cx) (e : Expr) (t : TE) : Prop :=
 ∀ (pins : List (Addr × Obj)) (s : Shared) (σ : St) (H : Hp) (Q : VK), Inv X pins σ H s → t σ H Q → wpAny (model X.prog X.w) X.A (eval e X.env) (EP X pins σ Q) X.xe s
noncomputable def PT (X : Cx) (e : Expr) (t : TT) : Prop :=
 ∀ (pins : List (Addr × Obj)) (s : Shared) (σ : St) (H : Hp) (Q : Bool → Hp → Prop), Inv X pins σ H s → t σ H Q → wpAny (model X.prog X.w) X.A (isTrue e X.env (eval e X.env)) (TP X pins σ Q) X.xe s
noncomputable def PW (X : Cx) (e : Expr) (t : TT) : Prop :=
 ∀ (whole : Sem Value) (pins : List (Addr × Obj)) (s : Shared) (σ : St) (H : Hp) (Q : Bool → Hp → Prop), Inv X pins σ H s → t σ H Q → wpAny (model X.prog X.w) X.A (isTrue e X.env whole) (TP X pins σ Q) X.xe s
theorem PW.pt {X : Cx} {e : Expr} {t : TT} (h : PW X e t) : PT X e t := h _
noncomputable def PA (X : Cx) (es : List Expr) (t : TA) : Prop :=
 ∀ (pos : Pos) (pins : List (Addr × Obj)) (s : Shared) (σ : St) (H : Hp) (Q : List V → Hp → Prop), Inv X pins σ H s → t σ H Q → wpAny (model X.prog X.w) X.A (spliced (backTo pos (starEach es X.env))) (AP X pins σ Q) X.xe s
noncomputable def PS (X : Cx) (st : Stmt) (t : TS) : Prop :=
 ∀ (pins : List (Addr × Obj)) (s : Shared) (σ : St) (H : Hp) (D : Ends), Inv X pins σ H s → t D σ H → wpAny (model X.prog X.w) X.A (exec st X.env) (SP X pins D) X.xe s
noncomputable def PSs (X : Cx) (st : List Stmt) (t : TS) : Prop :=
 ∀ (pins : List (Addr × Obj)) (s : Shared) (σ : St) (H : Hp) (D : Ends), Inv X pins σ H s → t D σ H → wpAny (model X.prog X.w) X.A (execs st X.env) (SP X pins D) X.xe s
theorem thn {α : Type} {t : Sem α} {Q Q' : α → Shared → Prop} {M : Model} {A : Around} {E : Value → Shared → Prop} {s : Shared} (h : wpAny M A t Q E s) (hQ : ∀ a s, Q a s → Q' a s) : wpAny M A t Q' E s := wpAny_mono h hQ fun _ _ x => x
end L2
namespace L2
open PySem PySem.Spec PyProof.Rows
section
variable {X : Cx}
noncomputable def tVar (i : Nat) : TE := fun σ H Q => ∃ v, σ[i]? = some (some v) ∧ Q v H
noncomputable def tC (v : V) : TE := fun _ H Q => Q v H
theorem pe_var {i : Nat} {x : Str} {pos : Pos} (hN : X.N[i]? = some x) (hv : Vis X.env.scope x) (hd : (x == ("__debug__" : Str)) = false := by decide) (hcd : (x == ("__classdict__" : Str)) = false := by decide) : PE X (.Name x pos) (tVar i) := by
 intro pins s σ H Q I h
 obtain ⟨v, e, h⟩ := h
 obtain ⟨m, hn, hl⟩ := I.loc
 obtain ⟨u, r, l⟩ := hl i x v hN e hv
 have fin : EP X pins σ Q u s := ⟨v, H, I, r, h⟩
 rcases l with ⟨hk, hm⟩ | ⟨hk, c, hc, hcell⟩
 ·exact wpAny_Name (wpAny_loadName_local I.ok.kind hk hn hm fin) hd
 ·rcases hk with hk | hk
  ·exact wpAny_Name (wpAny_loadName_cell I.ok.kind hk hc hcell fin) hd
  ·exact wpAny_Name (wpAny_loadName_free I.ok.kind hk hc hcell fin hcd) hd
theorem pe_int {i j pos} : PE X (.Constant (.int i) j pos) (tC (.int i)) := fun _ _ _ H _ I h => wpAny_Constant_int ⟨.int i, H, I.tok _, ⟨_, rfl⟩, h⟩
theorem pe_bl {b j pos} : PE X (.Constant (.bool b) j pos) (tC (.bl b)) := fun _ _ _ H _ I h => Constant_bool ⟨.bl b, H, I, rfl, h⟩
theorem pe_non {j pos} : PE X (.Constant .none j pos) (tC .non) := fun _ _ _ H _ I h => Constant_none ⟨.non, H, I, rfl, h⟩
theorem pe_str {x j pos} : PE X (.Constant (.str x) j pos) (tC (.str x)) := fun _ _ _ H _ I h => Calls.Constant_str ⟨.str x, H, I.tok _, ⟨_, rfl⟩, h⟩
noncomputable def Gl (X : Cx) (x : Str) : Prop := X.env.kindOf x = some .globalImplicit
theorem ld_glob {E : Value → Shared → Prop} {pins : List (Addr × Obj)} {s : Shared} {σ : St} {H : Hp} {x : Str} {u : Value} {pos : Pos} {Q : Value → Shared → Prop} (I : Inv X pins σ H s) (hg : Gl X x) (hm : X.mg x = some u) (h : Q u s)
  (hd : (x == ("__debug__" : Str)) = false := by decide) : wpAny (model X.prog X.w) X.A (eval (.Name x pos) X.env) Q E s :=
 Calls.Name_function_global I.ok.kind hg (Calls.loadGlobal_global (by rw [I.ok.glob]; exact I.mod.glob.keeps I.bk) hm h) hd
theorem ld_blt {E : Value → Shared → Prop} {pins : List (Addr × Obj)} {s : Shared} {σ : St} {H : Hp} {x : Str} {u : Value} {pos : Pos} {Q : Value → Shared → Prop} (I : Inv X pins σ H s) (hg : Gl X x) (hm : X.mg x = none) (hv : bootBuiltins x = some u) (h : Q u s)
  (hn : x ≠ "__name__" := by decide) (hd : (x == ("__debug__" : Str)) = false := by decide) : wpAny (model X.prog X.w) X.A (eval (.Name x pos) X.env) Q E s := by
 obtain ⟨mb, h1, h2⟩ := I.mod.blt
 exact Calls.Name_function_global I.ok.kind hg (Calls.loadGlobal_builtin (by rw [I.ok.glob]; exact I.mod.glob.keeps I.bk) hm (by rw [I.ok.blt]; exact h1.keeps I.bk) ((h2 x hn).trans hv) h) hd
theorem pe_glob {x : Str} {v : V} {u : Value} {pos : Pos} (hg : Gl X x) (hm : X.mg x = some u) (r : RelV v u) (hd : (x == ("__debug__" : Str)) = false := by decide) : PE X (.Name x pos) (tC v) :=
 fun _ _ _ H _ I h => ld_glob I hg hm ⟨v, H, I, r, h⟩ hd
theorem pe_bltn {x : Str} {v : V} {u : Value} {pos : Pos} (hg : Gl X x) (hm : X.mg x = none) (hv : bootBuiltins x = some u) (r : RelV v u) (hn : x ≠ "__name__" := by decide) (hd : (x == ("__debug__" : Str)) = false := by decide) : PE X (.Name x pos) (tC v) :=
 fun _ _ _ H _ I h => ld_blt I hg hm hv ⟨v, H, I, r, h⟩ hn hd
noncomputable def t2I (ta tb : TE) (k : Int → Int → Hp → Prop) : St → Hp → Prop := fun σ H => ta σ H fun x H1 => tb σ H1 fun y H2 => ∃ i j, x = .int i ∧ y = .int j ∧ k i j H2
variable {a b : Expr} {ta tb : TE} {pos : Pos}
noncomputable def tCmp (p : Int → Int → Bool) (ta tb : TE) : TE := fun σ H Q => t2I ta tb (fun i j H2 => Q (.bl (p i j)) H2) σ H
noncomputable abbrev tLt : TE → TE → TE := tCmp fun i j => decide (i < j)
noncomputable abbrev tLe : TE → TE → TE := tCmp fun i j => decide (i ≤ j)
noncomputable abbrev tGt : TE → TE → TE := tCmp fun i j => decide (j < i)
noncomputable abbrev tGe : TE → TE → TE := tCmp fun i j => decide (j ≤ i)
noncomputable abbrev tEqI : TE → TE → TE := tCmp fun i j => decide (i = j)
noncomputable abbrev tNeI : TE → TE → TE := tCmp fun i j => !decide (i = j)
variable {tA tB' : TT} {rest : List Expr}
noncomputable def tAnd (t u : TT) : TT := fun σ H Q => t σ H fun c H1 => if c = true then u σ H1 Q else Q false H1
noncomputable def tOr (t u : TT) : TT := fun σ H Q => t σ H fun c H1 => if c = true then Q true H1 else u σ H1 Q
noncomputable def tNot (t : TT) : TT := fun σ H Q => t σ H fun c H1 => Q (!c) H1
theorem pw_and1 (ha : PT X a tA) : PW X (.BoolOp .And [a] pos) tA := by
 intro wh pins s σ H Q I h
 refine isTrue_and (thn (ha pins s σ H Q I h) fun c s1 e => ?_)
 cases c with
 | true => exact isTrue_and_nil e
 | false => exact e
theorem pw_or1 (ha : PT X a tA) : PW X (.BoolOp .Or [a] pos) tA := by
 intro wh pins s σ H Q I h
 refine isTrue_or (thn (ha pins s σ H Q I h) fun c s1 e => ?_)
 cases c with
 | false => exact isTrue_or_nil e
 | true => exact e
theorem pw_and (ha : PT X a tA) (hb : PW X (.BoolOp .And (b :: rest) pos) tB') : PW X (.BoolOp .And (a :: b :: rest) pos) (tAnd tA tB') := by
 intro wh pins s σ H Q I h
 refine isTrue_and (thn (ha pins s σ H _ I h) fun c s1 ⟨H1, I1, q1⟩ => ?_)
 cases c with
 | true => exact hb wh pins s1 σ H1 Q I1 q1
 | false => exact ⟨H1, I1, q1⟩
theorem pw_or (ha : PT X a tA) (hb : PW X (.BoolOp .Or (b :: rest) pos) tB') : PW X (.BoolOp .Or (a :: b :: rest) pos) (tOr tA tB') := by
 intro wh pins s σ H Q I h
 refine isTrue_or (thn (ha pins s σ H _ I h) fun c s1 ⟨H1, I1, q1⟩ => ?_)
 cases c with
 | true => exact ⟨H1, I1, q1⟩
 | false => exact hb wh pins s1 σ H1 Q I1 q1
theorem pt_not (ha : PT X a tA) : PT X (.UnaryOp .Not a pos) (tNot tA) := by
 intro pins s σ H Q I h
 exact isTrue_not (ha pins s σ H (fun c H1 => Q (!c) H1) I h)
noncomputable def tAndV (ta tb : TE) : TE := fun σ H Q => ta σ H fun x H1 => ∃ c, x = .bl c ∧ if c = true then tb σ H1 Q else Q (.bl false) H1
noncomputable def tOrV (ta tb : TE) : TE := fun σ H Q => ta σ H fun x H1 => ∃ c, x = .bl c ∧ if c = true then Q (.bl true) H1 else tb σ H1 Q
noncomputable def tNotV (ta : TE) : TE := fun σ H Q => ta σ H fun x H1 => ∃ c, x = .bl c ∧ Q (.bl (!c)) H1
theorem pe_one {op} {t : TE} (h : PE X a t) : PE X (.BoolOp op [a] pos) t := fun pins s σ H Q I hw => BoolOp_one (h pins s σ H Q I hw)
theorem pe_and (ha : PE X a ta) (hb : PE X (.BoolOp .And (b :: rest) pos) tb) : PE X (.BoolOp .And (a :: b :: rest) pos) (tAndV ta tb) := by
 intro pins s σ H Q I h
 refine BoolOp_and (thn (ha pins s σ H _ I h) fun v s1 ⟨x, H1, I1, r1, q1⟩ => ?_)
 obtain ⟨c, rfl, q1⟩ := q1
 cases r1
 refine wpAny_truthy_bool ?_
 cases c with
 | true => exact hb pins s1 σ H1 Q I1 q1
 | false => exact ⟨.bl false, H1, I1, rfl, q1⟩
theorem pe_or (ha : PE X a ta) (hb : PE X (.BoolOp .Or (b :: rest) pos) tb) : PE X (.BoolOp .Or (a :: b :: rest) pos) (tOrV ta tb) := by
 intro pins s σ H Q I h
 refine BoolOp_or (thn (ha pins s σ H _ I h) fun v s1 ⟨x, H1, I1, r1, q1⟩ => ?_)
 obtain ⟨c, rfl, q1⟩ := q1
 cases r1
 refine wpAny_truthy_bool ?_
 cases c with
 | false => exact hb pins s1 σ H1 Q I1 q1
 | true => exact ⟨.bl true, H1, I1, rfl, q1⟩
theorem pe_not (ha : PE X a ta) : PE X (.UnaryOp .Not a pos) (tNotV ta) := by
 intro pins s σ H Q I h
 refine UnaryOp_ (thn (ha pins s σ H _ I h) fun v s1 ⟨x, H1, I1, r1, q1⟩ => ?_)
 obtain ⟨c, rfl, q1⟩ := q1
 cases r1
 exact not_of (wpAny_truthy_bool ⟨.bl (!c), H1, I1, rfl, q1⟩)
noncomputable def tIf (t : TT) (ta tb : TE) : TE := fun σ H Q => t σ H fun c H1 => if c = true then ta σ H1 Q else tb σ H1 Q
theorem pe_ifExp {c : Expr} (hc : PT X c tA) (ha : PE X a ta) (hb : PE X b tb) : PE X (.IfExp c a b pos) (tIf tA ta tb) := by
 intro pins s σ H Q I h
 refine wpAny_IfExp (thn (hc pins s σ H _ I h) fun d s1 ⟨H1, I1, q1⟩ => ?_)
 cases d with
 | true => exact ha pins s1 σ H1 Q I1 q1
 | false => exact hb pins s1 σ H1 Q I1 q1
end
end L2
namespace L2
open PySem PySem.Spec PyProof.Rows
noncomputable def SqL (K : PySem.W.Frag) (H : Hp) (a : Addr) (xs : List V) : Prop :=
 Rd H a (.lst xs) ∨
  ∃ (o : Obj) (its : Array Value) (n : Nat), K.lookup a = some o ∧ o.cls = .type "list" ∧ o.dict = none ∧ o.data = .seq its n ∧ its.size ≤ sizeLine ∧ Vals xs its.toList
noncomputable def SqT (K : PySem.W.Frag) (H : Hp) (a : Addr) (xs : List V) : Prop :=
 Rd H a (.tup xs) ∨
  ∃ (o : Obj) (its : Array Value) (n : Nat), K.lookup a = some o ∧ o.cls = .type "tuple" ∧ o.data = .seq its n ∧ its.size ≤ sizeLine ∧ Vals xs its.toList
noncomputable def absV : Value → Option V
 | .none => some .non
 | .bool b => some (.bl b)
 | .int i _ => some (.int i)
 | .str x _ => some (.str x)
 | .bytes b _ => some (.byt b)
 | .float b _ => some (.flt b)
 | .ref a => some (.ref a)
 | .type n => some (.ty n)
 | _ => none
theorem RelV.abs {x : V} {u : Value} (r : RelV x u) : absV u = some x := by
 cases x with
 | non => cases r; rfl
 | bl _ => cases r; rfl
 | int _ => obtain ⟨t, rfl⟩ := r; rfl
 | str _ => obtain ⟨t, rfl⟩ := r; rfl
 | byt _ => obtain ⟨t, rfl⟩ := r; rfl
 | flt _ => obtain ⟨t, rfl⟩ := r; rfl
 | ref _ => cases r; rfl
 | ty _ => cases r; rfl
theorem RelV.inj {x y : V} {u : Value} (r : RelV x u) (q : RelV y u) : x = y := Option.some.inj (r.abs.symm.trans q.abs)
theorem Vals.inj : ∀ {xs ys : List V} {us : List Value}, Vals xs us → Vals ys us → xs = ys
 | _, _, _, .nil, .nil => rfl
 | _, _, _, .cons r t, .cons r' t' => by rw [r.inj r', Vals.inj t t']
section
variable {X : Cx} {pins : List (Addr × Obj)} {σ : St} {H : Hp} {s : Shared} {a : Addr} {xs ys : List V}
theorem SqL.of {K : PySem.W.Frag} (h : H a = some (.lst xs)) : SqL K H a xs := .inl (.inl h)
theorem SqT.of {K : PySem.W.Frag} (h : H a = some (.tup xs)) : SqT K H a xs := .inl (.inl h)
theorem Inv.list (I : Inv X pins σ H s) (h : SqL X.K H a xs) : ∃ its : List Value, Vals xs its ∧ PlainL s.heap a its.toArray ∧ xs.length ≤ sizeLine := by
 rcases h with h | ⟨o, its, n, hk, hc, hd, hs, hz, r⟩
 ·obtain ⟨z, its, n, r, e⟩ := h.ok I.hok
  exact ⟨its, r, ⟨_, n, e, rfl, rfl, rfl⟩, z⟩
 ·refine ⟨its.toList, r, ⟨o, n, I.kIn a o hk, hc, hd, by simpa using hs⟩, ?_⟩
  have e := r.length
  simp only [Array.length_toList] at e
  omega
theorem Inv.tuple (I : Inv X pins σ H s) (h : SqT X.K H a xs) : ∃ its : List Value, Vals xs its ∧ IsTup s.heap a its.toArray ∧ xs.length ≤ sizeLine := by
 rcases h with h | ⟨o, its, n, hk, hc, hs, hz, r⟩
 ·obtain ⟨z, its, r, p⟩ := h.ok I.hok
  exact ⟨its, r, p, z⟩
 ·refine ⟨its.toList, r, ⟨o, I.kIn a o hk, hc, n, by simpa using hs⟩, ?_⟩
  have e := r.length
  simp only [Array.length_toList] at e
  omega
theorem Inv.list_inj (I : Inv X pins σ H s) (h : SqL X.K H a xs) (h' : SqL X.K H a ys) : xs = ys := by
 obtain ⟨its, r, ⟨o, n, e, _, _, d⟩, _⟩ := I.list h
 obtain ⟨its', r', ⟨o', n', e', _, _, d'⟩, _⟩ := I.list h'
 rw [e] at e'; cases e'
 rw [d] at d'
 injection d' with d1 _
 have : its = its' := by simpa using congrArg Array.toList d1
 subst this
 exact r.inj r'
theorem Inv.tuple_inj (I : Inv X pins σ H s) (h : SqT X.K H a xs) (h' : SqT X.K H a ys) : xs = ys := by
 obtain ⟨its, r, ⟨o, e, _, n, d⟩, _⟩ := I.tuple h
 obtain ⟨its', r', ⟨o', e', _, n', d'⟩, _⟩ := I.tuple h'
 rw [e] at e'; cases e'
 rw [d] at d'
 injection d' with d1 _
 have : its = its' := by simpa using congrArg Array.toList d1
 subst this
 exact r.inj r'
end
noncomputable abbrev Cx.wish (X : Cx) (E : Value → Shared → Prop) : Cx := { X with xe := E }
noncomputable abbrev Cx.nox (X : Cx) : Cx := X.wish fun _ _ => False
theorem Cx.Ok.wish {X : Cx} (ok : X.Ok) (E : Value → Shared → Prop) : (X.wish E).Ok :=
 ⟨ok.mod, ok.kind, ok.glob, ok.blt, ok.above, ok.inj, ok.has, ok.cab, ok.hd, ok.frames, ok.stk, ok.exf, ok.bs, ok.bsz, ok.noex, ok.exfs, ok.funs, ok.frf⟩
theorem Cx.Ok.unwish {X : Cx} {E : Value → Shared → Prop} (ok : (X.wish E).Ok) : X.Ok :=
 ⟨ok.mod, ok.kind, ok.glob, ok.blt, ok.above, ok.inj, ok.has, ok.cab, ok.hd, ok.frames, ok.stk, ok.exf, ok.bs, ok.bsz, ok.noex, ok.exfs, ok.funs, ok.frf⟩
section
variable {X : Cx} {pins : List (Addr × Obj)} {σ : St} {H : Hp} {s : Shared} {E : Value → Shared → Prop}
theorem Inv.wish (I : Inv X pins σ H s) (E : Value → Shared → Prop) : Inv (X.wish E) pins σ H s := ⟨I.ok.wish E, I.os, I.bare, I.base, I.loc, I.cell, I.free, I.freeC, I.pin, I.hok, I.len⟩
theorem Inv.unwish (I : Inv (X.wish E) pins σ H s) : Inv X pins σ H s := ⟨I.ok.unwish, I.os, I.bare, I.base, I.loc, I.cell, I.free, I.freeC, I.pin, I.hok, I.len⟩
theorem SP.unwish {D : Ends} {f : Flow} {s' : Shared} (h : SP (X.wish E) pins D f s') : SP X pins D f s' := by
 cases f with
 | next => obtain ⟨σ', H', I, q⟩ := h; exact ⟨σ', H', I.unwish, q⟩
 | brk => obtain ⟨σ', H', I, q⟩ := h; exact ⟨σ', H', I.unwish, q⟩
 | cont => obtain ⟨σ', H', I, q⟩ := h; exact ⟨σ', H', I.unwish, q⟩
 | ret u => obtain ⟨v, σ', H', I, r, q⟩ := h; exact ⟨v, σ', H', I.unwish, r, q⟩
theorem PE.nox {e : Expr} {t : TE} (h : PE X.nox e t) : PE X e t := fun pins s σ H Q I hw =>
 wpAny_mono (h pins s σ H Q (I.wish _) hw) (fun _ _ ⟨v, H', I', r, q⟩ => ⟨v, H', I'.unwish, r, q⟩) fun _ _ z => False.elim z
theorem PT.nox {e : Expr} {t : TT} (h : PT X.nox e t) : PT X e t := fun pins s σ H Q I hw =>
 wpAny_mono (h pins s σ H Q (I.wish _) hw) (fun _ _ ⟨H', I', q⟩ => ⟨H', I'.unwish, q⟩) fun _ _ z => False.elim z
theorem PSs.nox {st : List Stmt} {t : TS} (h : PSs X.nox st t) : PSs X st t := fun pins s σ H D I hw =>
 wpAny_mono (h pins s σ H D (I.wish _) hw) (fun _ _ q => q.unwish) fun _ _ z => False.elim z
end
section
variable {X : Cx} {st : Stmt} {rest : List Stmt} {t u : TS} {e : Expr} {te : TE} {pos : Pos}
noncomputable def tNext : TS := fun D σ H => D.nx σ H
noncomputable def tSeq (t u : TS) : TS := fun D σ H => t { D with nx := u D } σ H
theorem pss_nil : PSs X [] tNext := fun _ _ σ H _ I h => wpAny_execs_nil ⟨σ, H, I, h⟩
theorem pss_cons (h1 : PS X st t) (h2 : PSs X rest u) : PSs X (st :: rest) (tSeq t u) := by
 intro pins s σ H D I h
 refine wpAny_execs_cons (thn (h1 pins s σ H { D with nx := u D } I h) fun f s1 q => ?_)
 cases f with
 | next =>
  obtain ⟨σ', H', I', q⟩ := q
  exact h2 pins s1 σ' H' D I' q
 | ret v => exact q
 | brk => exact q
 | cont => exact q
theorem pss_one (h1 : PS X st t) : PSs X [st] t := by
 intro pins s σ H D I h
 refine wpAny_execs_cons (thn (h1 pins s σ H D I h) fun f s1 q => ?_)
 cases f with
 | next => exact wpAny_execs_nil q
 | ret v => exact q
 | brk => exact q
 | cont => exact q
noncomputable def tBreak : TS := fun D σ H => D.bk σ H
noncomputable def tCont : TS := fun D σ H => D.ct σ H
theorem ps_pass : PS X (.Pass pos) tNext := fun _ _ σ H _ I h => wpAny_Pass ⟨σ, H, I, h⟩
theorem ps_break : PS X (.Break pos) tBreak := fun _ _ σ H _ I h => wpAny_Break ⟨σ, H, I, h⟩
theorem ps_continue : PS X (.Continue pos) tCont := fun _ _ σ H _ I h => wpAny_Continue ⟨σ, H, I, h⟩
theorem Inv.quiet {pins : List (Addr × Obj)} {σ : St} {H : Hp} {s : Shared} (I : Inv X pins σ H s) : interactive X.env = false := by simp [interactive, I.ok.kind]
theorem ps_doc {x j pos pos'} : PS X (.Expr (.Constant (.str x) j pos) pos') tNext := fun _ s σ H _ I h => wpAny_Expr (Calls.Constant_str (show SP X _ _ .next { s with toks := s.toks + 1 } from ⟨σ, H, I.tok _, h⟩)) I.quiet
noncomputable def tDrop (te : TE) : TS := fun D σ H => te σ H fun _ H1 => D.nx σ H1
theorem ps_expr (he : PE X e te) (hs : swapsWith e none pos.line X.env = pure false := by rfl) : PS X (.Expr e pos) (tDrop te) := by
 intro pins s σ H D I h
 exact wpAny_Expr_any (thn (he pins s σ H _ I h) fun v s1 ⟨x, H1, I1, r1, q1⟩ => ⟨σ, H1, I1, q1⟩) I.quiet hs
noncomputable def tRet (te : TE) : TS := fun D σ H => te σ H D.rt
theorem ps_ret (he : PE X e te) : PS X (.Return (some e) pos) (tRet te) := by
 intro pins s σ H D I h
 exact wpAny_Return_some (thn (he pins s σ H _ I h) fun v s1 ⟨x, H1, I1, r1, q1⟩ => ⟨x, σ, H1, I1, r1, q1⟩)
noncomputable def tRetN : TS := fun D _ H => D.rt .non H
theorem ps_retN : PS X (.Return none pos) tRetN := fun _ _ σ H _ I h => wpAny_Return_none ⟨.non, σ, H, I, rfl, h⟩
noncomputable def tIfS (c : TT) (t u : TS) : TS := fun D σ H => c σ H fun b H1 => if b = true then t D σ H1 else u D σ H1
theorem ps_if {c : Expr} {a b : List Stmt} {tc : TT} (hc : PT X c tc) (ha : PSs X a t) (hb : PSs X b u) : PS X (.If c a b pos) (tIfS tc t u) := by
 intro pins s σ H D I h
 refine wpAny_If (thn (hc pins s σ H _ I h) fun d s1 ⟨H1, I1, q1⟩ => ?_)
 cases d with
 | true => exact ha pins s1 σ H1 D I1 q1
 | false => exact hb pins s1 σ H1 D I1 q1
end
noncomputable abbrev TG := V → St → Hp → (St → Hp → Prop) → Prop
noncomputable abbrev TGs := List V → St → Hp → (St → Hp → Prop) → Prop
noncomputable def PG (X : Cx) (target : Expr) (t : TG) : Prop :=
 ∀ (pins : List (Addr × Obj)) (s : Shared) (σ : St) (H : Hp) (v : V) (u : Value) (Q : St → Hp → Prop), Inv X pins σ H s → RelV v u → t v σ H Q →
  wpAny (model X.prog X.w) X.A (assign target X.env u) (fun _ s' => ∃ σ' H', Inv X pins σ' H' s' ∧ Q σ' H') X.xe s
noncomputable def PGs (X : Cx) (ts : List Expr) (t : TGs) : Prop :=
 ∀ (pins : List (Addr × Obj)) (s : Shared) (σ : St) (H : Hp) (vs : List V) (us : List Value) (Q : St → Hp → Prop), Inv X pins σ H s → Vals vs us → t vs σ H Q →
  wpAny (model X.prog X.w) X.A (assignInOrder ((assignEach ts X.env).map (·.2)) us) (fun _ s' => ∃ σ' H', Inv X pins σ' H' s' ∧ Q σ' H') X.xe s
noncomputable abbrev TSet := V → V → V → Hp → (Hp → Prop) → Prop
noncomputable def PSet (X : Cx) (t : TSet) : Prop :=
 ∀ (pins : List (Addr × Obj)) (s : Shared) (σ : St) (H : Hp) (o i v : V) (ov iv u : Value) (Q : Hp → Prop), Inv X pins σ H s → RelV o ov → RelV i iv → RelV v u → t o i v H Q →
  wpAny (model X.prog X.w) X.A (setItem ov iv u) (fun _ s' => ∃ H', Inv X pins σ H' s' ∧ Q H') X.xe s
noncomputable abbrev TIp := V → V → Hp → VK → Prop
noncomputable def PIp (X : Cx) (op : Operator) (t : TIp) : Prop :=
 ∀ (pins : List (Addr × Obj)) (s : Shared) (σ : St) (H : Hp) (x y : V) (v u : Value) (Q : VK), Inv X pins σ H s → RelV x v → RelV y u → t x y H Q →
  wpAny (model X.prog X.w) X.A (inplaceOp op v u) (EP X pins σ Q) X.xe s
section
variable {X : Cx} {pos : Pos}
noncomputable def gName (i : Nat) : TG := fun v σ H Q => Q (σ.set i (some v)) H
theorem pg_name {i : Nat} {x : Str} (hN : X.N.Nodup) (hi : X.N[i]? = some x) (hx : Loc X.env.scope x) (hf : X.fn x = true ∨ X.env.scope.names.lookup x = some .local := by first | exact .inl rfl | exact .inr rfl | assumption) : PG X (.Name x pos) (gName i) := by
 intro pins s σ H v u Q I r h
 exact wpAny_assign_Name (store_ok I hN hi hx r (fun s' I' => ⟨_, H, I', h⟩) hf)
noncomputable def gNil : TGs := fun vs σ H Q => vs = [] ∧ Q σ H
noncomputable def gCons (t : TG) (u : TGs) : TGs := fun vs σ H Q => ∃ v r, vs = v :: r ∧ t v σ H fun σ' H' => u r σ' H' Q
theorem pgs_nil : PGs X [] gNil := by
 intro pins s σ H vs us Q I r h
 obtain ⟨e, h⟩ := h
 subst e
 cases r
 exact assignInOrder_nil ⟨σ, H, I, h⟩
theorem pgs_cons {e : Expr} {es : List Expr} {t : TG} {u : TGs} (h1 : PG X e t) (h2 : PGs X es u)
  (hs : (assignEach (e :: es) X.env).map (·.2) = assign e X.env :: (assignEach es X.env).map (·.2) := by rfl) : PGs X (e :: es) (gCons t u) := by
 intro pins s σ H vs us Q I r h
 obtain ⟨v, vr, e1, h⟩ := h
 subst e1
 cases r with
 | cons r rr =>
  rw [hs]
  refine assignInOrder_cons (thn (h1 pins s σ H _ _ _ I r h) fun _ s1 ⟨σ1, H1, I1, q1⟩ => ?_)
  exact h2 pins s1 σ1 H1 _ _ Q I1 rr q1
noncomputable def gTup (K : PySem.W.Frag) (n : Nat) (t : TGs) : TG := fun v σ H Q => ∃ a xs, v = .ref a ∧ SqT K H a xs ∧ xs.length = n ∧ t xs σ H Q
theorem pg_tup {es : List Expr} {k : Nat} {t : TGs} {n : Nat} (hc : X.calm = true) (h : PGs X es t)
  (hn : (assignEach es X.env).length = n := by rfl) (hst : (assignEach es X.env).findIdx? (·.1) = none := by rfl) : PG X (.Tuple es k pos) (gTup X.K n t) := by
 intro pins s σ H v u Q I r hw
 obtain ⟨a, xs, e1, hq, hl, hw⟩ := hw
 subst e1
 cases r
 obtain ⟨its, rv, ht, hz⟩ := I.tuple hq
 refine assign_Tuple_tuple (I.ok.hd hc) ht (by simp [hn, ← hl, rv.length]) hst fun h' hx => ?_
 have I1 : Inv X pins σ H { s with heap := h' } := I.kept (t' := s.toks) fun b o e => hx b o (Nat.ne_of_lt (Heap.lt_size e)) e
 exact h pins _ σ H xs _ Q I1 (by simpa using rv) hw
noncomputable def gSub (to ti : TE) (t : TSet) : TG := fun v σ H Q => to σ H fun o H1 => ti σ H1 fun i H2 => t o i v H2 fun H3 => Q σ H3
theorem pg_sub {o i : Expr} {to ti : TE} {t : TSet} (ho : PE X o to) (hi : PE X i ti) (hs : PSet X t)
  (ha : ∀ v, assign (.Subscript o i pos) X.env v = (do
   let ov ← holding [v] (eval o X.env)
   let iv ← holding [v, ov] (eval i X.env)
   standAt pos
   holding [v, ov, iv] (setItem ov iv v)
   release [v, ov, iv] []) := by intro _; rfl) : PG X (.Subscript o i pos) (gSub to ti t) := by
 intro pins s σ H v u Q I r h
 rw [ha]
 refine wpAny_bind (wpAny_holding (thn (ho pins s σ H _ I h) fun ov s1 ⟨x, H1, I1, r1, q1⟩ => ?_))
 refine wpAny_bind (wpAny_holding (thn (hi pins s1 σ H1 _ I1 q1) fun iv s2 ⟨y, H2, I2, r2, q2⟩ => ?_))
 refine wpAny_bind (wpAny_standAt (wpAny_bind (wpAny_holding (thn (hs pins s2 σ H2 x y v ov iv u _ I2 r1 r2 r q2) fun _ s3 ⟨H3, I3, q3⟩ => ?_))))
 exact wpAny_release ⟨σ, H3, I3, q3⟩
noncomputable def tAsg (te : TE) (g : TG) : TS := fun D σ H => te σ H fun x H1 => g x σ H1 D.nx
theorem ps_asg {tg e : Expr} {te : TE} {g : TG} (he : PE X e te) (hg : PG X tg g) (hs : swapsWithSole [tg] e pos.line X.env = pure false := by rfl) (hw : swappedStores [tg] e X.env = pure none := by rfl)
  (h1 : (assignEach [tg] X.env).map (·.2) = [assign tg X.env] := by rfl) : PS X (.Assign [tg] e pos) (tAsg te g) := by
 intro pins s σ H D I h
 refine wpAny_Assign_stores (thn (he pins s σ H _ I h) fun v s1 ⟨x, H1, I1, r1, q1⟩ => ?_) hs hw
 rw [h1]
 exact thn (hg pins s1 σ H1 x v _ I1 r1 q1) fun _ s2 q => q
theorem ps_set {i : Nat} {x : Str} {e : Expr} {te : TE} {pos' : Pos} (hN : X.N.Nodup) (hi : X.N[i]? = some x) (hx : Loc X.env.scope x) (he : PE X e te) (hs : swapsWith e (some (.Name x pos')) pos.line X.env = pure false := by rfl) (hf : X.fn x = true ∨ X.env.scope.names.lookup x = some .local := by first | exact .inl rfl | exact .inr rfl | assumption) :
  PS X (.Assign [.Name x pos'] e pos) (tAsg te (gName i)) := by
 intro pins s σ H D I h
 refine wpAny_Assign_Name (thn (he pins s σ H _ I h) fun v s1 ⟨y, H1, I1, r1, q1⟩ => ?_) hs
 exact store_ok I1 hN hi hx r1 (fun s2 I2 => ⟨_, H1, I2, q1⟩) hf
noncomputable def tAug (i : Nat) (te : TE) (ti : TIp) : TS := fun D σ H => ∃ x, σ[i]? = some (some x) ∧ te σ H fun y H1 => ti x y H1 fun z H2 => D.nx (σ.set i (some z)) H2
theorem ps_aug {i : Nat} {x : Str} {e : Expr} {te : TE} {op : Operator} {ti : TIp} {pos' : Pos} (hN : X.N.Nodup) (hi : X.N[i]? = some x) (hx : Loc X.env.scope x) (he : PE X e te) (ho : PIp X op ti) (hf : X.fn x = true ∨ X.env.scope.names.lookup x = some .local := by first | exact .inl rfl | exact .inr rfl | assumption) :
  PS X (.AugAssign (.Name x pos') op e pos) (tAug i te ti) := by
 intro pins s σ H D I h
 obtain ⟨v, e1, h⟩ := h
 obtain ⟨m, hn, hl⟩ := I.loc
 have vis : Vis X.env.scope x := by rcases hx with k | k; exact .inl k; exact .inr (.inl k)
 obtain ⟨u, r, l⟩ := hl i x v hi e1 vis
 refine wpAny_AugAssign_Name ?_
 have go : wpAny (model X.prog X.w) X.A (eval e X.env) (fun w s₂ => wpAny (model X.prog X.w) X.A (inplaceOp op u w) (fun r s₃ => wpAny (model X.prog X.w) X.A (storeName X.env x r) (fun _ => SP X pins D .next) X.xe s₃) X.xe s₂) X.xe s := by
  refine thn (he pins s σ H _ I h) fun w s1 ⟨y, H1, I1, r1, q1⟩ => ?_
  refine thn (ho pins s1 σ H1 v y u w _ I1 r r1 q1) fun z s2 ⟨zv, H2, I2, r2, q2⟩ => ?_
  exact store_ok I2 hN hi hx r2 (fun s3 I3 => ⟨_, H2, I3, q2⟩) hf
 rcases l with ⟨hk, hm⟩ | ⟨hk, c, hc, hcell⟩
 ·exact wpAny_loadName_local I.ok.kind hk hn hm go
 ·rcases hk with hk | hk
  ·exact wpAny_loadName_cell I.ok.kind hk hc hcell go
  ·rcases hx with k | k
   ·have : X.env.scope.names.lookup x = some .free := hk
    rw [k] at this; cases this
   ·have : X.env.scope.names.lookup x = some .free := hk
    rw [k] at this; cases this
noncomputable def ipI (f : Int → Int → Int) : TIp := fun x y H Q => ∃ i j, x = .int i ∧ y = .int j ∧ Q (.int (f i j)) H
theorem ip_add : PIp X .Add (ipI fun i j => i + j) := by
 intro pins s σ H x y v u Q I r1 r2 h
 obtain ⟨i, j, e1, e2, q⟩ := h
 subst e1; subst e2
 obtain ⟨t, rfl⟩ := r1
 obtain ⟨t', rfl⟩ := r2
 exact iadd_int ⟨.int _, H, I.tok _, ⟨_, rfl⟩, q⟩
theorem ip_sub : PIp X .Sub (ipI fun i j => i - j) := by
 intro pins s σ H x y v u Q I r1 r2 h
 obtain ⟨i, j, e1, e2, q⟩ := h
 subst e1; subst e2
 obtain ⟨t, rfl⟩ := r1
 obtain ⟨t', rfl⟩ := r2
 exact isub_int ⟨.int _, H, I.tok _, ⟨_, rfl⟩, q⟩
end
section
variable {X : Cx} {pos : Pos}
noncomputable def tWhile (c : TT) (tb : TS) : TS := fun D σ H => ∃ W : Nat → St → Hp → Prop, (∃ m, W m σ H) ∧ ∀ m σ H, W m σ H →
 c σ H fun b H1 => if b = true then ∃ N : St → Hp → Prop, (∀ σ' H', N σ' H' → ∃ m', m' < m ∧ W m' σ' H') ∧ tb { D with nx := N, ct := N, bk := D.nx } σ H1 else D.nx σ H1
theorem ps_while {c : Expr} {body : List Stmt} {tc : TT} {tb : TS} (hp : PassesOwn (model X.prog X.w) X.A X.env X.xe) (hc : PT X c tc) (hb : PSs X body tb) : PS X (.While c body [] pos) (tWhile tc tb) := by
 intro pins s σ H D I h
 obtain ⟨W, ⟨m0, w0⟩, turn⟩ := h
 refine wpAny_While (codeAny_whileLoop (fun n s' => ∃ σ' H', Inv X pins σ' H' s' ∧ W n σ' H') ?_ m0 ⟨σ, H, I, w0⟩)
 rintro n s1 ⟨σ1, H1, I1, w1⟩
 refine wpAny_passesOwn hp (thn (hc pins s1 σ1 H1 _ I1 (turn n σ1 H1 w1)) fun b s2 ⟨H2, I2, q2⟩ => ?_)
 cases b with
 | true =>
  obtain ⟨N, hN, q2⟩ := q2
  rw [if_pos rfl]
  refine wpAny_passesOwn hp (thn (hb pins s2 σ1 H2 _ I2 q2) fun f s3 q3 => ?_)
  cases f with
  | next =>
   obtain ⟨σ3, H3, I3, n3⟩ := q3
   obtain ⟨m', hm, w3⟩ := hN σ3 H3 n3
   exact ⟨m', hm, σ3, H3, I3, w3⟩
  | cont =>
   obtain ⟨σ3, H3, I3, n3⟩ := q3
   obtain ⟨m', hm, w3⟩ := hN σ3 H3 n3
   exact ⟨m', hm, σ3, H3, I3, w3⟩
  | brk => exact q3
  | ret v => exact q3
 | false =>
  rw [if_neg Bool.false_ne_true]
  exact wpAny_execs_nil ⟨σ1, H2, I2, q2⟩
end
structure It where
 go : Nat → Hp → Prop
 yld : Nat → Hp → V → Hp → Prop
 stop : Nat → Hp → Prop
noncomputable def FpOk (X : Cx) (pins : List (Addr × Obj)) (H : Hp) (b : Addr) : Prop :=
 H b = none ∧ b ≠ X.env.locals ∧ b ∉ X.fs ∧ (b ∈ X.ex ∨ X.s₀.heap.objs.size ≤ b) ∧ (∀ x c, X.env.cells.lookup x = some c → c ≠ b) ∧ ∀ p ∈ X.pn ++ pins, p.1 ≠ b
theorem Inv.fpOk {X : Cx} {pins : List (Addr × Obj)} {σ : St} {H H' : Hp} {s : Shared} {b : Addr} (I : Inv X pins σ H s) (hb : s.heap.objs.size ≤ b) (hn : H' b = none) : FpOk X pins H' b := by
 refine ⟨hn, Nat.ne_of_gt (Nat.lt_of_lt_of_le I.lt hb), I.nofs hb, .inr (Nat.le_trans I.sz hb), fun x c e z => ?_, fun p hp z => ?_⟩
 ·obtain ⟨v, q⟩ := I.cell x c e
  exact absurd (Nat.lt_of_lt_of_le q.lt (by rw [z]; exact hb)) (Nat.lt_irrefl _)
 ·exact absurd (Nat.lt_of_lt_of_le (Heap.lt_size (I.pin p hp).1) (by rw [z]; exact hb)) (Nat.lt_irrefl _)
structure Turn (P : Program) (w : World) (K : PySem.W.Frag) (tg : Expr) (J : It) (fp : List Addr) (it : Addr) (tn : Nat → Heap → Prop) : Prop where
 mem : it ∈ fp
 obj : ∀ i h, tn i h → ∀ b ∈ fp, ∃ o, h.get? b = some o ∧ ∀ v, o.data ≠ .cell v
 keep : ∀ i h h', tn i h → (∀ b ∈ fp, ∀ o, h.get? b = some o → h'.get? b = some o) → tn i h'
 item : ∀ (X : Cx), X.prog = P → X.w = w → X.K = K → X.calm = true → ∀ (i : Nat) (pins : List (Addr × Obj)) (s : Shared) (σ : St) (H : Hp) (E : Value → Shared → Prop), Inv X pins σ H s → (∀ b ∈ fp, FpOk X pins H b) → tn i s.heap → J.go i H →
  wpAny (model P w) X.A (pyNext (.ref it)) (fun r s1 => ∃ u, r = some u ∧
   wpAny (model P w) X.A (letOwnedTupleGo tg (.ref it) u) (fun _ s2 => ∃ x H', Inv X pins σ H' s2 ∧ RelV x u ∧ J.yld i H x H' ∧ tn (i + 1) s2.heap ∧ ∀ b ∈ fp, H' b = none) E s1) E s
 done : ∀ (X : Cx), X.prog = P → X.w = w → X.K = K → X.calm = true → ∀ (i : Nat) (pins : List (Addr × Obj)) (s : Shared) (σ : St) (H : Hp) (E : Value → Shared → Prop), Inv X pins σ H s → (∀ b ∈ fp, FpOk X pins H b) → tn i s.heap → J.stop i H →
  wpAny (model P w) X.A (pyNext (.ref it)) (fun r s1 => r = none ∧ Inv X pins σ H s1) E s
 self : ∀ (A : Around) (i : Nat) (s : Shared) (Q : Value → Shared → Prop) (E : Value → Shared → Prop), tn i s.heap → Q (.ref it) s → wpAny (model P w) A (pyIter (.ref it)) Q E s
noncomputable abbrev TI := St → Hp → (It → Hp → Prop) → Prop
noncomputable def PIE (X : Cx) (pins : List (Addr × Obj)) (σ : St) (tg : Expr) (R : It → Hp → Prop) (itv : Value) (s2 : Shared) : Prop :=
 ∃ (it : Addr) (fp : List Addr) (tn : Nat → Heap → Prop) (J : It) (H' : Hp), itv = .ref it ∧ Inv X pins σ H' s2 ∧ Turn X.prog X.w X.K tg J fp it tn ∧ tn 0 s2.heap ∧ (∀ b ∈ fp, FpOk X pins H' b) ∧ R J H'
noncomputable def PI (X : Cx) (tg iter : Expr) (wi : TI) : Prop :=
 ∀ (pins : List (Addr × Obj)) (s : Shared) (σ : St) (H : Hp) (R : It → Hp → Prop), Inv X pins σ H s → wi σ H R →
  wpAny (model X.prog X.w) X.A (eval iter X.env) (fun v s1 => wpAny (model X.prog X.w) X.A (pyIter v) (PIE X pins σ tg R) X.xe s1) X.xe s
theorem go_of {M : Model} {A : Around} {E : Value → Shared → Prop} {s : Shared} {tg : Expr} {it : Addr} {u : Value} {o : Obj} {n : String} {vs : Array Value} {Q : Unit → Shared → Prop} (ho : s.heap.get? it = some o) (hc : o.cls = .type n) (hd : o.data = .fields vs)
  (hn : ["enumerate", "zip", "dict_itemiterator", "dict_reverseitemiterator", "odict_iterator", "itertools.zip_longest", "itertools.pairwise"].contains n = false) (hQ : Q () s) : wpAny M A (letOwnedTupleGo tg (.ref it) u) Q E s := by
 unfold letOwnedTupleGo
 cases tg <;> first
  | exact wpAny_pure hQ
  | (cases u <;> first
    | exact wpAny_pure hQ
    | (refine wpAny_bind (wpAny_load ho ?_)
       rw [hc, hd]
       show wpAny M A (if (["enumerate", "zip", "dict_itemiterator", "dict_reverseitemiterator", "odict_iterator", "itertools.zip_longest", "itertools.pairwise"].contains n && vs[0]? == some (rawInt _)) = true then _ else _) Q E s
       rw [if_neg (by intro h; rw [hn, Bool.false_and] at h; cases h)]
       exact wpAny_pure hQ))
noncomputable def Itl (K : PySem.W.Frag) (a : Addr) : It :=
 ⟨fun i H => ∃ xs x, SqL K H a xs ∧ xs[i]? = some x, fun i H x H' => H' = H ∧ ∀ xs, SqL K H a xs → xs[i]? = some x, fun i H => ∃ xs, SqL K H a xs ∧ xs.length ≤ i⟩
noncomputable def Itt (K : PySem.W.Frag) (a : Addr) : It :=
 ⟨fun i H => ∃ xs x, SqT K H a xs ∧ xs[i]? = some x, fun i H x H' => H' = H ∧ ∀ xs, SqT K H a xs → xs[i]? = some x, fun i H => ∃ xs, SqT K H a xs ∧ xs.length ≤ i⟩
noncomputable def Itr (lo : Int) (n : Nat) : It := ⟨fun i _ => i < n, fun i H x H' => H' = H ∧ x = .int (lo + i), fun i _ => n ≤ i⟩
theorem turn_list {P : Program} {w : World} {K : PySem.W.Frag} {tg : Expr} (a it : Addr) : Turn P w K tg (Itl K a) [it] it (fun i h => h.IsListIter it a i) where
 mem := by simp
 obj := fun i h st b hb => by
  have e : b = it := by simpa using hb
  subst e
  obtain ⟨o, e, c, d⟩ := st
  exact ⟨o, e, fun v z => by rw [d] at z; cases z⟩
 keep := fun i h h' st k => st.at fun o e => k it (by simp) o e
 item := by
  intro X hP hw hK hc i pins s σ H E I hf st hg
  subst hP hw hK
  obtain ⟨xs, x, hq, hx⟩ := hg
  obtain ⟨its, rv, p, hz⟩ := I.list hq
  obtain ⟨u, hu, ru⟩ := rv.get hx
  obtain ⟨f0, f1, f2, f3, f4, f5⟩ := hf it (by simp)
  refine wpAny_pyNext_list_item st p.isList (x := u) (by simpa using hu) fun h' st' sb => ?_
  have I1 : Inv X pins σ H { s with heap := h' } := I.turned (t' := s.toks) (fun b o hb e => (sb.2 b hb).trans e) f0 f1 f3 f4 f5
  obtain ⟨o, e, c, d⟩ := id st'
  exact ⟨u, rfl, go_of (s := { s with heap := h' }) e c d (by decide) ⟨x, H, I1, ru, ⟨rfl, fun ys hy => by rw [I.list_inj hy hq]; exact hx⟩, st', fun b hb => (hf b hb).1⟩⟩
 done := by
  intro X hP hw hK hc i pins s σ H E I hf st hg
  subst hP hw hK
  obtain ⟨xs, hq, hx⟩ := hg
  obtain ⟨its, rv, p, hz⟩ := I.list hq
  obtain ⟨f0, f1, f2, f3, f4, f5⟩ := hf it (by simp)
  have hl := rv.length
  exact wpAny_pyNext_list_end (I.ok.hd hc) st p.isList (by simp; omega) fun h' eb => ⟨rfl, I.turned (t' := s.toks) (fun b o hb e => eb b o hb e) f0 f1 f3 f4 f5⟩
 self := fun _ _ _ _ _ st h => wpAny_pyIter_listiter st h
theorem turn_tuple {P : Program} {w : World} {K : PySem.W.Frag} {tg : Expr} (a it : Addr) : Turn P w K tg (Itt K a) [it] it (fun i h => h.IsTupleIter it a i) where
 mem := by simp
 obj := fun i h st b hb => by
  have e : b = it := by simpa using hb
  subst e
  obtain ⟨o, e, c, d⟩ := st
  exact ⟨o, e, fun v z => by rw [d] at z; cases z⟩
 keep := fun i h h' st k => st.at fun o e => k it (by simp) o e
 item := by
  intro X hP hw hK hc i pins s σ H E I hf st hg
  subst hP hw hK
  obtain ⟨xs, x, hq, hx⟩ := hg
  obtain ⟨its, rv, p, hz⟩ := I.tuple hq
  obtain ⟨u, hu, ru⟩ := rv.get hx
  obtain ⟨f0, f1, f2, f3, f4, f5⟩ := hf it (by simp)
  refine wpAny_pyNext_tuple_item st (show s.heap.IsTuple a its.toArray from p) (x := u) (by simpa using hu) fun h' st' sb => ?_
  have I1 : Inv X pins σ H { s with heap := h' } := I.turned (t' := s.toks) (fun b o hb e => (sb.2 b hb).trans e) f0 f1 f3 f4 f5
  obtain ⟨o, e, c, d⟩ := id st'
  exact ⟨u, rfl, go_of (s := { s with heap := h' }) e c d (by decide) ⟨x, H, I1, ru, ⟨rfl, fun ys hy => by rw [I.tuple_inj hy hq]; exact hx⟩, st', fun b hb => (hf b hb).1⟩⟩
 done := by
  intro X hP hw hK hc i pins s σ H E I hf st hg
  subst hP hw hK
  obtain ⟨xs, hq, hx⟩ := hg
  obtain ⟨its, rv, p, hz⟩ := I.tuple hq
  obtain ⟨f0, f1, f2, f3, f4, f5⟩ := hf it (by simp)
  have hl := rv.length
  exact wpAny_pyNext_tuple_end (I.ok.hd hc) st (show s.heap.IsTuple a its.toArray from p) (by simp; omega) fun h' eb => ⟨rfl, I.turned (t' := s.toks) (fun b o hb e => eb b o hb e) f0 f1 f3 f4 f5⟩
 self := fun _ _ _ _ _ st h => wpAny_pyIter_tupleiter st h
theorem turn_range {P : Program} {w : World} {K : PySem.W.Frag} {tg : Expr} (it : Addr) (lo : Int) (n : Nat) : Turn P w K tg (Itr lo n) [it] it (fun i h => IsRangeIter h it (lo + (i : Nat) * 1) ((n : Int) - (i : Nat)) 1) where
 mem := by simp
 obj := fun i h st b hb => by
  have e : b = it := by simpa using hb
  subst e
  exact ⟨_, st, fun v z => by
   have z' : Data.fields _ = Data.cell v := z
   cases z'⟩
 keep := fun i h h' st k => k it (by simp) _ st
 item := by
  intro X hP hw hK hc i pins s σ H E I hf st hg
  subst hP hw hK
  obtain ⟨f0, f1, f2, f3, f4, f5⟩ := hf it (by simp)
  have W := Walks.range (prog := X.prog) (w := X.w) (I.ok.hd hc) it lo 1 n
  refine W.item i s _ _ hg st fun v h' tk hv st' kk => ?_
  obtain ⟨t, rfl⟩ := hv
  have I1 : Inv X pins σ H { s with heap := h', toks := tk } := I.turned (fun b o hb e => kk b o (by simpa using hb) e) f0 f1 f3 f4 f5
  refine ⟨_, rfl, go_of (s := { s with heap := h', toks := tk }) (n := "range_iterator") st' rfl rfl (by decide) ⟨.int (lo + i), H, I1, ⟨t, ?_⟩, ⟨rfl, rfl⟩, st', fun b hb => (hf b hb).1⟩⟩
  rw [Int.mul_one]
 done := by
  intro X hP hw hK hc i pins s σ H E I hf st hg
  subst hP hw hK
  obtain ⟨f0, f1, f2, f3, f4, f5⟩ := hf it (by simp)
  exact wpAny_pyNext_range_end (I.ok.hd hc) st (by have : n ≤ i := hg; omega) fun h' eb => ⟨rfl, I.turned (t' := s.toks) (fun b o hb e => eb b o hb e) f0 f1 f3 f4 f5⟩
 self := fun _ _ _ _ _ st h => wpAny_pyIter_rangeiter st h
end L2
namespace L2
open PySem PySem.Spec PyProof.Rows
section
variable {X : Cx} {tg : Expr}
theorem range_it {pins : List (Addr × Obj)} {σ : St} {H : Hp} {s : Shared} {R : It → Hp → Prop} {E : Value → Shared → Prop} {lo hi : Int} {t u v : Tok} {tk : Nat} (I : Inv X pins σ H s) (h1 : -(2 ^ 62) ≤ lo) (h2 : lo < 2 ^ 62) (h3 : -(2 ^ 62) ≤ hi) (h4 : hi < 2 ^ 62)
  (q : R (Itr lo (hi - lo).toNat) H) : wpAny (model X.prog X.w) X.A (pyIter (.ref s.heap.objs.size)) (PIE X pins σ tg R) E { s with heap := s.heap.push { cls := .type "range", data := .fields #[.int lo t, .int hi u, .int 1 v] }, toks := tk } := by
 refine wpAny_pyIter_range (IsRange.new ..) (small_one h1 h2 h3 h4) ?_
 have I1 : Inv X pins σ H { s with heap := s.heap.push { cls := .type "range", data := .fields #[.int lo t, .int hi u, .int 1 v] }, toks := tk } := I.kept fun b o e => Heap.get?_push_of_some _ e
 refine ⟨(s.heap.push { cls := .type "range", data := .fields #[.int lo t, .int hi u, .int 1 v] }).objs.size, [(s.heap.push { cls := .type "range", data := .fields #[.int lo t, .int hi u, .int 1 v] }).objs.size], _, _, H, rfl,
  I1.kept (t' := tk) fun b o e => Heap.get?_push_of_some _ e, turn_range _ lo (hi - lo).toNat, ?_, fun b hb => ?_, q⟩
 ·have e1 : lo + ((0 : Nat) : Int) * 1 = lo := by simp
  have e2 : (((hi - lo).toNat : Nat) : Int) - ((0 : Nat) : Int) = Builtin.Range.rangeSize lo hi 1 := by rw [rangeSize_one]; split <;> omega
  show IsRangeIter _ _ (lo + ((0 : Nat) : Int) * 1) ((((hi - lo).toNat : Nat) : Int) - ((0 : Nat) : Int)) 1
  rw [e1, e2]
  exact Heap.get?_push_size _ rfl
 ·have e : b = (s.heap.push { cls := .type "range", data := .fields #[.int lo t, .int hi u, .int 1 v] }).objs.size := by simpa using hb
  subst e
  exact I1.fpOk (Nat.le_refl _) (I1.hok.fresh (Nat.le_refl _))
noncomputable def iRng1 (ta : TA) : TI := fun σ H R => ta σ H fun vs H1 => ∃ j : Int, vs = [.int j] ∧ -(2 ^ 62) ≤ j ∧ j < 2 ^ 62 ∧ R (Itr 0 j.toNat) H1
noncomputable def iRng2 (ta : TA) : TI := fun σ H R => ta σ H fun vs H1 => ∃ i j : Int, vs = [.int i, .int j] ∧ (-(2 ^ 62) ≤ i ∧ i < 2 ^ 62 ∧ -(2 ^ 62) ≤ j ∧ j < 2 ^ 62) ∧ R (Itr i (j - i).toNat) H1
theorem pi_range1 {a : Expr} {ta : TA} {p pos : Pos} (hg : Gl X "range") (hm : X.mg "range" = none) (ha : PA X [a] ta) (hs : starEach [a] X.env = [(false, eval a X.env)] := by rfl) : PI X tg (.Call (.Name "range" p) [a] [] pos) (iRng1 ta) := by
 intro pins s σ H R I h
 refine Call_ (ld_blt I hg hm boot_range (PyProof.Rows.callWith_type1 (thn (ha pos pins s σ H _ I h) fun us s1 ⟨vs, H1, I1, r1, q1⟩ => ?_) hs rfl))
 obtain ⟨j, e, q1, q2, q⟩ := q1
 subst e
 cases r1 with
 | cons r rr =>
  cases rr
  obtain ⟨t, rfl⟩ := r
  exact call_range_1 (range_it I1 (by omega) (by omega) q1 q2 (by simpa using q))
theorem pi_range2 {a b : Expr} {ta : TA} {p pos : Pos} (hg : Gl X "range") (hm : X.mg "range" = none) (ha : PA X [a, b] ta) (hs : starEach [a, b] X.env = [(false, eval a X.env), (false, eval b X.env)] := by rfl) (hs2 : starEach [b] X.env = [(false, eval b X.env)] := by rfl) :
  PI X tg (.Call (.Name "range" p) [a, b] [] pos) (iRng2 ta) := by
 intro pins s σ H R I h
 refine Call_ (ld_blt I hg hm boot_range (PyProof.Rows.callWith_type1 (thn (ha pos pins s σ H _ I h) fun us s1 ⟨vs, H1, I1, r1, q1⟩ => ?_) (by rw [hs, hs2]) (by rw [hs2]; rfl)))
 obtain ⟨i, j, e, ⟨q1, q2, q3, q4⟩, q⟩ := q1
 subst e
 cases r1 with
 | cons r rr =>
  cases rr with
  | cons r' rr =>
   cases rr
   obtain ⟨t, rfl⟩ := r
   obtain ⟨t', rfl⟩ := r'
   exact call_range_2 (range_it I1 q1 q2 q3 q4 q)
noncomputable def tFor (wi : TI) (g : TG) (tb : TS) : TS := fun D σ H => wi σ H fun J H1 => ∃ W : Nat → Nat → St → Hp → Prop, (∃ m, W 0 m σ H1) ∧ ∀ i m σ H, W i m σ H →
 (J.stop i H ∧ D.nx σ H) ∨ (J.go i H ∧ ∃ N : St → Hp → Prop, (∀ σ' H', N σ' H' → ∃ m', m' < m ∧ W (i + 1) m' σ' H') ∧ ∀ x H', J.yld i H x H' → g x σ H' fun σ2 H2 => tb { D with nx := N, ct := N, bk := D.nx } σ2 H2)
noncomputable def pinsAt (fp : List Addr) (h : Heap) : List (Addr × Obj) := fp.filterMap fun b => (h.get? b).map fun o => (b, o)
theorem mem_pinsAt {fp : List Addr} {h : Heap} {b : Addr} {o : Obj} (hb : b ∈ fp) (e : h.get? b = some o) : (b, o) ∈ pinsAt fp h := List.mem_filterMap.mpr ⟨b, hb, by rw [e]; rfl⟩
theorem of_pinsAt {fp : List Addr} {h : Heap} {p : Addr × Obj} (hp : p ∈ pinsAt fp h) : p.1 ∈ fp ∧ h.get? p.1 = some p.2 := by
 obtain ⟨b, hb, e⟩ := List.mem_filterMap.mp hp
 cases q : h.get? b with
 | none => rw [q] at e; cases e
 | some o =>
  rw [q] at e
  have e' : (b, o) = p := Option.some.inj e
  subst e'
  exact ⟨hb, q⟩
theorem Inv.pinned {pins : List (Addr × Obj)} {σ : St} {H : Hp} {s : Shared} {fp : List Addr} (I : Inv X pins σ H s) (hf : ∀ b ∈ fp, FpOk X pins H b) (ho : ∀ b ∈ fp, ∃ o, s.heap.get? b = some o ∧ ∀ v, o.data ≠ .cell v) : Inv X (pins ++ pinsAt fp s.heap) σ H s :=
 I.pins_of fun p hp => (List.mem_append.mp hp).elim (fun z => I.pin p (List.mem_append_right _ z)) fun z => by
  obtain ⟨hb, e⟩ := of_pinsAt z
  obtain ⟨f0, f1, f2, _⟩ := hf p.1 hb
  obtain ⟨o, e', d⟩ := ho p.1 hb
  rw [e] at e'; cases e'
  exact ⟨e, f0, f1, f2, d⟩
theorem Inv.unpinned {pins pl : List (Addr × Obj)} {σ : St} {H : Hp} {s : Shared} (I : Inv X (pins ++ pl) σ H s) : Inv X pins σ H s := I.pins_of fun p hp => I.pin p (List.mem_append_right _ (List.mem_append_left _ hp))
theorem ps_for {iter : Expr} {body : List Stmt} {wi : TI} {g : TG} {tb : TS} {pos : Pos} (hp : PassesOwn (model X.prog X.w) X.A X.env X.xe) (hc : X.calm = true) (hi : PI X tg iter wi) (hg : PG X tg g) (hb : PSs X body tb)
  (hs : ∀ x, foldedSetIterable iter X.env x = pure x := by intro _; rfl) : PS X (.For tg iter body [] pos) (tFor wi g tb) := by
 intro pins s σ H D I h
 refine wpAny_For (thn (hi pins s σ H _ I h) fun v s1 h1 => thn h1 fun itv s2 h2 => ?_) hs
 obtain ⟨it, fp, tn, J, H2, e, I2, T, st2, f2, W, ⟨m0, w0⟩, turn⟩ := h2
 subst e
 have stat : ∀ {H' : Hp}, (∀ b ∈ fp, H' b = none) → ∀ b ∈ fp, FpOk X pins H' b := fun hn b hb => ⟨hn b hb, (f2 b hb).2⟩
 refine codeAny_forLoop_any (fun n s' => ∃ i σ' H', Inv X pins σ' H' s' ∧ tn i s'.heap ∧ (∀ b ∈ fp, H' b = none) ∧ W i n σ' H') ?_ m0 ⟨0, σ, H2, I2, st2, fun b hb => (f2 b hb).1, w0⟩
 rintro n s3 ⟨i, σ3, H3, I3, st3, fr3, w3⟩
 rcases turn i n σ3 H3 w3 with ⟨stop, qn⟩ | ⟨go, N, hN, step⟩
 ·refine wpAny_passesOwn hp (thn (T.done X rfl rfl rfl hc i pins s3 σ3 H3 X.xe I3 (stat fr3) st3 stop) fun r s4 ⟨hr, I4⟩ => ?_)
  subst hr
  exact wpAny_execs_nil ⟨σ3, H3, I4, qn⟩
 ·refine wpAny_passesOwn hp (thn (T.item X rfl rfl rfl hc i pins s3 σ3 H3 X.xe I3 (stat fr3) st3 go) fun r s4 ⟨u, hr, h4⟩ => ?_)
  subst hr
  refine wpAny_passesOwn hp (thn h4 fun _ s5 ⟨x, H5, I5, r5, y5, st5, fr5⟩ => ?_)
  have I5' := I5.pinned (stat fr5) (T.obj _ _ st5)
  refine wpAny_passesOwn hp (thn (hg _ s5 σ3 H5 x u _ I5' r5 (step x H5 y5)) fun _ s6 ⟨σ6, H6, I6, q6⟩ => ?_)
  refine wpAny_passesOwn hp (thn (hb _ s6 σ6 H6 _ I6 q6) fun f s7 q7 => ?_)
  have again : ∀ {σ7 : St} {H7 : Hp}, Inv X (pins ++ pinsAt fp s5.heap) σ7 H7 s7 → N σ7 H7 → ∃ m, m < n ∧ ∃ i σ' H', Inv X pins σ' H' s7 ∧ tn i s7.heap ∧ (∀ b ∈ fp, H' b = none) ∧ W i m σ' H' := fun {σ7 H7} I7 n7 => by
   obtain ⟨m', hm, w7⟩ := hN σ7 H7 n7
   refine ⟨m', hm, i + 1, σ7, H7, I7.unpinned, T.keep _ _ _ st5 fun b hb o e => (I7.pin (b, o) (List.mem_append_right _ (List.mem_append_right _ (mem_pinsAt hb e)))).1, fun b hb => ?_, w7⟩
   obtain ⟨o, e, d⟩ := T.obj _ _ st5 b hb
   exact (I7.pin (b, o) (List.mem_append_right _ (List.mem_append_right _ (mem_pinsAt hb e)))).2.1
  cases f with
  | next => obtain ⟨σ7, H7, I7, n7⟩ := q7; exact again I7 n7
  | cont => obtain ⟨σ7, H7, I7, n7⟩ := q7; exact again I7 n7
  | brk => obtain ⟨σ7, H7, I7, q7⟩ := q7; exact ⟨σ7, H7, I7.unpinned, q7⟩
  | ret v => obtain ⟨x7, σ7, H7, I7, r7, q7⟩ := q7; exact ⟨x7, σ7, H7, I7.unpinned, r7, q7⟩
end
end L2
namespace L2
open PySem PySem.Spec PyProof.Rows
noncomputable abbrev R2 := V → V → Hp → VK → Prop
noncomputable def OpR (X : Cx) (f : Value → Value → Sem Value) (r : R2) : Prop :=
 ∀ (pins : List (Addr × Obj)) (s : Shared) (σ : St) (H : Hp) (x y : V) (v u : Value) (Q : VK), Inv X pins σ H s → RelV x v → RelV y u → r x y H Q →
  wpAny (model X.prog X.w) X.A (f v u) (EP X pins σ Q) X.xe s
noncomputable def UnR (X : Cx) (f : Value → Sem Value) (r : V → Hp → VK → Prop) : Prop :=
 ∀ (pins : List (Addr × Obj)) (s : Shared) (σ : St) (H : Hp) (x : V) (v : Value) (Q : VK), Inv X pins σ H s → RelV x v → r x H Q →
  wpAny (model X.prog X.w) X.A (f v) (EP X pins σ Q) X.xe s
noncomputable def CallR (X : Cx) (f : Value) (r : List V → Hp → VK → Prop) : Prop :=
 ∀ (pins : List (Addr × Obj)) (s : Shared) (σ : St) (H : Hp) (xs : List V) (us : List Value) (Q : VK), Inv X pins σ H s → Vals xs us → r xs H Q →
  wpAny (model X.prog X.w) X.A (call f us) (EP X pins σ Q) X.xe s
noncomputable def TruR (X : Cx) (r : V → Hp → (Bool → Hp → Prop) → Prop) : Prop :=
 ∀ (pins : List (Addr × Obj)) (s : Shared) (σ : St) (H : Hp) (x : V) (v : Value) (Q : Bool → Hp → Prop), Inv X pins σ H s → RelV x v → r x H Q →
  wpAny (model X.prog X.w) X.A (truthy v) (TP X pins σ Q) X.xe s
noncomputable def tOp (r : R2) (ta tb : TE) : TE := fun σ H Q => ta σ H fun x H1 => tb σ H1 fun y H2 => r x y H2 Q
noncomputable def tUn (r : V → Hp → VK → Prop) (ta : TE) : TE := fun σ H Q => ta σ H fun x H1 => r x H1 Q
noncomputable def rI (C : Int → Int → Prop) (g : Int → Int → V) : R2 := fun x y H Q => ∃ i j, x = .int i ∧ y = .int j ∧ C i j ∧ Q (g i j) H
noncomputable def rI0 (g : Int → Int → V) : R2 := fun x y H Q => ∃ i j, x = .int i ∧ y = .int j ∧ Q (g i j) H
noncomputable def rU (g : Int → V) : V → Hp → VK → Prop := fun x H Q => ∃ i, x = .int i ∧ Q (g i) H
section
variable {X : Cx} {a b c : Expr} {ta tb tc : TE} {pos : Pos}
theorem binT (ha : PE X a ta) (hb : PE X b tb) {pins : List (Addr × Obj)} {s : Shared} {σ : St} {H : Hp} {R : V → V → Hp → Prop} (I : Inv X pins σ H s)
  (h : ta σ H fun x H1 => tb σ H1 fun y H2 => R x y H2) {Q : Value → Shared → Prop} {f : Value → Value → Sem Value}
  (hf : ∀ v u s2 x y H2, Inv X pins σ H2 s2 → RelV x v → RelV y u → R x y H2 → wpAny (model X.prog X.w) X.A (f v u) Q X.xe s2) :
  wpAny (model X.prog X.w) X.A (eval a X.env) (fun v s₁ => wpAny (model X.prog X.w) X.A (eval b X.env) (fun u s₂ => wpAny (model X.prog X.w) X.A (f v u) Q X.xe s₂) X.xe s₁) X.xe s := by
 refine thn (ha pins s σ H _ I h) fun v s1 ⟨x, H1, I1, r1, q1⟩ => ?_
 refine thn (hb pins s1 σ H1 _ I1 q1) fun u s2 ⟨y, H2, I2, r2, q2⟩ => ?_
 exact hf v u s2 x y H2 I2 r1 r2 q2
theorem pe_op {op : Operator} {r : R2} (ho : OpR X (binaryOp op) r) (ha : PE X a ta) (hb : PE X b tb) : PE X (.BinOp a op b pos) (tOp r ta tb) := by
 intro pins s σ H Q I h
 exact wpAny_BinOp (binT ha hb I h fun v u s2 x y H2 I2 rx ry q => ho pins s2 σ H2 x y v u Q I2 rx ry q)
theorem pe_un {op : UnaryOp} {r : V → Hp → VK → Prop} (ho : UnR X (unaryOp op) r) (ha : PE X a ta) : PE X (.UnaryOp op a pos) (tUn r ta) := by
 intro pins s σ H Q I h
 exact UnaryOp_ (thn (ha pins s σ H _ I h) fun v s1 ⟨x, H1, I1, r1, q1⟩ => ho pins s1 σ H1 x v Q I1 r1 q1)
theorem opI {f : Value → Value → Sem Value} {C : Int → Int → Prop} {g : Int → Int → Int}
  (rule : ∀ (i j : Int) (t u : Tok) (s : Shared) (Q : Value → Shared → Prop) (E : Value → Shared → Prop), C i j → Q (.int (g i j) s.toks) { s with toks := s.toks + 1 } → wpAny (model X.prog X.w) X.A (f (.int i t) (.int j u)) Q E s) :
  OpR X f (rI C fun i j => .int (g i j)) := by
 intro pins s σ H x y v u Q I rx ry h
 obtain ⟨i, j, rfl, rfl, hc, q⟩ := h
 obtain ⟨t, rfl⟩ := rx
 obtain ⟨t', rfl⟩ := ry
 exact rule i j t t' s _ _ hc ⟨.int (g i j), H, I.tok _, ⟨_, rfl⟩, q⟩
theorem opI0 {f : Value → Value → Sem Value} {g : Int → Int → Int}
  (rule : ∀ (i j : Int) (t u : Tok) (s : Shared) (Q : Value → Shared → Prop) (E : Value → Shared → Prop), Q (.int (g i j) s.toks) { s with toks := s.toks + 1 } → wpAny (model X.prog X.w) X.A (f (.int i t) (.int j u)) Q E s) :
  OpR X f (rI0 fun i j => .int (g i j)) := by
 intro pins s σ H x y v u Q I rx ry h
 obtain ⟨i, j, rfl, rfl, q⟩ := h
 obtain ⟨t, rfl⟩ := rx
 obtain ⟨t', rfl⟩ := ry
 exact rule i j t t' s _ _ ⟨.int (g i j), H, I.tok _, ⟨_, rfl⟩, q⟩
theorem opB0 {f : Value → Value → Sem Value} {g : Int → Int → Bool}
  (rule : ∀ (i j : Int) (t u : Tok) (s : Shared) (Q : Value → Shared → Prop) (E : Value → Shared → Prop), Q (.bool (g i j)) s → wpAny (model X.prog X.w) X.A (f (.int i t) (.int j u)) Q E s) :
  OpR X f (rI0 fun i j => .bl (g i j)) := by
 intro pins s σ H x y v u Q I rx ry h
 obtain ⟨i, j, rfl, rfl, q⟩ := h
 obtain ⟨t, rfl⟩ := rx
 obtain ⟨t', rfl⟩ := ry
 exact rule i j t t' s _ _ ⟨.bl (g i j), H, I, rfl, q⟩
noncomputable def CDiv (i j : Int) : Prop := 0 < j ∧ j < 1073741824
noncomputable def CPow (i j : Int) : Prop := 0 ≤ j ∧ j ≤ 1000000 ∧ i.natAbs < 2 ^ 64
noncomputable def CMul (i j : Int) : Prop := (-(2 ^ 64) < i ∧ i < 2 ^ 64) ∨ (-(2 ^ 64) < j ∧ j < 2 ^ 64)
theorem CMul.ok {i j : Int} (h : CMul i j) : IntMulOk i j := by
 rcases h with ⟨h1, h2⟩ | ⟨h1, h2⟩
 ·exact .of_left (intBits_le_64 h1 h2)
 ·exact .of_right (intBits_le_64 h1 h2)
theorem op_add : OpR X (binaryOp .Add) (rI0 fun i j => .int (i + j)) := opI0 fun _ _ _ _ _ _ _ q => add_int q
theorem op_sub : OpR X (binaryOp .Sub) (rI0 fun i j => .int (i - j)) := opI0 fun _ _ _ _ _ _ _ q => sub_int q
theorem op_mul : OpR X (binaryOp .Mult) (rI CMul fun i j => .int (i * j)) := opI fun _ _ _ _ _ _ _ hc q => mul_int q hc.ok
theorem op_fdiv : OpR X (binaryOp .FloorDiv) (rI CDiv fun i j => .int (i / j)) := opI fun i j _ _ _ _ _ hc q => by
 have h1 : (0 : Int) < j := hc.1
 have h2 : j < 1073741824 := hc.2
 exact floordiv_int (by omega) (by rw [Int.fdiv_eq_ediv_of_nonneg i (by omega)]; exact q) (.inl (PyProof.noPylong_small (by omega)))
theorem op_mod : OpR X (binaryOp .Mod) (rI (fun _ j => 0 < j) fun i j => .int (i % j)) := opI fun i j _ _ _ _ _ hc q => by
 have h1 : (0 : Int) < j := hc
 exact mod_int' (by omega) (by rw [Int.fmod_eq_emod_of_nonneg i (by omega)]; exact q)
theorem op_pow : OpR X (binaryOp .Pow) (rI CPow fun i j => .int (i ^ j.toNat)) := opI fun _ _ _ _ _ _ _ hc q => pow_int_small hc.1 hc.2.1 hc.2.2 q
theorem unI {f : Value → Sem Value} {g : Int → Int}
  (rule : ∀ (i : Int) (t : Tok) (s : Shared) (Q : Value → Shared → Prop) (E : Value → Shared → Prop), Q (.int (g i) s.toks) { s with toks := s.toks + 1 } → wpAny (model X.prog X.w) X.A (f (.int i t)) Q E s) :
  UnR X f (rU fun i => .int (g i)) := by
 intro pins s σ H x v Q I rx h
 obtain ⟨i, rfl, q⟩ := h
 obtain ⟨t, rfl⟩ := rx
 exact rule i t s _ _ ⟨.int (g i), H, I.tok _, ⟨_, rfl⟩, q⟩
theorem un_neg : UnR X (unaryOp .USub) (rU fun i => .int (-i)) := unI fun _ _ _ _ _ q => neg_int q
end
section
variable {X : Cx} {a b c : Expr} {ta tb tc : TE} {pos : Pos}
theorem fin_bl {pins : List (Addr × Obj)} {σ : St} {H : Hp} {s : Shared} {Q : VK} {k k' : Bool} (I : Inv X pins σ H s) (q : Q (.bl k) H) (e : k = k') : EP X pins σ Q (.bool k') s := by
 subst e
 exact ⟨.bl k, H, I, rfl, q⟩
theorem op_lt : OpR X (compareOp .Lt) (rI0 fun i j => .bl (decide (i < j))) := opB0 fun _ _ _ _ _ _ _ q => lt_int q
theorem op_le : OpR X (compareOp .LtE) (rI0 fun i j => .bl (decide (i ≤ j))) := opB0 fun _ _ _ _ _ _ _ q => le_int q
theorem op_gt : OpR X (compareOp .Gt) (rI0 fun i j => .bl (decide (j < i))) := opB0 fun _ _ _ _ _ _ _ q => gt_int q
theorem op_ge : OpR X (compareOp .GtE) (rI0 fun i j => .bl (decide (j ≤ i))) := opB0 fun _ _ _ _ _ _ _ q => ge_int q
theorem op_in_str : OpR X (compareOp .In) (fun x y H Q => ∃ i j, x = .str i ∧ y = .str j ∧ Q (.bl (!(Builtin.Str.occurrences j i 0 j.length 1).isEmpty)) H) := by
 intro pins s σ H x y v u Q I rx ry h
 obtain ⟨i, j, rfl, rfl, q⟩ := h
 obtain ⟨t, rfl⟩ := rx
 obtain ⟨t', rfl⟩ := ry
 exact in_str (fin_bl I q rfl)
theorem op_isN : OpR X (compareOp .Is) (fun x y H Q => y = .non ∧ Q (.bl (decide (x = .non))) H) := by
 intro pins s σ H x y v u Q I rx ry h
 obtain ⟨rfl, q⟩ := h
 cases ry
 refine is_none_gen (fin_bl I q ?_)
 cases x <;> first
  | (cases rx; rfl)
  | (obtain ⟨t, rfl⟩ := rx; rfl)
theorem op_notN : OpR X (compareOp .IsNot) (fun x y H Q => y = .non ∧ Q (.bl (!decide (x = .non))) H) := by
 intro pins s σ H x y v u Q I rx ry h
 obtain ⟨rfl, q⟩ := h
 cases ry
 refine isnot_none_gen (fin_bl I q ?_)
 cases x <;> first
  | (cases rx; rfl)
  | (obtain ⟨t, rfl⟩ := rx; rfl)
theorem op_notin_str : OpR X (compareOp .NotIn) (fun x y H Q => ∃ i j, x = .str i ∧ y = .str j ∧ Q (.bl (!(!(Builtin.Str.occurrences j i 0 j.length 1).isEmpty))) H) := by
 intro pins s σ H x y v u Q I rx ry h
 obtain ⟨i, j, rfl, rfl, q⟩ := h
 obtain ⟨t, rfl⟩ := rx
 obtain ⟨t', rfl⟩ := ry
 exact notIn_str (fin_bl I q rfl)
theorem OpR.or {f : Value → Value → Sem Value} {r r' : R2} (h : OpR X f r) (h' : OpR X f r') : OpR X f (fun x y H Q => r x y H Q ∨ r' x y H Q) := by
 intro pins s σ H x y v u Q I rx ry q
 rcases q with q | q
 ·exact h pins s σ H x y v u Q I rx ry q
 ·exact h' pins s σ H x y v u Q I rx ry q
theorem pe_cmpR {op : CmpOp} {r : R2} (ho : OpR X (compareOp op) r) (ha : PE X a ta) (hb : PE X b tb) (hm : behindInMarks op b = false) : PE X (.Compare a [op] [b] pos) (tOp r ta tb) := by
 intro pins s σ H Q I h
 exact wpAny_Compare1 (binT ha hb I h fun v u s2 x y H2 I2 rx ry q => ho pins s2 σ H2 x y v u Q I2 rx ry q) hm
noncomputable def tTest (t : TE) : TT := fun σ H Q => t σ H fun x H' => ∃ k, x = .bl k ∧ Q k H'
theorem pt_cmpR {op : CmpOp} {r : R2} (ho : OpR X (compareOp op) r) (ha : PE X a ta) (hb : PE X b tb) (hm : behindInMarks op b = false) : PT X (.Compare a [op] [b] pos) (tTest (tOp r ta tb)) := by
 intro pins s σ H Q I h
 refine wpAny_isTrue_Compare1 (thn (ha pins s σ H _ I h) fun v s1 ⟨x, H1, I1, r1, q1⟩ => thn (hb pins s1 σ H1 _ I1 q1) fun u s2 ⟨y, H2, I2, r2, q2⟩ =>
  thn (ho pins s2 σ H2 x y v u _ I2 r1 r2 q2) fun c s3 ⟨z, H3, I3, r3, k, e, q3⟩ => ?_) hm
 subst e
 cases r3
 exact wpAny_truthy_bool ⟨H3, I3, q3⟩
noncomputable def tChain (r r' : R2) (ta tb tc : TE) : TE := fun σ H Q => ta σ H fun x H1 => tb σ H1 fun y H2 => r x y H2 fun z H3 => ∃ k, z = .bl k ∧
 (if k = true then tc σ H3 fun w' H4 => r' y w' H4 Q else Q (.bl false) H3)
theorem pe_chain {op op' : CmpOp} {r r' : R2} (ho : OpR X (compareOp op) r) (ho' : OpR X (compareOp op') r') (ha : PE X a ta) (hb : PE X b tb) (hc : PE X c tc)
  (hm : lastMarks [op, op'] [b, c] = false := by with_unfolding_all rfl) : PE X (.Compare a [op, op'] [b, c] pos) (tChain r r' ta tb tc) := by
 intro pins s σ H Q I h
 refine Compare_chain (thn (ha pins s σ H _ I h) fun v s1 ⟨x, H1, I1, r1, q1⟩ => chain_link (thn (hb pins s1 σ H1 _ I1 q1) fun u s2 ⟨y, H2, I2, r2, q2⟩ =>
  thn (ho pins s2 σ H2 x y v u _ I2 r1 r2 q2) fun d s3 ⟨z, H3, I3, r3, k, e, q3⟩ => ?_)) hm
 subst e
 cases r3
 refine wpAny_truthy_bool ?_
 cases k with
 | false => exact ite_ff ⟨.bl false, H3, I3, rfl, q3⟩
 | true => exact ite_tt (chain_last (thn (hc pins s3 σ H3 _ I3 q3) fun w' s4 ⟨z', H4, I4, r4, q4⟩ => ho' pins s4 σ H4 y z' u w' Q I4 r2 r4 q4))
theorem pt_chain {op op' : CmpOp} {r r' : R2} (ho : OpR X (compareOp op) r) (ho' : OpR X (compareOp op') r') (ha : PE X a ta) (hb : PE X b tb) (hc : PE X c tc)
  (hm : lastMarks [op, op'] [b, c] = false := by with_unfolding_all rfl) : PT X (.Compare a [op, op'] [b, c] pos) (tTest (tChain r r' ta tb tc)) := by
 intro pins s σ H Q I h
 refine isTrue_chain (thn (ha pins s σ H _ I h) fun v s1 ⟨x, H1, I1, r1, q1⟩ => test_link (thn (hb pins s1 σ H1 _ I1 q1) fun u s2 ⟨y, H2, I2, r2, q2⟩ =>
  thn (ho pins s2 σ H2 x y v u _ I2 r1 r2 q2) fun d s3 ⟨z, H3, I3, r3, k, e, q3⟩ => ?_)) hm
 subst e
 cases r3
 refine wpAny_truthy_bool ?_
 cases k with
 | false =>
  obtain ⟨k', e', q'⟩ := q3
  cases e'
  exact ite_ff ⟨H3, I3, q'⟩
 | true =>
  refine ite_tt (test_last (thn (hc pins s3 σ H3 _ I3 q3) fun w' s4 ⟨z', H4, I4, r4, q4⟩ => thn (ho' pins s4 σ H4 y z' u w' _ I4 r2 r4 q4) fun d' s5 ⟨z2, H5, I5, r5, k2, e2, q5⟩ => ?_))
  subst e2
  cases r5
  exact wpAny_truthy_bool ⟨H5, I5, q5⟩
noncomputable def TruV (K : PySem.W.Frag) (x : V) (H : Hp) (k : Bool) : Prop :=
 match x with
 | .non => k = false
 | .bl b => k = b
 | .int i => k = (i != 0)
 | .str y => y.length ≤ sizeLine ∧ k = ((y.length : Int) != 0)
 | .byt y => y.size ≤ sizeLine ∧ k = ((y.size : Int) != 0)
 | .ref p => (∃ xs, SqL K H p xs ∧ k = !xs.isEmpty) ∨ (∃ xs, SqT K H p xs ∧ k = !xs.isEmpty) ∨ ∃ kvs, H p = some (.dK kvs) ∧ k = !kvs.isEmpty
 | _ => False
theorem isEmpty_kv {κ : Type} {kvs : List (κ × V)} {vs : List (κ × Value)} (r : KV kvs vs) : (!vs.isEmpty) = !kvs.isEmpty := by
 cases r <;> rfl
theorem isEmpty_of {xs : List V} {its : List Value} (r : Vals xs its) : (!its.toArray.isEmpty) = !xs.isEmpty := by
 cases r <;> simp
theorem line63 : (sizeLine : Nat) < 2 ^ 63 := by rw [sizeLine_eq]; decide
theorem tru_ok : TruR X (fun x H Q => ∃ k, TruV X.K x H k ∧ Q k H) := by
 intro pins s σ H x v Q I rx h
 obtain ⟨k, e, q⟩ := h
 have hl := line63
 have hs : sizeLine = 16777216 := sizeLine_eq
 cases x with
 | non =>
  cases rx
  have e' : k = false := e
  subst e'
  exact truthy_none ⟨H, I, q⟩
 | bl b =>
  cases rx
  have e' : k = b := e
  subst e'
  exact wpAny_truthy_bool ⟨H, I, q⟩
 | int i =>
  obtain ⟨t, rfl⟩ := rx
  have e' : k = (i != 0) := e
  subst e'
  exact PySem.P.truthy_int ⟨H, I, q⟩
 | str y =>
  obtain ⟨t, rfl⟩ := rx
  obtain ⟨hy, e'⟩ : y.length ≤ sizeLine ∧ k = ((y.length : Int) != 0) := e
  subst e'
  exact PySem.P.truthy_str (by omega) ⟨H, I.tok _, q⟩
 | byt y =>
  obtain ⟨t, rfl⟩ := rx
  obtain ⟨hy, e'⟩ : y.size ≤ sizeLine ∧ k = ((y.size : Int) != 0) := e
  subst e'
  exact PySem.W.truthy_bytes (by omega) ⟨H, I.tok _, q⟩
 | ref p =>
  cases rx
  have e' : (∃ xs, SqL X.K H p xs ∧ k = !xs.isEmpty) ∨ (∃ xs, SqT X.K H p xs ∧ k = !xs.isEmpty) ∨ ∃ kvs, H p = some (.dK kvs) ∧ k = !kvs.isEmpty := e
  rcases e' with ⟨xs, hx, e'⟩ | ⟨xs, hx, e'⟩ | ⟨kvs, hx, e'⟩
  ·subst e'
   obtain ⟨its, r, pl, hz⟩ := I.list hx
   have hlen := r.length
   exact wpAny_truthy_list pl.isList (by simp only [List.size_toArray]; omega) ⟨H, I.tok _, by rw [isEmpty_of r]; exact q⟩
  ·subst e'
   obtain ⟨its, r, pl, hz⟩ := I.tuple hx
   have hlen := r.length
   exact truthy_tuple pl (by simp only [List.size_toArray]; omega) ⟨H, I.tok _, by rw [isEmpty_of r]; exact q⟩
  ·subst e'
   obtain ⟨hz, hS, vs, r, m⟩ : kvs.length ≤ sizeLine ∧ (p == sysModules) = false ∧ ∃ vs, KV kvs vs ∧ s.heap.DictOf (mixKind X.prog X.w) p vs := I.hok p _ hx
   have hlen : kvs.length = vs.length := Paired.length r
   exact wpAny_truthy_dict hS m (by omega) ⟨H, I.tok _, by rw [isEmpty_kv r]; exact q⟩
 | _ => exact (show False from e).elim
theorem pt_truth (ha : PE X a ta) (he : ∀ whole, isTrue a X.env whole = (do let v ← whole; standAt a.pos; holding [v] (truthy v))) :
  PT X a (fun σ H Q => ta σ H fun x H' => ∃ k, TruV X.K x H' k ∧ Q k H') := by
 intro pins s σ H Q I h
 exact isTrue_plain (thn (ha pins s σ H _ I h) fun v s1 ⟨x, H1, I1, r1, q1⟩ => tru_ok pins s1 σ H1 x v Q I1 r1 q1) (he _)
theorem op_add_str : OpR X (binaryOp .Add) (fun x y H Q => ∃ i j, x = .str i ∧ y = .str j ∧ i.length + j.length ≤ sizeLine ∧ Q (.str (i ++ j)) H) := by
 intro pins s σ H x y v u Q I rx ry h
 obtain ⟨i, j, rfl, rfl, hz, q⟩ := h
 obtain ⟨t, rfl⟩ := rx
 obtain ⟨t', rfl⟩ := ry
 exact add_str (fun t' tk => ⟨.str (i ++ j), H, I.tok _, ⟨_, rfl⟩, q⟩) hz
theorem vals1 {x : V} {us : List Value} (r : Vals [x] us) : ∃ u, us = [u] ∧ RelV x u := by
 cases r with
 | cons r1 r2 => cases r2; exact ⟨_, rfl, r1⟩
theorem vals2 {x y : V} {us : List Value} (r : Vals [x, y] us) : ∃ u w', us = [u, w'] ∧ RelV x u ∧ RelV y w' := by
 cases r with
 | cons r1 r2 =>
  cases r2 with
  | cons r3 r4 => cases r4; exact ⟨_, _, rfl, r1, r3⟩
theorem call_int1 : CallR X (.type "int") (fun xs H Q => (∃ i, xs = [.int i] ∧ Q (.int i) H) ∨ ∃ k, xs = [.bl k] ∧ Q (.int (if k then 1 else 0)) H) := by
 intro pins s σ H xs us Q I r h
 rcases h with ⟨i, rfl, q⟩ | ⟨k, rfl, q⟩
 ·obtain ⟨u, rfl, t, rfl⟩ := vals1 r
  exact call_int_int ⟨.int i, H, I, ⟨_, rfl⟩, q⟩
 ·obtain ⟨u, rfl, r1⟩ := vals1 r
  cases r1
  exact call_int_bool ⟨.int (if k then 1 else 0), H, I.tok _, ⟨_, rfl⟩, q⟩
noncomputable def LenV (K : PySem.W.Frag) (x : V) (H : Hp) (n : Nat) : Prop :=
 match x with
 | .str y => y.length ≤ sizeLine ∧ n = y.length
 | .byt y => y.size ≤ sizeLine ∧ n = y.size
 | .ref p => (∃ xs, SqL K H p xs ∧ n = xs.length) ∨ ∃ xs, SqT K H p xs ∧ n = xs.length
 | _ => False
theorem call_len : CallR X (.builtin "len") (fun xs H Q => ∃ x n, xs = [x] ∧ LenV X.K x H n ∧ Q (.int n) H) := by
 intro pins s σ H xs us Q I r h
 obtain ⟨x, n, rfl, e, q⟩ := h
 obtain ⟨u, rfl, rx⟩ := vals1 r
 have hl := line63
 have hs : sizeLine = 16777216 := sizeLine_eq
 cases x with
 | str y =>
  obtain ⟨t, rfl⟩ := rx
  obtain ⟨hy, e'⟩ : y.length ≤ sizeLine ∧ n = y.length := e
  subst e'
  exact len_str (by omega) ⟨.int _, H, I.tok _, ⟨_, rfl⟩, q⟩
 | byt y =>
  obtain ⟨t, rfl⟩ := rx
  obtain ⟨hy, e'⟩ : y.size ≤ sizeLine ∧ n = y.size := e
  subst e'
  exact PySem.W.len_bytes (by omega) ⟨.int _, H, I.tok _, ⟨_, rfl⟩, q⟩
 | ref p =>
  cases rx
  have e' : (∃ xs, SqL X.K H p xs ∧ n = xs.length) ∨ ∃ xs, SqT X.K H p xs ∧ n = xs.length := e
  rcases e' with ⟨xs, hx, e'⟩ | ⟨xs, hx, e'⟩
  ·subst e'
   obtain ⟨its, r', pl, hz⟩ := I.list hx
   have hlen := r'.length
   exact Calls.call_len_list pl.isList (by simp only [List.size_toArray]; omega) ⟨.int xs.length, H, I.tok _, ⟨_, by simp only [List.size_toArray]; rw [hlen]⟩, q⟩
  ·subst e'
   obtain ⟨its, r', pl, hz⟩ := I.tuple hx
   have hlen := r'.length
   exact len_tuple pl (by simp only [List.size_toArray]; omega) ⟨.int xs.length, H, I.tok _, ⟨_, by simp only [List.size_toArray]; rw [hlen]⟩, q⟩
 | _ => exact (show False from e).elim
end
end L2
namespace L2
open PySem PySem.Spec PyProof.Rows
structure ObjM (h : Heap) (x dx C : Addr) (mA : Str → Option Value) : Prop where
 obj : h.get? x = some (PySem.W.instObj C dx)
 ns : h.Ns1 dx mA
 ne : dx ≠ x
theorem lookIn_ns {h : Heap} {dx : Addr} {mA : Str → Option Value} (n : h.Ns1 dx mA) : ∃ od, h.get? dx = some od ∧ ∀ name, PySem.W.lookIn name od = some (mA name) := by
 obtain ⟨o, es, ep, ho, hd, hk, _, hm⟩ := n
 refine ⟨o, ho, fun name => ?_⟩
 have e := hm name
 unfold nsFind findBy at e
 rw [← Array.find?_toList] at e
 unfold PySem.W.lookIn
 rw [hd]
 dsimp only
 split
 ·rename_i y q
  rw [q] at e
  exact congrArg some e
 ·rename_i q
  rw [q] at e
  have a : es.toList.any (·.refKey) = false := by
   rw [List.any_eq_false]
   intro y hy
   obtain ⟨z, t, hkey⟩ := hk y (Array.mem_toList_iff.mp hy)
   simp [DictEntry.refKey, hkey]
  have a' : ¬ es.toList.any (·.refKey) = true := by rw [a]; exact Bool.false_ne_true
  rw [if_neg a']
  exact congrArg some e
theorem ObjM.look {h : Heap} {x dx C : Addr} {mA : Str → Option Value} (I : ObjM h x dx C mA) : ∃ od, PySem.W.InstAt h x (PySem.W.instObj C dx) C (some od) ∧ ∀ name, PySem.W.lookIn name od = some (mA name) :=
 let ⟨od, ho, hl⟩ := lookIn_ns I.ns
 ⟨od, ⟨I.obj, rfl, rfl, ho⟩, hl⟩
section
variable {prog : Program} {w : World} {A : Around} {E : Value → Shared → Prop} {s : Shared} {K : PySem.W.Frag} {x dx C f : Addr} {mA : Str → Option Value} {name : Str} {v : Value}
end
section
variable {P : Program} {w : World} {H H' : Hp} {h h' : Heap} {a C dx : Addr} {fs fs' : List (Str × V)}
end
structure Cls (K : PySem.W.Frag) (C : Addr) : Prop where
 pg : PySem.W.plainGet K C Str.empty = true
 hd : PySem.W.hasDictIn K C = true
 po : PySem.W.plainOver K C = true
 sa : PySem.W.findIn K (.ref C) "__setattr__" = some (some (.builtin "object.__setattr__"))
theorem Cls.get {K : PySem.W.Frag} {C : Addr} (c : Cls K C) (f : Str) : PySem.W.plainGet K C f = true := c.pg
structure Con (K : PySem.W.Frag) (C : Addr) (f : Str) (v : V) (u : Value) : Prop where
 at_ : PySem.W.findIn K (.ref C) f = some (some u)
 rel : RelV v u
 get : PySem.W.specialIn K u "__get__" = some none
 cp : PySem.W.copiedNames.contains f = false
structure Meth (K : PySem.W.Frag) (C : Addr) (m : Str) (f : Addr) : Prop where
 at_ : PySem.W.findIn K (.ref C) m = some (some (.ref f))
 fn : PySem.W.isFn K (.ref f) = true
 kp : PySem.W.keepIn K (.ref f) = true
section
variable {X : Cx} {pins : List (Addr × Obj)} {σ : St} {H : Hp} {s : Shared} {a C dx : Addr} {fs : List (Str × V)} {f : Str} {v : V} {A : Around} {E : Value → Shared → Prop}
theorem Inv.made (I : Inv X pins σ H s) : Inv X pins σ (upd (upd H s.heap.objs.size (.own (s.heap.objs.size + 1))) (s.heap.objs.size + 1) (.ins C s.heap.objs.size []))
  { s with heap := (s.heap.push PySem.W.emptyDict).push (PySem.W.instObj C s.heap.objs.size) } := by
 have e1 : (s.heap.push PySem.W.emptyDict).get? s.heap.objs.size = some PySem.W.emptyDict := Heap.get?_push_size s.heap rfl
 have e2 : ((s.heap.push PySem.W.emptyDict).push (PySem.W.instObj C s.heap.objs.size)).get? (s.heap.objs.size + 1) = some (PySem.W.instObj C s.heap.objs.size) := by
  have := Heap.get?_push_size (s.heap.push PySem.W.emptyDict) (o := PySem.W.instObj C s.heap.objs.size) rfl
  rwa [Heap.size_push] at this
 have e3 : (s.heap.push PySem.W.emptyDict).Ns s.heap.objs.size (fun _ => none) := ⟨PySem.W.emptyDict, #[], _, e1, rfl, (fun e he => absurd he (by simp)), fun _ => rfl⟩
 have I1 := I.laid (a := s.heap.objs.size) (o := .own (s.heap.objs.size + 1)) (h' := s.heap.push PySem.W.emptyDict) (t' := s.toks) (fun b u q => Heap.get?_push_of_some _ q) (Nat.le_refl _) ⟨_, e1⟩
 refine I1.laid (a := s.heap.objs.size + 1) (o := .ins C s.heap.objs.size []) (t' := s.toks) (fun b u q => Heap.get?_push_of_some _ q) (Nat.le_of_eq (Heap.size_push _ _)) ?_
 have ne : s.heap.objs.size ≠ s.heap.objs.size + 1 := Nat.ne_of_lt (Nat.lt_succ_self _)
 refine ⟨by rw [upd_ne ne, upd_same], Nat.zero_le _, ne, e2, fun _ => none, (Heap.Ns1.of_empty e3).at fun o q => Heap.get?_push_of_some _ q, fun _ => True.intro, fun y hy => absurd rfl hy⟩
end
section
variable {X : Cx} {o e value : Expr} {f : Str} {pos pos' tpos : Pos} {ta tv : TE}
end
section
variable {X : Cx} {pins : List (Addr × Obj)} {σ : St} {H : Hp} {s : Shared} {A : Around} {E : Value → Shared → Prop} {Q : Value → Shared → Prop} {c : Value} {b : Bool}
inductive TyOf (K : PySem.W.Frag) (H : Hp) : V → Value → Prop where
 | non : TyOf K H .non (.type "NoneType")
 | bl (x : Bool) : TyOf K H (.bl x) (.type "bool")
 | int (i : Int) : TyOf K H (.int i) (.type "int")
 | str (x : Str) : TyOf K H (.str x) (.type "str")
 | flt (x : UInt64) : TyOf K H (.flt x) (.type "float")
 | lst {a : Addr} {xs : List V} (e : H a = some (.lst xs)) : TyOf K H (.ref a) (.type "list")
 | frz {a : Addr} {o : Obj} {xs : List V} (e : H a = some (.frz o (.lst xs))) : TyOf K H (.ref a) (.type "list")
 | tup {a : Addr} {xs : List V} (e : H a = some (.tup xs)) : TyOf K H (.ref a) (.type "tuple")
 | dK {a : Addr} {kvs : List (Key × V)} (e : H a = some (.dK kvs)) : TyOf K H (.ref a) (.type "dict")
 | dT {a : Addr} {kvs : List (List Key × V)} (e : H a = some (.dT kvs)) : TyOf K H (.ref a) (.type "dict")
 | ins {a C dx : Addr} {fs : List (Str × V)} (e : H a = some (.ins C dx fs)) (cl : Cls K C) (ha : PySem.W.findIn K (.ref C) "__class__" = some (some (.builtin "object.__class__")))
   (hn : PySem.W.specialIn K (.builtin "object.__class__") "__get__" = some (some (.builtin "getset_descriptor.__get__"))) (htk : PySem.W.takesIn K (.builtin "object.__class__") = some true)
   (hm : PySem.W.mroIn K C (.type "object") = some true) : TyOf K H (.ref a) (.ref C)
end
end L2
namespace L2
open PySem PySem.Spec PyProof.Rows
structure Room (k : Nat) (A : Around) : Prop where
 hd : A.handled = none
 dp : A.depth + 3 * k + 5 < recursionLimit
 un : A.units + 16 * k + 200 < cLine
theorem Room.mono {j k : Nat} {A : Around} (r : Room k A) (h : j ≤ k) : Room j A := ⟨r.hd, by have := r.dp; omega, by have := r.un; omega⟩
theorem Room.deeper {k : Nat} {A : Around} (r : Room (k + 1) A) (env : Env) : Room k (A.deeper env) :=
 ⟨r.hd, by have := r.dp; show A.depth + 1 + 3 * k + 5 < _; omega, by have := r.un; show A.units + 3 + 16 * k + 200 < _; omega⟩
theorem Room.in1 {k : Nat} {A : Around} (r : Room (k + 1) A) : Room k A.in1 :=
 ⟨r.hd, by have := r.dp; show A.depth + 3 * k + 5 < _; omega, by have := r.un; show A.units + 1 + 16 * k + 200 < _; omega⟩
theorem Room.depth {k : Nat} {A : Around} (r : Room k A) : A.depth < recursionLimit := by have := r.dp; omega
theorem Room.units {k : Nat} {A : Around} (r : Room k A) : A.units + 64 < cLine := by have := r.un; omega
noncomputable def tNil : TA := fun _ H Q => Q [] H
noncomputable def tCons (ta : TE) (tr : TA) : TA := fun σ H Q => ta σ H fun x H1 => tr σ H1 fun xs H2 => Q (x :: xs) H2
section
variable {X : Cx} {e : Expr} {es : List Expr} {te : TE} {t : TA} {pos : Pos}
theorem pa_nil : PA X [] tNil := fun _ _ _ _ H Q I h => Calls.spliced_nil ⟨[], H, I, .nil, h⟩
theorem pa_cons (ha : PE X e te) (hr : PA X es t) (hs : starEach (e :: es) X.env = (false, eval e X.env) :: starEach es X.env := by rfl) : PA X (e :: es) (tCons te t) := by
 intro pos pins s σ H Q I h
 rw [hs]
 show wpAny _ _ (spliced ((false, eval e X.env) :: backTo pos (starEach es X.env))) _ _ s
 refine Calls.spliced_cons (thn (ha pins s σ H _ I h) fun u s1 ⟨x, H1, I1, r1, q1⟩ => ?_)
 exact thn (hr pos pins s1 σ H1 _ I1 q1) fun us s2 ⟨xs, H2, I2, r2, q2⟩ => ⟨x :: xs, H2, I2, .cons r1 r2, q2⟩
noncomputable def tTup (t : TA) : TE := fun σ H Q => t σ H fun xs H1 => xs.length ≤ sizeLine ∧ ∀ p, H1 p = none → Q (.ref p) (upd H1 p (.tup xs))
noncomputable def tLst (t : TA) : TE := fun σ H Q => t σ H fun xs H1 => xs.length ≤ sizeLine ∧ ∀ p, H1 p = none → Q (.ref p) (upd H1 p (.lst xs))
theorem pe_tup {x1} (h : PA X es t) : PE X (.Tuple es x1 pos) (tTup t) := by
 intro pins s σ H Q I hq
 refine wpAny_Tuple_spliced (thn (h pos pins s σ H _ I hq) fun us s1 ⟨xs, H1, I1, r, z, q⟩ => ⟨by rw [← r.length]; exact z, ?_⟩)
 have hf : H1 s1.heap.objs.size = none := I1.hok.fresh (Nat.le_refl _)
 refine ⟨.ref s1.heap.objs.size, upd H1 s1.heap.objs.size (.tup xs), I1.laid (t' := s1.toks) (fun b u e => Heap.get?_push_of_some _ e) (Nat.le_refl _) ?_, rfl, q _ hf⟩
 exact ⟨z, us, r, ⟨_, Heap.get?_push_size _ rfl, rfl, _, rfl⟩⟩
theorem pe_lst (h : PA X es t) : PE X (.List es pos) (tLst t) := by
 intro pins s σ H Q I hq
 refine wpAny_List_spliced (thn (h pos pins s σ H _ I hq) fun us s1 ⟨xs, H1, I1, r, z, q⟩ => ⟨by rw [← r.length]; exact z, ?_⟩)
 have hf : H1 s1.heap.objs.size = none := I1.hok.fresh (Nat.le_refl _)
 refine ⟨.ref s1.heap.objs.size, upd H1 s1.heap.objs.size (.lst xs), I1.laid (t' := s1.toks) (fun b u e => Heap.get?_push_of_some _ e) (Nat.le_refl _) ?_, rfl, q _ hf⟩
 exact ⟨z, us, 0, r, Heap.get?_push_size _ rfl⟩
end
noncomputable abbrev Sp := List V → Hp → VK → XK → Prop
noncomputable abbrev CXT := List Env → Hp → Shared → XK → Value → Shared → Prop
structure Env0 (P : Program) (w : World) (K : PySem.W.Frag) (mg : Str → Option Value) (base : Heap) (A : Around) (outer : List Env) (s : Shared) (H : Hp) : Prop where
 frames : A.frames = some outer
 mod : Mod K mg base
 bs : ∀ b o, base.get? b = some o → s.heap.get? b = some o ∧ H b = none
 bsz : base.objs.size ≤ s.heap.objs.size
 funs : s.heap.FunFrames base outer
 frf : ∀ b ∈ frs outer, H b = none
 hok : HOk P w H s.heap
 bare : AllBare s.gens
noncomputable def CE (outer : List Env) (P : Program) (w : World) (H : Hp) (s : Shared) (Q : VK) (u : Value) (s' : Shared) : Prop :=
 ∃ v H', s'.os = s.os ∧ AllBare s'.gens ∧ Un (frs outer) [] H H' s.heap s'.heap ∧ HOk P w H' s'.heap ∧ RelV v u ∧ Q v H'
noncomputable def CR (CX : CXT) (outer : List Env) (P : Program) (w : World) (H : Hp) (s : Shared) (Q : VK) (E : XK) (r : Result) (s' : Shared) : Prop :=
 match r with
 | .ok (.ret u) => CE outer P w H s Q u s'
 | .ok _ => False
 | .error e => CX outer H s E e s'
structure FnOk (P : Program) (w : World) (K : PySem.W.Frag) (mg : Str → Option Value) (base : Heap) (CX : CXT) (k : Nat) (f : Addr) (fd : FuncData) (ps : List Str) (sp : Sp) : Prop where
 len : ∀ vs H Q E, sp vs H Q E → vs.length = ps.length
 run : ∀ (A : Around) (outer : List Env) (s : Shared) (H : Hp) (args : Args) (us : List Value) (vs : List V) (Q : VK) (E : XK), Room k A → Env0 P w K mg base A outer s H → BindsTo s fd args (ps.zip us) → Vals vs us → sp vs H Q E →
  codeAny (model P w) A (.call (.ref f) args) (CR CX outer P w H s Q E) s
theorem FnOk.mono {P : Program} {w : World} {K : PySem.W.Frag} {mg : Str → Option Value} {base : Heap} {CX : CXT} {j k : Nat} {f : Addr} {fd : FuncData} {ps : List Str} {sp : Sp} (F : FnOk P w K mg base CX j f fd ps sp) (h : j ≤ k) :
  FnOk P w K mg base CX k f fd ps sp := ⟨F.len, fun A outer s H args us vs Q E hr => F.run A outer s H args us vs Q E (hr.mono h)⟩
theorem FnOk.imp {P : Program} {w : World} {K : PySem.W.Frag} {mg : Str → Option Value} {base : Heap} {CX : CXT} {k : Nat} {f : Addr} {fd : FuncData} {ps : List Str} {sp sp' : Sp} (F : FnOk P w K mg base CX k f fd ps sp)
  (h : ∀ vs H Q E, sp' vs H Q E → sp vs H Q E) : FnOk P w K mg base CX k f fd ps sp' :=
 ⟨fun vs H Q E q => F.len vs H Q E (h _ _ _ _ q), fun A outer s H args us vs Q E hr he hb hv hs => F.run A outer s H args us vs Q E hr he hb hv (h _ _ _ _ hs)⟩
theorem Env0.in1 {P : Program} {w : World} {K : PySem.W.Frag} {mg : Str → Option Value} {base : Heap} {A : Around} {outer : List Env} {s : Shared} {H : Hp} (e : Env0 P w K mg base A outer s H) :
  Env0 P w K mg base A.in1 outer s H := ⟨e.frames, e.mod, e.bs, e.bsz, e.funs, e.frf, e.hok, e.bare⟩
section
variable {X : Cx} {pins : List (Addr × Obj)} {σ : St} {H : Hp} {s s' : Shared}
theorem Inv.env0 (I : Inv X pins σ H s) : Env0 X.prog X.w X.K X.mg X.base X.A X.stack s H :=
 ⟨I.ok.frames, I.ok.mod, I.bs, Nat.le_trans I.ok.bsz I.sz, I.stack, I.stkFree, I.hok, I.bare⟩
theorem Inv.after {Q : VK} {u : Value} (I : Inv X pins σ H s) (h : CE X.stack X.prog X.w H s Q u s') : EP X pins σ Q u s' := by
 obtain ⟨v, H', os, bare, un, hok, r, q⟩ := h
 obtain ⟨hh, g, d, t, os'⟩ := s'
 obtain rfl : os' = s.os := os
 exact ⟨v, H', I.call (h' := hh) (g' := g) (d' := d) (t' := t) (ch := []) un hok bare (fun b z => absurd z (by simp)), r, q⟩
end
noncomputable def tCall (sp : Sp) (dvs : List V) (E : XK) (t : TA) : TE := fun σ H Q => t σ H fun vs H1 => sp (vs ++ dvs) H1 Q E
noncomputable def Binds (K : PySem.W.Frag) (fd : FuncData) (ps : List Str) (ds : List Value) : Prop :=
 ∀ (s : Shared) (us : List Value), K.In s.heap → (us ++ ds).length = ps.length → BindsTo s fd ⟨us, []⟩ (ps.zip (us ++ ds))
theorem Binds.all {K : PySem.W.Frag} {fd : FuncData} {ps : List Str} (h : ∀ us : List Value, us.length = ps.length → bindArgs fd ⟨us, []⟩ = pure (ps.zip us)) : Binds K fd ps [] := fun s us _ hl => by
 rw [List.append_nil] at hl ⊢
 exact .of_eq (h us hl)
noncomputable def Passes (CX : CXT) (X : Cx) (E : XK) : Prop := ∀ (pins : List (Addr × Obj)) (σ : St) (H : Hp) (s : Shared) (e : Value) (s' : Shared), Inv X pins σ H s → CX X.stack H s E e s' → X.xe e s'
section
variable {X : Cx} {CX : CXT} {k : Nat} {f C : Addr} {fd : FuncData} {ps : List Str} {sp : Sp} {dvs : List V} {ds : List Value} {E : XK} {x m : Str} {p pos apos : Pos} {e o : Expr} {es : List Expr} {ta : TE} {t : TA}
theorem run_fn {pins : List (Addr × Obj)} {σ : St} {H : Hp} {s : Shared} {Q : VK} {us : List Value} {vs : List V} (F : FnOk X.prog X.w X.K X.mg X.base CX k f fd ps sp) (hr : Room k X.A) (hb : Binds X.K fd ps ds) (hd : Vals dvs ds) (hx : Passes CX X E)
  (I : Inv X pins σ H s) (r : Vals vs us) (h : sp (vs ++ dvs) H Q E) : wpAny (model X.prog X.w) X.A (call (.ref f) us) (EP X pins σ Q) X.xe s := by
 have r2 : Vals (vs ++ dvs) (us ++ ds) := r.append hd
 have hl : (us ++ ds).length = ps.length := by rw [← r2.length]; exact F.len _ _ _ _ h
 refine wpAny_call (codeAny_mono (F.run X.A X.stack s H ⟨us, []⟩ (us ++ ds) (vs ++ dvs) Q E hr I.env0 (hb s us I.kIn hl) r2 h) fun r s' hq => ?_)
 cases r with
 | error e => exact hx pins σ H s e s' I hq
 | ok fl =>
  cases fl with
  | ret u => exact I.after hq
  | next => exact False.elim hq
  | brk => exact False.elim hq
  | cont => exact False.elim hq
theorem pe_call (F : FnOk X.prog X.w X.K X.mg X.base CX k f fd ps sp) (hr : Room k X.A) (hg : Gl X x) (hm : X.mg x = some (.ref f)) (hk : PySem.W.keepIn X.K (.ref f) = true) (hb : Binds X.K fd ps ds) (hd : Vals dvs ds) (hx : Passes CX X E)
  (ha : PA X (e :: es) t) (hdb : (x == ("__debug__" : Str)) = false := by decide) (he : starEach (e :: es) X.env = (false, eval e X.env) :: starEach es X.env := by rfl) (hpl : (backTo pos (starEach es X.env)).any (·.1) = false := by rfl) :
  PE X (.Call (.Name x p) (e :: es) [] pos) (tCall sp dvs E t) := by
 intro pins s σ H Q I h
 refine wpAny_Call_Name_kw (ld_glob I hg hm ?_ hdb)
 refine PySem.W.callWith_K (h₀ := X.base) I.ok.mod.kin hk (thn (ha pos pins s σ H _ I h) fun us s1 ⟨vs, H1, I1, r, q⟩ => ⟨I1.kIn, ?_⟩) he hpl
 exact run_fn F hr hb hd hx I1 r q
theorem pe_call0 (F : FnOk X.prog X.w X.K X.mg X.base CX k f fd ps sp) (hr : Room k X.A) (hg : Gl X x) (hm : X.mg x = some (.ref f)) (hk : PySem.W.keepIn X.K (.ref f) = true) (hb : Binds X.K fd ps ds) (hd : Vals dvs ds) (hx : Passes CX X E)
  (hdb : (x == ("__debug__" : Str)) = false := by decide) : PE X (.Call (.Name x p) [] [] pos) (tCall sp dvs E tNil) := by
 intro pins s σ H Q I h
 refine wpAny_Call_Name_kw (ld_glob I hg hm ?_ hdb)
 exact PySem.W.callWith_K0 I.kIn hk (run_fn (us := []) F hr hb hd hx I .nil h)
structure Mk (K : PySem.W.Frag) (C f : Addr) : Prop where
 makes : PySem.W.makesIn K C = true
 init : PySem.W.findIn K (.ref C) "__init__" = some (some (.ref f))
 fn : PySem.W.isFn K (.ref f) = true
 kp : PySem.W.keepIn K (.ref C) = true
end
section
variable {X : Cx} {CX : CXT} {k : Nat} {f C : Addr} {fd : FuncData} {ps ks : List Str} {sp : Sp} {E : XK} {x m : Str} {p pos apos kpos : Pos} {e o : Expr} {es : List Expr} {kws : List Keyword} {te ta : TE} {t tk : TA} {nm : Option Str}
structure KBinds (K : PySem.W.Frag) (fd : FuncData) (ps ks : List Str) (g : List Value → List Value → List Value) (gV : List V → List V → List V) : Prop where
 to : ∀ (s : Shared) (us ws : List Value), K.In s.heap → (g us ws).length = ps.length → BindsTo s fd ⟨us, ks.zip ws⟩ (ps.zip (g us ws))
 rel : ∀ {vs : List V} {us : List Value} {zs : List V} {ws : List Value}, Vals vs us → Vals zs ws → Vals (gV vs zs) (g us ws)
variable {g : List Value → List Value → List Value} {gV : List V → List V → List V}
end
structure FnScope (N P : List Str) (sc : Scope) : Prop where
 kind : sc.kind = .function
 co : sc.isCoroutine = false
 gen : sc.isGenerator = false
 nd : N.Nodup
 pre : N.take P.length = P
 par : ∀ x ∈ P, sc.names.lookup x = some .local ∨ sc.names.lookup x = some .cell
 nofree : ∀ y ∈ sc.names, y.2 ≠ .free
theorem bindL_out {kindOf : Str → Option NameKind} {x : Str} : ∀ {binds : List (Str × Value)} {m : Str → Option Value}, (∀ v, (x, v) ∉ binds) → bindL kindOf binds m x = m x
 | [], _, _ => rfl
 | (n, v) :: r, m, h => by
  unfold bindL
  rw [bindL_out fun w hw => h w (List.mem_cons_of_mem _ hw)]
  split
  ·have : x ≠ n := by rintro rfl; exact h v List.mem_cons_self
   simp [this]
  ·rfl
theorem bindC_out {kindOf : Str → Option NameKind} {x : Str} : ∀ {binds : List (Str × Value)} {m : Str → Option Value}, (∀ v, (x, v) ∉ binds) → bindC kindOf binds m x = m x
 | [], _, _ => rfl
 | (n, v) :: r, m, h => by
  unfold bindC
  rw [bindC_out fun w hw => h w (List.mem_cons_of_mem _ hw)]
  split
  ·rfl
  ·have : x ≠ n := by rintro rfl; exact h v List.mem_cons_self
   simp [this]
theorem bindL_get {kindOf : Str → Option NameKind} {x : Str} {v : Value} : ∀ {P : List Str} {vs : List Value} {i : Nat} {m : Str → Option Value}, P.Nodup → P[i]? = some x → vs[i]? = some v → kindOf x = some .local →
  bindL kindOf (P.zip vs) m x = some v
 | [], _, _, _, _, h, _, _ => by simp at h
 | _ :: _, [], _, _, _, _, h, _ => by simp at h
 | p :: P, w :: vs, 0, m, nd, h1, h2, hk => by
  simp at h1 h2; subst h1; subst h2
  show bindL kindOf ((p, w) :: P.zip vs) m p = _
  unfold bindL
  rw [bindL_out fun v hv => (List.nodup_cons.mp nd).1 (List.of_mem_zip hv).1, if_pos hk]
  simp
 | p :: P, w :: vs, i + 1, m, nd, h1, h2, hk => by
  show bindL kindOf ((p, w) :: P.zip vs) m x = _
  unfold bindL
  exact bindL_get (i := i) (List.nodup_cons.mp nd).2 (by simpa using h1) (by simpa using h2) hk
theorem bindC_get {kindOf : Str → Option NameKind} {x : Str} {v : Value} : ∀ {P : List Str} {vs : List Value} {i : Nat} {m : Str → Option Value}, P.Nodup → P[i]? = some x → vs[i]? = some v → kindOf x ≠ some .local →
  bindC kindOf (P.zip vs) m x = some v
 | [], _, _, _, _, h, _, _ => by simp at h
 | _ :: _, [], _, _, _, _, h, _ => by simp at h
 | p :: P, w :: vs, 0, m, nd, h1, h2, hk => by
  simp at h1 h2; subst h1; subst h2
  show bindC kindOf ((p, w) :: P.zip vs) m p = _
  unfold bindC
  rw [bindC_out fun v hv => (List.nodup_cons.mp nd).1 (List.of_mem_zip hv).1, if_neg hk]
  simp
 | p :: P, w :: vs, i + 1, m, nd, h1, h2, hk => by
  show bindC kindOf ((p, w) :: P.zip vs) m x = _
  unfold bindC
  exact bindC_get (i := i) (List.nodup_cons.mp nd).2 (by simpa using h1) (by simpa using h2) hk
noncomputable def start (N : List Str) (vs : List V) : St := vs.map some ++ List.replicate (N.length - vs.length) none
noncomputable def cxOf (CX : CXT) (P : Program) (w : World) (K : PySem.W.Frag) (mg : Str → Option Value) (base : Heap) (N : List Str) (qual : Str) (scope : Scope) (f : Addr) (cd : Value) (A : Around) (outer : List Env) (s : Shared) (H : Hp) (E : XK) : Cx where
 prog := P
 w := w
 K := K
 mg := mg
 base := base
 A := A.deeper (envOfC qual scope s.heap.objs.size f cd)
 N := N
 s₀ := s
 H₀ := H
 env := envOfC qual scope s.heap.objs.size f cd
 outer := outer
 stack := envOfC qual scope s.heap.objs.size f cd :: outer
 ex := []
 calm := true
 fn := fun x => decide (x ∉ lamCaps)
 pn := []
 xe := fun e s' => wpAny (model P w) (A.deeper (envOfC qual scope s.heap.objs.size f cd)) (leaving (envOfC qual scope s.heap.objs.size f cd) e) (fun _ s'' => CX outer H s E e s'') (fun e' s'' => CX outer H s E e' s'') s'
theorem cell_has {sc : Scope} {n : Nat} {x : Str} (h : sc.names.lookup x = some .cell) : ∃ c, (cellsFrom n sc.names []).lookup x = some c := by
 have q := PySem.W.cellsFrom_some sc.names n [] (.inl h)
 exact Option.isSome_iff_exists.mp q
theorem inv_start {CX : CXT} {P : Program} {w : World} {K : PySem.W.Frag} {mg : Str → Option Value} {base : Heap} {N ps : List Str} {qual : Str} {scope : Scope} {f : Addr} {cd : Value} {A : Around} {outer : List Env} {s s1 : Shared} {H : Hp} {E : XK} {us : List Value} {vs : List V}
  (S : FnScope N ps scope) (hd : A.handled = none) (e0 : Env0 P w K mg base A outer s H) (hl : vs.length = ps.length) (r : Vals vs us)
  (x : InCallC s s.heap.objs.size (bindL (envOfC qual scope s.heap.objs.size f cd).kindOf (ps.zip us) fun _ => none) (cellsFrom (s.heap.objs.size + 1) scope.names []) (bindC (envOfC qual scope s.heap.objs.size f cd).kindOf (ps.zip us) fun _ => none) s1) :
  Inv (cxOf CX P w K mg base N qual scope f cd A outer s H E) [] (start N vs) H s1 := by
 have hpl : ps.length ≤ N.length := by have := congrArg List.length S.pre; rw [List.length_take] at this; omega
 obtain ⟨h1, tk, rfl, hk⟩ := x.done
 have noA : ∀ b : Addr, b ∉ (cxOf CX P w K mg base N qual scope f cd A outer s H E).ex := fun b z => absurd (show b ∈ ([] : List Addr) from z) (by simp)
 refine ⟨⟨e0.mod, S.kind, rfl, rfl, Nat.le_refl _, fun y z c h1 h2 => ?_, fun y hy => ?_, fun y c _ h => ?_, fun _ => hd, Around.frames_deeper e0.frames, .inr ⟨rfl, rfl⟩, fun b z => absurd z (noA b), e0.bs, e0.bsz, fun b _ _ => noA b, fun b z => absurd z (noA b), e0.funs, e0.frf⟩,
  rfl, e0.bare, Un.kept hk, ⟨_, x.toInCall.ns, fun i y v h1 h2 h3 => ?_⟩, fun y c h => ⟨_, x.cell y c h⟩, e0.hok.fresh (Nat.le_refl _), fun y c h => ?_, fun p hp => absurd (show p ∈ ([] : List (Addr × Obj)) from hp) (by simp), e0.hok.kept hk, ?_⟩
 ·exact name_of_addr x.apart (PySem.mem_of_lookup h1) (PySem.mem_of_lookup h2)
 ·have hy : scope.names.lookup y = some .cell ∨ scope.names.lookup y = some .free := hy
  rcases hy with hy | hy
  ·exact cell_has hy
  ·exact absurd rfl (S.nofree _ (PySem.mem_of_lookup hy))
 ·exact Nat.le_of_lt (x.above y c (PySem.mem_of_lookup h))
 ·have hi : i < vs.length := by
   unfold start at h2
   by_cases hi : i < vs.length
   ·exact hi
   ·rw [List.getElem?_append_right (by simpa using hi)] at h2
    rw [List.getElem?_replicate] at h2
    split at h2 <;> cases h2
  have ha : vs[i]? = some v := by
   unfold start at h2
   rw [List.getElem?_append_left (by simpa using hi), List.getElem?_map] at h2
   cases e : vs[i]? with
   | none => rw [e] at h2; cases h2
   | some a => rw [e] at h2; cases h2; rfl
  obtain ⟨u, hu, rv⟩ := r.get ha
  have hp : ps[i]? = some y := by
   rw [← S.pre, List.getElem?_take_of_lt (by omega)]; exact h1
  have ndP : ps.Nodup := by rw [← S.pre]; exact S.nd.sublist (List.take_sublist _ _)
  refine ⟨u, rv, ?_⟩
  rcases S.par y (List.mem_of_getElem? hp) with k | k
  ·exact .inl ⟨k, bindL_get ndP hp hu k⟩
  ·obtain ⟨c, e⟩ := cell_has (n := s.heap.objs.size + 1) k
   refine .inr ⟨.inl k, c, e, ?_⟩
   have q := x.cell y c e
   rw [bindC_get ndP hp hu (by show scope.names.lookup y ≠ _; rw [k]; decide)] at q
   exact q
 ·exact .inl (e0.hok.fresh (Nat.le_of_lt (x.above y c (PySem.mem_of_lookup h))))
 ·unfold start
  show _ = N.length
  rw [List.length_append, List.length_map, List.length_replicate]
  omega
theorem fn_of {CX : CXT} {P : Program} {w : World} {K : PySem.W.Frag} {mg : Str → Option Value} {base : Heap} {k : Nat} {f : Addr} {name qual : Str} {params : Arguments} {body : List Stmt} {scope : Scope} {dV kV doc pm cdv ct oc : Value} {an od : Option Addr}
  {osl : Array (Option Value)} {N ps : List Str} {sp : Sp} (lk : K.lookup f = some ⟨oc, od, .func (PySem.W.fnOf name qual params body scope dV kV doc pm an cdv ct), osl⟩) (hcd : PySem.W.codeIn K cdv qual = true) (S : FnScope N ps scope)
  (len : ∀ vs H Q E, sp vs H Q E → vs.length = ps.length)
  (hbody : ∀ (A : Around) (outer : List Env) (s : Shared) (H : Hp) (vs : List V) (Q : VK) (E : XK), Room k (A.deeper (envOfC qual scope s.heap.objs.size f cdv)) → sp vs H Q E →
   ∃ t, PSs (cxOf CX P w K mg base N qual scope f cdv A outer s H E) body t ∧ t { nx := fun _ H' => Q .non H', rt := Q } (start N vs) H) :
  FnOk P w K mg base CX (k + 1) f (PySem.W.fnOf name qual params body scope dV kV doc pm an cdv ct) ps sp := by
 refine ⟨len, fun A outer s H args us vs Q E hr e0 hb r hsp => ?_⟩
 have hl := len _ _ _ _ hsp
 have KX : K.In s.heap := e0.mod.kin.keeps fun b o e => (e0.bs b o e).1
 have lim : s.heap.NoLimit := e0.mod.nolimit.keeps fun b o e => (e0.bs b o e).1
 have hkind : ∀ y ∈ ps.zip us, scope.names.lookup y.1 = some .local ∨ (scope.names.lookup y.1 = some .cell ∧ ((cellsFrom (s.heap.objs.size + 1) scope.names []).lookup y.1).isSome = true) := fun ⟨n, v⟩ hy => by
  rcases S.par n (List.of_mem_zip hy).1 with q | q
  ·exact .inl q
  ·exact .inr ⟨q, PySem.W.cellsFrom_some _ _ _ (.inl q)⟩
 refine codeAny_call_function hr.depth (KX _ _ lk) rfl S.co S.gen rfl (PySem.W.codeRec_of KX hcd) (hb _ _ _ _ ?_)
 refine wpAny_newFunctionEnv_cells S.kind hkind fun env he s1 x => ?_
 subst he
 refine ⟨lim.keeps x.toInCall.keep, codeAny_func ?_⟩
 obtain ⟨t, ht, hq⟩ := hbody A outer s H vs Q E (hr.deeper _) hsp
 have I : Inv (cxOf CX P w K mg base N qual scope f cdv A outer s H E) [] (start N vs) H s1 := inv_start S hr.hd e0 hl r x
 refine wpAny_mono (ht [] s1 (start N vs) H _ I hq) (fun fl s' hs => ?_) fun e s' hs => hs
 have fin : ∀ {σ' : St} {H' : Hp} {v : V} {u : Value}, Inv (cxOf CX P w K mg base N qual scope f cdv A outer s H E) [] σ' H' s' → RelV v u → Q v H' → CE outer P w H s Q u s' :=
  fun {σ' H' v u} J rv q => ⟨v, H', J.os, J.bare, J.base, J.hok, rv, q⟩
 cases fl with
 | ret u =>
  obtain ⟨v, σ', H', J, rv, q⟩ := hs
  exact fin J rv q
 | next =>
  obtain ⟨σ', H', J, q⟩ := hs
  exact fin (v := V.non) (u := Value.none) J rfl q
 | brk =>
  obtain ⟨_, _, _, q⟩ := hs
  exact False.elim q
 | cont =>
  obtain ⟨_, _, _, q⟩ := hs
  exact False.elim q
end L2
namespace L2
open PySem PySem.Spec PyProof.Rows
section
variable {X : Cx} {x : Str} {p pos : Pos} {e : Expr} {es : List Expr} {t : TA} {id T : String} {r : List V → Hp → VK → Prop}
noncomputable def tCB (r : List V → Hp → VK → Prop) (t : TA) : TE := fun σ H Q => t σ H fun vs H1 => r vs H1 Q
theorem pe_callB (hc : CallR X (.builtin id) r) (hg : Gl X x) (hm : X.mg x = none) (hv : bootBuiltins x = some (.builtin id)) (ha : PA X (e :: es) t) (hn : x ≠ "__name__" := by decide) (hdb : (x == ("__debug__" : Str)) = false := by decide)
  (he : starEach (e :: es) X.env = (false, eval e X.env) :: starEach es X.env := by rfl) (hpl : (backTo pos (starEach es X.env)).any (·.1) = false := by rfl) : PE X (.Call (.Name x p) (e :: es) [] pos) (tCB r t) := by
 intro pins s σ H Q I h
 refine wpAny_Call_Name_kw (ld_blt I hg hm hv ?_ hn hdb)
 exact PyProof.Rows.callWith_builtin1 (thn (ha pos pins s σ H _ I h) fun us s1 ⟨vs, H1, I1, r1, q1⟩ => hc pins s1 σ H1 vs us Q I1 r1 q1) he hpl
theorem pe_callTy (hc : CallR X (.type T) r) (hg : Gl X x) (hm : X.mg x = none) (hv : bootBuiltins x = some (.type T)) (ha : PA X (e :: es) t) (hn : x ≠ "__name__" := by decide) (hdb : (x == ("__debug__" : Str)) = false := by decide)
  (he : starEach (e :: es) X.env = (false, eval e X.env) :: starEach es X.env := by rfl) (hpl : (backTo pos (starEach es X.env)).any (·.1) = false := by rfl) : PE X (.Call (.Name x p) (e :: es) [] pos) (tCB r t) := by
 intro pins s σ H Q I h
 refine wpAny_Call_Name_kw (ld_blt I hg hm hv ?_ hn hdb)
 exact PyProof.Rows.callWith_type1 (thn (ha pos pins s σ H _ I h) fun us s1 ⟨vs, H1, I1, r1, q1⟩ => hc pins s1 σ H1 vs us Q I1 r1 q1) he hpl
end
end L2
namespace HT
open PySem PyProof.Rows
section
open PySem.SeqAt
open PySem.AutoSeq1 (wpAny_loadPart')
open PySem.MeetsSeq PySem.MeetsSeq2 PySem.MeetsSeq3
end
section
variable {prog : Program} {w : World} {A : Around} {E : Value → Shared → Prop} {s : Shared}
theorem cat_tup {t b : Addr} {vs ws : List Value} {Q : Value → Shared → Prop} (ht : IsTup s.heap t vs.toArray) (hb : IsTup s.heap b ws.toArray) (hv : vs ≠ [])
  (h1 : ws = [] → Q (.ref t) s) (h2 : ws ≠ [] → Q (.ref s.heap.objs.size) { s with heap := s.heap.push { cls := .type "tuple", data := .seq (vs ++ ws).toArray } })
  (hsz : vs.length + ws.length ≤ sizeLine) : wpAny (model prog w) A (binaryOp .Add (.ref t) (.ref b)) Q E s := by
 obtain ⟨⟨cls, dd, data, sl⟩, ho, hc, n, hd⟩ := id ht
 obtain ⟨⟨cls2, dd2, data2, sl2⟩, ho2, hc2, n2, hd2⟩ := id hb
 simp only at hc hd hc2 hd2
 subst hc hd hc2 hd2
 have e : vs.toArray ++ ws.toArray = (vs ++ ws).toArray := by simp
 by_cases hw : ws = []
 ·exact concat_meets ⟨_, ho, rfl⟩ ⟨_, ho2, rfl⟩ noFill_tuple_add seq_tuple_add PySem.F.slot_tuple_add PySem.F.entry_tuple_add (PySem.F.args_tuple_add_2 _ _)
   (tuple_addW1 t b vs.toArray ws.toArray n n2 dd dd2 sl sl2 (by simpa using hv) (by simp [hw])) ⟨ho, ho2, h1 hw⟩
 ·refine concat_meets ⟨_, ho, rfl⟩ ⟨_, ho2, rfl⟩ noFill_tuple_add seq_tuple_add PySem.F.slot_tuple_add PySem.F.entry_tuple_add (PySem.F.args_tuple_add_2 _ _)
   (tuple_addW2 t b vs.toArray ws.toArray n n2 dd dd2 sl sl2 (by simpa using hv) (by simpa using hw) (by rw [List.size_toArray, List.size_toArray]; exact hsz)) ⟨ho, ho2, ?_⟩
  rw [e]
  exact h2 hw
noncomputable def sIx (n d : Nat) : Option Int → Nat
 | none => d
 | some v => if v < 0 then (v + (n : Int)).toNat else min v.toNat n
theorem sIx_le (n d : Nat) (hd : d ≤ n) (o : Option Int) : sIx n d o ≤ n := by
 cases o with
 | none => exact hd
 | some v =>
  show (if v < 0 then (v + (n : Int)).toNat else min v.toNat n) ≤ n
  by_cases hv : v < 0
  ·rw [if_pos hv]; omega
  ·rw [if_neg hv]; exact Nat.min_le_right _ _
theorem clip_eq (v : Int) (n d : Nat) : (if v < 0 then max (v + (n : Int)) 0 else min v (n : Int)) = ((sIx n d (some v) : Nat) : Int) := by
 show (if v < 0 then max (v + (n : Int)) 0 else min v (n : Int)) = (((if v < 0 then (v + (n : Int)).toNat else min v.toNat n) : Nat) : Int)
 by_cases hv : v < 0
 ·simp only [if_pos hv]; omega
 ·simp only [if_neg hv]; omega
theorem adjust_gen (lo hi : Option Int) (n : Nat) : Builtin.Slice.sliceAdjust lo hi 1 (n : Int) = (((sIx n 0 lo : Nat) : Int), ((sIx n n hi : Nat) : Int)) := by
 have h1 : ¬ ((1 : Int) < 0) := by omega
 unfold Builtin.Slice.sliceAdjust
 simp only [h1, if_false]
 refine Prod.ext ?_ ?_
 ·cases lo with
  | none => rfl
  | some v => exact clip_eq v n 0
 ·cases hi with
  | none => rfl
  | some v => exact clip_eq v n n
theorem places_gen (i j : Nat) : Builtin.Slice.slicePlaces (i : Int) (j : Int) 1 = j - i := by
 unfold Builtin.Slice.slicePlaces
 have h1 : (1 : Int) > 0 := by omega
 simp only [h1, if_true, Int.ediv_one]
 split <;> omega
theorem slicePart_ {v : Value} {o : Option Int} {Q : Option Int → Shared → Prop} (p : IsPart v o) (h : Q o s) : wpAny (model prog w) A (Builtin.Slice.slicePartIndex v) Q E s := by
 cases p with
 | none => exact slicePart_none h
 | int i t => exact slicePart_int h
theorem sliceApplied_gen {sl : Addr} {vl vu : Value} {lo hi : Option Int} {n : Nat} {Q : Int × Int × Nat → Shared → Prop} (hs : s.heap.IsSliceOf sl vl vu .none) (pl : IsPart vl lo) (pu : IsPart vu hi)
  (h : Q (((sIx n 0 lo : Nat) : Int), 1, sIx n n hi - sIx n 0 lo) s) : wpAny (model prog w) A (Builtin.Slice.sliceApplied (.ref sl) (pure (n : Int))) Q E s := by
 obtain ⟨os, hos, hcs, hds⟩ := id hs
 unfold Builtin.Slice.sliceApplied Builtin.Slice.sliceFields
 refine wpAny_bind (wpAny_bind (wpAny_field hos hds (x := vl) rfl (wpAny_bind (wpAny_field hos hds (x := vu) rfl (wpAny_bind (wpAny_field hos hds (x := .none) rfl (wpAny_pure ?_)))))))
 refine wpAny_bind (slicePart_none ?_)
 show wpAny _ _ (if ((1 : Int) == 0) = true then _ else _) _ _ s
 rw [if_neg (by decide)]
 refine wpAny_bind (slicePart_ pl (wpAny_bind (slicePart_ pu (wpAny_bind (wpAny_pure ?_)))))
 show wpAny _ _ (match Builtin.Slice.sliceAdjust lo hi 1 (n : Int) with | (lo, hi) => pure (lo, (1 : Int), Builtin.Slice.slicePlaces lo hi 1)) _ _ s
 rw [adjust_gen lo hi n]
 show wpAny _ _ (pure (((sIx n 0 lo : Nat) : Int), (1 : Int), Builtin.Slice.slicePlaces ((sIx n 0 lo : Nat) : Int) ((sIx n n hi : Nat) : Int) 1)) _ _ s
 rw [places_gen]
 exact wpAny_pure h
theorem pick_gen (xs : Array Value) (i k : Nat) : ((List.range k).filterMap fun (m : Nat) => xs[((i : Int) + (m : Int) * 1).toNat]?).toArray = ((xs.toList.drop i).take k).toArray := by
 have e : (fun (m : Nat) => xs[((i : Int) + (m : Int) * 1).toNat]?) = fun m => xs[i + m]? := by
  funext m
  have : ((i : Int) + (m : Int) * 1).toNat = i + m := by omega
  rw [this]
 rw [e]
 have := pick_run xs i k
 rw [List.filterMap_map] at this
 have e2 : ((fun x => xs[x]?) ∘ fun x => i + x) = fun m => xs[i + m]? := rfl
 rw [e2] at this
 rw [this]
theorem getItem_tuple_cut {t sl : Addr} {items : Array Value} {vl vu : Value} {lo hi : Option Int} {Q : Value → Shared → Prop} (ht : IsTup s.heap t items) (hs : s.heap.IsSliceOf sl vl vu .none) (pl : IsPart vl lo) (pu : IsPart vu hi)
  (hw : ¬ (sIx items.size 0 lo = 0 ∧ sIx items.size items.size hi = items.size))
  (h : Q (.ref s.heap.objs.size) { s with heap := s.heap.push { cls := .type "tuple", data := .seq ((items.toList.drop (sIx items.size 0 lo)).take (sIx items.size items.size hi - sIx items.size 0 lo)).toArray } })
  (hsz : items.size ≤ sizeLine) : wpAny (model prog w) A (getItem (.ref t) (.ref sl)) Q E s := by
 have htake : sizeOk (.seq ((items.toList.drop (sIx items.size 0 lo)).take (sIx items.size items.size hi - sIx items.size 0 lo)).toArray) := by
  show ((items.toList.drop (sIx items.size 0 lo)).take (sIx items.size items.size hi - sIx items.size 0 lo)).toArray.size ≤ sizeLine
  rw [List.size_toArray, List.length_take, List.length_drop, Array.length_toList]
  omega
 have hj : sIx items.size items.size hi ≤ items.size := sIx_le _ _ (Nat.le_refl _) hi
 obtain ⟨os, hos, hcs, hds⟩ := id hs
 have hTs : s.TypeIs (.ref sl) "slice" := ⟨os, hos, hcs⟩
 unfold getItem
 try with_reducible refine wpAny_holding ?_
 first | refine wpAny_bind (wpAny_pure ?_) | skip
 refine wpAny_bind (wpAny_sequenceKey ht.typeIs (by decide) ?_)
 refine wpAny_bind (wpAny_callSpecial?_slot (name := Str.ofString "__getitem__") ht.typeIs PyProof.Rows.slot_tuple_getitem
  (wpAny_call_entry PyProof.Rows.slot_tuple_getitem ht.typeIs entry_tuple_getitem ?_ (args_tuple_getitem _ _)))
 show wpAny _ _ (Builtin.Tuple.tupleItemsOf (.ref t) >>= _) _ _ s
 refine wpAny_bind (tupleItemsOf_ ht ?_)
 refine wpAny_bind (wpAny_typeOf hTs ?_)
 rw [if_pos (by decide)]
 refine wpAny_bind (sliceApplied_gen hs pl pu ?_)
 have hno : ¬ ((((sIx items.size 0 lo : Nat) : Int) == 0 && (1 : Int) == 1 && (sIx items.size items.size hi - sIx items.size 0 lo) == items.size) = true) := by
  intro q
  rw [Bool.and_eq_true, Bool.and_eq_true] at q
  have q1 : ((sIx items.size 0 lo : Nat) : Int) = 0 := eq_of_beq q.1.1
  have q2 : sIx items.size items.size hi - sIx items.size 0 lo = items.size := eq_of_beq q.2
  exact hw ⟨by omega, by omega⟩
 show wpAny _ _ (if (((sIx items.size 0 lo : Nat) : Int) == 0 && (1 : Int) == 1 && (sIx items.size items.size hi - sIx items.size 0 lo) == items.size) = true then _ else _) _ _ s
 rw [if_neg hno, pick_gen]
 first
  | exact wpAny_bind (m := Builtin.Tuple.tupleExact _) (wpAny_newObj_type (wpAny_pure ⟨_, rfl, wpAny_pure h⟩) htake)
  | exact wpAny_bind (m := Builtin.Tuple.tupleExact _) (wpAny_newObj_type (wpAny_bind (wpAny_pure (wpAny_pure ⟨_, rfl, wpAny_pure h⟩))) htake)
  | exact wpAny_bind (wpAny_bind (m := Builtin.Tuple.tupleExact _) (wpAny_newObj_type (wpAny_pure (wpAny_pure ⟨_, rfl, wpAny_pure h⟩)) htake))
  | exact wpAny_bind (wpAny_bind (m := Builtin.Tuple.tupleExact _) (wpAny_newObj_type (wpAny_pure ⟨_, rfl, wpAny_pure h⟩) htake))
end
end HT
namespace L2
open PySem PySem.Spec PyProof.Rows
noncomputable abbrev TO := St → Hp → (Option Int → Hp → Prop) → Prop
noncomputable def PO (X : Cx) (e : Option Expr) (t : TO) : Prop :=
 ∀ (pins : List (Addr × Obj)) (s : Shared) (σ : St) (H : Hp) (Q : Option Int → Hp → Prop), Inv X pins σ H s → t σ H Q →
  wpAny (model X.prog X.w) X.A (evalPart e X.env) (fun u s' => ∃ o H', Inv X pins σ H' s' ∧ IsPart u o ∧ Q o H') X.xe s
noncomputable def tNoPart : TO := fun _ H Q => Q none H
noncomputable def tPart (t : TE) : TO := fun σ H Q => t σ H fun x H1 => ∃ i, x = .int i ∧ Q (some i) H1
theorem intsAre_of {ns : List Int} : ∀ {us : List Value}, Vals (ns.map V.int) us → IntsAre us ns := by
 induction ns with
 | nil => intro us r; rw [List.map_nil] at r; cases r; exact .nil
 | cons n ns ih =>
  intro us r
  rw [List.map_cons] at r
  cases r with
  | cons r1 r2 =>
   obtain ⟨t, e⟩ := r1
   subst e
   exact .cons n t (ih r2)
section
variable {X : Cx} {e : Expr} {te : TE} {lo hi : Option Expr} {tl th : TO} {pos p2 : Pos}
theorem po_none : PO X none tNoPart := by
 intro pins s σ H Q I h
 rw [evalPart_none]
 exact wpAny_pure ⟨none, H, I, .none, h⟩
theorem po_some (h : PE X e te) : PO X (some e) (tPart te) := by
 intro pins s σ H Q I hw
 rw [evalPart_some]
 refine thn (h pins s σ H _ I hw) fun u s1 ⟨x, H1, I1, r1, q1⟩ => ?_
 obtain ⟨i, rfl, q⟩ := q1
 obtain ⟨t, rfl⟩ := r1
 exact ⟨some i, H1, I1, .int i t, q⟩
noncomputable def SlR (X : Cx) (r : V → Option Int → Option Int → Hp → VK → Prop) : Prop :=
 ∀ (pins : List (Addr × Obj)) (s : Shared) (σ : St) (H : Hp) (x : V) (v vl vu : Value) (lo hi : Option Int) (sl : Addr) (Q : VK), Inv X pins σ H s → RelV x v → s.heap.IsSliceOf sl vl vu .none → IsPart vl lo → IsPart vu hi → r x lo hi H Q →
  ∃ T id, typeLookup (.type T) "__getitem__" = pure (some (.builtin id)) ∧ s.TypeIs v T ∧ wpAny (model X.prog X.w) X.A (getItem v (.ref sl)) (EP X pins σ Q) X.xe s
theorem SlR.or {r r' : V → Option Int → Option Int → Hp → VK → Prop} (h : SlR X r) (h' : SlR X r') : SlR X (fun x lo hi H Q => r x lo hi H Q ∨ r' x lo hi H Q) := by
 intro pins s σ H x v vl vu lo hi sl Q I rx hs pl pu q
 rcases q with q | q
 ·exact h pins s σ H x v vl vu lo hi sl Q I rx hs pl pu q
 ·exact h' pins s σ H x v vl vu lo hi sl Q I rx hs pl pu q
noncomputable def tSl (r : V → Option Int → Option Int → Hp → VK → Prop) (te : TE) (tl th : TO) : TE := fun σ H Q => te σ H fun x H1 => tl σ H1 fun l H2 => th σ H2 fun u H3 => r x l u H3 Q
theorem pe_slice {r : V → Option Int → Option Int → Hp → VK → Prop} (hr : SlR X r) (he : PE X e te) (hl : PO X lo tl) (hu : PO X hi th) : PE X (.Subscript e (.Slice lo hi none p2) pos) (tSl r te tl th) := by
 intro pins s σ H Q I h
 refine Subscript_ (thn (he pins s σ H _ I h) fun v s1 ⟨x, H1, I1, r1, q1⟩ => ?_)
 refine wpAny_Slice (thn (hl pins s1 σ H1 _ I1 q1) fun vl s2 ⟨l, H2, I2, pl, q2⟩ => thn (hu pins s2 σ H2 _ I2 q2) fun vu s3 ⟨u, H3, I3, pu, q3⟩ => ?_)
 rw [evalPart_none]
 refine wpAny_pure ?_
 have I4 : Inv X pins σ H3 { s3 with heap := s3.heap.push { cls := .type "slice", data := .fields #[vl, vu, .none] } } := I3.kept (t' := s3.toks) fun b ob q => Heap.get?_push_of_some _ q
 obtain ⟨T, id, hT, ht, hg⟩ := hr pins { s3 with heap := s3.heap.push { cls := .type "slice", data := .fields #[vl, vu, .none] } } σ H3 x v vl vu l u s3.heap.objs.size Q I4 r1 (Heap.IsSliceOf.new ..) pl pu q3
 show wpAny (model X.prog X.w) X.A (subscriptTail e (.Slice lo hi none p2) v (.ref s3.heap.objs.size)) (EP X pins σ Q) X.xe { s3 with heap := s3.heap.push { cls := .type "slice", data := .fields #[vl, vu, .none] } }
 exact tail_any (ops := [.ref s3.heap.objs.size, v]) ht hT hg (by with_unfolding_all rfl)
noncomputable def cutV (xs : List V) (lo hi : Option Int) : List V := (xs.drop (HT.sIx xs.length 0 lo)).take (HT.sIx xs.length xs.length hi - HT.sIx xs.length 0 lo)
theorem cutV_length (xs : List V) (lo hi : Option Int) : (cutV xs lo hi).length ≤ xs.length := by
 unfold cutV
 rw [List.length_take, List.length_drop]
 omega
noncomputable def rSlT (K : PySem.W.Frag) : V → Option Int → Option Int → Hp → VK → Prop := fun x lo hi H Q => ∃ a xs, x = .ref a ∧ SqT K H a xs ∧
 ¬ (HT.sIx xs.length 0 lo = 0 ∧ HT.sIx xs.length xs.length hi = xs.length) ∧ ∀ p, H p = none → Q (.ref p) (upd H p (.tup (cutV xs lo hi)))
theorem sl_tup : SlR X (rSlT X.K) := by
 intro pins s σ H x v vl vu lo hi sl Q I rx hs pl pu h
 obtain ⟨a, xs, rfl, hx, hw, q⟩ := h
 cases rx
 obtain ⟨its, r, ht, hz⟩ := I.tuple hx
 have hlen : its.toArray.size = xs.length := by rw [List.size_toArray]; exact r.length.symm
 refine ⟨"tuple", _, PyProof.Rows.slot_tuple_getitem.lookup, ht.typeIs, ?_⟩
 refine HT.getItem_tuple_cut ht hs pl pu (by rw [hlen]; exact hw) ?_ (by rw [hlen]; exact hz)
 rw [hlen]
 refine ⟨.ref s.heap.objs.size, _, I.laid (t' := s.toks) (o := .tup (cutV xs lo hi)) (fun b ob q => Heap.get?_push_of_some _ q) (Nat.le_refl _) ?_, rfl, q _ (I.hok.fresh (Nat.le_refl _))⟩
 exact ⟨Nat.le_trans (cutV_length xs lo hi) hz, _, (r.drop (HT.sIx xs.length 0 lo)).take (HT.sIx xs.length xs.length hi - HT.sIx xs.length 0 lo), IsTup.new _ _⟩
noncomputable def rCatT (K : PySem.W.Frag) : R2 := fun x y H Q => ∃ a b xs ys, x = .ref a ∧ y = .ref b ∧ SqT K H a xs ∧ SqT K H b ys ∧ xs ≠ [] ∧ xs.length + ys.length ≤ sizeLine ∧
 (ys = [] → Q (.ref a) H) ∧ (ys ≠ [] → ∀ p, H p = none → Q (.ref p) (upd H p (.tup (xs ++ ys))))
theorem Vals.nil_iff {xs : List V} {us : List Value} (r : Vals xs us) : us = [] ↔ xs = [] := by
 cases r with
 | nil => simp
 | cons _ _ => simp
theorem op_catT : OpR X (binaryOp .Add) (rCatT X.K) := by
 intro pins s σ H x y v u Q I rx ry h
 obtain ⟨a, b, xs, ys, rfl, rfl, ha, hb, hx, hz, q1, q2⟩ := h
 cases rx
 cases ry
 obtain ⟨its, r1, p1, _⟩ := I.tuple ha
 obtain ⟨its2, r2, p2, _⟩ := I.tuple hb
 refine HT.cat_tup p1 p2 (fun z => hx (r1.nil_iff.mp z)) (fun z => ⟨.ref a, H, I, rfl, q1 (r2.nil_iff.mp z)⟩) (fun z => ?_) (by rw [← r1.length, ← r2.length]; exact hz)
 refine ⟨.ref s.heap.objs.size, _, I.laid (t' := s.toks) (o := .tup (xs ++ ys)) (fun b ob q => Heap.get?_push_of_some _ q) (Nat.le_refl _) ?_, rfl, q2 (fun w => z (r2.nil_iff.mpr w)) _ (I.hok.fresh (Nat.le_refl _))⟩
 exact ⟨by rw [List.length_append]; exact hz, _, r1.append r2, IsTup.new _ _⟩
end
end L2
namespace L2
open PySem PySem.Spec PyProof.Rows
noncomputable def ixN (n : Nat) (i : Int) : Option Nat := if 0 ≤ i then (if i < n then some i.toNat else none) else if -(n : Int) ≤ i then some (i + n).toNat else none
noncomputable def atI {α : Type} (xs : List α) (i : Int) : Option α := (ixN xs.length i).bind fun j => xs[j]?
theorem ixN_seq {n : Nat} {i : Int} {j : Nat} (h : ixN n i = some j) : seqIndex? i n = some j ∧ j < n ∧ -(n : Int) ≤ i ∧ i < n := by
 unfold ixN at h
 by_cases h0 : 0 ≤ i
 ·rw [if_pos h0] at h
  by_cases h1 : i < n
  ·rw [if_pos h1] at h
   have e : i.toNat = j := Option.some.inj h
   exact ⟨by rw [seqIndex_of h0 h1, e], by omega, by omega, h1⟩
  ·rw [if_neg h1] at h; cases h
 ·rw [if_neg h0] at h
  by_cases h1 : -(n : Int) ≤ i
  ·rw [if_pos h1] at h
   have e : (i + n).toNat = j := Option.some.inj h
   exact ⟨by rw [seqIndex_neg (by omega) h1, e], by omega, h1, by omega⟩
  ·rw [if_neg h1] at h; cases h
theorem atI_get {α : Type} {xs : List α} {i : Int} {v : α} (h : atI xs i = some v) : ∃ j, seqIndex? i xs.length = some j ∧ xs[j]? = some v ∧ j < xs.length ∧ -(xs.length : Int) ≤ i ∧ i < xs.length := by
 unfold atI at h
 cases e : ixN xs.length i with
 | none => rw [e] at h; cases h
 | some j =>
  rw [e] at h
  obtain ⟨h1, h2, h3, h4⟩ := ixN_seq e
  exact ⟨j, h1, h, h2, h3, h4⟩
theorem atI_nat {α : Type} {xs : List α} {j : Nat} {v : α} (h : xs[j]? = some v) : atI xs (j : Int) = some v := by
 have hj : j < xs.length := (List.getElem?_eq_some_iff.mp h).1
 have e : ixN xs.length (j : Int) = some j := by
  unfold ixN
  rw [if_pos (by omega), if_pos (by omega)]; simp
 unfold atI; rw [e]; exact h
noncomputable def PlainIx (b : Expr) : Prop := ∀ o i, subscripted b false o i = operate [o, i] (getItem o i)
noncomputable def IxR (X : Cx) (r : R2) : Prop :=
 ∀ (value slice : Expr) (pins : List (Addr × Obj)) (s : Shared) (σ : St) (H : Hp) (x y : V) (v u : Value) (Q : VK), Inv X pins σ H s → RelV x v → RelV y u → r x y H Q →
  subscripted slice false v u = operate [v, u] (getItem v u) → wpAny (model X.prog X.w) X.A (subscriptTail value slice v u) (EP X pins σ Q) X.xe s
noncomputable def MtR (X : Cx) (id : String) (r : V → List V → Hp → VK → Prop) : Prop :=
 ∀ (pins : List (Addr × Obj)) (s : Shared) (σ : St) (H : Hp) (x : V) (xs : List V) (v : Value) (us : List Value) (Q : VK), Inv X pins σ H s → RelV x v → Vals xs us → r x xs H Q →
  wpAny (model X.prog X.w) X.A (call (.builtin id) (v :: us)) (EP X pins σ Q) X.xe s
section
variable {X : Cx} {a b : Expr} {ta tb : TE} {pos : Pos}
theorem IxR.or {r r' : R2} (h : IxR X r) (h' : IxR X r') : IxR X (fun x y H Q => r x y H Q ∨ r' x y H Q) := by
 intro value slice pins s σ H x y v u Q I rx ry q hs
 rcases q with q | q
 ·exact h value slice pins s σ H x y v u Q I rx ry q hs
 ·exact h' value slice pins s σ H x y v u Q I rx ry q hs
theorem MtR.or {id : String} {r r' : V → List V → Hp → VK → Prop} (h : MtR X id r) (h' : MtR X id r') : MtR X id (fun x xs H Q => r x xs H Q ∨ r' x xs H Q) := by
 intro pins s σ H x xs v us Q I rx rs q
 rcases q with q | q
 ·exact h pins s σ H x xs v us Q I rx rs q
 ·exact h' pins s σ H x xs v us Q I rx rs q
theorem pe_ix {r : R2} (hr : IxR X r) (ha : PE X a ta) (hb : PE X b tb) (hs : PlainIx b) : PE X (.Subscript a b pos) (tOp r ta tb) := by
 intro pins s σ H Q I h
 exact Subscript_ (binT ha hb I h fun v u s2 x y H2 I2 rx ry q => hr a b pins s2 σ H2 x y v u Q I2 rx ry q (hs _ _))
noncomputable def rIxL (K : PySem.W.Frag) : R2 := fun x y H Q => ∃ p xs i v, x = .ref p ∧ y = .int i ∧ SqL K H p xs ∧ atI xs i = some v ∧ Q v H
noncomputable def rIxT (K : PySem.W.Frag) : R2 := fun x y H Q => ∃ p xs i v, x = .ref p ∧ y = .int i ∧ SqT K H p xs ∧ atI xs i = some v ∧ Q v H
noncomputable def rIxS : R2 := fun x y H Q => ∃ z i c, x = .str z ∧ y = .int i ∧ z.length ≤ sizeLine ∧ atI z.cps.toList i = some c ∧ Q (.str ⟨#[c]⟩) H
theorem ix_list : IxR X (rIxL X.K) := by
 intro value slice pins s σ H x y v u Q I rx ry h hs
 obtain ⟨p, xs, i, z, rfl, rfl, hq, he, q⟩ := h
 cases rx
 obtain ⟨t, rfl⟩ := ry
 obtain ⟨its, r, pl, hz⟩ := I.list hq
 obtain ⟨j, h1, h2, h3, h4, h5⟩ := atI_get he
 obtain ⟨w, ew, rw'⟩ := r.get h2
 have hl := r.length
 have hn := line63
 have fin : EP X pins σ Q w s := ⟨z, H, I, rw', q⟩
 by_cases h0 : 0 ≤ i
 ·have hj : i.toNat = j := by
   rw [seqIndex_of h0 h5] at h1
   exact Option.some.inj h1
  exact item_listR pl.isList h0 (by omega) (by rw [hj]; simpa using ew) fin hs
 ·have hj : (i + (its.toArray.size : Int)).toNat = j := by
   rw [seqIndex_neg (by omega) h4] at h1
   rw [List.size_toArray, ← hl]
   exact Option.some.inj h1
  exact subscriptTail_builtinR (x := w) pl.isList.typeIs slot_list_getitem.lookup
   (wpAny_getItem_list_neg (Q := fun r s' => r = w ∧ EP X pins σ Q r s') pl.isList (by omega) (by rw [List.size_toArray] <;> omega) (by omega) (by rw [hj]; simpa using ew) ⟨rfl, fin⟩) hs
theorem ix_tup : IxR X (rIxT X.K) := by
 intro value slice pins s σ H x y v u Q I rx ry h hs
 obtain ⟨p, xs, i, z, rfl, rfl, hq, he, q⟩ := h
 cases rx
 obtain ⟨t, rfl⟩ := ry
 obtain ⟨its, r, pl, hz⟩ := I.tuple hq
 obtain ⟨j, h1, h2, h3, h4, h5⟩ := atI_get he
 obtain ⟨w, ew, rw'⟩ := r.get h2
 have hl := r.length
 have hn := line63
 have fin : EP X pins σ Q w s := ⟨z, H, I, rw', q⟩
 exact subscriptTail_builtinR (x := w) pl.typeIs slot_tuple_getitem.lookup
  (getItem_tuple (j := j) (Q := fun r s' => r = w ∧ EP X pins σ Q r s') pl (by omega) (by omega) (by rw [List.size_toArray, ← hl]; exact h1) (by simpa using ew) ⟨rfl, fin⟩) hs
theorem ix_str : IxR X rIxS := by
 intro value slice pins s σ H x y v u Q I rx ry h hs
 obtain ⟨z, i, c, rfl, rfl, hz, he, q⟩ := h
 obtain ⟨t, rfl⟩ := rx
 obtain ⟨t', rfl⟩ := ry
 obtain ⟨j, h1, h2, h3, h4, h5⟩ := atI_get he
 have hl : z.cps.toList.length = z.length := by simp [Str.length]
 rw [hl] at h1 h4 h5
 have hn := line63
 exact tail_any (typeIs_str s z t) slot_str_getitem.lookup (getItem_str (c := c) (by
  have e1 : decide (i < -(2 ^ 63 : Int)) = false := decide_eq_false (by omega)
  have e2 : decide (i ≥ 2 ^ 63) = false := decide_eq_false (by omega)
  rw [e1, e2, Bool.or_false]) (by rw [h1]; simpa using h2) ⟨.str ⟨#[c]⟩, H, I.tok _, ⟨_, rfl⟩, q⟩) hs
noncomputable def rIx (K : PySem.W.Frag) : R2 := fun x y H Q => rIxL K x y H Q ∨ rIxT K x y H Q ∨ rIxS x y H Q
theorem ix_seq : IxR X (rIx X.K) := ix_list.or (ix_tup.or ix_str)
theorem mapSeq_set (its : List Value) (n j : Nat) (u : Value) : Obj.mapSeq (·.setIfInBounds j u) { cls := .type "list", data := .seq its.toArray n } = { cls := .type "list", data := .seq (its.set j u).toArray n } := by
 simp [Obj.mapSeq]
theorem Inv.lst {pins : List (Addr × Obj)} {σ : St} {H : Hp} {s : Shared} {p : Addr} {xs : List V} (I : Inv X pins σ H s) (h : H p = some (.lst xs)) :
  ∃ (its : List Value) (n : Nat), Vals xs its ∧ s.heap.get? p = some { cls := .type "list", data := .seq its.toArray n } ∧ xs.length ≤ sizeLine := by
 obtain ⟨z, its, n, r, e⟩ := I.hok p _ h
 exact ⟨its, n, r, e, z⟩
theorem Inv.lstUpd {pins : List (Addr × Obj)} {σ : St} {H : Hp} {s : Shared} {p : Addr} {xs ys : List V} {its its' : List Value} {n n' : Nat} {f : Obj → Obj} (I : Inv X pins σ H s) (h : H p = some (.lst xs))
  (ho : s.heap.get? p = some { cls := .type "list", data := .seq its.toArray n }) (hf : f { cls := .type "list", data := .seq its.toArray n } = { cls := .type "list", data := .seq its'.toArray n' }) (r : Vals ys its') (hz : ys.length ≤ sizeLine) (t : Nat) :
  Inv X pins σ (upd H p (.lst ys)) { s with heap := s.heap.update p f, toks := t } := by
 have e : (s.heap.update p f).get? p = some { cls := .type "list", data := .seq its'.toArray n' } := by
  rw [Heap.get?_update_self f ho (by rw [hf] <;> rfl), hf]
 refine I.write (x := p) (e := p) (by rw [h]; trivial) (.inl rfl) (fun b u hb q => (Heap.get?_update_other _ _ (Ne.symm hb)).trans q) ⟨_, e⟩ ?_
 exact ⟨hz, its', n', r, e⟩
noncomputable def rSetL : V → V → V → Hp → (Hp → Prop) → Prop := fun o i v H Q => ∃ p xs k j, o = .ref p ∧ i = .int k ∧ H p = some (.lst xs) ∧ ixN xs.length k = some j ∧ Q (upd H p (.lst (xs.set j v)))
theorem set_list : PSet X rSetL := by
 intro pins s σ H o i v ov iv u Q I ro ri rv h
 obtain ⟨p, xs, k, j, rfl, rfl, hp, hj, q⟩ := h
 cases ro
 obtain ⟨t, rfl⟩ := ri
 obtain ⟨its, n, r, ho, hz⟩ := I.lst hp
 obtain ⟨h1, h2, h3, h4⟩ := ixN_seq hj
 have hl := r.length
 have hn := line63
 have I' : Inv X pins σ (upd H p (.lst (xs.set j v))) { s with heap := s.heap.update p (Obj.mapSeq (·.setIfInBounds j u)) } :=
  I.lstUpd hp ho (mapSeq_set its n j u) (r.set rv j) (by rw [List.length_set]; exact hz) s.toks
 by_cases h0 : 0 ≤ k
 ·have hk : k.toNat = j := by
   rw [seqIndex_of h0 h4] at h1
   exact Option.some.inj h1
  exact PySem.W.ki_setAt ho h0 (by omega) (by rw [List.size_toArray, ← hl]; exact h4) (by rw [hk]; exact ⟨_, I', q⟩)
 ·have hk : (k + (its.toArray.size : Int)).toNat = j := by
   rw [seqIndex_neg (by omega) h3] at h1
   rw [List.size_toArray, ← hl]
   exact Option.some.inj h1
  exact PySem.W.ki_setBack ho (by omega) (by rw [List.size_toArray, ← hl]; exact h3) (by omega) (by rw [hk]; exact ⟨_, I', q⟩)
theorem slice_bounds (lo hi : Option Int) (n : Nat) : (sliceBounds lo hi none n).1 = ((HT.sIx n 0 lo : Nat) : Int) ∧ (sliceBounds lo hi none n).2.1 = ((HT.sIx n n hi : Nat) : Int) ∧ (sliceBounds lo hi none n).2.2 = 1 := by
 refine ⟨?_, ?_, rfl⟩
 ·cases lo with
  | none => simp [sliceBounds, HT.sIx]
  | some i =>
   simp only [sliceBounds, HT.sIx, Option.getD_none, show (1 : Int) > 0 by decide, if_true]
   by_cases h : i < 0
   ·simp only [h, if_true] <;> omega
   ·simp only [h, if_false] <;> omega
 ·cases hi with
  | none => simp [sliceBounds, HT.sIx]
  | some i =>
   simp only [sliceBounds, HT.sIx, Option.getD_none, show (1 : Int) > 0 by decide, if_true]
   by_cases h : i < 0
   ·simp only [h, if_true] <;> omega
   ·simp only [h, if_false] <;> omega
theorem slicePick_cut (its : List Value) (lo hi : Option Int) : slicePick its.toArray lo hi none = ((its.drop (HT.sIx its.length 0 lo)).take (HT.sIx its.length its.length hi - HT.sIx its.length 0 lo)).toArray := by
 obtain ⟨h1, h2, h3⟩ := slice_bounds lo hi its.toArray.size
 unfold slicePick
 rw [h1, h2, h3]
 simp only [sliceRange_one, pick_run, List.size_toArray] <;> rfl
noncomputable def rSlL (K : PySem.W.Frag) : V → Option Int → Option Int → Hp → VK → Prop := fun x lo hi H Q => ∃ a xs, x = .ref a ∧ SqL K H a xs ∧ ∀ p, H p = none → Q (.ref p) (upd H p (.lst (cutV xs lo hi)))
theorem sl_list : SlR X (rSlL X.K) := by
 intro pins s σ H x v vl vu lo hi sl Q I rx hs pl pu h
 obtain ⟨a, xs, rfl, hx, q⟩ := h
 cases rx
 obtain ⟨its, r, ht, hz⟩ := I.list hx
 have hlen := r.length
 refine ⟨"list", _, slot_list_getitem.lookup, ht.isList.typeIs, ?_⟩
 refine wpAny_getItem_list_slice ht.isList hs pl pu .none (by simp) ?_ (by rw [List.size_toArray] <;> omega)
 rw [slicePick_cut, ← hlen]
 refine ⟨.ref s.heap.objs.size, _, I.laid (t' := s.toks) (o := .lst (cutV xs lo hi)) (fun b ob q => Heap.get?_push_of_some _ q) (Nat.le_refl _) ?_, rfl, q _ (I.hok.fresh (Nat.le_refl _))⟩
 exact ⟨Nat.le_trans (cutV_length xs lo hi) hz, _, 0, (r.drop (HT.sIx xs.length 0 lo)).take (HT.sIx xs.length xs.length hi - HT.sIx xs.length 0 lo), Heap.get?_push_size _ rfl⟩
theorem CallR.or {f : Value} {r r' : List V → Hp → VK → Prop} (h : CallR X f r) (h' : CallR X f r') : CallR X f (fun xs H Q => r xs H Q ∨ r' xs H Q) := by
 intro pins s σ H xs us Q I rs q
 rcases q with q | q
 ·exact h pins s σ H xs us Q I rs q
 ·exact h' pins s σ H xs us Q I rs q
theorem call_list_of : CallR X (.type "list") (fun xs H Q => ∃ p ys, xs = [.ref p] ∧ (SqL X.K H p ys ∨ SqT X.K H p ys) ∧ ∀ l, H l = none → Q (.ref l) (upd H l (.lst ys))) := by
 intro pins s σ H xs us Q I r h
 obtain ⟨p, ys, rfl, hq, q⟩ := h
 obtain ⟨u, rfl, rx⟩ := vals1 r
 cases rx
 have fin : ∀ (its : List Value), Vals ys its → ys.length ≤ sizeLine → ∀ (h' : Heap) (c' : Nat), (∀ b o', s.heap.get? b = some o' → h'.get? b = some o') →
   h'.get? s.heap.objs.size = some { cls := .type "list", dict := none, data := .seq its.toArray c', slots := #[] } → EP X pins σ Q (.ref s.heap.objs.size) { s with heap := h' } := fun its r' hz h' c' kp e =>
  ⟨.ref s.heap.objs.size, _, I.laid (t' := s.toks) kp (Nat.le_refl _) (show ObjOk X.prog X.w _ h' _ (.lst ys) from ⟨hz, its, c', r', e⟩), rfl, q _ (I.hok.fresh (Nat.le_refl _))⟩
 rcases hq with hq | hq
 ·obtain ⟨its, r', pl, hz⟩ := I.list hq
  have hlen := r'.length
  obtain ⟨o, ho, hc, n, hd⟩ := pl.isList
  exact call_list_seq p (.inl rfl) ho hc hd (fun h' c' kp e => fin its r' hz h' c' kp e) (by simp only [List.size_toArray] <;> omega)
 ·obtain ⟨its, r', pl, hz⟩ := I.tuple hq
  have hlen := r'.length
  obtain ⟨o, ho, hc, n, hd⟩ := pl
  exact call_list_seq p (.inr rfl) ho hc hd (fun h' c' kp e => fin its r' hz h' c' kp e) (by simp only [List.size_toArray] <;> omega)
theorem call_tuple_of : CallR X (.type "tuple") (fun xs H Q => ∃ p ys, xs = [.ref p] ∧ ((SqL X.K H p ys ∧ ∀ l, H l = none → Q (.ref l) (upd H l (.tup ys))) ∨ (SqT X.K H p ys ∧ Q (.ref p) H))) := by
 intro pins s σ H xs us Q I r h
 obtain ⟨p, ys, rfl, h⟩ := h
 obtain ⟨u, rfl, rx⟩ := vals1 r
 cases rx
 rcases h with ⟨hq, q⟩ | ⟨hq, q⟩
 ·obtain ⟨its, r', pl, hz⟩ := I.list hq
  have hlen := r'.length
  refine call_tuple_list pl.isList (fun h' kp => ?_) (by simp only [List.size_toArray] <;> omega)
  have I1 : Inv X pins σ H { s with heap := h' } := I.kept (t' := s.toks) kp
  have I2 : Inv X pins σ (upd H h'.objs.size (.tup ys)) { s with heap := h'.push { cls := .type "tuple", data := .seq its.toArray } } :=
   I1.laid (t' := s.toks) (fun b o e => Heap.get?_push_of_some _ e) (Nat.le_refl _) (show ObjOk X.prog X.w _ _ _ (.tup ys) from ⟨hz, its, r', IsTup.new _ _⟩)
  exact ⟨.ref h'.objs.size, _, I2, rfl, q _ (I1.hok.fresh (Nat.le_refl _))⟩
 ·obtain ⟨its, r', pl, hz⟩ := I.tuple hq
  exact call_tuple_same pl ⟨.ref p, H, I, rfl, q⟩
noncomputable def tyV (K : PySem.W.Frag) (T : String) (x : V) (H : Hp) : Prop := match x with
 | .str _ => T = "str"
 | .int _ => T = "int"
 | .ref p => (T = "list" ∧ ∃ xs, SqL K H p xs) ∨ (T = "tuple" ∧ ∃ o, K.lookup p = some o ∧ o.cls = .type "tuple" ∧ o.dict = none) ∨
   (T = "dict" ∧ ((∃ kvs, H p = some (.dK kvs)) ∨ ∃ kvs, H p = some (.dT kvs))) ∨ (T = "set" ∧ ∃ S n, H p = some (.set S n))
 | _ => False
theorem tyV_is {pins : List (Addr × Obj)} {σ : St} {H : Hp} {s : Shared} {T : String} {x : V} {v : Value} (I : Inv X pins σ H s) (r : RelV x v) (ty : tyV X.K T x H) :
  s.TypeIs v T ∧ ∀ a, v = .ref a → ∃ ob, s.heap.get? a = some ob ∧ ob.dict = none := by
 cases x with
 | str z =>
  obtain ⟨t, rfl⟩ := r
  cases (show T = "str" from ty)
  exact ⟨typeIs_str s z t, fun _ e => nomatch e⟩
 | int i =>
  obtain ⟨t, rfl⟩ := r
  cases (show T = "int" from ty)
  exact ⟨typeIs_int s i t, fun _ e => nomatch e⟩
 | ref p =>
  cases r
  rcases ty with ⟨rfl, xs, hq⟩ | ⟨rfl, o, hk, hc, hd⟩ | ⟨rfl, hk⟩ | ⟨rfl, S, n, hk⟩
  ·obtain ⟨its, _, pl, _⟩ := I.list hq
   refine ⟨pl.isList.typeIs, fun a e => ?_⟩
   cases e
   obtain ⟨o, n, e, c, hd, _⟩ := pl
   exact ⟨o, e, hd⟩
  ·refine ⟨⟨o, I.kIn p o hk, hc⟩, fun a e => ?_⟩
   cases e
   exact ⟨o, I.kIn _ o hk, hd⟩
  ·have z : ∃ o, s.heap.get? p = some o ∧ o.ExactDict := by
    rcases hk with ⟨kvs, hk⟩ | ⟨kvs, hk⟩
    ·obtain ⟨_, _, _, _, o, _, _, e, ex, _⟩ := I.hok p _ hk
     exact ⟨o, e, ex⟩
    ·obtain ⟨_, _, _, _, o, _, _, e, ex, _⟩ := I.hok p _ hk
     exact ⟨o, e, ex⟩
   obtain ⟨o, e, ex⟩ := z
   refine ⟨⟨o, e, ex.1⟩, fun a e2 => ?_⟩
   cases e2
   exact ⟨o, e, ex.2.1⟩
  ·obtain ⟨o, _, _, _, e, ex, _⟩ := I.hok p _ hk
   refine ⟨⟨o, e, ex.1⟩, fun a e2 => ?_⟩
   cases e2
   exact ⟨o, e, ex.2.1⟩
 | _ => exact False.elim ty
noncomputable def tBM (K : PySem.W.Frag) (T : String) (r : V → List V → Hp → VK → Prop) (to : TE) (t : TA) : TE := fun σ H Q => to σ H fun x H1 => tyV K T x H1 ∧ t σ H1 fun xs H2 => r x xs H2 Q
variable {o e : Expr} {es : List Expr} {to : TE} {t : TA} {name : Str} {apos cpos : Pos} {T id : String} {r : V → List V → Hp → VK → Prop}
theorem pe_bm (pa : PlainAttrs T) (slot : Slot T name id) (hty : typeOf (.builtin id) = pure (.type "method_descriptor")) (hm : MtR X id r) (ho : PE X o to) (ha : PA X (e :: es) t)
  (hbase : attributeBase o name X.env (eval o X.env) = eval o X.env := by rfl)
  (hfew : ((backTo cpos (starEach (e :: es) X.env)).all (fun x => !x.1) && (backToKw cpos (keywordEach [] X.env)).all (fun x => x.1.isSome)
   && decide ((e :: es).length + ([] : List Keyword).length + (if ([] : List Keyword).isEmpty then 0 else 1) < 30)) = true := by rfl)
  (hline : (apos.endLine == cpos.line) = true := by rfl) (hs : starEach (e :: es) X.env = (false, eval e X.env) :: starEach es X.env := by rfl) (hplain : (backTo cpos (starEach es X.env)).any (·.1) = false := by rfl) :
  PE X (.Call (.Attribute o name apos) (e :: es) [] cpos) (tBM X.K T r to t) := by
 intro pins s σ H Q I h
 refine wpAny_Call_method_late hbase hfew hline rfl (thn (ho pins s σ H _ I h) fun v s1 ⟨x, H1, I1, r1, ty, q1⟩ => ?_)
 obtain ⟨h1, h2⟩ := tyV_is I1 r1 ty
 refine ⟨T, id, pa, slot, hty, h1, h2, ?_⟩
 have hA := ha cpos pins s1 σ H1 _ I1 q1
 rw [hs] at hA ⊢
 refine Calls.callWith_builtin (by show (false || (backTo cpos (starEach es X.env)).any (·.1)) = false; rw [hplain] <;> rfl) (Calls.evalArgs_plain ?_)
 exact thn hA fun us s2 ⟨vs, H2, I2, r2, q2⟩ => hm pins s2 σ H2 x vs v us Q I2 r1 r2 q2
end
end L2
namespace L2
open PySem PySem.Spec PyProof.Rows
noncomputable def MtM (X : Cx) (id : String) (r : V → List V → Hp → VK → Prop) : Prop :=
 ∀ (pins : List (Addr × Obj)) (s : Shared) (σ : St) (H : Hp) (x : V) (xs : List V) (v : Value) (us : List Value) (Q : VK), Inv X pins σ H s → RelV x v → Vals xs us → r x xs H Q →
  wpAny (model X.prog X.w) X.A (call (.builtin id) (v :: us)) (EP X pins σ Q) X.xe s
theorem Vals.one : ∀ {x : V} {us : List Value}, Vals [x] us → ∃ u, us = [u] ∧ RelV x u
 | _, _, .cons r .nil => ⟨_, rfl, r⟩
theorem Vals.two : ∀ {x y : V} {us : List Value}, Vals [x, y] us → ∃ u v, us = [u, v] ∧ RelV x u ∧ RelV y v
 | _, _, _, .cons r (.cons q .nil) => ⟨_, _, rfl, r, q⟩
theorem Vals.zero : ∀ {us : List Value}, Vals [] us → us = []
 | _, .nil => rfl
theorem Vals.eraseIdx : ∀ {xs : List V} {us : List Value} (i : Nat), Vals xs us → Vals (xs.eraseIdx i) (us.eraseIdx i)
 | _, _, _, .nil => .nil
 | _, _, 0, .cons _ t => t
 | _, _, i + 1, .cons r t => .cons r (Vals.eraseIdx i t)
theorem Vals.rep {xs : List V} {us : List Value} (h : Vals xs us) : ∀ k : Nat, Vals (List.replicate k xs).flatten (List.replicate k us).flatten
 | 0 => .nil
 | k + 1 => by
  rw [List.replicate_succ, List.replicate_succ, List.flatten_cons, List.flatten_cons]
  exact Vals.append h (Vals.rep h k)
theorem len_erase {α : Type} : ∀ (l : List α) (i : Nat), (l.eraseIdx i).length ≤ l.length
 | [], _ => Nat.le_refl _
 | _ :: _, 0 => Nat.le_succ _
 | _ :: r, i + 1 => Nat.succ_le_succ (len_erase r i)
theorem foldl_rep (its : List Value) : ∀ (k : Nat) (acc : List Value),
  List.foldl (fun x1 x2 => x1 ++ x2) acc.toArray (List.replicate k its.toArray) = (acc ++ (List.replicate k its).flatten).toArray
 | 0, acc => by simp
 | k + 1, acc => by
  have e : acc.toArray ++ its.toArray = (acc ++ its).toArray := by simp
  have e2 : (acc ++ its) ++ (List.replicate k its).flatten = acc ++ (List.replicate (k + 1) its).flatten := by
   rw [List.replicate_succ, List.flatten_cons, List.append_assoc]
  rw [← e2, ← foldl_rep its k (acc ++ its), ← e, List.replicate_succ, List.foldl_cons]
section
variable {X : Cx} {pins : List (Addr × Obj)} {σ : St} {H : Hp} {s : Shared} {l b : Addr} {xs ys zs : List V}
theorem Inv.lset {its its' : List Value} {n : Nat} {f : Array Value → Array Value} {t' : Nat} (I : Inv X pins σ H s) (hH : H l = some (.lst xs))
  (e : s.heap.get? l = some { cls := .type "list", data := .seq its.toArray n }) (hf : f its.toArray = its'.toArray) (hv : Vals ys its') (hz : ys.length ≤ sizeLine) :
  Inv X pins σ (upd H l (.lst ys)) { s with heap := s.heap.update l (Obj.mapSeq f), toks := t' } := by
 have q := PySem.IsL.update e f
 rw [hf] at q
 refine I.write (x := l) (e := l) (by rw [hH]; exact trivial) (.inl rfl) (fun b' u hb hu => (Heap.get?_update_other s.heap (Obj.mapSeq f) (Ne.symm hb)).trans hu) ⟨_, q⟩ ?_
 exact ⟨hz, its', _, hv, q⟩
theorem Inv.lnew {its : List Value} {t' : Nat} (I : Inv X pins σ H s) (hv : Vals ys its) (hz : ys.length ≤ sizeLine) :
  Inv X pins σ (upd H s.heap.objs.size (.lst ys)) { s with heap := s.heap.push { cls := .type "list", data := .seq its.toArray }, toks := t' } :=
 I.laid (fun _ _ q => Heap.get?_push_of_some _ q) (Nat.le_refl _) ⟨hz, its, 0, hv, Heap.get?_push_size _ rfl⟩
theorem Inv.fresh (I : Inv X pins σ H s) : H s.heap.objs.size = none := I.hok.fresh (Nat.le_refl _)
theorem Inv.lstM (I : Inv X pins σ H s) (hH : H l = some (.lst xs)) : xs.length ≤ sizeLine ∧ ∃ (its : List Value) (n : Nat), Vals xs its ∧ xs.length = its.length ∧ s.heap.get? l = some { cls := .type "list", data := .seq its.toArray n } := by
 obtain ⟨z, its, n, r, e⟩ := I.hok l _ hH
 exact ⟨z, its, n, r, r.length, e⟩
theorem notLongL {n : Nat} (h : n ≤ sizeLine) : Builtin.List.listTooLong n = false := by
 unfold Builtin.List.listTooLong
 exact decide_eq_false (by omega)
end
section
variable {X : Cx}
noncomputable def rAppend : V → List V → Hp → VK → Prop := fun x vs H Q => ∃ l xs y, x = .ref l ∧ vs = [y] ∧ H l = some (.lst xs) ∧ xs.length < sizeLine ∧ Q .non (upd H l (.lst (xs ++ [y])))
theorem mt_append : MtM X "list.append" rAppend := by
 intro pins s σ H x vs v us Q I rx rv h
 obtain ⟨l, xs, y, rfl, rfl, hH, hz, q⟩ := h
 cases rx
 obtain ⟨u, rfl, ru⟩ := rv.one
 obtain ⟨z, its, n, r, hl, e⟩ := I.lstM hH
 refine call_meets F.slot_list_append ⟨_, e, rfl⟩ F.entry_list_append (F.args_list_append_2 _ _) (PySem.list_append l its.toArray n u (by rw [List.size_toArray]; omega)) ⟨e, ?_⟩
 refine ⟨.non, _, I.lset (its' := its ++ [u]) hH e (by simp) (r.append (.cons ru .nil)) ?_, rfl, q⟩
 rw [List.length_append, List.length_singleton]
 omega
noncomputable def rRep : R2 := fun x y H Q => ∃ l k xs, x = .ref l ∧ y = .int k ∧ H l = some (.lst xs) ∧ -(2 ^ 63) ≤ k ∧ k < 2 ^ 63 ∧ xs.length * k.toNat ≤ sizeLine ∧
 ∀ p, H p = none → Q (.ref p) (upd H p (.lst (List.replicate k.toNat xs).flatten))
theorem len_rep {α : Type} (xs : List α) (k : Nat) : (List.replicate k xs).flatten.length = k * xs.length := by
 induction k with
 | zero => simp
 | succ k ih => rw [List.replicate_succ, List.flatten_cons, List.length_append, ih, Nat.succ_mul, Nat.add_comm]
theorem op_rep : OpR X (binaryOp .Mult) rRep := by
 intro pins s σ H x y v u Q I rx ry h
 obtain ⟨l, k, xs, rfl, rfl, hH, h1, h2, hz, q⟩ := h
 cases rx
 obtain ⟨t, rfl⟩ := ry
 obtain ⟨z, its, n, r, hl, e⟩ := I.lstM hH
 have hlen : its.toArray.size * k.toNat ≤ sizeLine := by rw [List.size_toArray, ← hl]; exact hz
 have hcap : ¬ its.toArray.size * k.toNat > (2 ^ 63 - 1) / 8 := by
  have : (sizeLine : Nat) ≤ (2 ^ 63 - 1) / 8 := by decide
  omega
 have hfit : ¬ (!Builtin.List.listFitsIndex k) = true := by
  rw [fitsIndex_both h1 h2]
  exact Bool.false_ne_true
 have hlong : ¬ Builtin.List.listTooLong (its.toArray.size * k.toNat) = true := by
  rw [notLongL hlen]
  exact Bool.false_ne_true
 have hnew : List.foldl (fun x1 x2 => x1 ++ x2) #[] (List.replicate (if its.toArray.isEmpty = true then 0 else k.toNat) its.toArray) = (List.replicate k.toNat its).flatten.toArray := by
  have f0 : ∀ m : Nat, List.foldl (fun x1 x2 => x1 ++ x2) #[] (List.replicate m its.toArray) = (List.replicate m its).flatten.toArray := fun m => by
   have := foldl_rep its m []
   rw [List.nil_append] at this
   exact this
  rw [f0]
  cases its with
  | nil => simp
  | cons a r' => rw [if_neg (by simp)]
 refine wpAny_binaryOp_repeat_ref (T := "list") (U := "int") (by decide) ⟨_, e, rfl⟩ (fun s' => typeIs_int s' k t) noFill_list_mul F.fills_int_mul F.slot_int_rmul repeat_list F.slot_int_index.lookup
  (call_meets F.slot_int_rmul (typeIs_int s k t) F.entry_int_rmul (F.args_int_rmul_2 _ _) (int___rmul___int_list k t l its.toArray n)
   ⟨e, rfl, ⟨_, e, rfl⟩, call_meets F.slot_list_mul ⟨_, e, rfl⟩ F.entry_list_mul (F.args_list_mul_2 _ _) (AutoListH.list___mul___list_int_3 l its.toArray n k t hfit hcap hlong) ⟨e, ?_⟩⟩)
 rw [hnew]
 exact ⟨.ref _, _, I.lnew (t' := s.toks) (r.rep k.toNat) (by rw [len_rep, Nat.mul_comm]; exact hz), rfl, q _ I.fresh⟩
end
section
variable {prog : Program} {w : World} {A : Around} {E : Value → Shared → Prop} {s : Shared}
end
section
variable {X : Cx}
end
end L2
namespace L2
open PySem PySem.Spec PyProof.Rows
section
variable {κ : Type} [DecidableEq κ]
noncomputable def valV (kvs : List (κ × V)) (k : κ) : Option V := (kvs.find? fun kv => decide (kv.1 = k)).map (·.2)
noncomputable def putK (kvs : List (κ × V)) (k : κ) (v : V) : List (κ × V) :=
 if (kvs.any fun kv => decide (kv.1 = k)) = true then kvs.map (fun kv => if kv.1 = k then (kv.1, v) else kv) else kvs ++ [(k, v)]
noncomputable def dropK (kvs : List (κ × V)) (k : κ) : List (κ × V) := kvs.filter fun kv => decide (kv.1 ≠ k)
theorem valV_nil {k : κ} : valV ([] : List (κ × V)) k = none := rfl
theorem valV_pos {p : κ × V} {r : List (κ × V)} {k : κ} (e : p.1 = k) : valV (p :: r) k = some p.2 := by simp [valV, List.find?_cons, e]
theorem valV_neg {p : κ × V} {r : List (κ × V)} {k : κ} (e : ¬ p.1 = k) : valV (p :: r) k = valV r k := by simp [valV, List.find?_cons, e]
theorem valV_any (k : κ) : ∀ kvs : List (κ × V), (kvs.any fun kv => decide (kv.1 = k)) = (valV kvs k).isSome
 | [] => rfl
 | p :: r => by
  rw [List.any_cons]
  by_cases e : p.1 = k
  ·simp only [valV_pos e, decide_eq_true e, Bool.true_or, Option.isSome_some]
  ·rw [valV_neg e, decide_eq_false e, Bool.false_or]; exact valV_any k r
theorem length_putK (kvs : List (κ × V)) (k : κ) (v : V) : (putK kvs k v).length ≤ kvs.length + 1 := by
 unfold putK
 split
 ·rw [List.length_map]; omega
 ·rw [List.length_append, List.length_cons, List.length_nil]; omega
theorem RelO.isSome_eq {o : Option V} {u : Option Value} (r : RelO o u) : o.isSome = u.isSome := by
 cases o with
 | none => cases u with
  | none => rfl
  | some _ => exact (show False from r).elim
 | some _ => cases u with
  | none => exact (show False from r).elim
  | some _ => rfl
theorem RelO.getD {o : Option V} {u : Option Value} {d : V} {d' : Value} (r : RelO o u) (rd : RelV d d') : RelV (o.getD d) (u.getD d') := by
 cases o with
 | none => cases u with
  | none => exact rd
  | some _ => exact (show False from r).elim
 | some _ => cases u with
  | none => exact (show False from r).elim
  | some _ => exact r
theorem KV.val {kvs : List (κ × V)} {vs : List (κ × Value)} (r : KV kvs vs) (k : κ) : RelO (valV kvs k) (valueAt vs k) := by
 unfold KV at r
 induction r with
 | nil => exact True.intro
 | @cons p q ps qs h t ih =>
  obtain ⟨h1, h2⟩ := h
  by_cases e : p.1 = k
  ·have e' : q.1 = k := h1.symm.trans e
   have b : valueAt (q :: qs) k = some q.2 := by simp [valueAt, List.find?_cons, e']
   rw [valV_pos e, b]; exact h2
  ·have e' : ¬ q.1 = k := fun z => e (h1.trans z)
   have b : valueAt (q :: qs) k = valueAt qs k := by simp [valueAt, List.find?_cons, e']
   rw [valV_neg e, b]; exact ih
theorem KV.any {kvs : List (κ × V)} {vs : List (κ × Value)} (r : KV kvs vs) (k : κ) : (kvs.any fun kv => decide (kv.1 = k)) = vs.any fun kv => decide (kv.1 = k) := by
 unfold KV at r
 induction r with
 | nil => rfl
 | cons h t ih => rw [List.any_cons, List.any_cons, ih, h.1]
theorem KV.repl {kvs : List (κ × V)} {vs : List (κ × Value)} (r : KV kvs vs) (k : κ) {y : V} {u : Value} (ry : RelV y u) :
  KV (kvs.map fun kv => if kv.1 = k then (kv.1, y) else kv) (vs.map fun kv => if kv.1 = k then (kv.1, u) else kv) := by
 unfold KV at r ⊢
 induction r with
 | nil => exact .nil
 | @cons p q ps qs h t ih =>
  rw [List.map_cons, List.map_cons]
  refine .cons ?_ ih
  obtain ⟨h1, h2⟩ := h
  by_cases e : p.1 = k
  ·rw [if_pos e, if_pos (h1.symm.trans e)]; exact ⟨h1, ry⟩
  ·rw [if_neg e, if_neg (fun z => e (h1.trans z))]; exact ⟨h1, h2⟩
theorem KV.put {kvs : List (κ × V)} {vs : List (κ × Value)} (r : KV kvs vs) (k : κ) {y : V} {u : Value} (ry : RelV y u) : KV (putK kvs k y) (stored vs k u) := by
 unfold putK stored
 rw [r.any k]
 by_cases e : (vs.any fun kv => decide (kv.1 = k)) = true
 ·rw [if_pos e, if_pos e]; exact r.repl k ry
 ·rw [if_neg e, if_neg e]; exact Paired.snoc r ⟨rfl, ry⟩
theorem KV.drop {kvs : List (κ × V)} {vs : List (κ × Value)} (r : KV kvs vs) (k : κ) : KV (dropK kvs k) (without vs k) := by
 unfold KV at r ⊢
 unfold dropK without
 induction r with
 | nil => exact .nil
 | @cons p q ps qs h t ih =>
  obtain ⟨h1, h2⟩ := h
  rw [List.filter_cons, List.filter_cons]
  by_cases e : p.1 = k
  ·have a : ¬ decide (p.1 ≠ k) = true := by simp [e]
   have b : ¬ decide (q.1 ≠ k) = true := by simp [h1.symm.trans e]
   rw [if_neg a, if_neg b]; exact ih
  ·have e' : ¬ q.1 = k := fun z => e (h1.trans z)
   have a : decide (p.1 ≠ k) = true := by simp [e]
   have b : decide (q.1 ≠ k) = true := by simp [e']
   rw [if_pos a, if_pos b]; exact .cons ⟨h1, h2⟩ ih
theorem KV.keys {kvs : List (κ × V)} {vs : List (κ × Value)} (r : KV kvs vs) : kvs.map (·.1) = vs.map (·.1) := by
 unfold KV at r
 induction r with
 | nil => rfl
 | cons h t ih => rw [List.map_cons, List.map_cons, ih, h.1]
theorem KV.length {kvs : List (κ × V)} {vs : List (κ × Value)} (r : KV kvs vs) : kvs.length = vs.length := Paired.length r
end
theorem kV_is {P : Program} {w : World} {k : Key} {u : Value} (r : RelV (kV k) u) : (mixKind P w).is k u = true := by
 cases k with
 | inl i => obtain ⟨t, e⟩ := (show ∃ t, u = Value.int i t from r); subst e; exact mixKind_int P w i t
 | inr x => obtain ⟨t, e⟩ := (show ∃ t, u = Value.str x t from r); subst e; exact mixKind_str P w x t
theorem items_are {P : Program} {w : World} : ∀ {ks : List Key} {us : List Value}, Vals (ks.map kV) us → ItemsAre (mixKind P w) ks us
 | [], _, r => by rw [List.map_nil] at r; cases r; exact .nil
 | k :: ks, _, r => by
  rw [List.map_cons] at r
  cases r with
  | cons h t => exact .cons (kV_is h) (items_are t)
noncomputable abbrev KT (H : Hp) : List (List Key × V) → List (List Key × Addr × Value) → Prop := Paired fun p q => p.1 = q.1 ∧ H q.2.1 = some (.tup (p.1.map kV)) ∧ RelV p.2 q.2.2
theorem KT.val {H : Hp} {kvs : List (List Key × V)} {xs : List (List Key × Addr × Value)} (r : KT H kvs xs) (k : List Key) : RelO (valV kvs k) ((atKey xs k).map (·.2)) := by
 induction r with
 | nil => exact True.intro
 | @cons p q ps qs h t ih =>
  obtain ⟨h1, _, h2⟩ := h
  by_cases e : p.1 = k
  ·have e' : q.1 = k := h1.symm.trans e
   have b : atKey (q :: qs) k = some q.2 := by simp [atKey, List.find?_cons, e']
   rw [valV_pos e, b]; exact h2
  ·have e' : ¬ q.1 = k := fun z => e (h1.trans z)
   have b : atKey (q :: qs) k = atKey qs k := by simp [atKey, List.find?_cons, e']
   rw [valV_neg e, b]; exact ih
theorem KT.repl {H : Hp} {kvs : List (List Key × V)} {xs : List (List Key × Addr × Value)} (r : KT H kvs xs) (k : List Key) {y : V} {u : Value} (ry : RelV y u) :
  KT H (kvs.map fun kv => if kv.1 = k then (kv.1, y) else kv) (xs.map (putAt k u)) := by
 induction r with
 | nil => exact .nil
 | @cons p q ps qs h t ih =>
  rw [List.map_cons, List.map_cons]
  refine .cons ?_ ih
  obtain ⟨h1, h2, h3⟩ := h
  unfold putAt
  by_cases e : p.1 = k
  ·rw [if_pos e, if_pos (h1.symm.trans e)]; exact ⟨h1, h2, ry⟩
  ·rw [if_neg e, if_neg (fun z => e (h1.trans z))]; exact ⟨h1, h2, h3⟩
theorem KT.put {H : Hp} {kvs : List (List Key × V)} {xs : List (List Key × Addr × Value)} (r : KT H kvs xs) (k : List Key) {b : Addr} {y : V} {u : Value} (hb : H b = some (.tup (k.map kV))) (ry : RelV y u) :
  KT H (putK kvs k y) (storedH xs k b u) := by
 have e : (kvs.any fun kv => decide (kv.1 = k)) = (atKey xs k).isSome := by
  rw [valV_any, (r.val k).isSome_eq, Option.isSome_map]
 unfold putK storedH
 rw [e]
 by_cases q : (atKey xs k).isSome = true
 ·rw [if_pos q, if_pos q]; exact r.repl k ry
 ·rw [if_neg q, if_neg q]; exact Paired.snoc r ⟨rfl, hb, ry⟩
theorem KT.keeps {H H' : Hp} {kvs : List (List Key × V)} {xs : List (List Key × Addr × Value)} (r : KT H kvs xs) (ht : ∀ b ys, H b = some (.tup ys) → H' b = some (.tup ys)) : KT H' kvs xs :=
 Paired.mapP r fun _ _ z => ⟨z.1, ht _ _ z.2.1, z.2.2⟩
section
variable {P : Program} {w : World} {H : Hp} {h : Heap} {a : Addr}
theorem rd_of {u : HO} (ok : HOk P w H h) (e : Rd H a u) : ObjOk P w H h a u := e.ok ok
theorem dk_rd {kvs : List (Key × V)} (ok : HOk P w H h) (e : Rd H a (.dK kvs)) : kvs.length ≤ sizeLine ∧ (a == sysModules) = false ∧ ∃ vs, KV kvs vs ∧ h.DictOf (mixKind P w) a vs :=
 show ObjOk P w H h a (.dK kvs) from rd_of ok e
theorem dk_of {kvs : List (Key × V)} (ok : HOk P w H h) (e : H a = some (.dK kvs)) : kvs.length ≤ sizeLine ∧ (a == sysModules) = false ∧ ∃ vs, KV kvs vs ∧ h.DictOf (mixKind P w) a vs := dk_rd ok (.inl e)
theorem key_of {ks : List Key} (ok : HOk P w H h) (e : H a = some (.tup (ks.map kV))) : (tupleKind (mixKind P w)).is h ks a := by
 obtain ⟨_, its, r, o, h1, h2, n, h3⟩ := (show ObjOk P w H h a (.tup (ks.map kV)) from ok a _ e)
 exact ⟨o, its.toArray, n, h1, h2, h3, by simpa using items_are r⟩
theorem dt_rd {kvs : List (List Key × V)} (ok : HOk P w H h) (e : Rd H a (.dT kvs)) : kvs.length ≤ sizeLine ∧ (a == sysModules) = false ∧
  ∃ xs, KT H kvs xs ∧ h.DictOfH (tupleKind (mixKind P w)) a xs := by
 obtain ⟨z, y, xs, r, o, es, ep, h1, h2, h3, h4, h5⟩ := (show ObjOk P w H h a (.dT kvs) from rd_of ok e)
 refine ⟨z, y, xs, r, o, es, ep, h1, h2, h3, h4, fun x hx => ?_, h5⟩
 have all : ∀ {l : List (List Key × V)} {m : List (List Key × Addr × Value)}, KT H l m → ∀ x ∈ m, (tupleKind (mixKind P w)).is h x.1 x.2.1 := by
  intro l m q
  induction q with
  | nil => intro x hx; exact nomatch hx
  | @cons p q ps qs hq t ih =>
   intro x hx
   rcases List.mem_cons.mp hx with e | hx
   ·subst e
    exact key_of ok (by rw [← hq.1]; exact hq.2.1)
   ·exact ih x hx
 exact all r x hx
theorem dt_of {kvs : List (List Key × V)} (ok : HOk P w H h) (e : H a = some (.dT kvs)) : kvs.length ≤ sizeLine ∧ (a == sysModules) = false ∧
  ∃ xs, KT H kvs xs ∧ h.DictOfH (tupleKind (mixKind P w)) a xs := dt_rd ok (.inl e)
end
noncomputable def DGet (H : Hp) (a : Addr) (y : V) (r : Option V) : Prop :=
 (∃ kvs k, Rd H a (.dK kvs) ∧ y = kV k ∧ r = valV kvs k) ∨ ∃ kvs k b, Rd H a (.dT kvs) ∧ y = .ref b ∧ H b = some (.tup (k.map kV)) ∧ r = valV kvs k
noncomputable def DPut (H : Hp) (a : Addr) (y v : V) (H' : Hp) : Prop :=
 (∃ kvs k, H a = some (.dK kvs) ∧ y = kV k ∧ kvs.length < sizeLine ∧ H' = upd H a (.dK (putK kvs k v))) ∨
 ∃ kvs k b, H a = some (.dT kvs) ∧ y = .ref b ∧ H b = some (.tup (k.map kV)) ∧ kvs.length < sizeLine ∧ H' = upd H a (.dT (putK kvs k v))
theorem DGet.k {H : Hp} {a : Addr} {kvs : List (Key × V)} {k : Key} (e : H a = some (.dK kvs)) : DGet H a (kV k) (valV kvs k) := .inl ⟨kvs, k, .inl e, rfl, rfl⟩
theorem DGet.t {H : Hp} {a b : Addr} {kvs : List (List Key × V)} {k : List Key} (e : H a = some (.dT kvs)) (eb : H b = some (.tup (k.map kV))) : DGet H a (.ref b) (valV kvs k) := .inr ⟨kvs, k, b, .inl e, rfl, eb, rfl⟩
theorem DPut.k {H : Hp} {a : Addr} {kvs : List (Key × V)} {k : Key} {v : V} (e : H a = some (.dK kvs)) (hl : kvs.length < sizeLine) : DPut H a (kV k) v (upd H a (.dK (putK kvs k v))) := .inl ⟨kvs, k, e, rfl, hl, rfl⟩
theorem DPut.t {H : Hp} {a b : Addr} {kvs : List (List Key × V)} {k : List Key} {v : V} (e : H a = some (.dT kvs)) (eb : H b = some (.tup (k.map kV))) (hl : kvs.length < sizeLine) :
  DPut H a (.ref b) v (upd H a (.dT (putK kvs k v))) := .inr ⟨kvs, k, b, e, rfl, eb, hl, rfl⟩
section
variable {X : Cx} {pins : List (Addr × Obj)} {σ : St} {H : Hp} {s : Shared} {a : Addr} {y v : V} {u r : Value} {o : Option V} {A : Around} {E : Value → Shared → Prop}
theorem Inv.big (I : Inv X pins σ H s) : sysModules < s.heap.objs.size := by
 have h : mainGlobals < s.heap.objs.size := (I.mod.glob.keeps I.bk).lt
 exact Nat.lt_trans (by decide) h
theorem d_write {h' : Heap} {t' : Nat} {ob : HO} (I : Inv X pins σ H s) (mu : Mut (H a)) (hs : Heap.SameBut a s.heap h') (he : ∃ q, h'.get? a = some q) (new : ObjOk X.prog X.w (upd H a ob) h' a ob) :
  Inv X pins σ (upd H a ob) { s with heap := h', toks := t' } :=
 I.write (x := a) (e := a) mu (.inl rfl) (fun b q hb z => (hs.2 b hb).trans z) he new
theorem dk_new {P : Program} {w : World} {H' : Hp} {h' : Heap} {kvs : List (Key × V)} {vs : List (Key × Value)} (z : kvs.length ≤ sizeLine) (hd : (a == sysModules) = false) (rel : KV kvs vs) (dd : h'.DictOf (mixKind P w) a vs) :
  ObjOk P w H' h' a (.dK kvs) := ⟨z, hd, vs, rel, dd⟩
theorem d_setItem {H' : Hp} {Q : Unit → Shared → Prop} (hu : A.units + 1 < cLine) (I : Inv X pins σ H s) (g : DPut H a y v H') (ry : RelV y u) (rv : RelV v r) (h : ∀ s', Inv X pins σ H' s' → Q () s') :
  wpAny (model X.prog X.w) A (setItem (.ref a) u r) Q E s := by
 rcases g with ⟨kvs, k, e, ey, l, eH⟩ | ⟨kvs, k, b, e, ey, eb, l, eH⟩
 ·subst ey eH
  obtain ⟨z, hd, vs, rel, dd⟩ := dk_of I.hok e
  have hz : vs.length ≤ sizeLine := by rw [← rel.length]; exact z
  have hl : (putK kvs k v).length ≤ sizeLine := by have := length_putK kvs k v; omega
  refine wpAny_setItem_pairs (hsz := hz) (kV_is ry) dd fun h' dd' hs => h _ ?_
  have he : ∃ q, h'.get? a = some q := let ⟨q, _, _, hq, _⟩ := dd'; ⟨q, hq⟩
  exact d_write I (by rw [e]; exact True.intro) hs he (dk_new hl hd (rel.put k rv) dd')
 ·subst ey eH
  cases (show u = Value.ref b from ry)
  obtain ⟨z, hd, xs, rel, dd⟩ := dt_of I.hok e
  have hz : xs.length ≤ sizeLine := by rw [← Paired.length rel]; exact z
  have hl : (putK kvs k v).length ≤ sizeLine := by have := length_putK kvs k v; omega
  refine wpAny_setItem_heap (hsz := hz) (tupleKind_room_in1 hu) (key_of I.hok eb) dd fun h' dd' hs => h _ ?_
  obtain ⟨q, es, ep, hq, h2, h3, h4, _, h5⟩ := dd'
  refine d_write I (by rw [e]; exact True.intro) hs ⟨q, hq⟩ ⟨hl, hd, _, (rel.put k eb rv).keeps fun c ys ec => ?_, q, es, ep, hq, h2, h3, h4, h5⟩
  rw [upd_ne (ne_of ec e (fun z => nomatch z))]
  exact ec
end
section
variable {X : Cx} {pins : List (Addr × Obj)} {σ : St} {H : Hp} {s : Shared} {a : Addr} {kvs : List (Key × V)} {k : Key} {u : Value} {A : Around} {E : Value → Shared → Prop}
end
noncomputable def sDPut (td ty tv : TE) : TS := fun D σ H => tv σ H fun v H1 => td σ H1 fun x H2 => ty σ H2 fun y H3 => ∃ a H4, x = .ref a ∧ DPut H3 a y v H4 ∧ D.nx σ H4
section
variable {X : Cx} {o i e value : Expr} {pos pos' tpos : Pos} {td ty tv : TE}
theorem ps_dput (hu : X.A.units + 1 < cLine) (ho : PE X o td) (hi : PE X i ty) (hv : PE X value tv) (hs : swapsWith value (some (.Subscript o i pos')) pos.line X.env = pure false) :
  PS X (.Assign [.Subscript o i pos'] value pos) (sDPut td ty tv) := by
 intro pins s σ H D I h
 refine wpAny_Assign_Subscript (thn (hv pins s σ H _ I h) fun r s1 ⟨v, H1, I1, rv, q1⟩ => thn (ho pins s1 σ H1 _ I1 q1) fun u s2 ⟨x, H2, I2, rx, q2⟩ => thn (hi pins s2 σ H2 _ I2 q2) fun iv s3 ⟨y, H3, I3, ry, a, H4, ex, g, q3⟩ => ?_) hs
 subst ex
 obtain rfl : u = Value.ref a := rx
 exact d_setItem hu I3 g ry rv fun s4 I4 => ⟨σ, H4, I4, q3⟩
end
theorem dk_empty {P : Program} {w : World} {H : Hp} (h : Heap) (hb : sysModules < h.objs.size) : ObjOk P w H (h.push { cls := .type "dict", data := .dict #[] }) h.objs.size (.dK []) :=
 ⟨Nat.zero_le _, beq_eq_false_iff_ne.mpr (Ne.symm (Nat.ne_of_lt hb)), [], .nil, Heap.DictOf.new h⟩
noncomputable def tDNewK : TE := fun _ H Q => ∀ p, H p = none → Q (.ref p) (upd H p (.dK []))
section
variable {X : Cx} {pos : Pos}
theorem pe_dnewK : PE X (.Dict [] [] pos) tDNewK := fun pins s σ H Q I h =>
 wpAny_Dict_empty ⟨.ref s.heap.objs.size, _, I.laid (a := s.heap.objs.size) (o := .dK []) (t' := s.toks) (fun _ _ q => Heap.get?_push_of_some _ q) (Nat.le_refl _) (dk_empty s.heap I.big), rfl, h _ (I.hok.fresh (Nat.le_refl _))⟩
end
noncomputable abbrev VV : List (V × V) → List (Value × Value) → Prop := Paired fun p q => RelV p.1 q.1 ∧ RelV p.2 q.2
structure M1 (X : Cx) (o : Expr) (m : Str) (apos : Pos) (e : Expr) (cpos : Pos) : Prop where
 base : attributeBase o m X.env (eval o X.env) = eval o X.env
 few : ((backTo cpos (starEach [e] X.env)).all (fun x => !x.1) && (backToKw cpos (keywordEach [] X.env)).all (fun x => x.1.isSome)
  && decide (([e] : List Expr).length + ([] : List Keyword).length + (if ([] : List Keyword).isEmpty then 0 else 1) < 30)) = true
 line : (apos.endLine == cpos.line) = true
 trees : backTo cpos (starEach [e] X.env) = [(false, eval e X.env)]
structure M2 (X : Cx) (o : Expr) (m : Str) (apos : Pos) (e f : Expr) (cpos : Pos) : Prop where
 base : attributeBase o m X.env (eval o X.env) = eval o X.env
 few : ((backTo cpos (starEach [e, f] X.env)).all (fun x => !x.1) && (backToKw cpos (keywordEach [] X.env)).all (fun x => x.1.isSome)
  && decide (([e, f] : List Expr).length + ([] : List Keyword).length + (if ([] : List Keyword).isEmpty then 0 else 1) < 30)) = true
 line : (apos.endLine == cpos.line) = true
 trees : backTo cpos (starEach [e, f] X.env) = [(false, eval e X.env), (false, eval f X.env)]
noncomputable def IsD (H : Hp) (a : Addr) : Prop := (∃ kvs, Rd H a (.dK kvs)) ∨ ∃ kvs, Rd H a (.dT kvs)
theorem isD_at {X : Cx} {pins : List (Addr × Obj)} {σ : St} {H : Hp} {s : Shared} {a : Addr} (I : Inv X pins σ H s) (d : IsD H a) :
  s.TypeIs (.ref a) "dict" ∧ (∀ b, Value.ref a = .ref b → ∃ ob, s.heap.get? b = some ob ∧ ob.dict = none) ∧ (a == sysModules) = false := by
 rcases d with ⟨kvs, e⟩ | ⟨kvs, e⟩
 ·obtain ⟨_, hd, vs, _, dd⟩ := dk_rd I.hok e
  refine ⟨dd.typeIs, fun b q => ?_, hd⟩
  cases q
  obtain ⟨ob, _, _, h1, h2, _⟩ := dd
  exact ⟨ob, h1, h2.2.1⟩
 ·obtain ⟨_, hd, xs, _, dd⟩ := dt_rd I.hok e
  refine ⟨dd.typeIs, fun b q => ?_, hd⟩
  cases q
  obtain ⟨ob, _, _, h1, h2, _⟩ := dd
  exact ⟨ob, h1, h2.2.1⟩
section
variable {X : Cx} {pins : List (Addr × Obj)} {σ : St} {H : Hp} {s : Shared} {a : Addr} {y d : V} {u r : Value} {o : Option V} {A : Around} {E : Value → Shared → Prop}
theorem d_get2 {Q : Value → Shared → Prop} (hu : A.units + 1 < cLine) (I : Inv X pins σ H s) (g : DGet H a y o) (ry : RelV y u) (rd : RelV d r) (h : ∀ w' s', Inv X pins σ H s' → RelV (o.getD d) w' → Q w' s') :
  wpAny (model X.prog X.w) A (call (.builtin "dict.get") [.ref a, u, r]) Q E s := by
 rcases g with ⟨kvs, k, e, ey, l⟩ | ⟨kvs, k, b, e, ey, eb, l⟩
 ·subst ey
  obtain ⟨z, hd, vs, rel, dd⟩ := dk_rd I.hok e
  refine call_meetsIn PySem.F.slot_dict_get dd.typeIs PySem.F.entry_dict_get (PySem.F.args_dict_get_3 _ _ _) (meets_dict_get_default (mixKind X.prog X.w) a (kV_is ry) hd r) ⟨_, dd.mapOf, h _ _ (I.tok _) ?_⟩
  rw [l]
  exact (rel.val k).getD rd
 ·subst ey
  cases (show u = Value.ref b from ry)
  obtain ⟨z, hd, xs, rel, dd⟩ := dt_rd I.hok e
  refine call_meetsIn PySem.F.slot_dict_get dd.typeIs PySem.F.entry_dict_get (PySem.F.args_dict_get_3 _ _ _) (meetsH_dict_get_default (tupleKind (mixKind X.prog X.w)) a b hd r) ⟨tupleKind_room_in1 hu, k, xs, key_of I.hok eb, dd, h _ _ (I.tok _) ?_⟩
  rw [l]
  exact (rel.val k).getD rd
end
noncomputable def tDGet2 (td ty tx : TE) : TE := fun σ H Q => td σ H fun x H1 => ∃ a, x = .ref a ∧ IsD H1 a ∧ ty σ H1 fun y H2 => tx σ H2 fun z H3 => ∃ o, DGet H3 a y o ∧ Q (o.getD z) H3
section
variable {X : Cx} {o e f : Expr} {apos cpos : Pos} {td ty tx : TE}
theorem pe_dget2 (hu : X.A.units + 1 < cLine) (ho : PE X o td) (he : PE X e ty) (hf : PE X f tx) (m : M2 X o "get" apos e f cpos) : PE X (.Call (.Attribute o "get" apos) [e, f] [] cpos) (tDGet2 td ty tx) := by
 intro pins s σ H Q I h
 refine wpAny_Call_method m.base m.few m.line PySem.F.plainAttrs_dict PySem.F.slot_dict_get PySem.F.type_dict_get (thn (ho pins s σ H _ I h) fun u s1 ⟨x, H1, I1, rx, a, ex, d, q1⟩ => ?_)
 subst ex
 obtain rfl : u = Value.ref a := rx
 obtain ⟨t1, t2, _⟩ := isD_at I1 d
 refine ⟨t1, t2, ?_⟩
 rw [m.trees]
 refine Calls.callWith_builtin rfl (Calls.evalArgs_plain (Calls.spliced_cons (thn (he pins s1 σ H1 _ I1 q1) fun iv s2 ⟨y, H2, I2, ry, q2⟩ =>
  Calls.spliced_cons (thn (hf pins s2 σ H2 _ I2 q2) fun fv s3 ⟨z, H3, I3, rz, ov, g, q3⟩ => Calls.spliced_nil ?_))))
 exact d_get2 hu I3 g ry rz fun w' s4 I4 rw' => ⟨_, H3, I4, rw', q3⟩
end
section
variable {X : Cx} {pins : List (Addr × Obj)} {σ : St} {H : Hp} {s : Shared} {a : Addr} {kvs : List (Key × V)} {A : Around} {E : Value → Shared → Prop}
end
section
variable {X : Cx} {pins : List (Addr × Obj)} {σ : St} {H : Hp} {s : Shared} {a : Addr} {y : V} {u : Value} {A : Around} {E : Value → Shared → Prop}
end
end L2
namespace Att
open PySem PySem.W PySem.Calls PyProof.Rows
theorem ints_of_wellAll {P : Params} {h : Heap} : ∀ (ns : List Int) (vs : List Value), WellAll P h vs (ns.map WData.int) → IntsAre vs ns := by
 intro ns
 induction ns with
 | nil =>
  intro vs w
  rw [List.map_nil] at w
  cases w
  exact .nil
 | cons n ns ih =>
  intro vs w
  rw [List.map_cons] at w
  cases w with
  | cons a b =>
   cases a
   exact .cons _ _ (ih _ b)
theorem script_of {l : OpenLaw} {n : Nat} (hn : l.most = some n) {P : Params} {h : Heap} {args : List WData} {vals : List Value}
  (hpre : l.row.toRowW.claim.pre args = true) (hwl : WellAll P h vals args) :
  ∃ a vs ns, vals = [Value.ref a] ∧ args = [WData.list (ns.map WData.int)] ∧ h.get? a = some { cls := .type "list", data := .seq vs.toArray } ∧ IntsAre vs ns ∧ ns.length ≤ n := by
 have hsh : WShape.hasAll [] args [.list .int] = true := (pre_splitW hpre).1
 have hc : l.pre.holds [] { args := args } = true := (pre_splitW hpre).2
 obtain ⟨d, r, rfl, h1, h2⟩ := hasAllW_cons hsh
 obtain rfl := hasAllW_nil h2
 obtain ⟨xs, rfl, h3⟩ := hasW_list h1
 obtain ⟨ns, rfl⟩ := items_int h3
 have hlen : ns.length ≤ n := by
  unfold OpenLaw.pre at hc
  have h4 : (WTm.not (.lt (.lit (.int (n : Int))) (.len (.arg 0)))).holds [] { args := [.list (ns.map .int)] } = true := by
   have h4 := (holds_andW hc).1
   rw [hn] at h4
   exact h4
  have h5 := condW_of h4 (w_not (w_lt w_lit (w_len_list (w_arg rfl))))
  rw [List.length_map] at h5
  refine Nat.le_of_not_lt fun q => ?_
  have q' : (n : Int) < ((ns.length : Nat) : Int) := by omega
  first
   | (rw [decide_eq_true q'] at h5; exact absurd h5 (by decide))
   | (simp at h5; omega)
 cases hwl with
 | cons w1 w2 =>
  cases w2
  cases w1 with
  | list ho hall => exact ⟨_, _, ns, rfl, rfl, ho, ints_of_wellAll ns _ hall, hlen⟩
theorem post_true (l : OpenLaw) (args : List WData) : l.row.toRowW.claim.post args (.bool true) args = true :=
 postW_of (r := l.row.toRowW) (X := (true == true))
  (show WShape.has [] (.bool true) .bool = true by first | rfl | decide | simp [WShape.has, WShape.arms, WShape.armsAll])
  (show (WTm.eq .res (.lit (.bool true))).value [] { args := args, res := some (.bool true), after := args } = some (.bool (true == true)) from w_eq_bool (w_res rfl) w_lit) rfl
theorem attach_call {l : OpenLaw} {n : Nat} {q : Program} {loose : List Str} {XP : (Str → Option Value) → Heap → Prop} {YP : World → Heap → Prop} {d : DefRec}
  (hn : l.most = some n) (hdf : d.params.defaults = [])
  (call : ∀ (w : World) (s₀ s₁ : Shared) (mg mb : Str → Option Value) (fa : Addr) (o : Obj) (pm cd doc : Value) (a : Addr) (vs : List Value) (ns : List Int),
   Ground q loose [] XP w s₀ mg mb s₁.heap → YP w s₁.heap →
   s₁.heap.get? fa = some o → o.data = .func (docDef d.name d.params d.body d.scope pm cd doc) → s₁.heap.CodeRec cd d.name → mg d.name = some (.ref fa) →
   s₁.heap.get? a = some { cls := .type "list", data := .seq vs.toArray } → IntsAre vs ns → ns.length ≤ n → s₁.gens = #[] →
   codeAny (model l.prog w) callerA (.call (.ref fa) ⟨[.ref a], []⟩) (fun r s' => r = .ok (.ret (.bool true)) ∧ OldK s₁.heap s'.heap ∧ s'.os = s₁.os ∧ AllBare s'.gens) s₁) :
  WalkO q loose XP YP l.row.toRowW d [] (fun f vs => PySem.call f vs) := by
 intro w s₀ s₁ mg mb G Y fa o pm cd doc dV kV ho hd hcd hD hmg hg args vals as hpre hlay hrd hwl hlo
 obtain rfl : dV = .none := Dflts.none hD hdf
 obtain rfl : kV = .none := Dflts.noKw hD
 obtain ⟨a, vs, ns, rfl, rfl, hobj, hints, hlen⟩ := script_of hn hpre hwl
 refine enter_call (codeAny_mono (call w s₀ s₁ mg mb fa o pm cd doc a vs ns G Y ho (fd_plain hd) hcd hmg hobj hints hlen hg) fun r s' hq => ?_)
 obtain ⟨rfl, h2, h3, h4⟩ := hq
 exact ⟨.inl ⟨.bool true, .bool true, [], rfl, fun _ => rfl, .bool true, post_true l _, fun _ => ⟨List.Pairwise.nil, fun _ hm => (nomatch hm)⟩⟩, h2, h3, h4⟩
section
variable {prog : Program} {w : World} {A : Around} {E : Value → Shared → Prop} {s : Shared} {K : Frag}
end
end Att
namespace L2
open PySem PySem.Spec PyProof.Rows
theorem vals_ints : ∀ {vs : List Value} {ns : List Int}, IntsAre vs ns → Vals (ns.map V.int) vs
 | _, _, .nil => .nil
 | _, _, .cons n t h => .cons ⟨t, rfl⟩ (vals_ints h)
end L2
namespace L2
open PySem PySem.Spec PyProof.Rows
noncomputable abbrev KOf {K : PySem.W.Frag} {h : Heap} (_ : K.In h) : PySem.W.Frag := K
end L2
namespace L2
open PySem PySem.Spec PyProof.Rows
def defArgs (s : Stmt) : Arguments := match s with
 | .FunctionDef _ a _ _ _ _ _ _ _ _ => a
 | _ => { posonlyargs := [], args := [], vararg := none, kwonlyargs := [], kw_defaults := [], kwarg := none, defaults := [] }
def defBody (s : Stmt) : List Stmt := match s with
 | .FunctionDef _ _ b _ _ _ _ _ _ _ => b
 | _ => []
def defScope (s : Stmt) : Scope := match s with
 | .FunctionDef _ _ _ _ _ _ sc _ _ _ => sc
 | _ => { kind := .function, names := [], isGenerator := false, isCoroutine := false }
noncomputable abbrev CX0 : CXT := fun _ _ _ _ _ _ => False
noncomputable abbrev E0 : XK := fun _ _ _ => False
structure Fun (K : PySem.W.Frag) (x qual : Str) (st : Stmt) (f : Addr) (fd : FuncData) : Prop where
 ex : ∃ (oc : Value) (od : Option Addr) (kV doc pm : Value) (an : Option Addr) (cdv ct : Value) (osl : Array (Option Value)),
  fd = PySem.W.fnOf x qual (defArgs st) (defBody st) (defScope st) .none kV doc pm an cdv ct ∧ K.lookup f = some ⟨oc, od, .func fd, osl⟩ ∧ PySem.W.codeIn K cdv qual = true
 kp : PySem.W.keepIn K (.ref f) = true
section
variable {P : Program} {w : World} {K : PySem.W.Frag} {mg : Str → Option Value} {base : Heap}
theorem Fun.ok {x qual : Str} {st : Stmt} {f : Addr} {fd : FuncData} {N ps : List Str} {k : Nat} {sp : Sp} (F : Fun K x qual st f fd) (S : FnScope N ps (defScope st)) (len : ∀ vs H Q E, sp vs H Q E → vs.length = ps.length)
  (hbody : ∀ (cdv : Value) (A : Around) (outer : List Env) (s : Shared) (H : Hp) (vs : List V) (Q : VK) (E : XK), Room k (A.deeper (envOfC qual (defScope st) s.heap.objs.size f cdv)) → sp vs H Q E →
   ∃ t, PSs (cxOf CX0 P w K mg base N qual (defScope st) f cdv A outer s H E).nox (defBody st) t ∧ t { nx := fun _ H' => Q .non H', rt := Q } (start N vs) H) : FnOk P w K mg base CX0 (k + 1) f fd ps sp := by
 obtain ⟨oc, od, kV, doc, pm, an, cdv, ct, osl, rfl, lk, hcd⟩ := F.ex
 refine fn_of lk hcd S len fun A outer s H vs Q E hr hsp => ?_
 obtain ⟨t, h, q⟩ := hbody cdv A outer s H vs Q E hr hsp
 exact ⟨t, h.nox, q⟩
theorem Fun.binds {x qual : Str} {st : Stmt} {f : Addr} {fd : FuncData} {ps : List Str} (F : Fun K x qual st f fd)
  (h : ∀ (kV doc pm : Value) (an : Option Addr) (cdv ct : Value) (us : List Value), us.length = ps.length → bindArgs (PySem.W.fnOf x qual (defArgs st) (defBody st) (defScope st) .none kV doc pm an cdv ct) ⟨us, []⟩ = pure (ps.zip us)) : Binds K fd ps [] := by
 obtain ⟨oc, od, kV, doc, pm, an, cdv, ct, osl, rfl, lk, hcd⟩ := F.ex
 exact .all (h kV doc pm an cdv ct)
theorem fun_mk {x qual : Str} {st : Stmt} {f : Addr} {oc : Value} {od an : Option Addr} {osl : Array (Option Value)} {kV doc pm cdv ct : Value} (l : K.lookup f = some ⟨oc, od, .func (PySem.W.fnOf x qual (defArgs st) (defBody st) (defScope st) .none kV doc pm an cdv ct), osl⟩)
  (c : PySem.W.codeIn K cdv qual = true) (k : PySem.W.keepIn K (.ref f) = true) : Fun K x qual st f (PySem.W.fnOf x qual (defArgs st) (defBody st) (defScope st) .none kV doc pm an cdv ct) := ⟨⟨oc, od, kV, doc, pm, an, cdv, ct, osl, rfl, l, c⟩, k⟩
end
section
variable {X : Cx}
end
noncomputable def Same (H H' : Hp) : Prop := ∀ b o, H b = some o → H' b = some o
theorem Same.refl (H : Hp) : Same H H := fun _ _ h => h
theorem Same.trans {H H1 H2 : Hp} (a : Same H H1) (b : Same H1 H2) : Same H H2 := fun c o h => b c o (a c o h)
theorem Same.free {H H' : Hp} (e : Same H H') {l : Addr} (h : H' l = Option.none) : H l = Option.none := by
 cases q : H l with
 | none => rfl
 | some o =>
  rw [e l o q] at h
  cases h
theorem Same.seq {K : PySem.W.Frag} {H H' : Hp} {a : Addr} {xs : List V} (e : Same H H') (h : SqL K H a xs) : SqL K H' a xs := by
 rcases h with (h | ⟨o, h⟩) | h
 ·exact .inl (.inl (e _ _ h))
 ·exact .inl (.inr ⟨o, e _ _ h⟩)
 ·exact .inr h
section
variable {κ : Type} [DecidableEq κ]
end
end L2
end
section
namespace Pu
open PySem
noncomputable def tbs : List (Addr × Addr × Str) := [(86, 82, "is_columns.<locals>.<lambda>")]
end Pu
end
section
namespace Pu
open PySem PySem.Spec PyProof.Rows L2
noncomputable abbrev St := L2.St
structure KA where
 K : PySem.W.Frag
 A : Str → Addr
instance : CoeOut KA PySem.W.Frag := ⟨KA.K⟩
noncomputable def adr (mg : Str → Option Value) (x : Str) : Addr := match mg x with
 | some (.ref a) => a
 | _ => 0
noncomputable abbrev kx (X : Cx) : KA := ⟨X.K, adr X.mg⟩
noncomputable abbrev EK := Str → Hp → Prop
noncomputable abbrev ek (K : KA) (E : XK) : EK := fun c H => E (.ref (K.A c)) none H
inductive D where
 | non
 | bl (b : Bool)
 | int (i : Int)
 | str (x : Str)
 | tup (ds : List D)
 | lst (ds : List D)
 | dct (t : Bool) (kvs : List (D × D))
 | obj (e : Expr) (fs : List (Str × D))
 | fn (f : Str)
noncomputable def kD : Key → D
 | .inl i => .int i
 | .inr x => .str x
noncomputable def freeN : List (Str × NameKind) → List Str
 | [] => []
 | (n, k) :: r => if k = .free then n :: freeN r else freeN r
noncomputable def LamAt (H : Hp) (e : Expr) (a : Addr) (vs : List (Str × V)) : Prop := match e with
 | .Lambda params body scope _ => ∃ (qual : Str) (pm : Value) (c' : Addr) (ctv : Value) (cl : List (Str × Addr)) (oc : Obj) (cvs : Array Value) (t : Tok),
   H a = some (.frz (PySem.W.kla_obj "<lambda>" qual params body scope cl pm c' ctv) (.own 0)) ∧ H c' = some (.frz oc (.own 0)) ∧ oc.data = .fields cvs ∧ cvs[1]? = some (.str qual t) ∧
   (∀ x y c, cl.lookup x = some c → cl.lookup y = some c → x = y) ∧ (∀ y, (y, NameKind.free) ∈ scope.names → ∃ c, cl.lookup y = some c) ∧ (∀ y c, cl.lookup y = some c → (y, NameKind.free) ∈ scope.names) ∧
   (∀ y c, cl.lookup y = some c → ∃ o v u, H c = some (.frz o (.own 0)) ∧ o.data = .cell (some u) ∧ (y, v) ∈ vs ∧ RelV v u) ∧ vs.map (·.1) = freeN scope.names
 | _ => False
theorem LamAt.mono {H H' : Hp} (q : Same H H') {e : Expr} {a : Addr} {vs : List (Str × V)} (h : LamAt H e a vs) : LamAt H' e a vs := by
 unfold LamAt at h ⊢
 split at h
 ·obtain ⟨qual, pm, c', ctv, cl, oc, cvs, t, h1, h2, h3, h4, h5, h6, h7, h8, h9⟩ := h
  refine ⟨qual, pm, c', ctv, cl, oc, cvs, t, q _ _ h1, q _ _ h2, h3, h4, h5, h6, h7, fun y c z => ?_, h9⟩
  obtain ⟨o, v, u, z1, z2⟩ := h8 y c z
  exact ⟨o, v, u, q _ _ z1, z2⟩
 ·exact h.elim
mutual
noncomputable def Den (K : KA) (H : Hp) : D → V → Prop
 | .non, v => v = .non
 | .bl b, v => v = .bl b
 | .int i, v => v = .int i
 | .str x, v => v = .str x
 | .tup ds, v => ∃ a vs, v = .ref a ∧ H a = some (.tup vs) ∧ DenL K H ds vs
 | .lst ds, v => ∃ a vs, v = .ref a ∧ SqL K H a vs ∧ DenL K H ds vs
 | .dct t kvs, v => ∃ a, v = .ref a ∧ ((t = false ∧ ∃ es, H a = some (.dK es) ∧ DenK K H kvs es) ∨ (t = true ∧ ∃ es, H a = some (.dT es) ∧ DenT K H kvs es))
 | .obj e fs, v => ∃ a vs, v = .ref a ∧ LamAt H e a vs ∧ DenF K H fs vs
 | .fn f, v => v = .ref (K.A f)
noncomputable def DenL (K : KA) (H : Hp) : List D → List V → Prop
 | [], vs => vs = []
 | d :: ds, vs => ∃ v r, vs = v :: r ∧ Den K H d v ∧ DenL K H ds r
noncomputable def DenF (K : KA) (H : Hp) : List (Str × D) → List (Str × V) → Prop
 | [], vs => vs = []
 | (n, d) :: ds, vs => ∃ v r, vs = (n, v) :: r ∧ Den K H d v ∧ DenF K H ds r
noncomputable def DenK (K : KA) (H : Hp) : List (D × D) → List (Key × V) → Prop
 | [], vs => vs = []
 | (k, d) :: ds, vs => ∃ k' v r, vs = (k', v) :: r ∧ k = kD k' ∧ Den K H d v ∧ DenK K H ds r
noncomputable def DenT (K : KA) (H : Hp) : List (D × D) → List (List Key × V) → Prop
 | [], vs => vs = []
 | (k, d) :: ds, vs => ∃ k' v r, vs = (k', v) :: r ∧ k = .tup (k'.map kD) ∧ Den K H d v ∧ DenT K H ds r
end
theorem SqL.mono {K : KA} {H H' : Hp} {a : Addr} {xs : List V} (e : Same H H') (h : SqL K H a xs) : SqL K H' a xs := e.seq h
theorem SqT.mono {K : KA} {H H' : Hp} {a : Addr} {xs : List V} (e : Same H H') (h : SqT K H a xs) : SqT K H' a xs := by
 rcases h with (h | ⟨o, h⟩) | h
 ·exact .inl (.inl (e _ _ h))
 ·exact .inl (.inr ⟨o, e _ _ h⟩)
 ·exact .inr h
mutual
theorem Den.mono {K : KA} {H H' : Hp} (e : Same H H') : ∀ {d : D} {v : V}, Den K H d v → Den K H' d v
 | .non, _, h => h
 | .bl _, _, h => h
 | .int _, _, h => h
 | .str _, _, h => h
 | .tup _, _, ⟨a, vs, h1, h2, h3⟩ => ⟨a, vs, h1, e _ _ h2, DenL.mono e h3⟩
 | .lst _, _, ⟨a, vs, h1, h2, h3⟩ => ⟨a, vs, h1, SqL.mono e h2, DenL.mono e h3⟩
 | .dct _ _, _, ⟨a, h1, h2⟩ => ⟨a, h1, h2.elim (fun ⟨z, es, q1, q2⟩ => .inl ⟨z, es, e _ _ q1, DenK.mono e q2⟩) fun ⟨z, es, q1, q2⟩ => .inr ⟨z, es, e _ _ q1, DenT.mono e q2⟩⟩
 | .obj _ _, _, ⟨a, vs, h1, h2, h3⟩ => ⟨a, vs, h1, h2.mono e, DenF.mono e h3⟩
 | .fn _, _, h => h
theorem DenL.mono {K : KA} {H H' : Hp} (e : Same H H') : ∀ {ds : List D} {vs : List V}, DenL K H ds vs → DenL K H' ds vs
 | [], _, h => h
 | _ :: _, _, ⟨v, r, h1, h2, h3⟩ => ⟨v, r, h1, Den.mono e h2, DenL.mono e h3⟩
theorem DenF.mono {K : KA} {H H' : Hp} (e : Same H H') : ∀ {ds : List (Str × D)} {vs : List (Str × V)}, DenF K H ds vs → DenF K H' ds vs
 | [], _, h => h
 | (_, _) :: _, _, ⟨v, r, h1, h2, h3⟩ => ⟨v, r, h1, Den.mono e h2, DenF.mono e h3⟩
theorem DenK.mono {K : KA} {H H' : Hp} (e : Same H H') : ∀ {ds : List (D × D)} {vs : List (Key × V)}, DenK K H ds vs → DenK K H' ds vs
 | [], _, h => h
 | (_, _) :: _, _, ⟨k, v, r, h1, h0, h2, h3⟩ => ⟨k, v, r, h1, h0, Den.mono e h2, DenK.mono e h3⟩
theorem DenT.mono {K : KA} {H H' : Hp} (e : Same H H') : ∀ {ds : List (D × D)} {vs : List (List Key × V)}, DenT K H ds vs → DenT K H' ds vs
 | [], _, h => h
 | (_, _) :: _, _, ⟨k, v, r, h1, h0, h2, h3⟩ => ⟨k, v, r, h1, h0, Den.mono e h2, DenT.mono e h3⟩
end
section
variable {K : KA} {G H : Hp}
theorem DenL.length : ∀ {ds : List D} {vs : List V}, DenL K H ds vs → ds.length = vs.length
 | [], _, h => by rw [show _ = [] from h]; rfl
 | _ :: _, _, ⟨v, r, h1, _, h3⟩ => by rw [h1, List.length_cons, List.length_cons, DenL.length h3]
theorem DenL.get : ∀ {ds : List D} {vs : List V} {i : Nat} {d : D}, DenL K H ds vs → ds[i]? = some d → ∃ v, vs[i]? = some v ∧ Den K H d v
 | [], _, _, _, _, e => by simp at e
 | _ :: _, _, 0, _, ⟨v, r, h1, h2, _⟩, e => by
  simp at e; subst e; subst h1; exact ⟨v, rfl, h2⟩
 | _ :: _, _, i + 1, _, ⟨v, r, h1, _, h3⟩, e => by
  obtain ⟨w, q1, q2⟩ := DenL.get (i := i) h3 (by simpa using e)
  subst h1
  exact ⟨w, by simpa using q1, q2⟩
theorem DenL.append : ∀ {ds es : List D} {vs ws : List V}, DenL K H ds vs → DenL K H es ws → DenL K H (ds ++ es) (vs ++ ws)
 | [], _, _, _, h, q => by rw [show _ = [] from h]; exact q
 | _ :: _, _, _, _, ⟨v, r, h1, h2, h3⟩, q => ⟨v, r ++ _, by rw [h1]; rfl, h2, DenL.append h3 q⟩
theorem DenL.one {d : D} {v : V} (h : Den K H d v) : DenL K H [d] [v] := ⟨v, [], rfl, h, rfl⟩
theorem DenL.drop : ∀ (n : Nat) {ds : List D} {vs : List V}, DenL K H ds vs → DenL K H (ds.drop n) (vs.drop n)
 | 0, _, _, h => h
 | _ + 1, [], _, h => by rw [show _ = [] from h]; exact rfl
 | n + 1, _ :: _, _, ⟨v, r, h1, _, h3⟩ => by subst h1; exact DenL.drop n h3
theorem DenL.take : ∀ (n : Nat) {ds : List D} {vs : List V}, DenL K H ds vs → DenL K H (ds.take n) (vs.take n)
 | 0, _, _, _ => rfl
 | _ + 1, [], _, h => by rw [show _ = [] from h]; exact rfl
 | n + 1, _ :: _, _, ⟨v, r, h1, h2, h3⟩ => by subst h1; exact ⟨v, r.take n, rfl, h2, DenL.take n h3⟩
theorem DenL.eraseIdx : ∀ (n : Nat) {ds : List D} {vs : List V}, DenL K H ds vs → DenL K H (ds.eraseIdx n) (vs.eraseIdx n)
 | _, [], _, h => by rw [show _ = [] from h]; exact rfl
 | 0, _ :: _, _, ⟨v, r, h1, _, h3⟩ => by subst h1; exact h3
 | n + 1, _ :: _, _, ⟨v, r, h1, h2, h3⟩ => by subst h1; exact ⟨v, r.eraseIdx n, rfl, h2, DenL.eraseIdx n h3⟩
theorem DenL.set {d : D} {v : V} (q : Den K H d v) : ∀ (n : Nat) {ds : List D} {vs : List V}, DenL K H ds vs → DenL K H (ds.set n d) (vs.set n v)
 | _, [], _, h => by rw [show _ = [] from h]; exact rfl
 | 0, _ :: _, _, ⟨_, r, h1, _, h3⟩ => by subst h1; exact ⟨v, r, rfl, q, h3⟩
 | n + 1, _ :: _, _, ⟨w, r, h1, h2, h3⟩ => by subst h1; exact ⟨w, r.set n v, rfl, h2, DenL.set q n h3⟩
end
noncomputable def nfz : HO → Bool
 | .frz _ _ => false
 | _ => true
structure Ext (G H G' H' : Hp) : Prop where
 gg : Same G G'
 hh : Same H H'
 gh : Same G' H'
 fr : ∀ a o, H a = some o → G a = none → nfz o = true → G' a = none
theorem Ext.refl {G H : Hp} (h : Same G H) : Ext G H G H := ⟨Same.refl G, Same.refl H, h, fun _ _ _ q _ => q⟩
theorem Ext.trans {G H G1 H1 G2 H2 : Hp} (a : Ext G H G1 H1) (b : Ext G1 H1 G2 H2) : Ext G H G2 H2 :=
 ⟨a.gg.trans b.gg, a.hh.trans b.hh, b.gh, fun x o h g z => b.fr x o (a.hh x o h) (a.fr x o h g z) z⟩
theorem same_new {H : Hp} {p : Addr} (h : H p = none) (o : HO) : Same H (upd H p o) := fun b u q => by rw [upd_ne (ne_of_none q h)]; exact q
theorem Ext.new {G H : Hp} {p : Addr} (h : Same G H) (o : HO) (n : H p = none) : Ext G H (upd G p o) (upd H p o) := by
 have ng : G p = none := by
  cases e : G p with
  | none => rfl
  | some u => rw [h p u e] at n; cases n
 refine ⟨same_new ng o, same_new n o, fun b u q => ?_, fun a u q g _ => ?_⟩
 ·by_cases e : b = p
  ·subst e; rw [upd_same] at q ⊢; exact q
  ·rw [upd_ne e] at q ⊢; exact h b u q
 ·rw [upd_ne (ne_of_none q n)]; exact g
theorem Ext.own {G H : Hp} {p : Addr} (h : Same G H) (o : HO) (n : H p = none) : Ext G H G (upd H p o) := by
 refine ⟨Same.refl G, same_new n o, fun b u q => ?_, fun a u q g _ => g⟩
 exact same_new n o b u (h b u q)
theorem Ext.known {G H : Hp} {p : Addr} {o : Obj} {u : HO} (h : Same G H) (e : H p = some (.frz o u)) : Ext G H (upd G p (.frz o u)) H := by
 refine ⟨fun b v q => ?_, Same.refl H, fun b v q => ?_, fun a v q g z => ?_⟩
 ·by_cases hb : b = p
  ·subst hb; rw [upd_same, ← e]; exact h b v q
  ·rw [upd_ne hb]; exact q
 ·by_cases hb : b = p
  ·subst hb; rw [upd_same] at q; rw [e]; exact q
  ·rw [upd_ne hb] at q; exact h b v q
 ·by_cases hb : a = p
  ·subst hb; rw [e] at q; cases q; cases z
  ·rw [upd_ne hb]; exact g
noncomputable def Arg (K : KA) (G H : Hp) (d : D) (v : V) : Prop :=
 Den K G d v ∨ (∃ ds a vs, d = .lst ds ∧ v = .ref a ∧ SqL K H a vs ∧ DenL K G ds vs) ∨
  ∃ t kvs a, d = .dct t kvs ∧ v = .ref a ∧ ((t = false ∧ ∃ es, H a = some (.dK es) ∧ DenK K G kvs es) ∨ (t = true ∧ ∃ es, H a = some (.dT es) ∧ DenT K G kvs es))
theorem Arg.ext {K : KA} {G H G' H' : Hp} {d : D} {v : V} (e : Ext G H G' H') (h : Arg K G H d v) : Arg K G' H' d v := by
 rcases h with h | ⟨ds, a, vs, h1, h2, h3, h4⟩ | ⟨t, kvs, a, h1, h2, h3⟩
 ·exact .inl (h.mono e.gg)
 ·exact .inr (.inl ⟨ds, a, vs, h1, h2, SqL.mono e.hh h3, h4.mono e.gg⟩)
 ·exact .inr (.inr ⟨t, kvs, a, h1, h2, h3.elim (fun ⟨z, es, q1, q2⟩ => .inl ⟨z, es, e.hh _ _ q1, q2.mono e.gg⟩) fun ⟨z, es, q1, q2⟩ => .inr ⟨z, es, e.hh _ _ q1, q2.mono e.gg⟩⟩)
theorem Arg.lst {K : KA} {G H : Hp} {ds : List D} {v : V} (s : Same G H) (h : Arg K G H (.lst ds) v) : ∃ a vs, v = .ref a ∧ SqL K H a vs ∧ DenL K G ds vs := by
 rcases h with ⟨a, vs, h1, h2, h3⟩ | ⟨ds', a, vs, h1, h2, h3, h4⟩ | ⟨t, kvs, a, h1, _⟩
 ·exact ⟨a, vs, h1, SqL.mono s h2, h3⟩
 ·cases h1; exact ⟨a, vs, h2, h3, h4⟩
 ·cases h1
theorem Arg.tup0 {K : KA} {G H : Hp} {ds : List D} {v : V} (s : Same G H) (h : Arg K G H (.tup ds) v) : ∃ a vs, v = .ref a ∧ H a = some (.tup vs) ∧ DenL K G ds vs := by
 rcases h with ⟨a, vs, h1, h2, h3⟩ | ⟨ds', a, vs, h1, _⟩ | ⟨t, kvs, a, h1, _⟩
 ·exact ⟨a, vs, h1, s _ _ h2, h3⟩
 ·cases h1
 ·cases h1
theorem Arg.tup {K : KA} {G H : Hp} {ds : List D} {v : V} (s : Same G H) (h : Arg K G H (.tup ds) v) : ∃ a vs, v = .ref a ∧ SqT K H a vs ∧ DenL K G ds vs := by
 obtain ⟨a, vs, h1, h2, h3⟩ := h.tup0 s
 exact ⟨a, vs, h1, .inl (.inl h2), h3⟩
theorem Arg.int {K : KA} {G H : Hp} {i : Int} {v : V} (h : Arg K G H (.int i) v) : v = .int i := by
 rcases h with h | ⟨ds', a, vs, h1, _⟩ | ⟨t, kvs, a, h1, _⟩
 ·exact h
 ·cases h1
 ·cases h1
theorem Arg.bl {K : KA} {G H : Hp} {i : Bool} {v : V} (h : Arg K G H (.bl i) v) : v = .bl i := by
 rcases h with h | ⟨ds', a, vs, h1, _⟩ | ⟨t, kvs, a, h1, _⟩
 ·exact h
 ·cases h1
 ·cases h1
theorem Arg.str {K : KA} {G H : Hp} {i : Str} {v : V} (h : Arg K G H (.str i) v) : v = .str i := by
 rcases h with h | ⟨ds', a, vs, h1, _⟩ | ⟨t, kvs, a, h1, _⟩
 ·exact h
 ·cases h1
 ·cases h1
theorem Arg.non {K : KA} {G H : Hp} {v : V} (h : Arg K G H .non v) : v = .non := by
 rcases h with h | ⟨ds', a, vs, h1, _⟩ | ⟨t, kvs, a, h1, _⟩
 ·exact h
 ·cases h1
 ·cases h1
theorem Arg.fn {K : KA} {G H : Hp} {f : Str} {v : V} (h : Arg K G H (.fn f) v) : v = .ref (K.A f) := by
 rcases h with h | ⟨ds', a, vs, h1, _⟩ | ⟨t, kvs, a, h1, _⟩
 ·exact h
 ·cases h1
 ·cases h1
inductive Res where
 | ok (d : D)
 | er (c : Str)
 | st
noncomputable def Res.bind (r : Res) (f : D → Res) : Res := match r with
 | .ok d => f d
 | .er c => .er c
 | .st => .st
noncomputable def Res.of (o : Option D) : Res := match o with
 | some d => .ok d
 | none => .st
inductive ResL where
 | ok (ds : List D)
 | er (c : Str)
 | st
inductive Sl where
 | no
 | pu (d : D)
 | bo (d : D)
 | ow (ds : List D)
 | od (t : Bool) (kvs : List (D × D))
noncomputable abbrev En := List Sl
noncomputable def SlOk (K : KA) (B G H : Hp) : Sl → Option V → Prop
 | .no, _ => True
 | .pu d, o => ∃ v, o = some v ∧ Den K G d v
 | .bo d, o => ∃ v, o = some v ∧ Arg K G B d v
 | .ow ds, o => ∃ a vs, o = some (.ref a) ∧ H a = some (.lst vs) ∧ DenL K G ds vs
 | .od false kvs, o => ∃ a es, o = some (.ref a) ∧ H a = some (.dK es) ∧ DenK K G kvs es
 | .od true kvs, o => ∃ a es, o = some (.ref a) ∧ H a = some (.dT es) ∧ DenT K G kvs es
noncomputable def Sl.own : Sl → Bool
 | .ow _ => true
 | .od _ _ => true
 | _ => false
noncomputable def GOk (H : Hp) : Prop := ∀ p ∈ tbs, H p.2.1 = some (.tbl (p.2.2))
theorem GOk.same {H H' : Hp} (e : Same H H') (h : GOk H) : GOk H' := fun p hp => e _ _ (h p hp)
structure EnvR (K : KA) (B G H : Hp) (σ : St) (δ : En) : Prop where
 bh : Same B H
 gh : Same G H
 len : σ.length = δ.length
 sl : ∀ (i : Nat) s, δ[i]? = some s → ∃ o, σ[i]? = some o ∧ SlOk K B G H s o
 own : ∀ (i : Nat) s a, δ[i]? = some s → s.own = true → σ[i]? = some (some (V.ref a)) → G a = none ∧ B a = none
 dis : ∀ (i j : Nat) s t a, δ[i]? = some s → δ[j]? = some t → s.own = true → t.own = true → σ[i]? = some (some (V.ref a)) → σ[j]? = some (some (V.ref a)) → i = j
 gb : GOk B
theorem argG {K : KA} {G G' H : Hp} {d : D} {v : V} (e : Same G G') (h : Arg K G H d v) : Arg K G' H d v := by
 rcases h with h | ⟨ds, a, vs, h1, h2, h3, h4⟩ | ⟨t, kvs, a, h1, h2, h3⟩
 ·exact .inl (h.mono e)
 ·exact .inr (.inl ⟨ds, a, vs, h1, h2, h3, h4.mono e⟩)
 ·exact .inr (.inr ⟨t, kvs, a, h1, h2, h3.elim (fun ⟨z, es, q1, q2⟩ => .inl ⟨z, es, q1, q2.mono e⟩) fun ⟨z, es, q1, q2⟩ => .inr ⟨z, es, q1, q2.mono e⟩⟩)
theorem argH {K : KA} {G H H' : Hp} {d : D} {v : V} (e : Same H H') (h : Arg K G H d v) : Arg K G H' d v := by
 rcases h with h | ⟨ds, a, vs, h1, h2, h3, h4⟩ | ⟨t, kvs, a, h1, h2, h3⟩
 ·exact .inl h
 ·exact .inr (.inl ⟨ds, a, vs, h1, h2, SqL.mono e h3, h4⟩)
 ·exact .inr (.inr ⟨t, kvs, a, h1, h2, h3.elim (fun ⟨z, es, q1, q2⟩ => .inl ⟨z, es, e _ _ q1, q2⟩) fun ⟨z, es, q1, q2⟩ => .inr ⟨z, es, e _ _ q1, q2⟩⟩)
theorem SlOk.ext {K : KA} {B G H G' H' : Hp} (e : Ext G H G' H') {s : Sl} {o : Option V} (h : SlOk K B G H s o) : SlOk K B G' H' s o := by
 cases s with
 | no => trivial
 | pu d => obtain ⟨v, h1, h2⟩ := h; exact ⟨v, h1, h2.mono e.gg⟩
 | bo d => obtain ⟨v, h1, h2⟩ := h; exact ⟨v, h1, argG e.gg h2⟩
 | ow ds => obtain ⟨a, vs, h1, h2, h3⟩ := h; exact ⟨a, vs, h1, e.hh _ _ h2, h3.mono e.gg⟩
 | od t kvs =>
  cases t with
  | false => obtain ⟨a, vs, h1, h2, h3⟩ := h; exact ⟨a, vs, h1, e.hh _ _ h2, h3.mono e.gg⟩
  | true => obtain ⟨a, vs, h1, h2, h3⟩ := h; exact ⟨a, vs, h1, e.hh _ _ h2, h3.mono e.gg⟩
theorem SlOk.ref {K : KA} {B G H : Hp} {s : Sl} {o : Option V} (h : SlOk K B G H s o) (q : s.own = true) : ∃ a, o = some (V.ref a) ∧ ∃ u, H a = some u ∧ nfz u = true := by
 cases s with
 | no => cases q
 | pu d => cases q
 | bo d => cases q
 | ow ds => obtain ⟨a, vs, h1, h2, _⟩ := h; exact ⟨a, h1, _, h2, rfl⟩
 | od t kvs =>
  cases t with
  | false => obtain ⟨a, vs, h1, h2, _⟩ := h; exact ⟨a, h1, _, h2, rfl⟩
  | true => obtain ⟨a, vs, h1, h2, _⟩ := h; exact ⟨a, h1, _, h2, rfl⟩
theorem EnvR.ext {K : KA} {B G H G' H' : Hp} {σ : St} {δ : En} (e : Ext G H G' H') (r : EnvR K B G H σ δ) : EnvR K B G' H' σ δ where
 bh := r.bh.trans e.hh
 gb := r.gb
 gh := e.gh
 len := r.len
 sl := fun i s h => by
  obtain ⟨o, q1, q2⟩ := r.sl i s h
  exact ⟨o, q1, q2.ext e⟩
 own := fun i s a h1 h2 h3 => by
  obtain ⟨g, b⟩ := r.own i s a h1 h2 h3
  obtain ⟨o, q1, q2⟩ := r.sl i s h1
  rw [h3] at q1
  cases q1
  obtain ⟨a', z, u, q3, q4⟩ := q2.ref h2
  cases z
  exact ⟨e.fr a u q3 g q4, b⟩
 dis := r.dis
noncomputable def ResP (E : EK) (G H : Hp) (r : Res) (P : D → Prop) : Prop := match r with
 | .ok d => P d
 | .er c => ∀ G' H', Ext G H G' H' → E c H'
 | .st => False
noncomputable def ResLP (E : EK) (G H : Hp) (r : ResL) (P : List D → Prop) : Prop := match r with
 | .ok ds => P ds
 | .er c => ∀ G' H', Ext G H G' H' → E c H'
 | .st => False
section
variable {E : EK} {G H G' H' : Hp}
theorem ResP.mono {r : Res} {P P' : D → Prop} (h : ResP E G H r P) (f : ∀ d, r = .ok d → P d → P' d) : ResP E G H r P' := by
 cases r with
 | ok d => exact f d rfl h
 | er c => exact h
 | st => exact h
theorem ResP.ext {r : Res} {P : D → Prop} (e : Ext G H G' H') (h : ResP E G H r P) : ResP E G' H' r P := by
 cases r with
 | ok d => exact h
 | er c => exact fun G2 H2 e2 => h G2 H2 (e.trans e2)
 | st => exact h
theorem ResP.bind {r : Res} {f : D → Res} {P : D → Prop} (h : ResP E G H (r.bind f) P) : ResP E G H r fun d => ResP E G H (f d) P := by
 cases r with
 | ok d => exact h
 | er c => exact h
 | st => exact h
theorem ResP.of {o : Option D} {P : D → Prop} (h : ResP E G H (Res.of o) P) : ∃ d, o = some d ∧ P d := by
 cases o with
 | some d => exact ⟨d, rfl, h⟩
 | none => exact h.elim
theorem ResLP.mono {r : ResL} {P P' : List D → Prop} (h : ResLP E G H r P) (f : ∀ d, r = .ok d → P d → P' d) : ResLP E G H r P' := by
 cases r with
 | ok d => exact f d rfl h
 | er c => exact h
 | st => exact h
theorem ResLP.ext {r : ResL} {P : List D → Prop} (e : Ext G H G' H') (h : ResLP E G H r P) : ResLP E G' H' r P := by
 cases r with
 | ok d => exact h
 | er c => exact fun G2 H2 e2 => h G2 H2 (e.trans e2)
 | st => exact h
end
noncomputable def ArgM (K : KA) (G H : Hp) (m : Bool) (d : D) (v : V) : Prop := match m with
 | true => Arg K G H d v
 | false => Den K G d v
noncomputable def ArgsM (K : KA) (G H : Hp) : List Bool → List D → List V → Prop
 | [], ds, vs => ds = [] ∧ vs = []
 | m :: ms, ds, vs => ∃ d dr v vr, ds = d :: dr ∧ vs = v :: vr ∧ ArgM K G H m d v ∧ ArgsM K G H ms dr vr
theorem ArgM.ext {K : KA} {G H G' H' : Hp} (e : Ext G H G' H') : ∀ {m : Bool} {d : D} {v : V}, ArgM K G H m d v → ArgM K G' H' m d v
 | true, _, _, h => Arg.ext e h
 | false, _, _, h => Den.mono e.gg h
theorem ArgsM.ext {K : KA} {G H G' H' : Hp} (e : Ext G H G' H') : ∀ {ms : List Bool} {ds : List D} {vs : List V}, ArgsM K G H ms ds vs → ArgsM K G' H' ms ds vs
 | [], _, _, h => h
 | _ :: _, _, _, ⟨d, dr, v, vr, h1, h2, h3, h4⟩ => ⟨d, dr, v, vr, h1, h2, h3.ext e, h4.ext e⟩
theorem ArgsM.length {K : KA} {G H : Hp} : ∀ {ms : List Bool} {ds : List D} {vs : List V}, ArgsM K G H ms ds vs → ds.length = ms.length ∧ vs.length = ms.length
 | [], _, _, ⟨h1, h2⟩ => by rw [h1, h2]; exact ⟨rfl, rfl⟩
 | _ :: _, _, _, ⟨d, dr, v, vr, h1, h2, h3, h4⟩ => by
  obtain ⟨q1, q2⟩ := h4.length
  rw [h1, h2, List.length_cons, List.length_cons, List.length_cons, q1, q2]
  exact ⟨rfl, rfl⟩
section
variable (K : KA) (B : Hp) (E : EK)
noncomputable def tPu (g : En → Res) : TE := fun σ H Q => ∃ G δ, EnvR K B G H σ δ ∧ ResP E G H (g δ) fun d => ∀ v G' H', Ext G H G' H' → Den K G' d v → Q v H'
noncomputable def tAr (g : En → Res) : TE := fun σ H Q => ∃ G δ, EnvR K B G H σ δ ∧ ResP E G H (g δ) fun d => ∀ v G' H', Ext G H G' H' → Arg K G' H' d v → Q v H'
noncomputable def tOw (g : En → Res) : TE := fun σ H Q => ∃ G δ, EnvR K B G H σ δ ∧ ResP E G H (g δ) fun d => ∃ ds, d = .lst ds ∧
 ∀ a vs G' H', Ext G H G' H' → H a = none → G' a = none → H' a = some (.lst vs) → DenL K G' ds vs → Q (.ref a) H'
noncomputable def tTe (g : En → Res) : TT := fun σ H Q => ∃ G δ, EnvR K B G H σ δ ∧ ResP E G H (g δ) fun d => ∃ b, d = .bl b ∧ ∀ G' H', Ext G H G' H' → Q b H'
noncomputable def tAl (ms : List Bool) (g : En → ResL) : TA := fun σ H Q => ∃ G δ, EnvR K B G H σ δ ∧ ResLP E G H (g δ) fun ds => ∀ vs G' H', Ext G H G' H' → ArgsM K G' H' ms ds vs → Q vs H'
end
noncomputable abbrev PuE (X : Cx) (B : Hp) (E : EK) (e : Expr) (g : En → Res) : Prop := PE X e (tPu (kx X) B E g)
noncomputable abbrev ArE (X : Cx) (B : Hp) (E : EK) (e : Expr) (g : En → Res) : Prop := PE X e (tAr (kx X) B E g)
noncomputable abbrev OwE (X : Cx) (B : Hp) (E : EK) (e : Expr) (g : En → Res) : Prop := PE X e (tOw (kx X) B E g)
noncomputable abbrev PuT (X : Cx) (B : Hp) (E : EK) (e : Expr) (g : En → Res) : Prop := PT X e (tTe (kx X) B E g)
noncomputable abbrev PuW (X : Cx) (B : Hp) (E : EK) (e : Expr) (g : En → Res) : Prop := PW X e (tTe (kx X) B E g)
noncomputable abbrev ArL (X : Cx) (B : Hp) (E : EK) (ms : List Bool) (es : List Expr) (g : En → ResL) : Prop := PA X es (tAl (kx X) B E ms g)
theorem PE.imp {X : Cx} {e : Expr} {t t' : TE} (h : PE X e t) (i : ∀ σ H Q, t' σ H Q → t σ H Q) : PE X e t' := fun pins s σ H Q I q => h pins s σ H Q I (i σ H Q q)
theorem PT.imp {X : Cx} {e : Expr} {t t' : TT} (h : PT X e t) (i : ∀ σ H Q, t' σ H Q → t σ H Q) : PT X e t' := fun pins s σ H Q I q => h pins s σ H Q I (i σ H Q q)
theorem PW.imp {X : Cx} {e : Expr} {t t' : TT} (h : PW X e t) (i : ∀ σ H Q, t' σ H Q → t σ H Q) : PW X e t' := fun wh pins s σ H Q I q => h wh pins s σ H Q I (i σ H Q q)
theorem PA.imp {X : Cx} {e : List Expr} {t t' : TA} (h : PA X e t) (i : ∀ σ H Q, t' σ H Q → t σ H Q) : PA X e t' := fun pos pins s σ H Q I q => h pos pins s σ H Q I (i σ H Q q)
section
variable {X : Cx} {B : Hp} {E : EK} {e a b c : Expr} {es : List Expr} {g h k : En → Res} {pos : Pos}
noncomputable def gVar (i : Nat) : En → Res := fun δ => match δ[i]? with
 | some (.pu d) => .ok d
 | _ => .st
noncomputable def gArg (i : Nat) : En → Res := fun δ => match δ[i]? with
 | some (.pu d) => .ok d
 | some (.bo d) => .ok d
 | some (.ow ds) => .ok (.lst ds)
 | some (.od t kvs) => .ok (.dct t kvs)
 | _ => .st
noncomputable def gC (d : D) : En → Res := fun _ => .ok d
theorem EnvR.var {K : KA} {G H : Hp} {σ : St} {δ : En} {i : Nat} {d : D} (R : EnvR K B G H σ δ) (h : δ[i]? = some (.pu d)) : ∃ v, σ[i]? = some (some v) ∧ Den K G d v := by
 obtain ⟨o, q1, v, q2, q3⟩ := R.sl i _ h
 exact ⟨v, by rw [q1, q2], q3⟩
theorem EnvR.arg {K : KA} {G H : Hp} {σ : St} {δ : En} {i : Nat} {d : D} (R : EnvR K B G H σ δ) (h : gArg i δ = .ok d) : ∃ v, σ[i]? = some (some v) ∧ Arg K G H d v := by
 unfold gArg at h
 cases e : δ[i]? with
 | none => rw [e] at h; cases h
 | some s =>
  rw [e] at h
  obtain ⟨o, q1, q2⟩ := R.sl i _ e
  cases s with
  | no => cases h
  | pu d' =>
   cases h
   obtain ⟨v, q2, q3⟩ := q2
   exact ⟨v, by rw [q1, q2], .inl q3⟩
  | bo d' =>
   cases h
   obtain ⟨v, q2, q3⟩ := q2
   exact ⟨v, by rw [q1, q2], argH R.bh q3⟩
  | ow ds =>
   cases h
   obtain ⟨a, vs, q2, q3, q4⟩ := q2
   exact ⟨.ref a, by rw [q1, q2], .inr (.inl ⟨ds, a, vs, rfl, rfl, SqL.of q3, q4⟩)⟩
  | od t kvs =>
   cases h
   cases t with
   | false =>
    obtain ⟨a, vs, q2, q3, q4⟩ := q2
    exact ⟨.ref a, by rw [q1, q2], .inr (.inr ⟨false, kvs, a, rfl, rfl, .inl ⟨rfl, vs, q3, q4⟩⟩)⟩
   | true =>
    obtain ⟨a, vs, q2, q3, q4⟩ := q2
    exact ⟨.ref a, by rw [q1, q2], .inr (.inr ⟨true, kvs, a, rfl, rfl, .inr ⟨rfl, vs, q3, q4⟩⟩)⟩
theorem pu_var (i : Nat) {x : Str} (h : PE X (.Name x pos) (tVar i)) : PuE X B E (.Name x pos) (gVar i) := PE.imp h fun σ H Q ⟨G, δ, R, q⟩ => by
 unfold gVar at q
 cases e : δ[i]? with
 | none => rw [e] at q; exact q.elim
 | some s =>
  rw [e] at q
  cases s with
  | pu d =>
   obtain ⟨v, q1, q2⟩ := R.var e
   exact ⟨v, q1, q v G H (Ext.refl R.gh) q2⟩
  | no => exact q.elim
  | bo d => exact q.elim
  | ow d => exact q.elim
  | od t d => exact q.elim
theorem ar_var (i : Nat) {x : Str} (h : PE X (.Name x pos) (tVar i)) : ArE X B E (.Name x pos) (gArg i) := PE.imp h fun σ H Q ⟨G, δ, R, q⟩ => by
 cases e : gArg i δ with
 | ok d =>
  rw [e] at q
  obtain ⟨v, q1, q2⟩ := R.arg e
  exact ⟨v, q1, q v G H (Ext.refl R.gh) q2⟩
 | er c =>
  unfold gArg at e
  split at e <;> cases e
 | st => rw [e] at q; exact q.elim
theorem pu_ar (h : PuE X B E e g) : ArE X B E e g := PE.imp h fun σ H Q ⟨G, δ, R, q⟩ => ⟨G, δ, R, q.mono fun d _ q v G' H' x y => q v G' H' x (.inl y)⟩
theorem pu_const {v : V} {d : D} (h : PE X e (tC v)) (r : ∀ H, Den (kx X) H d v) : PuE X B E e (gC d) := PE.imp h fun σ H Q ⟨G, δ, R, q⟩ => q v G H (Ext.refl R.gh) (r G)
theorem pu_int {i j} : PuE X B E (.Constant (.int i) j pos) (gC (.int i)) := pu_const pe_int fun _ => rfl
theorem pu_bl {b j} : PuE X B E (.Constant (.bool b) j pos) (gC (.bl b)) := pu_const pe_bl fun _ => rfl
theorem pu_non {j} : PuE X B E (.Constant .none j pos) (gC .non) := pu_const pe_non fun _ => rfl
theorem pu_str {x j} : PuE X B E (.Constant (.str x) j pos) (gC (.str x)) := pu_const pe_str fun _ => rfl
theorem pu_gstr {x y : Str} {t : Tok} (hg : Gl X x) (hm : X.mg x = some (.str y t)) (hd : (x == ("__debug__" : Str)) = false := by decide) : PuE X B E (.Name x pos) (gC (.str y)) := pu_const (v := .str y) (pe_glob hg hm ⟨t, rfl⟩ hd) fun _ => rfl
theorem adr_of {mg : Str → Option Value} {x : Str} {f : Addr} (h : mg x = some (.ref f)) : adr mg x = f := by unfold adr; rw [h]
theorem pu_gfn {x : Str} {f : Addr} (hg : Gl X x) (hm : X.mg x = some (.ref f)) (hd : (x == ("__debug__" : Str)) = false := by decide) : PuE X B E (.Name x pos) (gC (.fn x)) := pu_const (pe_glob (v := .ref f) hg hm rfl hd) fun _ => by show V.ref f = V.ref (adr X.mg x); rw [adr_of hm]
noncomputable def g1 (f : D → Option D) (g : En → Res) : En → Res := fun δ => (g δ).bind fun x => Res.of (f x)
noncomputable def g2 (f : D → D → Option D) (g h : En → Res) : En → Res := fun δ => (g δ).bind fun x => (h δ).bind fun y => Res.of (f x y)
noncomputable def Prim2 (K : KA) (f : D → D → Option D) (r : R2) : Prop := ∀ G H x y dx dy d, Same G H → Arg K G H dx x → Arg K G H dy y → f dx dy = some d →
 ∀ Q : VK, (∀ v G' H', Ext G H G' H' → Den K G' d v → Q v H') → r x y H Q
noncomputable def Prim1 (K : KA) (f : D → Option D) (r : V → Hp → VK → Prop) : Prop := ∀ G H x dx d, Same G H → Arg K G H dx x → f dx = some d →
 ∀ Q : VK, (∀ v G' H', Ext G H G' H' → Den K G' d v → Q v H') → r x H Q
theorem op2 {K : KA} {f : D → D → Option D} {r : R2} (hp : Prim2 K f r) {σ : St} {H : Hp} {Q : VK} (q : tPu K B E (g2 f g h) σ H Q) : tOp r (tAr K B E g) (tAr K B E h) σ H Q := by
 obtain ⟨G, δ, R, q⟩ := q
 refine ⟨G, δ, R, (ResP.bind q).mono fun dx _ qx x G1 H1 e1 ax => ⟨G1, δ, R.ext e1, ((ResP.bind qx).ext e1).mono fun dy _ qy y G2 H2 e2 ay => ?_⟩⟩
 obtain ⟨d, ed, qd⟩ := ResP.of qy
 exact hp G2 H2 x y dx dy d e2.gh (ax.ext e2) ay ed Q fun v G' H' e3 dn => qd v G' H' ((e1.trans e2).trans e3) dn
theorem op1 {K : KA} {f : D → Option D} {r : V → Hp → VK → Prop} (hp : Prim1 K f r) {σ : St} {H : Hp} {Q : VK} (q : tPu K B E (g1 f g) σ H Q) : tUn r (tAr K B E g) σ H Q := by
 obtain ⟨G, δ, R, q⟩ := q
 refine ⟨G, δ, R, (ResP.bind q).mono fun dx _ qx x G1 H1 e1 ax => ?_⟩
 obtain ⟨d, ed, qd⟩ := ResP.of qx
 exact hp G1 H1 x dx d e1.gh ax ed Q fun v G' H' e3 dn => qd v G' H' (e1.trans e3) dn
theorem pu_op {op : Operator} {f : D → D → Option D} {r : R2} (ho : OpR X (binaryOp op) r) (hp : Prim2 (kx X) f r) (ha : ArE X B E a g) (hb : ArE X B E b h) : PuE X B E (.BinOp a op b pos) (g2 f g h) :=
 PE.imp (pe_op ho ha hb) fun σ H Q q => op2 hp q
theorem pu_un {op : UnaryOp} {f : D → Option D} {r : V → Hp → VK → Prop} (ho : UnR X (unaryOp op) r) (hp : Prim1 (kx X) f r) (ha : ArE X B E a g) : PuE X B E (.UnaryOp op a pos) (g1 f g) :=
 PE.imp (pe_un ho ha) fun σ H Q q => op1 hp q
theorem pu_cmp {op : CmpOp} {f : D → D → Option D} {r : R2} (ho : OpR X (compareOp op) r) (hp : Prim2 (kx X) f r) (ha : ArE X B E a g) (hb : ArE X B E b h) (hm : behindInMarks op b = false) : PuE X B E (.Compare a [op] [b] pos) (g2 f g h) :=
 PE.imp (pe_cmpR ho ha hb hm) fun σ H Q q => op2 hp q
theorem pt_cmp' {op : CmpOp} {f : D → D → Option D} {r : R2} (ho : OpR X (compareOp op) r) (hp : Prim2 (kx X) f r) (hb' : ∀ x y d, f x y = some d → ∃ b, d = .bl b) (ha : ArE X B E a g) (hb : ArE X B E b h) (hm : behindInMarks op b = false) : PuT X B E (.Compare a [op] [b] pos) (g2 f g h) :=
 PT.imp (pt_cmpR ho ha hb hm) fun σ H Q ⟨G, δ, R, q⟩ => op2 hp ⟨G, δ, R, q.mono fun d ed ⟨b, eb, qb⟩ v G' H' e3 dn => by
  subst eb
  exact ⟨b, dn, qb G' H' e3⟩⟩
noncomputable def truD : D → Option Bool
 | .non => some false
 | .bl b => some b
 | .int i => some (i != 0)
 | .str x => if x.length ≤ sizeLine then some ((x.length : Int) != 0) else none
 | .tup ds => some !ds.isEmpty
 | .lst ds => some !ds.isEmpty
 | _ => none
noncomputable def bD (o : Option Bool) : Option D := o.map .bl
theorem isEmpty_den {K : KA} {G : Hp} {ds : List D} {vs : List V} (h : DenL K G ds vs) : (!ds.isEmpty) = !vs.isEmpty := by
 have q := h.length
 cases ds <;> cases vs <;> first | rfl | (simp at q)
theorem tru_arg {K : KA} {G H : Hp} {d : D} {v : V} {b : Bool} (s : Same G H) (h : Arg K G H d v) (e : truD d = some b) : TruV K v H b := by
 cases d with
 | non => rw [h.non]; cases e; rfl
 | bl i => rw [h.bl]; cases e; rfl
 | int i => rw [h.int]; cases e; rfl
 | str x =>
  rw [h.str]
  have e' : (if x.length ≤ sizeLine then some ((x.length : Int) != 0) else none) = some b := e
  by_cases hx : x.length ≤ sizeLine
  ·rw [if_pos hx] at e'; cases e'; exact ⟨hx, rfl⟩
  ·rw [if_neg hx] at e'; cases e'
 | tup ds =>
  obtain ⟨a, vs, rfl, q1, q2⟩ := h.tup s
  cases e
  exact .inr (.inl ⟨vs, q1, isEmpty_den q2⟩)
 | lst ds =>
  obtain ⟨a, vs, rfl, q1, q2⟩ := h.lst s
  cases e
  exact .inl ⟨vs, q1, isEmpty_den q2⟩
 | dct _ _ => cases e
 | obj _ _ => cases e
 | fn _ => cases e
theorem pt_tru (ha : ArE X B E a g) (he : ∀ whole, isTrue a X.env whole = (do let v ← whole; standAt a.pos; holding [v] (truthy v)) := by intro _; rfl) : PuT X B E a (g1 (fun d => bD (truD d)) g) :=
 PT.imp (pt_truth ha he) fun σ H Q ⟨G, δ, R, q⟩ => ⟨G, δ, R, (ResP.bind q).mono fun dx _ qx x G1 H1 e1 ax => by
  obtain ⟨d, ed, b, eb, qb⟩ := ResP.of qx
  dsimp only at ed
  cases et : truD dx with
  | none => rw [et] at ed; cases ed
  | some b' =>
   rw [et] at ed
   cases ed
   cases eb
   exact ⟨b, tru_arg e1.gh ax et, qb G1 H1 e1⟩⟩
noncomputable def gIf (c a b : En → Res) : En → Res := fun δ => (c δ).bind fun d => match d with
 | .bl true => a δ
 | .bl false => b δ
 | _ => .st
noncomputable def gNot (c : En → Res) : En → Res := fun δ => (c δ).bind fun d => match d with
 | .bl b => .ok (.bl !b)
 | _ => .st
noncomputable def gAnd (a b : En → Res) : En → Res := gIf a b (gC (.bl false))
noncomputable def gOr (a b : En → Res) : En → Res := gIf a (gC (.bl true)) b
theorem ifP {K : KA} {P : D → Prop} {c : En → Res} {δ : En} {a b : En → Res} {G H : Hp} (q : ResP E G H (gIf c a b δ) P) :
  ResP E G H (c δ) fun d => ∃ t, d = .bl t ∧ (t = true → ResP E G H (a δ) P) ∧ (t = false → ResP E G H (b δ) P) :=
 (ResP.bind q).mono fun d _ q => by
  cases d with
  | bl t => cases t with
   | true => exact ⟨true, rfl, fun _ => q, fun z => by cases z⟩
   | false => exact ⟨false, rfl, fun z => (by cases z), fun _ => q⟩
  | non => exact q.elim
  | int _ => exact q.elim
  | str _ => exact q.elim
  | tup _ => exact q.elim
  | lst _ => exact q.elim
  | dct _ _ => exact q.elim
  | obj _ _ => exact q.elim
  | fn _ => exact q.elim
theorem pt_not' (ha : PuT X B E a g) : PuT X B E (.UnaryOp .Not a pos) (gNot g) := PT.imp (pt_not ha) fun σ H Q ⟨G, δ, R, q⟩ => ⟨G, δ, R, (ResP.bind q).mono fun d _ q => by
 cases d with
 | bl t =>
  obtain ⟨b, eb, qb⟩ := q
  cases eb
  exact ⟨t, rfl, qb⟩
 | non => exact q.elim
 | int _ => exact q.elim
 | str _ => exact q.elim
 | tup _ => exact q.elim
 | lst _ => exact q.elim
 | dct _ _ => exact q.elim
 | obj _ _ => exact q.elim
 | fn _ => exact q.elim⟩
theorem pw_and1' (ha : PuT X B E a g) : PuW X B E (.BoolOp .And [a] pos) g := pw_and1 ha
theorem pw_or1' (ha : PuT X B E a g) : PuW X B E (.BoolOp .Or [a] pos) g := pw_or1 ha
theorem pw_and' {rest : List Expr} (ha : PuT X B E a g) (hb : PuW X B E (.BoolOp .And (b :: rest) pos) h) : PuW X B E (.BoolOp .And (a :: b :: rest) pos) (gAnd g h) :=
 PW.imp (pw_and ha hb) fun σ H Q ⟨G, δ, R, q⟩ => ⟨G, δ, R, (ifP (K := (kx X)) q).mono fun d _ ⟨t, ed, qt⟩ => ⟨t, ed, fun G1 H1 e1 => by
  cases t with
  | true => exact ⟨G1, δ, R.ext e1, ((qt.1 rfl).ext e1).mono fun d _ ⟨b, eb, qb⟩ => ⟨b, eb, fun G2 H2 e2 => qb G2 H2 (e1.trans e2)⟩⟩
  | false =>
   obtain ⟨b, eb, qb⟩ := (qt.2 rfl)
   cases eb
   exact qb G1 H1 e1⟩⟩
theorem pw_or' {rest : List Expr} (ha : PuT X B E a g) (hb : PuW X B E (.BoolOp .Or (b :: rest) pos) h) : PuW X B E (.BoolOp .Or (a :: b :: rest) pos) (gOr g h) :=
 PW.imp (pw_or ha hb) fun σ H Q ⟨G, δ, R, q⟩ => ⟨G, δ, R, (ifP (K := (kx X)) q).mono fun d _ ⟨t, ed, qt⟩ => ⟨t, ed, fun G1 H1 e1 => by
  cases t with
  | false => exact ⟨G1, δ, R.ext e1, ((qt.2 rfl).ext e1).mono fun d _ ⟨b, eb, qb⟩ => ⟨b, eb, fun G2 H2 e2 => qb G2 H2 (e1.trans e2)⟩⟩
  | true =>
   obtain ⟨b, eb, qb⟩ := (qt.1 rfl)
   cases eb
   exact qb G1 H1 e1⟩⟩
theorem pt_w (h : PuW X B E e g) : PuT X B E e g := PW.pt h
theorem pu_one {op} (h : PuE X B E a g) : PuE X B E (.BoolOp op [a] pos) g := pe_one h
theorem pu_and {rest : List Expr} (ha : PuE X B E a g) (hb : PuE X B E (.BoolOp .And (b :: rest) pos) h) : PuE X B E (.BoolOp .And (a :: b :: rest) pos) (gAnd g h) :=
 PE.imp (pe_and ha hb) fun σ H Q ⟨G, δ, R, q⟩ => ⟨G, δ, R, (ifP (K := (kx X)) q).mono fun d _ ⟨t, ed, qt⟩ v G1 H1 e1 dn => by
  subst ed
  refine ⟨t, dn, ?_⟩
  cases t with
  | true => exact ⟨G1, δ, R.ext e1, ((qt.1 rfl).ext e1).mono fun d _ qb v G2 H2 e2 dn => qb v G2 H2 (e1.trans e2) dn⟩
  | false => exact (qt.2 rfl) _ G1 H1 e1 rfl⟩
theorem pu_or {rest : List Expr} (ha : PuE X B E a g) (hb : PuE X B E (.BoolOp .Or (b :: rest) pos) h) : PuE X B E (.BoolOp .Or (a :: b :: rest) pos) (gOr g h) :=
 PE.imp (pe_or ha hb) fun σ H Q ⟨G, δ, R, q⟩ => ⟨G, δ, R, (ifP (K := (kx X)) q).mono fun d _ ⟨t, ed, qt⟩ v G1 H1 e1 dn => by
  subst ed
  refine ⟨t, dn, ?_⟩
  cases t with
  | false => exact ⟨G1, δ, R.ext e1, ((qt.2 rfl).ext e1).mono fun d _ qb v G2 H2 e2 dn => qb v G2 H2 (e1.trans e2) dn⟩
  | true => exact (qt.1 rfl) _ G1 H1 e1 rfl⟩
theorem pu_not (ha : PuE X B E a g) : PuE X B E (.UnaryOp .Not a pos) (gNot g) := PE.imp (pe_not ha) fun σ H Q ⟨G, δ, R, q⟩ => ⟨G, δ, R, (ResP.bind q).mono fun d _ q v G1 H1 e1 dn => by
 cases d with
 | bl t => exact ⟨t, dn, q _ G1 H1 e1 rfl⟩
 | non => exact q.elim
 | int _ => exact q.elim
 | str _ => exact q.elim
 | tup _ => exact q.elim
 | lst _ => exact q.elim
 | dct _ _ => exact q.elim
 | obj _ _ => exact q.elim
 | fn _ => exact q.elim⟩
theorem pu_if {c : Expr} (hc : PuT X B E c k) (ha : PuE X B E a g) (hb : PuE X B E b h) : PuE X B E (.IfExp c a b pos) (gIf k g h) :=
 PE.imp (pe_ifExp hc ha hb) fun σ H Q ⟨G, δ, R, q⟩ => ⟨G, δ, R, (ifP (K := (kx X)) q).mono fun d _ ⟨t, ed, qt⟩ => ⟨t, ed, fun G1 H1 e1 => by
  cases t with
  | true => exact ⟨G1, δ, R.ext e1, ((qt.1 rfl).ext e1).mono fun d _ qb v G2 H2 e2 dn => qb v G2 H2 (e1.trans e2) dn⟩
  | false => exact ⟨G1, δ, R.ext e1, ((qt.2 rfl).ext e1).mono fun d _ qb v G2 H2 e2 dn => qb v G2 H2 (e1.trans e2) dn⟩⟩⟩
noncomputable def gNil : En → ResL := fun _ => .ok []
noncomputable def gCons (g : En → Res) (r : En → ResL) : En → ResL := fun δ => match g δ with
 | .ok d => (match r δ with
  | .ok ds => .ok (d :: ds)
  | .er c => .er c
  | .st => .st)
 | .er c => .er c
 | .st => .st
theorem consP {G H : Hp} {δ : En} {r : En → ResL} {P : List D → Prop} (q : ResLP E G H (gCons g r δ) P) : ResP E G H (g δ) fun d => ResLP E G H (r δ) fun ds => P (d :: ds) := by
 unfold gCons at q
 cases e : g δ with
 | ok d =>
  rw [e] at q
  cases e2 : r δ with
  | ok ds => rw [e2] at q; exact q
  | er c => rw [e2] at q; exact q
  | st => rw [e2] at q; exact q
 | er c => rw [e] at q; exact q
 | st => rw [e] at q; exact q
theorem al_nil : ArL X B E [] [] gNil := PA.imp pa_nil fun σ H Q ⟨G, δ, R, q⟩ => q [] G H (Ext.refl R.gh) ⟨rfl, rfl⟩
theorem al_cons {ms : List Bool} {r : En → ResL} (ha : ArE X B E e g) (hr : ArL X B E ms es r) (hs : starEach (e :: es) X.env = (false, eval e X.env) :: starEach es X.env := by rfl) : ArL X B E (true :: ms) (e :: es) (gCons g r) :=
 PA.imp (pa_cons ha hr hs) fun σ H Q ⟨G, δ, R, q⟩ => ⟨G, δ, R, (consP q).mono fun d _ q x G1 H1 e1 ax => ⟨G1, δ, R.ext e1, (q.ext e1).mono fun ds _ q vs G2 H2 e2 al =>
  q (x :: vs) G2 H2 (e1.trans e2) ⟨d, ds, x, vs, rfl, rfl, ax.ext e2, al⟩⟩⟩
theorem al_consP {ms : List Bool} {r : En → ResL} (ha : PuE X B E e g) (hr : ArL X B E ms es r) (hs : starEach (e :: es) X.env = (false, eval e X.env) :: starEach es X.env := by rfl) : ArL X B E (false :: ms) (e :: es) (gCons g r) :=
 PA.imp (pa_cons ha hr hs) fun σ H Q ⟨G, δ, R, q⟩ => ⟨G, δ, R, (consP q).mono fun d _ q x G1 H1 e1 ax => ⟨G1, δ, R.ext e1, (q.ext e1).mono fun ds _ q vs G2 H2 e2 al =>
  q (x :: vs) G2 H2 (e1.trans e2) ⟨d, ds, x, vs, rfl, rfl, ax.mono e2.gg, al⟩⟩⟩
noncomputable def allF : List Bool → Bool
 | [] => true
 | b :: r => !b && allF r
theorem ArgsM.den {K : KA} {G H : Hp} : ∀ {ms : List Bool} {ds : List D} {vs : List V}, allF ms = true → ArgsM K G H ms ds vs → DenL K G ds vs
 | [], _, _, _, ⟨h1, h2⟩ => by subst h1; subst h2; exact rfl
 | true :: _, _, _, h, _ => by simp [allF] at h
 | false :: ms, _, _, h, ⟨d, dr, v, vr, h1, h2, h3, h4⟩ => by
  subst h1; subst h2
  exact ⟨v, vr, rfl, h3, ArgsM.den (by simpa [allF] using h) h4⟩
noncomputable def gTup (r : En → ResL) : En → Res := fun δ => match r δ with
 | .ok ds => if ds.length ≤ sizeLine then .ok (.tup ds) else .st
 | .er c => .er c
 | .st => .st
noncomputable def gLst (r : En → ResL) : En → Res := fun δ => match r δ with
 | .ok ds => if ds.length ≤ sizeLine then .ok (.lst ds) else .st
 | .er c => .er c
 | .st => .st
theorem tupP {G H : Hp} {δ : En} {r : En → ResL} {P : D → Prop} (q : ResP E G H (gTup r δ) P) : ResLP E G H (r δ) fun ds => ds.length ≤ sizeLine ∧ P (.tup ds) := by
 unfold gTup at q
 cases e : r δ with
 | ok ds =>
  rw [e] at q
  by_cases hl : ds.length ≤ sizeLine
  ·simp only [if_pos hl] at q; exact ⟨hl, q⟩
  ·simp only [if_neg hl] at q; exact q.elim
 | er c => rw [e] at q; exact q
 | st => rw [e] at q; exact q
theorem lstP {G H : Hp} {δ : En} {r : En → ResL} {P : D → Prop} (q : ResP E G H (gLst r δ) P) : ResLP E G H (r δ) fun ds => ds.length ≤ sizeLine ∧ P (.lst ds) := by
 unfold gLst at q
 cases e : r δ with
 | ok ds =>
  rw [e] at q
  by_cases hl : ds.length ≤ sizeLine
  ·simp only [if_pos hl] at q; exact ⟨hl, q⟩
  ·simp only [if_neg hl] at q; exact q.elim
 | er c => rw [e] at q; exact q
 | st => rw [e] at q; exact q
theorem DenL.upd {K : KA} {G : Hp} {p : Addr} {ds : List D} {vs : List V} (h : DenL K G ds vs) (n : G p = none) (o : HO) : DenL K (upd G p o) ds vs := h.mono (same_new n o)
theorem free_of {G H : Hp} {p : Addr} (s : Same G H) (n : H p = none) : G p = none := by
 cases e : G p with
 | none => rfl
 | some u => rw [s p u e] at n; cases n
theorem den_newT {K : KA} {G H : Hp} {p : Addr} {ds : List D} {vs : List V} (s : Same G H) (n : H p = none) (h : DenL K G ds vs) : Den K (upd G p (.tup vs)) (.tup ds) (.ref p) :=
 ⟨p, vs, rfl, upd_same, h.upd (free_of s n) _⟩
theorem den_newL {K : KA} {G H : Hp} {p : Addr} {ds : List D} {vs : List V} (s : Same G H) (n : H p = none) (h : DenL K G ds vs) : Den K (upd G p (.lst vs)) (.lst ds) (.ref p) :=
 ⟨p, vs, rfl, SqL.of upd_same, h.upd (free_of s n) _⟩
theorem pu_tup {x1} {ms : List Bool} {r : En → ResL} (hm : allF ms = true) (h : ArL X B E ms es r) : PuE X B E (.Tuple es x1 pos) (gTup r) :=
 PE.imp (pe_tup h) fun σ H Q ⟨G, δ, R, q⟩ => ⟨G, δ, R, (tupP q).mono fun ds _ ⟨hl, q⟩ vs G1 H1 e1 al => by
  have dl := al.den hm
  refine ⟨by rw [← dl.length]; exact hl, fun p hp => q _ (upd G1 p (.tup vs)) _ (e1.trans (Ext.new e1.gh _ hp)) (den_newT e1.gh hp dl)⟩⟩
theorem ow_lst {ms : List Bool} {r : En → ResL} (hm : allF ms = true) (h : ArL X B E ms es r) : OwE X B E (.List es pos) (gLst r) :=
 PE.imp (pe_lst h) fun σ H Q ⟨G, δ, R, q⟩ => ⟨G, δ, R, (lstP q).mono fun ds _ ⟨hl, ds', ed, q⟩ vs G1 H1 e1 al => by
  cases ed
  have dl := al.den hm
  refine ⟨by rw [← dl.length]; exact hl, fun p hp => q p vs G1 _ (e1.trans (Ext.own e1.gh _ hp)) (free_of e1.hh hp) (free_of e1.gh hp) upd_same dl⟩⟩
theorem Ext.freeze {G H G' H' : Hp} {a : Addr} {vs : List V} (e : Ext G H G' H') (hn : H a = none) (gn : G' a = none) (h : H' a = some (.lst vs)) : Ext G H (upd G' a (.lst vs)) H' := by
 refine ⟨e.gg.trans (same_new gn _), e.hh, fun b u q => ?_, fun b u q g z => ?_⟩
 ·by_cases z : b = a
  ·subst z; rw [upd_same] at q; rw [h]; exact q
  ·rw [upd_ne z] at q; exact e.gh b u q
 ·rw [upd_ne (ne_of_none q hn)]; exact e.fr b u q g z
noncomputable def IsL (g : En → Res) : Prop := ∀ δ d, g δ = .ok d → ∃ ds, d = .lst ds
theorem isL_lst {r : En → ResL} : IsL (gLst r) := fun δ d h => by
 unfold gLst at h
 cases e : r δ with
 | ok ds =>
  rw [e] at h
  by_cases hl : ds.length ≤ sizeLine
  ·simp only [if_pos hl] at h; cases h; exact ⟨ds, rfl⟩
  ·simp only [if_neg hl] at h; cases h
 | er c => rw [e] at h; cases h
 | st => rw [e] at h; cases h
theorem ow_pu (h : OwE X B E e g) (hl : IsL g) : PuE X B E e g := PE.imp h fun σ H Q ⟨G, δ, R, q⟩ => ⟨G, δ, R, q.mono fun d ed q => by
 obtain ⟨ds, rfl⟩ := hl δ d ed
 exact ⟨ds, rfl, fun a vs G' H' e1 hn gn hh dl => q _ (upd G' a (.lst vs)) H' (e1.freeze hn gn hh) ⟨a, vs, rfl, SqL.of upd_same, dl.mono (same_new gn _)⟩⟩⟩
theorem pu_lst {ms : List Bool} {r : En → ResL} (hm : allF ms = true) (h : ArL X B E ms es r) : PuE X B E (.List es pos) (gLst r) := ow_pu (ow_lst hm h) isL_lst
end
inductive Out where
 | nx (δ : En)
 | bk (δ : En)
 | ct (δ : En)
 | rt (d : D)
 | er (c : Str)
 | st
noncomputable def OutP (K : KA) (G0 B : Hp) (E : EK) (G : Hp) (o : Out) (D : Ends) : Prop := match o with
 | .nx δ => ∀ σ' G' H', Same G G' → EnvR K B G' H' σ' δ → Ext G0 B G' H' → D.nx σ' H'
 | .bk δ => ∀ σ' G' H', Same G G' → EnvR K B G' H' σ' δ → Ext G0 B G' H' → D.bk σ' H'
 | .ct δ => ∀ σ' G' H', Same G G' → EnvR K B G' H' σ' δ → Ext G0 B G' H' → D.ct σ' H'
 | .rt d => ∀ v G' H', Ext G0 B G' H' → Den K G' d v → D.rt v H'
 | .er c => ∀ G' H', Ext G0 B G' H' → E c H'
 | .st => False
noncomputable def tSt (K : KA) (G0 B : Hp) (E : EK) (F : En → Out) : TS := fun D σ H => ∃ G δ, EnvR K B G H σ δ ∧ Ext G0 B G H ∧ OutP K G0 B E G (F δ) D
noncomputable abbrev PuS (X : Cx) (G0 B : Hp) (E : EK) (st : Stmt) (F : En → Out) : Prop := PS X st (tSt (kx X) G0 B E F)
noncomputable abbrev PuSs (X : Cx) (G0 B : Hp) (E : EK) (st : List Stmt) (F : En → Out) : Prop := PSs X st (tSt (kx X) G0 B E F)
theorem PS.imp {X : Cx} {st : Stmt} {t t' : TS} (h : PS X st t) (i : ∀ D σ H, t' D σ H → t D σ H) : PS X st t' := fun pins s σ H D I q => h pins s σ H D I (i D σ H q)
theorem PSs.imp {X : Cx} {st : List Stmt} {t t' : TS} (h : PSs X st t) (i : ∀ D σ H, t' D σ H → t D σ H) : PSs X st t' := fun pins s σ H D I q => h pins s σ H D I (i D σ H q)
theorem OutP.same {K : KA} {G0 B : Hp} {E : EK} {G G1 : Hp} {o : Out} {D : Ends} (s : Same G G1) (h : OutP K G0 B E G o D) : OutP K G0 B E G1 o D := by
 cases o with
 | nx δ => exact fun σ' G' H' q => h σ' G' H' (s.trans q)
 | bk δ => exact fun σ' G' H' q => h σ' G' H' (s.trans q)
 | ct δ => exact fun σ' G' H' q => h σ' G' H' (s.trans q)
 | rt d => exact h
 | er c => exact h
 | st => exact h
noncomputable def Res.then (r : Res) (f : D → Out) : Out := match r with
 | .ok d => f d
 | .er c => .er c
 | .st => .st
theorem thenP {K : KA} {G0 B : Hp} {E : EK} {G H : Hp} {r : Res} {f : D → Out} {D : Ends} (e : Ext G0 B G H) (h : OutP K G0 B E G (r.then f) D) : ResP E G H r fun d => OutP K G0 B E G (f d) D := by
 cases r with
 | ok d => exact h
 | er c => exact fun G' H' q => h G' H' (e.trans q)
 | st => exact h
section
variable {X : Cx} {G0 B : Hp} {E : EK} {e c : Expr} {st : Stmt} {rest ss tt : List Stmt} {F F1 F2 : En → Out} {g : En → Res} {pos : Pos}
noncomputable def sNil : En → Out := fun δ => .nx δ
noncomputable def sSeq (F1 F2 : En → Out) : En → Out := fun δ => match F1 δ with
 | .nx δ' => F2 δ'
 | o => o
theorem ss_nil : PuSs X G0 B E [] sNil := PSs.imp pss_nil fun D σ H ⟨G, δ, R, e, q⟩ => q σ G H (Same.refl G) R e
theorem seqP {K : KA} {D : Ends} {σ : St} {H : Hp} (q : tSt K G0 B E (sSeq F1 F2) D σ H) : tSeq (tSt K G0 B E F1) (tSt K G0 B E F2) D σ H := by
 obtain ⟨G, δ, R, e, q⟩ := q
 refine ⟨G, δ, R, e, ?_⟩
 unfold sSeq at q
 cases ef : F1 δ with
 | nx δ' =>
  rw [ef] at q
  exact fun σ' G' H' s R' e' => ⟨G', δ', R', e', OutP.same s q⟩
 | bk δ' => rw [ef] at q; exact q
 | ct δ' => rw [ef] at q; exact q
 | rt d => rw [ef] at q; exact q
 | er c => rw [ef] at q; exact q
 | st => rw [ef] at q; exact q
theorem ss_cons (h1 : PuS X G0 B E st F1) (h2 : PuSs X G0 B E rest F2) : PuSs X G0 B E (st :: rest) (sSeq F1 F2) := PSs.imp (pss_cons h1 h2) fun D σ H q => seqP q
theorem ss_one (h1 : PuS X G0 B E st F1) : PuSs X G0 B E [st] F1 := pss_one h1
noncomputable def sPass : En → Out := fun δ => .nx δ
noncomputable def sBreak : En → Out := fun δ => .bk δ
noncomputable def sCont : En → Out := fun δ => .ct δ
theorem s_pass : PuS X G0 B E (.Pass pos) sPass := PS.imp ps_pass fun D σ H ⟨G, δ, R, e, q⟩ => q σ G H (Same.refl G) R e
theorem s_break : PuS X G0 B E (.Break pos) sBreak := PS.imp ps_break fun D σ H ⟨G, δ, R, e, q⟩ => q σ G H (Same.refl G) R e
theorem s_cont : PuS X G0 B E (.Continue pos) sCont := PS.imp ps_continue fun D σ H ⟨G, δ, R, e, q⟩ => q σ G H (Same.refl G) R e
theorem s_doc {x j pos pos'} : PuS X G0 B E (.Expr (.Constant (.str x) j pos) pos') sPass := PS.imp ps_doc fun D σ H ⟨G, δ, R, e, q⟩ => q σ G H (Same.refl G) R e
noncomputable def sRet (g : En → Res) : En → Out := fun δ => (g δ).then .rt
theorem s_ret (h : PuE X B E e g) : PuS X G0 B E (.Return (some e) pos) (sRet g) := PS.imp (ps_ret h) fun D σ H ⟨G, δ, R, e, q⟩ => ⟨G, δ, R, (thenP e q).mono fun d _ q v G' H' e1 dn => q v G' H' (e.trans e1) dn⟩
noncomputable def sIf (c : En → Res) (a b : En → Out) : En → Out := fun δ => (c δ).then fun d => match d with
 | .bl true => a δ
 | .bl false => b δ
 | _ => .st
theorem s_if (hc : PuT X B E c g) (ha : PuSs X G0 B E ss F1) (hb : PuSs X G0 B E tt F2) : PuS X G0 B E (.If c ss tt pos) (sIf g F1 F2) :=
 PS.imp (ps_if hc ha hb) fun D σ H ⟨G, δ, R, e, q⟩ => ⟨G, δ, R, (thenP e q).mono fun d _ q => by
  cases d with
  | bl t => cases t with
   | true => exact ⟨true, rfl, fun G1 H1 e1 => ⟨G1, δ, R.ext e1, e.trans e1, OutP.same e1.gg q⟩⟩
   | false => exact ⟨false, rfl, fun G1 H1 e1 => ⟨G1, δ, R.ext e1, e.trans e1, OutP.same e1.gg q⟩⟩
  | non => exact q.elim
  | int _ => exact q.elim
  | str _ => exact q.elim
  | tup _ => exact q.elim
  | lst _ => exact q.elim
  | dct _ _ => exact q.elim
  | obj _ _ => exact q.elim
  | fn _ => exact q.elim⟩
theorem EnvR.set {K : KA} {G H : Hp} {σ : St} {δ : En} {i : Nat} {d : D} {v : V} (R : EnvR K B G H σ δ) (h : Den K G d v) : EnvR K B G H (σ.set i (some v)) (δ.set i (.pu d)) where
 bh := R.bh
 gb := R.gb
 gh := R.gh
 len := by rw [List.length_set, List.length_set]; exact R.len
 sl := fun j s q => by
  by_cases z : i = j
  ·subst z
   have hl : i < δ.length := by
    have := (List.getElem?_eq_some_iff.mp q).1
    rwa [List.length_set] at this
   rw [List.getElem?_set_self hl] at q
   cases q
   exact ⟨some v, List.getElem?_set_self (by rw [R.len]; exact hl), v, rfl, h⟩
  ·rw [List.getElem?_set_ne z] at q ⊢
   exact R.sl j s q
 own := fun j s a q1 q2 q3 => by
  by_cases z : i = j
  ·subst z
   have hl : i < δ.length := by
    have := (List.getElem?_eq_some_iff.mp q1).1
    rwa [List.length_set] at this
   rw [List.getElem?_set_self hl] at q1
   cases q1
   cases q2
  ·rw [List.getElem?_set_ne z] at q1 q3
   exact R.own j s a q1 q2 q3
 dis := fun j k s t a q1 q2 q3 q4 q5 q6 => by
  have hj : i ≠ j := by
   rintro rfl
   have hl : i < δ.length := by
    have := (List.getElem?_eq_some_iff.mp q1).1
    rwa [List.length_set] at this
   rw [List.getElem?_set_self hl] at q1
   cases q1
   cases q3
  have hk : i ≠ k := by
   rintro rfl
   have hl : i < δ.length := by
    have := (List.getElem?_eq_some_iff.mp q2).1
    rwa [List.length_set] at this
   rw [List.getElem?_set_self hl] at q2
   cases q2
   cases q4
  rw [List.getElem?_set_ne hj] at q1 q5
  rw [List.getElem?_set_ne hk] at q2 q6
  exact R.dis j k s t a q1 q2 q3 q4 q5 q6
noncomputable def sSet (i : Nat) (g : En → Res) : En → Out := fun δ => (g δ).then fun d => .nx (δ.set i (.pu d))
theorem s_set {i : Nat} {x : Str} {pos' : Pos} (h : PuE X B E e g) (hs : PS X (.Assign [.Name x pos'] e pos) (tAsg (tPu (kx X) B E g) (gName i))) : PuS X G0 B E (.Assign [.Name x pos'] e pos) (sSet i g) :=
 PS.imp hs fun D σ H ⟨G, δ, R, e, q⟩ => ⟨G, δ, R, (thenP e q).mono fun d _ q v G' H' e1 dn => q _ G' H' e1.gg ((R.ext e1).set dn) (e.trans e1)⟩
theorem EnvR.setO {K : KA} {G H G' H' : Hp} {σ : St} {δ : En} {i : Nat} {ds : List D} {a : Addr} {vs : List V} (R : EnvR K B G H σ δ) (e : Ext G H G' H') (hn : H a = none) (gn : G' a = none) (hh : H' a = some (.lst vs)) (dl : DenL K G' ds vs) :
  EnvR K B G' H' (σ.set i (some (.ref a))) (δ.set i (.ow ds)) := by
 have R' := R.ext e
 have bn : B a = none := free_of R.bh hn
 have oth : ∀ (j : Nat) s, δ[j]? = some s → s.own = true → σ[j]? = some (some (.ref a)) → False := fun j s q1 q2 q3 => by
  obtain ⟨o, z1, z2⟩ := R.sl j s q1
  rw [q3] at z1
  cases z1
  obtain ⟨a', z, u, z3, _⟩ := z2.ref q2
  cases z
  rw [hn] at z3
  cases z3
 have at_i : ∀ {s : Sl}, (δ.set i (.ow ds))[i]? = some s → s = .ow ds ∧ i < δ.length := fun q => by
  have hl : i < δ.length := by
   have := (List.getElem?_eq_some_iff.mp q).1
   rwa [List.length_set] at this
  rw [List.getElem?_set_self hl] at q
  cases q
  exact ⟨rfl, hl⟩
 refine ⟨R'.bh, R'.gh, by rw [List.length_set, List.length_set]; exact R.len, fun j s q => ?_, fun j s b q1 q2 q3 => ?_, fun j k s t b q1 q2 q3 q4 q5 q6 => ?_, R.gb⟩
 ·by_cases z : i = j
  ·subst z
   obtain ⟨rfl, hl⟩ := at_i q
   exact ⟨some (.ref a), List.getElem?_set_self (by rw [R.len]; exact hl), a, vs, rfl, hh, dl⟩
  ·rw [List.getElem?_set_ne z] at q ⊢
   exact R'.sl j s q
 ·by_cases z : i = j
  ·subst z
   obtain ⟨rfl, hl⟩ := at_i q1
   rw [List.getElem?_set_self (by rw [R.len]; exact hl)] at q3
   cases q3
   exact ⟨gn, bn⟩
  ·rw [List.getElem?_set_ne z] at q1 q3
   exact R'.own j s b q1 q2 q3
 ·by_cases zj : i = j
  ·subst zj
   obtain ⟨rfl, hl⟩ := at_i q1
   rw [List.getElem?_set_self (by rw [R.len]; exact hl)] at q5
   cases q5
   by_cases zk : i = k
   ·exact zk
   ·rw [List.getElem?_set_ne zk] at q2 q6
    exact (oth k t q2 q4 q6).elim
  ·rw [List.getElem?_set_ne zj] at q1 q5
   by_cases zk : i = k
   ·subst zk
    obtain ⟨rfl, hl⟩ := at_i q2
    rw [List.getElem?_set_self (by rw [R.len]; exact hl)] at q6
    cases q6
    exact (oth j s q1 q3 q5).elim
   ·rw [List.getElem?_set_ne zk] at q2 q6
    exact R'.dis j k s t b q1 q2 q3 q4 q5 q6
noncomputable def sSetO (i : Nat) (g : En → Res) : En → Out := fun δ => (g δ).then fun d => match d with
 | .lst ds => .nx (δ.set i (.ow ds))
 | _ => .st
theorem s_setO {i : Nat} {x : Str} {pos' : Pos} (h : OwE X B E e g) (hs : PS X (.Assign [.Name x pos'] e pos) (tAsg (tOw (kx X) B E g) (gName i))) : PuS X G0 B E (.Assign [.Name x pos'] e pos) (sSetO i g) :=
 PS.imp hs fun D σ H ⟨G, δ, R, e, q⟩ => ⟨G, δ, R, (thenP e q).mono fun d _ q => by
  cases d with
  | lst ds => exact ⟨ds, rfl, fun a vs G' H' e1 hn gn hh dl => q _ G' H' e1.gg (R.setO e1 hn gn hh dl) (e.trans e1)⟩
  | non => exact q.elim
  | bl _ => exact q.elim
  | int _ => exact q.elim
  | str _ => exact q.elim
  | tup _ => exact q.elim
  | dct _ _ => exact q.elim
  | obj _ _ => exact q.elim
  | fn _ => exact q.elim⟩
theorem EnvR.wr {K : KA} {G H : Hp} {σ : St} {δ : En} {i : Nat} {ds es : List D} {a : Addr} {vs ws : List V} (R : EnvR K B G H σ δ) (hi : δ[i]? = some (.ow ds)) (hs : σ[i]? = some (some (.ref a))) (ha : H a = some (.lst vs)) (dl : DenL K G es ws) :
  EnvR K B G (upd H a (.lst ws)) σ (δ.set i (.ow es)) := by
 obtain ⟨gn, bn⟩ := R.own i _ a hi rfl hs
 have hl : i < δ.length := (List.getElem?_eq_some_iff.mp hi).1
 have sb : ∀ {F : Hp}, F a = none → Same F H → Same F (upd H a (.lst ws)) := fun fn s b u q => by
  rw [upd_ne (ne_of_none q fn)]; exact s b u q
 have ownEq : ∀ {j : Nat} {s : Sl}, (δ.set i (.ow es))[j]? = some s → s.own = true → ∃ s', δ[j]? = some s' ∧ s'.own = true := fun {j s} q o => by
  by_cases z : i = j
  ·subst z; exact ⟨_, hi, rfl⟩
  ·rw [List.getElem?_set_ne z] at q; exact ⟨s, q, o⟩
 refine ⟨sb bn R.bh, sb gn R.gh, by rw [List.length_set]; exact R.len, fun j s q => ?_, fun j s b q1 q2 q3 => ?_, fun j k s t b q1 q2 q3 q4 q5 q6 => ?_, R.gb⟩
 ·by_cases z : i = j
  ·subst z
   rw [List.getElem?_set_self hl] at q
   cases q
   exact ⟨_, hs, a, ws, rfl, upd_same, dl⟩
  ·rw [List.getElem?_set_ne z] at q
   obtain ⟨o, z1, z2⟩ := R.sl j s q
   refine ⟨o, z1, ?_⟩
   cases s with
   | no => trivial
   | pu d => exact z2
   | bo d => exact z2
   | ow fs =>
    obtain ⟨b, us, y1, y2, y3⟩ := z2
    have nb : b ≠ a := by
     rintro rfl
     subst y1
     exact z (R.dis i j _ _ b hi q rfl rfl hs z1)
    exact ⟨b, us, y1, by rw [upd_ne nb]; exact y2, y3⟩
   | od t fs =>
    cases t with
    | false =>
     obtain ⟨b, us, y1, y2, y3⟩ := z2
     have nb : b ≠ a := by
      rintro rfl
      rw [ha] at y2
      cases y2
     exact ⟨b, us, y1, by rw [upd_ne nb]; exact y2, y3⟩
    | true =>
     obtain ⟨b, us, y1, y2, y3⟩ := z2
     have nb : b ≠ a := by
      rintro rfl
      rw [ha] at y2
      cases y2
     exact ⟨b, us, y1, by rw [upd_ne nb]; exact y2, y3⟩
 ·obtain ⟨s', z1, z2⟩ := ownEq q1 q2
  exact R.own j s' b z1 z2 q3
 ·obtain ⟨s', z1, z2⟩ := ownEq q1 q3
  obtain ⟨t', y1, y2⟩ := ownEq q2 q4
  exact R.dis j k s' t' b z1 y1 z2 y2 q5 q6
theorem Ext.wr {G H : Hp} {a : Addr} {o : HO} (e : Ext G0 B G H) (gn : G a = none) (bn : B a = none) : Ext G0 B G (upd H a o) :=
 ⟨e.gg, fun b u q => by rw [upd_ne (ne_of_none q bn)]; exact e.hh b u q, fun b u q => by rw [upd_ne (ne_of_none q gn)]; exact e.gh b u q, e.fr⟩
noncomputable def itemsD : D → Option (List D)
 | .lst ds => some ds
 | .tup ds => some ds
 | _ => none
noncomputable def turns (tg : D → En → Option En) (F : En → Out) : List D → En → Out
 | [], δ => .nx δ
 | d :: r, δ => match tg d δ with
  | none => .st
  | some δ1 => match F δ1 with
   | .nx δ' => turns tg F r δ'
   | .ct δ' => turns tg F r δ'
   | .bk δ' => .nx δ'
   | .rt d => .rt d
   | .er c => .er c
   | .st => .st
end
section
variable {X : Cx} {G0 B : Hp} {E : EK} {e c tg iter : Expr} {st : Stmt} {rest ss tt : List Stmt} {F F1 F2 : En → Out} {g : En → Res} {pos : Pos}
noncomputable def gBo (i : Nat) : En → Res := fun δ => match δ[i]? with
 | some (.pu d) => .ok d
 | some (.bo d) => .ok d
 | _ => .st
noncomputable def tBo (K : KA) (B : Hp) (E : EK) (g : En → Res) : TE := fun σ H Q => ∃ G δ, EnvR K B G H σ δ ∧ ResP E G H (g δ) fun d => ∀ v G' H', Ext G H G' H' → Arg K G' B d v → Q v H'
noncomputable abbrev BoE (X : Cx) (B : Hp) (E : EK) (e : Expr) (g : En → Res) : Prop := PE X e (tBo (kx X) B E g)
theorem bo_var (i : Nat) {x : Str} (h : PE X (.Name x pos) (tVar i)) : BoE X B E (.Name x pos) (gBo i) := PE.imp h fun σ H Q ⟨G, δ, R, q⟩ => by
 unfold gBo at q
 cases e : δ[i]? with
 | none => rw [e] at q; exact q.elim
 | some s =>
  rw [e] at q
  obtain ⟨o, q1, q2⟩ := R.sl i _ e
  cases s with
  | pu d =>
   obtain ⟨v, q3, q4⟩ := q2
   exact ⟨v, by rw [q1, q3], q v G H (Ext.refl R.gh) (.inl q4)⟩
  | bo d =>
   obtain ⟨v, q3, q4⟩ := q2
   exact ⟨v, by rw [q1, q3], q v G H (Ext.refl R.gh) q4⟩
  | no => exact q.elim
  | ow d => exact q.elim
  | od t d => exact q.elim
theorem bo_pu (h : PuE X B E e g) : BoE X B E e g := PE.imp h fun σ H Q ⟨G, δ, R, q⟩ => ⟨G, δ, R, q.mono fun d _ q v G' H' x y => q v G' H' x (.inl y)⟩
noncomputable def ItOk (K : KA) (J : It) (ds : List D) (S : Hp → Hp → Prop) : Prop := ∀ (i : Nat) G H, S G H → Same G H →
 (∀ d, ds[i]? = some d → J.go i H ∧ ∀ x H', J.yld i H x H' → ∃ G', Ext G H G' H' ∧ Den K G' d x) ∧ (ds.length ≤ i → J.stop i H)
noncomputable def tIt (K : KA) (B : Hp) (E : EK) (g : En → ResL) : TI := fun σ H R => ∃ G δ, EnvR K B G H σ δ ∧ ResLP E G H (g δ) fun ds => ∀ J G' H', Ext G H G' H' → ItOk K J ds (fun G2 H2 => Same G' G2 ∧ Same B H2) → R J H'
noncomputable def tIc (K : KA) (B : Hp) (E : EK) (g : En → ResL) : TI := fun σ H R => ∃ G δ, EnvR K B G H σ δ ∧ ResLP E G H (g δ) fun ds => ∀ J G' H', Ext G H G' H' → ItOk K J ds (fun G2 H2 => Ext G' H' G2 H2) → R J H'
noncomputable abbrev PuI (X : Cx) (B : Hp) (E : EK) (tg iter : Expr) (g : En → ResL) : Prop := PI X tg iter (tIt (kx X) B E g)
noncomputable abbrev PuIc (X : Cx) (B : Hp) (E : EK) (tg iter : Expr) (g : En → ResL) : Prop := PI X tg iter (tIc (kx X) B E g)
theorem PI.imp {wi wi' : TI} (h : PI X tg iter wi) (i : ∀ σ H R, wi' σ H R → wi σ H R) : PI X tg iter wi' := fun pins s σ H R I q => h pins s σ H R I (i σ H R q)
theorem itl_ok {K : KA} {a : Addr} {G1 : Hp} {ds : List D} {vs : List V} {S : Hp → Hp → Prop} (h : ∀ G H, S G H → Same G H → SqL K H a vs ∧ Same G1 G) (dl : DenL K G1 ds vs) : ItOk K (Itl K a) ds S := fun i G H hS sg => by
 obtain ⟨q, g⟩ := h G H hS sg
 refine ⟨fun d ed => ?_, fun hl => ⟨vs, q, by rw [← dl.length]; exact hl⟩⟩
 obtain ⟨v, ev, dv⟩ := dl.get ed
 refine ⟨⟨vs, v, q, ev⟩, fun x H' ⟨e, y⟩ => ?_⟩
 subst e
 have z := y vs q
 rw [ev] at z
 cases z
 exact ⟨G, Ext.refl sg, dv.mono g⟩
theorem itt_ok {K : KA} {a : Addr} {G1 : Hp} {ds : List D} {vs : List V} {S : Hp → Hp → Prop} (h : ∀ G H, S G H → Same G H → SqT K H a vs ∧ Same G1 G) (dl : DenL K G1 ds vs) : ItOk K (Itt K a) ds S := fun i G H hS sg => by
 obtain ⟨q, g⟩ := h G H hS sg
 refine ⟨fun d ed => ?_, fun hl => ⟨vs, q, by rw [← dl.length]; exact hl⟩⟩
 obtain ⟨v, ev, dv⟩ := dl.get ed
 refine ⟨⟨vs, v, q, ev⟩, fun x H' ⟨e, y⟩ => ?_⟩
 subst e
 have z := y vs q
 rw [ev] at z
 cases z
 exact ⟨G, Ext.refl sg, dv.mono g⟩
noncomputable def rangeD (lo : Int) (n : Nat) : List D := (List.range n).map fun (i : Nat) => .int (lo + i)
noncomputable def gRange (r : En → ResL) : En → ResL := fun δ => match r δ with
 | .ok [.int j] => if -(2 ^ 62) ≤ j ∧ j < 2 ^ 62 then .ok (rangeD 0 j.toNat) else .st
 | .ok [.int i, .int j] => if (-(2 ^ 62) ≤ i ∧ i < 2 ^ 62) ∧ (-(2 ^ 62) ≤ j ∧ j < 2 ^ 62) then .ok (rangeD i (j - i).toNat) else .st
 | .ok _ => .st
 | .er c => .er c
 | .st => .st
theorem itr_ok {K : KA} {lo : Int} {n : Nat} {S : Hp → Hp → Prop} : ItOk K (Itr lo n) (rangeD lo n) S := fun i G H hS sg => by
 refine ⟨fun d ed => ?_, fun hl => ?_⟩
 ·unfold rangeD at ed
  rw [List.getElem?_map] at ed
  cases e : (List.range n)[i]? with
  | none => rw [e] at ed; cases ed
  | some j =>
   rw [e] at ed
   have hi : i < n := by
    have := (List.getElem?_eq_some_iff.mp e).1
    rwa [List.length_range] at this
   rw [List.getElem?_range hi] at e
   cases e
   cases ed
   exact ⟨hi, fun x H' ⟨z, y⟩ => by subst z; exact ⟨G, Ext.refl sg, y⟩⟩
 ·unfold rangeD at hl
  rw [List.length_map, List.length_range] at hl
  exact hl
theorem ArgsM.one {K : KA} {G H : Hp} {m : Bool} {d : D} {vs : List V} (h : ArgsM K G H [m] [d] vs) : ∃ v, vs = [v] ∧ Arg K G H d v := by
 obtain ⟨d', dr, v, vr, h1, h2, h3, h4, h5⟩ := h
 cases h1
 subst h5
 refine ⟨v, h2, ?_⟩
 cases m
 ·exact .inl h3
 ·exact h3
theorem ArgsM.two {K : KA} {G H : Hp} {m m' : Bool} {d d' : D} {vs : List V} (h : ArgsM K G H [m, m'] [d, d'] vs) : ∃ v u, vs = [v, u] ∧ Arg K G H d v ∧ Arg K G H d' u := by
 obtain ⟨d1, dr, v, vr, h1, h2, h3, h4⟩ := h
 cases h1
 obtain ⟨u, z, au⟩ := ArgsM.one h4
 subst z
 refine ⟨v, u, h2, ?_, au⟩
 cases m
 ·exact .inl h3
 ·exact h3
theorem rangeP {G H : Hp} {δ : En} {r : En → ResL} {P : List D → Prop} (q : ResLP E G H (gRange r δ) P) : ResLP E G H (r δ) fun ds =>
  (∃ j, ds = [.int j] ∧ -(2 ^ 62) ≤ j ∧ j < 2 ^ 62 ∧ P (rangeD 0 j.toNat)) ∨ ∃ i j, ds = [.int i, .int j] ∧ (-(2 ^ 62) ≤ i ∧ i < 2 ^ 62 ∧ -(2 ^ 62) ≤ j ∧ j < 2 ^ 62) ∧ P (rangeD i (j - i).toNat) := by
 unfold gRange at q
 cases e : r δ with
 | ok ds =>
  rw [e] at q
  show _ ∨ _
  split at q
  ·rename_i z
   cases z
   split at q
   ·rename_i hc; exact .inl ⟨_, rfl, hc.1, hc.2, q⟩
   ·exact q.elim
  ·rename_i z
   cases z
   split at q
   ·rename_i hc; exact .inr ⟨_, _, rfl, ⟨hc.1.1, hc.1.2, hc.2.1, hc.2.2⟩, q⟩
   ·exact q.elim
  ·exact q.elim
  ·rename_i z; cases z
  ·rename_i z; cases z
 | er c => rw [e] at q; exact q
 | st => rw [e] at q; exact q
theorem pi_rng1 {a : Expr} {m : Bool} {r : En → ResL} {p : Pos} (hg : Gl X "range") (hm : X.mg "range" = none) (ha : ArL X B E [m] [a] r) (hs : starEach [a] X.env = [(false, eval a X.env)] := by rfl) : PuI X B E tg (.Call (.Name "range" p) [a] [] pos) (gRange r) :=
 PI.imp (pi_range1 hg hm ha hs) fun σ H R ⟨G, δ, Rr, q⟩ => ⟨G, δ, Rr, (rangeP q).mono fun ds _ q vs G1 H1 e1 al => by
  rcases q with ⟨j, rfl, h1, h2, q⟩ | ⟨i, j, rfl, _⟩
  ·obtain ⟨v, rfl, av⟩ := ArgsM.one al
   exact ⟨j, by rw [av.int], h1, h2, q _ G1 H1 e1 itr_ok⟩
  ·have := al.length.1; simp at this⟩
theorem pi_rng2 {a b : Expr} {m m' : Bool} {r : En → ResL} {p : Pos} (hg : Gl X "range") (hm : X.mg "range" = none) (ha : ArL X B E [m, m'] [a, b] r) (hs : starEach [a, b] X.env = [(false, eval a X.env), (false, eval b X.env)] := by rfl) (hs2 : starEach [b] X.env = [(false, eval b X.env)] := by rfl) : PuI X B E tg (.Call (.Name "range" p) [a, b] [] pos) (gRange r) :=
 PI.imp (pi_range2 hg hm ha hs hs2) fun σ H R ⟨G, δ, Rr, q⟩ => ⟨G, δ, Rr, (rangeP q).mono fun ds _ q vs G1 H1 e1 al => by
  rcases q with ⟨j, rfl, h1, h2, q⟩ | ⟨i, j, rfl, h1, q⟩
  ·have := al.length.1; simp at this
  ·obtain ⟨v, u, rfl, av, au⟩ := ArgsM.two al
   exact ⟨i, j, by rw [av.int, au.int], h1, q _ G1 H1 e1 itr_ok⟩⟩
theorem pic_of {r : En → ResL} (h : PuI X B E tg iter r) : PuIc X B E tg iter r := PI.imp h fun σ H R ⟨G, δ, Rr, q⟩ => ⟨G, δ, Rr, q.mono fun ds _ q J G' H' e ok => q J G' H' e fun i G2 H2 x sg => ok i G2 H2 ⟨x.gg, (Rr.bh.trans e.hh).trans x.hh⟩ sg⟩
structure TgOk (X : Cx) (B : Hp) (tge : Expr) (gl : TG) (tgD : D → En → Option En) : Prop where
 pg : PG X tge gl
 ok : ∀ {G H : Hp} {σ : St} {δ δ' : En} {d : D} {v : V} {Q : St → Hp → Prop}, EnvR (kx X) B G H σ δ → Den (kx X) G d v → tgD d δ = some δ' → (∀ σ', EnvR (kx X) B G H σ' δ' → Q σ' H) → gl v σ H Q
noncomputable def gtName (i : Nat) : D → En → Option En := fun d δ => some (δ.set i (.pu d))
theorem tg_name {i : Nat} {x : Str} {p : Pos} (h : PG X (.Name x p) (gName i)) : TgOk X B (.Name x p) (gName i) (gtName i) := ⟨h, fun R dn e q => by
 cases e
 exact q _ (R.set dn)⟩
noncomputable def sFor (tgD : D → En → Option En) (r : En → ResL) (F : En → Out) : En → Out := fun δ => match r δ with
 | .ok ds => turns tgD F ds δ
 | .er c => .er c
 | .st => .st
theorem forP {K : KA} {tgD : D → En → Option En} {r : En → ResL} {G H : Hp} {δ : En} {D : Ends} (e : Ext G0 B G H) (q : OutP K G0 B E G (sFor tgD r F δ) D) : ResLP E G H (r δ) fun ds => OutP K G0 B E G (turns tgD F ds δ) D := by
 unfold sFor at q
 cases er : r δ with
 | ok ds => rw [er] at q; exact q
 | er c => rw [er] at q; exact fun G' H' x => q G' H' (e.trans x)
 | st => rw [er] at q; exact q
theorem s_for {gl : TG} {tgD : D → En → Option En} {r : En → ResL} (hp : PassesOwn (model X.prog X.w) X.A X.env X.xe) (hc : X.calm = true) (hi : PuI X B E tg iter r) (hg : TgOk X B tg gl tgD) (hb : PuSs X G0 B E ss F)
  (hs : ∀ x, foldedSetIterable iter X.env x = pure x := by intro _; rfl) : PuS X G0 B E (.For tg iter ss [] pos) (sFor tgD r F) :=
 PS.imp (ps_for hp hc hi hg.pg hb hs) fun D σ H ⟨G, δ, R, e, q⟩ => ⟨G, δ, R, (forP e q).mono fun ds _ q J G1 H1 e1 ok => by
  refine ⟨fun i m σ H => m = ds.length - i ∧ i ≤ ds.length ∧ ∃ G2 δ2, Same G1 G2 ∧ EnvR (kx X) B G2 H σ δ2 ∧ Ext G0 B G2 H ∧ OutP (kx X) G0 B E G2 (turns tgD F (ds.drop i) δ2) D,
   ⟨ds.length, by simp, Nat.zero_le _, G1, δ, Same.refl G1, R.ext e1, e.trans e1, OutP.same e1.gg q⟩, ?_⟩
  rintro i m σ2 H2 ⟨rfl, hi2, G2, δ2, s2, R2, x2, q2⟩
  obtain ⟨okg, oks⟩ := ok i G2 H2 ⟨s2, R2.bh⟩ R2.gh
  by_cases hl : i < ds.length
  ·obtain ⟨go, yl⟩ := okg ds[i] (by simp [hl])
   rw [List.drop_eq_getElem_cons hl] at q2
   refine .inr ⟨go, fun σ' H' => i + 1 ≤ ds.length ∧ ∃ G3 δ3, Same G1 G3 ∧ EnvR (kx X) B G3 H' σ' δ3 ∧ Ext G0 B G3 H' ∧ OutP (kx X) G0 B E G3 (turns tgD F (ds.drop (i + 1)) δ3) D,
    fun σ' H' ⟨n1, n2⟩ => ⟨ds.length - (i + 1), by omega, rfl, n1, n2⟩, fun x H3 y => ?_⟩
   obtain ⟨G3, e3, dn⟩ := yl x H3 y
   unfold turns at q2
   cases et : tgD ds[i] δ2 with
   | none => rw [et] at q2; exact q2.elim
   | some δ3 =>
    rw [et] at q2
    dsimp only at q2
    refine hg.ok (R2.ext e3) dn et fun σ3 R3 => ⟨G3, δ3, R3, x2.trans e3, ?_⟩
    have s3 : Same G1 G3 := s2.trans e3.gg
    cases ef : F δ3 with
    | nx δ4 =>
     rw [ef] at q2
     exact fun σ' G' H' s R' x' => ⟨hl, G', δ4, s3.trans s, R', x', OutP.same (e3.gg.trans s) q2⟩
    | ct δ4 =>
     rw [ef] at q2
     exact fun σ' G' H' s R' x' => ⟨hl, G', δ4, s3.trans s, R', x', OutP.same (e3.gg.trans s) q2⟩
    | bk δ4 =>
     rw [ef] at q2
     exact fun σ' G' H' s R' x' => q2 σ' G' H' (e3.gg.trans s) R' x'
    | rt d => rw [ef] at q2; exact q2
    | er c => rw [ef] at q2; exact q2
    | st => rw [ef] at q2; exact q2
  ·have z : i = ds.length := by omega
   subst z
   rw [List.drop_length] at q2
   exact .inl ⟨oks (Nat.le_refl _), q2 σ2 G2 H2 (Same.refl G2) R2 x2⟩⟩
noncomputable def entry : List Bool → List D → En
 | _, [] => []
 | true :: ms, d :: ds => .bo d :: entry ms ds
 | false :: ms, d :: ds => .pu d :: entry ms ds
 | [], _ :: _ => []
noncomputable def outR : Out → Res
 | .rt d => .ok d
 | .nx _ => .ok .non
 | .er c => .er c
 | _ => .st
noncomputable def fnD (ms : List Bool) (n : Nat) (F : En → Out) (ds : List D) : Res := outR (F (entry ms ds ++ List.replicate (n - ds.length) .no))
noncomputable def spPu (K : KA) (ms : List Bool) (f : List D → Res) : Sp := fun vs H Q E => vs.length = ms.length ∧ GOk H ∧ ∃ G ds, Same G H ∧ ArgsM K G H ms ds vs ∧ ResP (ek K E) G H (f ds) fun d => ∀ v G' H', Ext G H G' H' → Den K G' d v → Q v H'
theorem entry_len {K : KA} {G H : Hp} : ∀ {ms : List Bool} {ds : List D} {vs : List V}, ArgsM K G H ms ds vs → (entry ms ds).length = vs.length
 | [], _, _, ⟨h1, h2⟩ => by subst h1; subst h2; rfl
 | m :: ms, _, _, ⟨d, dr, v, vr, h1, h2, h3, h4⟩ => by
  subst h1; subst h2
  have ih := entry_len h4
  cases m <;> simp only [entry, List.length_cons, ih]
theorem entry_get {K : KA} {G H : Hp} : ∀ {ms : List Bool} {ds : List D} {vs : List V}, ArgsM K G H ms ds vs → ∀ (i : Nat) s, (entry ms ds)[i]? = some s → s.own = false ∧ ∃ v, vs[i]? = some v ∧ SlOk K H G H s (some v)
 | [], _, _, ⟨h1, h2⟩, i, s, q => by subst h1; simp [entry] at q
 | m :: ms, _, _, ⟨d, dr, v, vr, h1, h2, h3, h4⟩, i, s, q => by
  subst h1; subst h2
  cases i with
  | zero =>
   cases m with
   | true =>
    simp only [entry, List.getElem?_cons_zero, Option.some.injEq] at q
    subst q
    exact ⟨rfl, v, rfl, v, rfl, h3⟩
   | false =>
    simp only [entry, List.getElem?_cons_zero, Option.some.injEq] at q
    subst q
    exact ⟨rfl, v, rfl, v, rfl, h3⟩
  | succ i =>
   cases m with
   | true =>
    simp only [entry, List.getElem?_cons_succ] at q
    obtain ⟨q1, u, q2, q3⟩ := entry_get h4 i s q
    exact ⟨q1, u, by simpa using q2, q3⟩
   | false =>
    simp only [entry, List.getElem?_cons_succ] at q
    obtain ⟨q1, u, q2, q3⟩ := entry_get h4 i s q
    exact ⟨q1, u, by simpa using q2, q3⟩
theorem envR_start {K : KA} {G H : Hp} {ms : List Bool} {ds : List D} {vs : List V} {N : List Str} (gb : GOk H) (s : Same G H) (al : ArgsM K G H ms ds vs) : EnvR K H G H (L2.start N vs) (entry ms ds ++ List.replicate (N.length - ds.length) .no) := by
 have l1 := entry_len al
 obtain ⟨l2, l3⟩ := al.length
 have key : ∀ (i : Nat) t, (entry ms ds ++ List.replicate (N.length - ds.length) Sl.no)[i]? = some t → t = .no ∨ (i < vs.length ∧ (entry ms ds)[i]? = some t) := fun i t q => by
  by_cases z : i < (entry ms ds).length
  ·rw [List.getElem?_append_left z] at q
   exact .inr ⟨by rw [← l1]; exact z, q⟩
  ·rw [List.getElem?_append_right (by omega)] at q
   have := List.mem_of_getElem? q
   exact .inl (List.eq_of_mem_replicate this)
 refine ⟨Same.refl H, s, ?_, fun i t q => ?_, fun i t a q1 q2 q3 => ?_, fun i j t u a q1 q2 q3 q4 q5 q6 => ?_, gb⟩
 ·unfold L2.start
  rw [List.length_append, List.length_append, List.length_map, List.length_replicate, List.length_replicate, l1, l2, l3]
 ·rcases key i t q with rfl | ⟨hi, qe⟩
  ·have hl : i < (L2.start N vs).length := by
    have := (List.getElem?_eq_some_iff.mp q).1
    rw [List.length_append, List.length_replicate, l1] at this
    unfold L2.start
    rw [List.length_append, List.length_map, List.length_replicate]
    omega
   exact ⟨_, List.getElem?_eq_getElem hl, trivial⟩
  ·obtain ⟨_, v, ev, ok⟩ := entry_get al i t qe
   refine ⟨some v, ?_, ok⟩
   unfold L2.start
   rw [List.getElem?_append_left (by rw [List.length_map]; exact hi), List.getElem?_map, ev]
   rfl
 ·rcases key i t q1 with rfl | ⟨hi, qe⟩
  ·cases q2
  ·obtain ⟨z, _⟩ := entry_get al i t qe
   rw [z] at q2
   cases q2
 ·rcases key i t q1 with rfl | ⟨hi, qe⟩
  ·cases q3
  ·obtain ⟨z, _⟩ := entry_get al i t qe
   rw [z] at q3
   cases q3
theorem outP_of {K : KA} {G H : Hp} {E : EK} {Q : VK} {o : Out} (s : Same G H) (h : ResP E G H (outR o) fun d => ∀ v G' H', Ext G H G' H' → Den K G' d v → Q v H') :
  OutP K G H E G o { nx := fun _ H' => Q .non H', rt := Q } := by
 cases o with
 | nx δ => exact fun σ' G' H' _ _ e => h .non G' H' e rfl
 | bk δ => exact h.elim
 | ct δ => exact h.elim
 | rt d => exact fun v G' H' e dn => h v G' H' e dn
 | er c => exact h
 | st => exact h
end
section
variable {P : Program} {w : World} {Kf : PySem.W.Frag} {mg : Str → Option Value} {base : Heap}
end
section
variable {X : Cx} {B : Hp} {E : EK} {e : Expr} {es : List Expr} {pos p : Pos} {x : Str}
noncomputable def gCall (f : List D → Res) (r : En → ResL) : En → Res := fun δ => match r δ with
 | .ok ds => f ds
 | .er c => .er c
 | .st => .st
theorem callP {G H : Hp} {δ : En} {r : En → ResL} {f : List D → Res} {P : D → Prop} (q : ResP E G H (gCall f r δ) P) : ResLP E G H (r δ) fun ds => ResP E G H (f ds) P := by
 unfold gCall at q
 cases e : r δ with
 | ok ds => rw [e] at q; exact q
 | er c => rw [e] at q; exact q
 | st => rw [e] at q; exact q
theorem pu_call {CX : CXT} {k : Nat} {f : Addr} {fd : FuncData} {ps : List Str} {ms : List Bool} {fD : List D → Res} {r : En → ResL} {E : XK} (F : FnOk X.prog X.w X.K X.mg X.base CX k f fd ps (spPu (kx X) ms fD)) (hr : Room k X.A) (hg : Gl X x) (hm : X.mg x = some (.ref f)) (hk : PySem.W.keepIn X.K (.ref f) = true)
  (hb : Binds X.K fd ps []) (hx : Passes CX X E) (ha : ArL X B (ek (kx X) E) ms (e :: es) r) (hdb : (x == ("__debug__" : Str)) = false := by decide) (he : starEach (e :: es) X.env = (false, eval e X.env) :: starEach es X.env := by rfl) (hpl : (backTo pos (starEach es X.env)).any (·.1) = false := by rfl) :
  PuE X B (ek (kx X) E) (.Call (.Name x p) (e :: es) [] pos) (gCall fD r) :=
 PE.imp (pe_call F hr hg hm hk hb .nil hx ha hdb he hpl) fun σ H Q ⟨G, δ, R, q⟩ => ⟨G, δ, R, (callP q).mono fun ds _ q vs G1 H1 e1 al =>
  ⟨by rw [List.append_nil]; exact al.length.2, R.gb.same (R.bh.trans e1.hh), G1, ds, e1.gh, by rw [List.append_nil]; exact al, (q.ext e1).mono fun d _ q v G' H' e2 dn => q v G' H' (e1.trans e2) dn⟩⟩
theorem pu_call0 {CX : CXT} {k : Nat} {f : Addr} {fd : FuncData} {ps : List Str} {fD : List D → Res} {E : XK} (F : FnOk X.prog X.w X.K X.mg X.base CX k f fd ps (spPu (kx X) [] fD)) (hr : Room k X.A) (hg : Gl X x) (hm : X.mg x = some (.ref f)) (hk : PySem.W.keepIn X.K (.ref f) = true)
  (hb : Binds X.K fd ps []) (hx : Passes CX X E) (hdb : (x == ("__debug__" : Str)) = false := by decide) : PuE X B (ek (kx X) E) (.Call (.Name x p) [] [] pos) (fun _ => fD []) :=
 PE.imp (pe_call0 F hr hg hm hk hb .nil hx hdb) fun σ H Q ⟨G, δ, R, q⟩ => ⟨rfl, R.gb.same R.bh, G, [], R.gh, ⟨rfl, rfl⟩, q⟩
end
mutual
noncomputable def toPy : D → Option PyData
 | .non => some .none
 | .bl b => some (.bool b)
 | .int i => some (.int i)
 | .str x => some (.str x)
 | .tup ds => match toPyL ds with
  | some ps => some (.tuple ps)
  | none => none
 | .lst ds => match toPyL ds with
  | some ps => some (.list ps)
  | none => none
 | .dct _ _ => none
 | .obj _ _ => none
 | .fn _ => none
noncomputable def toPyL : List D → Option (List PyData)
 | [] => some []
 | d :: ds => match toPy d with
  | some p => (match toPyL ds with
   | some ps => some (p :: ps)
   | none => none)
  | none => none
end
section
variable {X : Cx} {pins : List (Addr × Obj)} {σ : St} {G H : Hp} {s : Shared}
mutual
theorem reads_of (I : Inv X pins σ H s) (sg : Same G H) : ∀ {d : D} {v : V} {u : Value} {p : PyData}, Den (kx X) G d v → RelV v u → toPy d = some p → ∃ as, Reads s.heap u p as
 | .non, v, u, p, h, r, e => by
  cases (show v = .non from h); cases (show u = Value.none from r); cases e
  exact ⟨_, Reads.none⟩
 | .bl b, v, u, p, h, r, e => by
  cases (show v = .bl b from h); cases (show u = Value.bool b from r); cases e
  exact ⟨_, Reads.bool b⟩
 | .int i, v, u, p, h, r, e => by
  cases (show v = .int i from h)
  obtain ⟨t, q⟩ := (show ∃ t, u = Value.int i t from r); cases q; cases e
  exact ⟨_, Reads.int i t⟩
 | .str x, v, u, p, h, r, e => by
  cases (show v = .str x from h)
  obtain ⟨t, q⟩ := (show ∃ t, u = Value.str x t from r); cases q; cases e
  exact ⟨_, Reads.str x t⟩
 | .tup ds, v, u, p, h, r, e => by
  obtain ⟨a, vs, rfl, sq, dl⟩ := h
  cases (show u = Value.ref a from r)
  unfold toPy at e
  cases e2 : toPyL ds with
  | none => rw [e2] at e; cases e
  | some ps =>
   rw [e2] at e
   cases e
   obtain ⟨its, rv, ⟨o, ho, hc, n, hd⟩, _⟩ := I.tuple (SqT.of (sg _ _ sq))
   obtain ⟨as, ra⟩ := readsL_of I sg dl rv e2
   exact ⟨as, Reads.tuple ho hc hd (by simpa using ra)⟩
 | .lst ds, v, u, p, h, r, e => by
  obtain ⟨a, vs, rfl, sq, dl⟩ := h
  cases (show u = Value.ref a from r)
  unfold toPy at e
  cases e2 : toPyL ds with
  | none => rw [e2] at e; cases e
  | some ps =>
   rw [e2] at e
   cases e
   obtain ⟨its, rv, pl, _⟩ := I.list (SqL.mono sg sq)
   obtain ⟨o, ho, hc, n, hd⟩ := pl.isList
   obtain ⟨as, ra⟩ := readsL_of I sg dl rv e2
   exact ⟨_, Reads.list ho hc hd (by simpa using ra)⟩
 | .dct _ _, _, _, _, _, _, e => by cases e
 | .obj _ _, _, _, _, _, _, e => by cases e
 | .fn _, _, _, _, _, _, e => by cases e
theorem readsL_of (I : Inv X pins σ H s) (sg : Same G H) : ∀ {ds : List D} {vs : List V} {us : List Value} {ps : List PyData}, DenL (kx X) G ds vs → Vals vs us → toPyL ds = some ps → ∃ as, ReadsAll s.heap us ps as
 | [], vs, us, ps, h, r, e => by
  cases (show vs = [] from h); cases r; cases e
  exact ⟨_, ReadsAll.nil⟩
 | d :: ds, vs, us, ps, h, r, e => by
  obtain ⟨v, vr, rfl, dv, dl⟩ := h
  cases r with
  | cons rv rr =>
   unfold toPyL at e
   cases e1 : toPy d with
   | none => rw [e1] at e; cases e
   | some p =>
    rw [e1] at e
    dsimp only at e
    cases e2 : toPyL ds with
    | none => rw [e2] at e; cases e
    | some ps' =>
     rw [e2] at e
     cases e
     obtain ⟨as, ra⟩ := reads_of I sg dv rv e1
     obtain ⟨bs, rb⟩ := readsL_of I sg dl rr e2
     exact ⟨_, ReadsAll.cons ra rb⟩
end
theorem reads_arg (I : Inv X pins σ H s) (sg : Same G H) {d : D} {v : V} {u : Value} {p : PyData} (h : Arg (kx X) G H d v) (r : RelV v u) (e : toPy d = some p) : ∃ as, Reads s.heap u p as := by
 rcases h with h | ⟨ds, a, vs, rfl, rfl, sq, dl⟩ | ⟨t, kvs, a, rfl, _⟩
 ·exact reads_of I sg h r e
 ·cases (show u = Value.ref a from r)
  unfold toPy at e
  cases e2 : toPyL ds with
  | none => rw [e2] at e; cases e
  | some ps =>
   rw [e2] at e
   cases e
   obtain ⟨its, rv, pl, _⟩ := I.list sq
   obtain ⟨o, ho, hc, n, hd⟩ := pl.isList
   obtain ⟨as, ra⟩ := readsL_of I sg dl rv e2
   exact ⟨_, Reads.list ho hc hd (by simpa using ra)⟩
 ·cases e
end
noncomputable def eqD (d e : D) : Option Bool := match toPy d, toPy e with
 | some p, some q => if SeqAt.shaped p && SeqAt.shaped q then some (PyData.eqv p q) else none
 | _, _ => none
noncomputable def pyEq (d e : D) : Option D := (eqD d e).map .bl
noncomputable def pyNe (d e : D) : Option D := (eqD d e).map fun b => .bl !b
theorem eqD_some {d e : D} {b : Bool} (h : eqD d e = some b) : ∃ p q, toPy d = some p ∧ toPy e = some q ∧ SeqAt.shaped p = true ∧ SeqAt.shaped q = true ∧ b = PyData.eqv p q := by
 unfold eqD at h
 cases e1 : toPy d with
 | none => rw [e1] at h; cases h
 | some p =>
  cases e2 : toPy e with
  | none => rw [e1, e2] at h; cases h
  | some q =>
   rw [e1, e2] at h
   dsimp only at h
   by_cases hs : (SeqAt.shaped p && SeqAt.shaped q) = true
   ·rw [if_pos hs] at h
    cases h
    rw [Bool.and_eq_true] at hs
    exact ⟨p, q, rfl, rfl, hs.1, hs.2, rfl⟩
   ·rw [if_neg hs] at h; cases h
section
variable {X : Cx} {B : Hp} {E : EK} {e a b : Expr} {es : List Expr} {g h : En → Res} {pos : Pos}
noncomputable def rEqD (K : KA) (neg : Bool) : R2 := fun x y H Q => ∃ G dx dy b, Same G H ∧ Arg K G H dx x ∧ Arg K G H dy y ∧ eqD dx dy = some b ∧ Q (.bl (if neg then !b else b)) H
theorem op_eqD (hu : X.A.units + 64 < cLine) : OpR X (compareOp .Eq) (rEqD (kx X) false) := by
 intro pins s σ H x y v u Q I rx ry q
 obtain ⟨G, dx, dy, b, sg, ax, ay, eb, q⟩ := q
 obtain ⟨p, p', e1, e2, s1, s2, rfl⟩ := eqD_some eb
 obtain ⟨as, ra⟩ := reads_arg I sg ax rx e1
 obtain ⟨bs, rb⟩ := reads_arg I sg ay ry e2
 exact eq_dataH ra rb s1 s2 hu ⟨.bl (PyData.eqv p p'), H, I, rfl, q⟩
theorem op_neD (hu : X.A.units + 64 < cLine) : OpR X (compareOp .NotEq) (rEqD (kx X) true) := by
 intro pins s σ H x y v u Q I rx ry q
 obtain ⟨G, dx, dy, b, sg, ax, ay, eb, q⟩ := q
 obtain ⟨p, p', e1, e2, s1, s2, rfl⟩ := eqD_some eb
 obtain ⟨as, ra⟩ := reads_arg I sg ax rx e1
 obtain ⟨bs, rb⟩ := reads_arg I sg ay ry e2
 exact ne_dataH ra rb s1 s2 hu ⟨.bl (!PyData.eqv p p'), H, I, rfl, q⟩
theorem prim_eq {K : KA} : Prim2 K pyEq (rEqD K false) := fun G H x y dx dy d sg ax ay ed Q q => by
 unfold pyEq at ed
 cases e : eqD dx dy with
 | none => rw [e] at ed; cases ed
 | some b => rw [e] at ed; cases ed; exact ⟨G, dx, dy, b, sg, ax, ay, e, q _ G H (Ext.refl sg) rfl⟩
theorem prim_ne {K : KA} : Prim2 K pyNe (rEqD K true) := fun G H x y dx dy d sg ax ay ed Q q => by
 unfold pyNe at ed
 cases e : eqD dx dy with
 | none => rw [e] at ed; cases ed
 | some b => rw [e] at ed; cases ed; exact ⟨G, dx, dy, b, sg, ax, ay, e, q _ G H (Ext.refl sg) rfl⟩
theorem map_bl {o : Option Bool} {d : D} {f : Bool → Bool} (h : (o.map fun b => D.bl (f b)) = some d) : ∃ b, d = .bl b := by
 cases o with
 | none => cases h
 | some b => cases h; exact ⟨_, rfl⟩
noncomputable def pyI (f : Int → Int → Option D) : D → D → Option D
 | .int i, .int j => f i j
 | _, _ => none
noncomputable def pySub : D → D → Option D := pyI fun i j => some (.int (i - j))
noncomputable def pyMod : D → D → Option D := pyI fun i j => if 0 < j then some (.int (i % j)) else none
noncomputable def pyFdiv : D → D → Option D := pyI fun i j => if 0 < j ∧ j < 1073741824 then some (.int (i / j)) else none
noncomputable def pyPow : D → D → Option D := pyI fun i j => if 0 ≤ j ∧ j ≤ 1000000 ∧ i.natAbs < 2 ^ 64 then some (.int (i ^ j.toNat)) else none
theorem prim_I {K : KA} {f : Int → Int → Option D} {C : Int → Int → Prop} {r : Int → Int → V} (hf : ∀ i j d, f i j = some d → C i j ∧ ∀ G, Den K G d (r i j)) : Prim2 K (pyI f) (rI C r) := fun G H x y dx dy d sg ax ay ed Q q => by
 cases dx with
 | int i =>
  cases dy with
  | int j =>
   obtain ⟨c, dn⟩ := hf i j d ed
   exact ⟨i, j, ax.int, ay.int, c, q _ G H (Ext.refl sg) (dn G)⟩
  | _ => cases ed
 | _ => cases ed
theorem prim_I0 {K : KA} {f : Int → Int → Option D} {r : Int → Int → V} (hf : ∀ i j d, f i j = some d → ∀ G, Den K G d (r i j)) : Prim2 K (pyI f) (rI0 r) := fun G H x y dx dy d sg ax ay ed Q q => by
 cases dx with
 | int i =>
  cases dy with
  | int j => exact ⟨i, j, ax.int, ay.int, q _ G H (Ext.refl sg) (hf i j d ed G)⟩
  | _ => cases ed
 | _ => cases ed
theorem pu_sub (ha : ArE X B E a g) (hb : ArE X B E b h) : PuE X B E (.BinOp a .Sub b pos) (g2 pySub g h) := pu_op op_sub (prim_I0 fun i j d e G => by cases e; rfl) ha hb
theorem pu_mod (ha : ArE X B E a g) (hb : ArE X B E b h) : PuE X B E (.BinOp a .Mod b pos) (g2 pyMod g h) := pu_op op_mod (prim_I fun i j d e => by
 by_cases hj : 0 < j
 ·rw [if_pos hj] at e; cases e; exact ⟨hj, fun _ => rfl⟩
 ·rw [if_neg hj] at e; cases e) ha hb
theorem pu_fdiv (ha : ArE X B E a g) (hb : ArE X B E b h) : PuE X B E (.BinOp a .FloorDiv b pos) (g2 pyFdiv g h) := pu_op op_fdiv (prim_I fun i j d e => by
 by_cases hj : 0 < j ∧ j < 1073741824
 ·rw [if_pos hj] at e; cases e; exact ⟨hj, fun _ => rfl⟩
 ·rw [if_neg hj] at e; cases e) ha hb
theorem pu_pow (ha : ArE X B E a g) (hb : ArE X B E b h) : PuE X B E (.BinOp a .Pow b pos) (g2 pyPow g h) := pu_op op_pow (prim_I fun i j d e => by
 by_cases hj : 0 ≤ j ∧ j ≤ 1000000 ∧ i.natAbs < 2 ^ 64
 ·rw [if_pos hj] at e; cases e; exact ⟨hj, fun _ => rfl⟩
 ·rw [if_neg hj] at e; cases e) ha hb
noncomputable def pyCmp (f : Int → Int → Bool) : D → D → Option D := pyI fun i j => some (.bl (f i j))
noncomputable def pyLe : D → D → Option D := pyCmp fun i j => decide (i ≤ j)
noncomputable def pyGt : D → D → Option D := pyCmp fun i j => decide (j < i)
noncomputable def pyGe : D → D → Option D := pyCmp fun i j => decide (j ≤ i)
noncomputable def pyLtI : D → D → Option D := pyCmp fun i j => decide (i < j)
theorem prim_cmp {K : KA} {f : Int → Int → Bool} : Prim2 K (pyCmp f) (rI0 fun i j => .bl (f i j)) := prim_I0 fun i j d e G => by cases e; rfl
theorem cmp_bl {f : Int → Int → Bool} : ∀ x y d, pyCmp f x y = some d → ∃ b, d = .bl b := fun x y d h => by
 cases x <;> cases y <;> first | (cases h; exact ⟨_, rfl⟩) | cases h
noncomputable def gChain (f f' : D → D → Option D) (g h k : En → Res) : En → Res := fun δ => (g δ).bind fun x => (h δ).bind fun y => (Res.of (f x y)).bind fun z => match z with
 | .bl true => (k δ).bind fun w => Res.of (f' y w)
 | .bl false => .ok (.bl false)
 | _ => .st
theorem chainP {K : KA} {k : En → Res} {f f' : D → D → Option D} {r r' : R2} (hp : Prim2 K f r) (hp' : Prim2 K f' r') {σ : St} {H : Hp} {Q : VK} (q : tPu K B E (gChain f f' g h k) σ H Q) : tChain r r' (tAr K B E g) (tAr K B E h) (tAr K B E k) σ H Q := by
 obtain ⟨G, δ, R, q⟩ := q
 refine ⟨G, δ, R, (ResP.bind q).mono fun dx _ qx x G1 H1 e1 ax => ⟨G1, δ, R.ext e1, ((ResP.bind qx).ext e1).mono fun dy _ qy y G2 H2 e2 ay => ?_⟩⟩
 have e12 := e1.trans e2
 obtain ⟨d, ed, qd⟩ := ResP.of (ResP.bind qy)
 refine hp G2 H2 x y dx dy d e2.gh (ax.ext e2) ay ed _ fun v G3 H3 e3 dn => ?_
 cases d with
 | bl t =>
  refine ⟨t, dn, ?_⟩
  cases t with
  | true =>
   show tAr K B E k σ H3 _
   refine ⟨G3, δ, R.ext (e12.trans e3), ((ResP.bind qd).ext (e12.trans e3)).mono fun dw _ qw w G4 H4 e4 aw => ?_⟩
   obtain ⟨d', ed', qd'⟩ := ResP.of qw
   exact hp' G4 H4 y w dy dw d' e4.gh ((ay.ext e3).ext e4) aw ed' Q fun v G5 H5 e5 dn => qd' v G5 H5 (((e12.trans e3).trans e4).trans e5) dn
  | false => exact qd _ G3 H3 (e12.trans e3) rfl
 | non => exact qd.elim
 | int _ => exact qd.elim
 | str _ => exact qd.elim
 | tup _ => exact qd.elim
 | lst _ => exact qd.elim
 | dct _ _ => exact qd.elim
 | obj _ _ => exact qd.elim
 | fn _ => exact qd.elim
theorem pu_chain {c : Expr} {k : En → Res} {op op' : CmpOp} {f f' : D → D → Option D} {r r' : R2} (ho : OpR X (compareOp op) r) (hp : Prim2 (kx X) f r) (ho' : OpR X (compareOp op') r') (hp' : Prim2 (kx X) f' r') (ha : ArE X B E a g) (hb : ArE X B E b h) (hc : ArE X B E c k)
  (hm : lastMarks [op, op'] [b, c] = false := by with_unfolding_all rfl) : PuE X B E (.Compare a [op, op'] [b, c] pos) (gChain f f' g h k) := PE.imp (pe_chain ho ho' ha hb hc hm) fun σ H Q q => chainP hp hp' q
theorem pt_chain' {c : Expr} {k : En → Res} {op op' : CmpOp} {f f' : D → D → Option D} {r r' : R2} (ho : OpR X (compareOp op) r) (hp : Prim2 (kx X) f r) (ho' : OpR X (compareOp op') r') (hp' : Prim2 (kx X) f' r') (hb1 : ∀ x y d, f' x y = some d → ∃ b, d = .bl b) (ha : ArE X B E a g) (hb : ArE X B E b h) (hc : ArE X B E c k)
  (hm : lastMarks [op, op'] [b, c] = false := by with_unfolding_all rfl) : PuT X B E (.Compare a [op, op'] [b, c] pos) (gChain f f' g h k) :=
 PT.imp (pt_chain ho ho' ha hb hc hm) fun σ H Q ⟨G, δ, R, q⟩ => chainP hp hp' ⟨G, δ, R, q.mono fun d ed ⟨b, eb, qb⟩ v G' H' e3 dn => by
  subst eb
  exact ⟨b, dn, qb G' H' e3⟩⟩
noncomputable def pyAdd : D → D → Option D
 | .int i, .int j => some (.int (i + j))
 | .str x, .str y => if x.length + y.length ≤ sizeLine then some (.str (x ++ y)) else none
 | .lst xs, .lst ys => if xs.length + ys.length ≤ sizeLine then some (.lst (xs ++ ys)) else none
 | .tup xs, .tup ys => if xs.length + ys.length ≤ sizeLine then some (.tup (xs ++ ys)) else none
 | _, _ => none
noncomputable def rAddD (K : KA) : R2 := fun x y H Q => ∃ G dx dy d, Same G H ∧ Arg K G H dx x ∧ Arg K G H dy y ∧ pyAdd dx dy = some d ∧ ∀ v G' H', Ext G H G' H' → Den K G' d v → Q v H'
theorem add_seqL {prog : Program} {w : World} {A : Around} {E : Value → Shared → Prop} {s : Shared} {l b : Addr} {its its2 : List Value} {Q : Value → Shared → Prop} (hl : PlainL s.heap l its.toArray) (hb : PlainL s.heap b its2.toArray) (hz : its.length + its2.length ≤ sizeLine)
  (h : Q (.ref s.heap.objs.size) { s with heap := s.heap.push { cls := .type "list", data := .seq (its ++ its2).toArray } }) : wpAny (model prog w) A (binaryOp .Add (.ref l) (.ref b)) Q E s := by
 obtain ⟨⟨cls, dd, data, sl⟩, n, ho, c, d, q⟩ := hl
 obtain ⟨⟨cls2, dd2, data2, sl2⟩, n2, ho2, c2, d2, q2⟩ := hb
 simp only at c d q c2 d2 q2
 subst c d q c2 d2 q2
 have ea : its.toArray ++ its2.toArray = (its ++ its2).toArray := by simp
 refine concat_meets ⟨_, ho, rfl⟩ ⟨_, ho2, rfl⟩ noFill_list_add seq_list_add PySem.F.slot_list_add PySem.F.entry_list_add (PySem.F.args_list_add_2 _ _) (list_addW l b its.toArray its2.toArray n n2 _ _ sl sl2 (by simpa using hz)) ⟨ho, ho2, ?_⟩
 rw [ea]
 exact h
theorem cat_tup0 {prog : Program} {w : World} {A : Around} {E : Value → Shared → Prop} {s : Shared} {t b : Addr} {vs ws : List Value} {Q : Value → Shared → Prop} (ht : IsTup s.heap t vs.toArray) (hb : IsTup s.heap b ws.toArray) (hv : vs = []) (h1 : Q (.ref b) s) :
  wpAny (model prog w) A (binaryOp .Add (.ref t) (.ref b)) Q E s := by
 obtain ⟨⟨cls, dd, data, sl⟩, ho, hc, n, hd⟩ := id ht
 obtain ⟨⟨cls2, dd2, data2, sl2⟩, ho2, hc2, n2, hd2⟩ := id hb
 simp only at hc hd hc2 hd2
 subst hc hd hc2 hd2
 exact concat_meets ⟨_, ho, rfl⟩ ⟨_, ho2, rfl⟩ noFill_tuple_add seq_tuple_add PySem.F.slot_tuple_add PySem.F.entry_tuple_add (PySem.F.args_tuple_add_2 _ _)
  (tuple_addW0 t b vs.toArray ws.toArray n n2 dd dd2 sl sl2 (by simp [hv])) ⟨ho, ho2, h1⟩
theorem op_addD : OpR X (binaryOp .Add) (rAddD (kx X)) := by
 intro pins s σ H x y v u Q I rx ry q
 obtain ⟨G, dx, dy, d, sg, ax, ay, ed, q⟩ := q
 unfold pyAdd at ed
 split at ed
 ·cases ed
  rw [ax.int] at rx
  rw [ay.int] at ry
  exact op_add pins s σ H _ _ _ _ Q I rx ry ⟨_, _, rfl, rfl, q _ G H (Ext.refl sg) rfl⟩
 ·split at ed
  ·rename_i hz
   cases ed
   rw [ax.str] at rx
   rw [ay.str] at ry
   exact op_add_str pins s σ H _ _ _ _ Q I rx ry ⟨_, _, rfl, rfl, hz, q _ G H (Ext.refl sg) rfl⟩
  ·cases ed
 ·split at ed
  ·rename_i xs ys hz
   cases ed
   obtain ⟨l, vs, rfl, sq, dl⟩ := ax.lst sg
   obtain ⟨b, ws, rfl, sq2, dl2⟩ := ay.lst sg
   cases rx
   cases ry
   obtain ⟨its, rv, pl, _⟩ := I.list sq
   obtain ⟨its2, rv2, pl2, _⟩ := I.list sq2
   have l1 := dl.length; have l2 := dl2.length; have l3 := rv.length; have l4 := rv2.length
   refine add_seqL pl pl2 (by omega) ⟨.ref _, _, I.lnew (t' := s.toks) (rv.append rv2) (by rw [List.length_append]; omega), rfl, ?_⟩
   exact q _ (upd G s.heap.objs.size (.lst (vs ++ ws))) _ (Ext.new sg _ I.fresh) (den_newL sg I.fresh (dl.append dl2))
  ·cases ed
 ·split at ed
  ·rename_i xs ys hz
   cases ed
   obtain ⟨l, vs, rfl, sq, dl⟩ := ax.tup sg
   obtain ⟨b, ws, rfl, sq2, dl2⟩ := ay.tup sg
   have l1 := dl.length; have l2 := dl2.length
   by_cases hx : vs = []
   ·cases rx
    cases ry
    obtain ⟨its, rv, p1, _⟩ := I.tuple sq
    obtain ⟨its2, rv2, p2, _⟩ := I.tuple sq2
    refine cat_tup0 p1 p2 (rv.nil_iff.mpr hx) ⟨.ref b, H, I, rfl, ?_⟩
    subst hx
    have : xs = [] := by cases xs with
     | nil => rfl
     | cons _ _ => simp at l1
    subst this
    rcases ay with ad | ⟨_, _, _, z, _⟩ | ⟨_, _, _, z, _⟩
    ·exact q _ G H (Ext.refl sg) ad
    ·cases z
    ·cases z
   ·refine op_catT pins s σ H _ _ _ _ Q I rx ry ⟨l, b, vs, ws, rfl, rfl, sq, sq2, hx, by omega, fun z => ?_, fun z p hp => ?_⟩
    ·subst z
     have : ys = [] := by cases ys with
      | nil => rfl
      | cons _ _ => simp at l2
     subst this
     rw [List.append_nil] at q
     rcases ax with ad | ⟨_, _, _, z, _⟩ | ⟨_, _, _, z, _⟩
     ·exact q _ G H (Ext.refl sg) ad
     ·cases z
     ·cases z
    ·exact q _ (upd G p (.tup (vs ++ ws))) _ (Ext.new sg _ hp) (den_newT sg hp (dl.append dl2))
  ·cases ed
 ·cases ed
theorem prim_add {K : KA} : Prim2 K pyAdd (rAddD K) := fun G H x y dx dy d sg ax ay ed Q q => ⟨G, dx, dy, d, sg, ax, ay, ed, q⟩
theorem pu_add (ha : ArE X B E a g) (hb : ArE X B E b h) : PuE X B E (.BinOp a .Add b pos) (g2 pyAdd g h) := pu_op op_addD prim_add ha hb
noncomputable def pyIx : D → D → Option D
 | .lst xs, .int i => atI xs i
 | .tup xs, .int i => atI xs i
 | .str z, .int i => if z.length ≤ sizeLine then (match atI z.cps.toList i with
  | some c => some (.str ⟨#[c]⟩)
  | none => none) else none
 | _, _ => none
theorem DenL.atI {K : KA} {G : Hp} {ds : List D} {vs : List V} {i : Int} {d : D} (dl : DenL K G ds vs) (h : atI ds i = some d) : ∃ v, atI vs i = some v ∧ Den K G d v := by
 unfold L2.atI at h ⊢
 rw [dl.length] at h
 cases e : ixN vs.length i with
 | none => rw [e] at h; cases h
 | some j =>
  rw [e] at h
  exact dl.get h
theorem prim_ix {K : KA} : Prim2 K pyIx (rIx K) := fun G H x y dx dy d sg ax ay ed Q q => by
 unfold pyIx at ed
 split at ed
 ·obtain ⟨l, vs, rfl, sq, dl⟩ := ax.lst sg
  obtain ⟨v, ev, dv⟩ := dl.atI ed
  exact .inl ⟨l, vs, _, v, rfl, ay.int, sq, ev, q _ G H (Ext.refl sg) dv⟩
 ·obtain ⟨l, vs, rfl, sq, dl⟩ := ax.tup sg
  obtain ⟨v, ev, dv⟩ := dl.atI ed
  exact .inr (.inl ⟨l, vs, _, v, rfl, ay.int, sq, ev, q _ G H (Ext.refl sg) dv⟩)
 ·split at ed
  ·rename_i hz
   split at ed
   ·rename_i c ec
    cases ed
    exact .inr (.inr ⟨_, _, c, ax.str, ay.int, hz, ec, q _ G H (Ext.refl sg) rfl⟩)
   ·cases ed
  ·cases ed
 ·cases ed
theorem pu_ix (ha : ArE X B E a g) (hb : ArE X B E b h) (hs : PlainIx b := by intro _ _; rfl) : PuE X B E (.Subscript a b pos) (g2 pyIx g h) := PE.imp (pe_ix ix_seq ha hb hs) fun σ H Q q => op2 prim_ix q
theorem cb1 {K : KA} {f : D → Option D} {rr : List V → Hp → VK → Prop} (hp : ∀ G H x dx d, Same G H → Arg K G H dx x → f dx = some d → ∀ Q : VK, (∀ v G' H', Ext G H G' H' → Den K G' d v → Q v H') → rr [x] H Q) {σ : St} {H : Hp} {Q : VK} (q : tPu K B E (g1 f g) σ H Q) :
  tCB rr (tAl K B E [true] (gCons g gNil)) σ H Q := by
 obtain ⟨G, δ, R, q⟩ := q
 refine ⟨G, δ, R, ?_⟩
 unfold gCons
 unfold g1 at q
 cases e : g δ with
 | ok dx =>
  rw [e] at q
  obtain ⟨d, ed, qd⟩ := ResP.of (show ResP E G H (Res.of (f dx)) _ from q)
  intro vs G1 H1 e1 al
  obtain ⟨v, rfl, av⟩ := ArgsM.one al
  exact hp G1 H1 v dx d e1.gh av ed Q fun v G' H' e2 dn => qd v G' H' (e1.trans e2) dn
 | er c => rw [e] at q; exact q
 | st => rw [e] at q; exact q
noncomputable def pyLen : D → Option D
 | .str x => if x.length ≤ sizeLine then some (.int x.length) else none
 | .tup ds => some (.int ds.length)
 | .lst ds => some (.int ds.length)
 | _ => none
theorem pu_len {p : Pos} (hg : Gl X "len") (hm : X.mg "len" = none) (ha : ArE X B E e g) (he : starEach [e] X.env = (false, eval e X.env) :: starEach [] X.env := by rfl) (hpl : (backTo pos (starEach [] X.env)).any (·.1) = false := by rfl) : PuE X B E (.Call (.Name "len" p) [e] [] pos) (g1 pyLen g) :=
 PE.imp (pe_callB call_len hg hm PySem.boot_len (al_cons ha al_nil he) (by decide) (by decide) he hpl) fun σ H Q q => cb1 (fun G H x dx d sg ax ed Q q => by
  unfold pyLen at ed
  split at ed
  ·split at ed
   ·rename_i hz
    cases ed
    rw [ax.str]
    exact ⟨_, _, rfl, ⟨hz, rfl⟩, q _ G H (Ext.refl sg) rfl⟩
   ·cases ed
  ·cases ed
   obtain ⟨l, vs, rfl, sq, dl⟩ := ax.tup sg
   exact ⟨_, _, rfl, .inr ⟨vs, sq, dl.length⟩, q _ G H (Ext.refl sg) rfl⟩
  ·cases ed
   obtain ⟨l, vs, rfl, sq, dl⟩ := ax.lst sg
   exact ⟨_, _, rfl, .inl ⟨vs, sq, dl.length⟩, q _ G H (Ext.refl sg) rfl⟩
  ·cases ed) q
noncomputable def tyD : D → Option String
 | .non => some "NoneType"
 | .bl _ => some "bool"
 | .int _ => some "int"
 | .str _ => some "str"
 | .tup _ => some "tuple"
 | .lst _ => some "list"
 | .dct _ _ => some "dict"
 | _ => none
noncomputable def isT (t c : String) : Bool := t == c || (t == "bool" && c == "int")
noncomputable def pyIsI (c : String) (d : D) : Option D := match tyD d with
 | some t => some (.bl (isT t c))
 | none => none
end
theorem ne_succ {a b : Nat} (h : a < b) : a ≠ b + 1 := by omega
theorem ne_succ' {b : Nat} : b + 1 ≠ b := by omega
instance : Inhabited D := ⟨.non⟩
theorem compLoop_all {prog : Program} {w : World} {A : Around} {R : Result → Shared → Prop} {s : Shared} {elt target iter : Expr} {ifs : List Expr} {scope : Scope} {pos : Pos} {it acc : Value} {env : Env} (I : Nat → Shared → Prop)
  (turn : ∀ n s, I n s → wpAny (model prog w) A (pyNext it) (fun r s₁ => match r with
   | none => R (.ok .next) s₁
   | some v => wpAny (model prog w) A (letOwnedTupleGo target it v) (fun _ s₁ => wpAny (model prog w) A (assign target env v) (fun _ s₂ =>
     wpAny (model prog w) A (forIn ifs true fun c r => if r = true then do let ok ← isTrue c env (eval c env); pure (ForInStep.yield ok) else pure (ForInStep.yield r)) (fun ok s₃ =>
      if ok = true then wpAny (model prog w) A (eval elt env) (fun x s₄ =>
       wpAny (model prog w) A (call (.builtin "list.append") [acc, x]) (fun _ s₅ => ∃ m, m < n ∧ I m s₅) (notedBy (model prog w) A env fun e s' => R (.error e) s') s₄) (notedBy (model prog w) A env fun e s' => R (.error e) s') s₃
      else ∃ m, m < n ∧ I m s₃) (notedBy (model prog w) A env fun e s' => R (.error e) s') s₂) (notedBy (model prog w) A env fun e s' => R (.error e) s') s₁) (notedBy (model prog w) A env fun e s' => R (.error e) s') s₁) (notedBy (model prog w) A env fun e s' => R (.error e) s') s)
  (n : Nat) (h : I n s) :
  codeAny (model prog w) A (.compLoop (.ListComp elt [⟨target, iter, ifs, 0⟩] scope pos) 0 it acc env) R s := by
 refine codeAny_loop rfl I (fun n s hI => ?_) n h
 show wpAny _ A ((compTurn (.ListComp elt [⟨target, iter, ifs, 0⟩] scope pos) 0 it acc env).onRaise (fun x => do noteFrame x env; theTreesLotGoes x)) _ _ s
 refine wpAny_noted ?_
 rw [compTurn_list]
 refine wpAny_bind (wpAny_standAt (wpAny_bind (wpAny_mono (turn n s hI) (fun r s₁ h₁ => ?_) fun _ _ h' => h')))
 cases r with
 | none => exact wpAny_pure h₁
 | some v =>
  refine wpAny_bind (wpAny_mono h₁ (fun _ s₁' h₁ => ?_) fun _ _ h' => h')
  refine wpAny_bind (wpAny_mono h₁ (fun _ s₂ h₂ => wpAny_bind (wpAny_mono h₂ (fun ok s₃ h₃ => ?_) fun _ _ h' => h')) fun _ _ h' => h')
  cases ok with
  | false => exact wpAny_pure ⟨rfl, h₃⟩
  | true =>
   exact wpAny_bind (wpAny_bind (wpAny_mono h₃ (fun x s₄ h₄ => wpAny_bind (wpAny_mono h₄ (fun _ s₅ h₅ => wpAny_pure (wpAny_pure ⟨rfl, h₅⟩)) fun _ _ h' => h')) fun _ _ h' => h'))
noncomputable def closGo (env : Env) : List (Str × NameKind) → List (Str × Addr) → Option (List (Str × Addr))
 | [], cs => some cs
 | (n, k) :: r, cs => if k = .free then (match env.cells.lookup n with
  | some c => closGo env r ((n, c) :: cs)
  | none => none) else closGo env r cs
theorem closGo_eq (env : Env) : ∀ (names : List (Str × NameKind)) (cs cl : List (Str × Addr)), closGo env names cs = some cl →
  (forIn names cs fun x (c : List (Str × Addr)) => (if (x.2 == NameKind.free) = true then do let a ← cellOf env x.1; pure (ForInStep.yield ((x.1, a) :: c)) else pure (ForInStep.yield c) : Sem _)) = pure cl
 | [], cs, cl, h => by cases h; rfl
 | (n, k) :: r, cs, cl, h => by
  unfold closGo at h
  rw [List.forIn_cons]
  by_cases hk : k = .free
  ·subst hk
   simp only [if_true] at h
   cases hc : env.cells.lookup n with
   | none => rw [hc] at h; cases h
   | some c =>
    rw [hc] at h
    have : cellOf env n = pure c := by unfold cellOf; rw [hc]
    simp only [beq_self_eq_true, if_true, this, pure_bind]
    exact closGo_eq env r _ cl h
  ·rw [if_neg hk] at h
   have hb : (k == NameKind.free) = false := by simpa using hk
   simp only [hb, Bool.false_eq_true, if_false, pure_bind]
   exact closGo_eq env r _ cl h
theorem closureFor_eq {scope : Scope} {env : Env} {cl : List (Str × Addr)} (h : closGo env scope.names [] = some cl) : closureFor scope env = pure cl := by
 have q := closGo_eq env scope.names [] cl h
 unfold closureFor
 exact (congrArg (fun t => t >>= fun cs => pure cs) q).trans (pure_bind _ _)
theorem closGo_mem (env : Env) : ∀ (names : List (Str × NameKind)) (cs cl : List (Str × Addr)), closGo env names cs = some cl → (∀ p ∈ cs, env.cells.lookup p.1 = some p.2) → ∀ p ∈ cl, env.cells.lookup p.1 = some p.2
 | [], cs, cl, h, q => by cases h; exact q
 | (n, k) :: r, cs, cl, h, q => by
  unfold closGo at h
  by_cases hk : k = .free
  ·subst hk
   simp only [if_true] at h
   cases hc : env.cells.lookup n with
   | none => rw [hc] at h; cases h
   | some c =>
    rw [hc] at h
    refine closGo_mem env r _ cl h fun p hp => ?_
    rcases List.mem_cons.mp hp with rfl | hp
    ·exact hc
    ·exact q p hp
  ·rw [if_neg hk] at h
   exact closGo_mem env r _ cl h q
theorem lookup_mem {β : Type} : ∀ {l : List (Str × β)} {x : Str} {c : β}, l.lookup x = some c → (x, c) ∈ l
 | [], _, _, h => by simp at h
 | (n, b) :: r, x, c, h => by
  rw [List.lookup_cons] at h
  by_cases e : x = n
  ·subst e
   simp only [beq_self_eq_true] at h
   cases h
   exact List.mem_cons_self
  ·have hb : (x == n) = false := by simpa using e
   rw [hb] at h
   exact List.mem_cons_of_mem _ (lookup_mem h)
noncomputable def compCx (X : Cx) (scope : Scope) (cl : List (Str × Addr)) (N : List Str) (x : Str) (C : Addr) (s₀ : Shared) (H₀ : Hp) (ex : List Addr) (pn : List (Addr × Obj)) : Cx where
 prog := X.prog
 w := X.w
 K := (kx X)
 mg := X.mg
 base := X.base
 A := X.A
 N := N
 s₀ := s₀
 H₀ := H₀
 env := compEnvC scope cl C X.env
 outer := X.stack
 stack := X.stack
 ex := ex
 fn := fun y => decide (y = x)
 calm := X.calm
 pn := pn
 xe := fun _ _ => False
structure CapOk (X : Cx) (scope : Scope) (cl : List (Str × Addr)) (y : Str) (i : Nat) : Prop where
 at_ : X.N[i]? = some y
 vis : Vis X.env.scope y
 nloc : X.env.kindOf y ≠ some .local
 cell : ∃ c, cl.lookup y = some c
 kind : (relabel scope X.env).names.lookup y = some .cell ∨ (relabel scope X.env).names.lookup y = some .free
noncomputable def Caps (X : Cx) (scope : Scope) (cl : List (Str × Addr)) : List Str → List Nat → Prop
 | [], ix => ix = []
 | y :: M, ix => ∃ i r, ix = i :: r ∧ CapOk X scope cl y i ∧ Caps X scope cl M r
theorem Caps.get {X : Cx} {scope : Scope} {cl : List (Str × Addr)} : ∀ {M : List Str} {ix : List Nat}, Caps X scope cl M ix → ∀ (j : Nat) y, M[j]? = some y → ∃ i, ix[j]? = some i ∧ CapOk X scope cl y i
 | [], _, _, j, y, h => by simp at h
 | _ :: _, _, ⟨i, r, h1, h2, h3⟩, 0, y, h => by
  simp at h; subst h; subst h1; exact ⟨i, rfl, h2⟩
 | _ :: _, _, ⟨i, r, h1, h2, h3⟩, j + 1, y, h => by
  subst h1
  obtain ⟨k, q1, q2⟩ := Caps.get h3 j y (by simpa using h)
  exact ⟨k, by simpa using q1, q2⟩
theorem Caps.length {X : Cx} {scope : Scope} {cl : List (Str × Addr)} : ∀ {M : List Str} {ix : List Nat}, Caps X scope cl M ix → M.length = ix.length
 | [], _, h => by rw [show _ = [] from h]; rfl
 | _ :: _, _, ⟨i, r, h1, h2, h3⟩ => by rw [h1, List.length_cons, List.length_cons, Caps.length h3]
structure CompOk (X : Cx) (scope : Scope) (cl : List (Str × Addr)) (x : Str) (M : List Str) (ix : List Nat) : Prop where
 clos : closGo X.env scope.names [] = some cl
 kind : scope.kind = .function
 ncell : ∀ y ∈ scope.names, y.2 ≠ .cell
 names : ∀ y ∈ scope.names, y.2 = .local → scope.names.lookup y.1 = some .local
 loc : scope.names.lookup x = some .local
 xcl : cl.lookup x = none
 nd : (x :: M).Nodup
 ixd : ix.Nodup
 cap : Caps X scope cl M ix
section
variable {X : Cx} {scope : Scope} {cl : List (Str × Addr)} {x : Str} {M : List Str} {ix : List Nat} {pins : List (Addr × Obj)} {σ : St} {H : Hp} {s : Shared} {fp : List Addr}
theorem closGo_free (env : Env) : ∀ (names : List (Str × NameKind)) (cs cl : List (Str × Addr)), closGo env names cs = some cl → ∀ y, ((∃ c, cs.lookup y = some c) ∨ (y, NameKind.free) ∈ names) → ∃ c, cl.lookup y = some c
 | [], cs, cl, h, y, q => by
  cases h
  rcases q with q | q
  ·exact q
  ·simp at q
 | (n, k) :: r, cs, cl, h, y, q => by
  unfold closGo at h
  by_cases hk : k = .free
  ·subst hk
   simp only [if_true] at h
   cases hc : env.cells.lookup n with
   | none => rw [hc] at h; cases h
   | some c =>
    rw [hc] at h
    refine closGo_free env r _ cl h y ?_
    by_cases e : y = n
    ·subst e
     exact .inl ⟨c, by simp⟩
    ·rcases q with ⟨c', q⟩ | q
     ·refine .inl ⟨c', ?_⟩
      have hb : (y == n) = false := by simpa using e
      rw [List.lookup_cons, hb]
      exact q
     ·rcases List.mem_cons.mp q with z | z
      ·cases z; exact absurd rfl e
      ·exact .inr z
  ·rw [if_neg hk] at h
   refine closGo_free env r _ cl h y ?_
   rcases q with q | q
   ·exact .inl q
   ·rcases List.mem_cons.mp q with z | z
    ·cases z; exact absurd rfl hk
    ·exact .inr z
theorem CompOk.free (O : CompOk X scope cl x M ix) : ∀ y, (y, NameKind.free) ∈ scope.names → ∃ c, cl.lookup y = some c := fun y h => closGo_free X.env _ _ cl O.clos y (.inr h)
theorem CompOk.cells (O : CompOk X scope cl x M ix) {y : Str} {c : Addr} (h : cl.lookup y = some c) : X.env.cells.lookup y = some c :=
 closGo_mem X.env _ _ cl O.clos (fun p hp => by simp at hp) (y, c) (lookup_mem h)
theorem kind_relabel {env : Env} {scope : Scope} {y : Str} (h : (relabel scope env).names.lookup y = some .cell ∨ (relabel scope env).names.lookup y = some .free) (hn : ∀ z ∈ scope.names, z.2 ≠ .cell) : (y, NameKind.free) ∈ scope.names := by
 have key : ∃ k, (y, k) ∈ (relabel scope env).names ∧ (k = .cell ∨ k = .free) := by
  rcases h with h | h
  ·exact ⟨_, lookup_mem h, .inl rfl⟩
  ·exact ⟨_, lookup_mem h, .inr rfl⟩
 obtain ⟨k, hm, hk⟩ := key
 obtain ⟨⟨n, k'⟩, hm', e⟩ := List.mem_map.mp hm
 by_cases hc : (k' == NameKind.free && env.scope.kind == .function && env.kindOf n == some .cell) = true
 ·simp only [hc, if_true] at e
  cases e
  have : k' = .free := by
   simp only [Bool.and_eq_true] at hc
   simpa using hc.1.1
  subst this
  exact hm'
 ·simp only [hc, if_false] at e
  cases e
  rcases hk with hk | hk
  ·exact absurd hk (hn _ hm')
  ·subst hk; exact hm'
theorem comp_ok (O : CompOk X scope cl x M ix) (I : Inv X pins σ H s) (hf : ∀ b ∈ fp, FpOk X pins H b) (hfs : ∀ b ∈ fp, b < s.heap.objs.size) {h1 : Heap} (hk : ∀ b o, s.heap.get? b = some o → h1.get? b = some o) (hz : h1.objs.size = s.heap.objs.size + 1) {tk : Nat} :
  (compCx X scope cl (x :: M) x (s.heap.objs.size + 1) { s with heap := h1, toks := tk } (upd H s.heap.objs.size (.lst [])) fp (X.pn ++ pins)).Ok := by
 have fresh : H s.heap.objs.size = none := I.hok.fresh (Nat.le_refl _)
 have old : ∀ {b : Addr} {o : Obj}, s.heap.get? b = some o → b ≠ s.heap.objs.size := fun e z => by
  have := Heap.lt_size e
  rw [z] at this
  exact Nat.lt_irrefl _ this
 have cne : ∀ y c, cl.lookup y = some c → c < s.heap.objs.size := fun y c e => by
  obtain ⟨v, q⟩ := I.cell y c (O.cells e)
  exact q.lt
 have kO := I.ok
 refine ⟨kO.mod, O.kind, kO.glob, kO.blt, ?_, ?_, ?_, ?_, kO.hd, kO.frames, .inl rfl, ?_, ?_, ?_, ?_, ?_, ?_, ?_⟩
 ·show h1.objs.size ≤ s.heap.objs.size + 1
  omega
 ·intro a b c h1 h2
  exact kO.inj a b c (O.cells h1) (O.cells h2)
 ·intro y hy
  have := kind_relabel (env := X.env) (scope := scope) (y := y) hy O.ncell
  exact O.free _ this
 ·intro y c hy hc
  have : y = x := of_decide_eq_true hy
  subst this
  rw [show (compCx X scope cl (y :: M) y (s.heap.objs.size + 1) { s with heap := h1, toks := tk } (upd H s.heap.objs.size (.lst [])) fp (X.pn ++ pins)).env.cells = cl from rfl, O.xcl] at hc
  cases hc
 ·intro b hb
  have := hfs b hb
  refine ⟨?_, fun y c e => ?_⟩
  ·exact ne_succ this
  ·exact (hf b hb).2.2.2.2.1 y c (O.cells e)
 ·intro b o e
  obtain ⟨q1, q2⟩ := I.bs b o e
  refine ⟨hk b o q1, ?_⟩
  show upd H s.heap.objs.size (.lst []) b = none
  rw [upd_ne (old q1)]
  exact q2
 ·show X.base.objs.size ≤ h1.objs.size
  have := kO.bsz
  have := I.sz
  omega
 ·intro b o e hb
  rcases (hf b hb).2.2.2.1 with q | q
  ·exact kO.noex b o e q
  ·exact absurd (Nat.lt_of_lt_of_le (Heap.lt_size e) (Nat.le_trans kO.bsz q)) (Nat.lt_irrefl _)
 ·intro b hb hfb
  rcases List.mem_cons.mp (I.stkSub b hfb) with e | e
  ·exact (hf b hb).2.1 e
  ·exact (hf b hb).2.2.1 e
 ·exact I.stack.of_keeps fun b o e _ => ⟨o, hk b o e, rfl⟩
 ·intro b hb
  show upd H s.heap.objs.size (.lst []) b = none
  have q := I.stkFree b hb
  obtain ⟨_, o, ho, _⟩ := I.stack.mem hb
  rw [upd_ne (old ho)]
  exact q
noncomputable def compSt (σ : St) (ix : List Nat) (o : Option V) : St := o :: ix.map fun i => (σ[i]?).join
theorem compSt_len {σ : St} {o : Option V} (O : CompOk X scope cl x M ix) : (compSt σ ix o).length = (x :: M).length := by
 unfold compSt
 rw [List.length_cons, List.length_cons, List.length_map, O.cap.length]
theorem comp_inv (O : CompOk X scope cl x M ix) (I : Inv X pins σ H s) (hf : ∀ b ∈ fp, FpOk X pins H b) (hfs : ∀ b ∈ fp, b < s.heap.objs.size) {h1 h2 : Heap} (hk : ∀ b o, s.heap.get? b = some o → h1.get? b = some o) (hz : h1.objs.size = s.heap.objs.size + 1) {tk tk2 : Nat}
  (ha : h1.get? s.heap.objs.size = some { cls := .type "list", data := .seq #[] 0 }) (hk2 : ∀ b o, h1.get? b = some o → h2.get? b = some o) {m : Str → Option Value} (hn : h2.Ns (s.heap.objs.size + 1) m) :
  Inv (compCx X scope cl (x :: M) x (s.heap.objs.size + 1) { s with heap := h1, toks := tk } (upd H s.heap.objs.size (.lst [])) fp (X.pn ++ pins)) [] (compSt σ ix none) (upd H s.heap.objs.size (.lst [])) { s with heap := h2, toks := tk2 } := by
 have fresh : H s.heap.objs.size = none := I.hok.fresh (Nat.le_refl _)
 have old : ∀ {b : Addr} {o : Obj}, s.heap.get? b = some o → b ≠ s.heap.objs.size := fun e z => by
  have := Heap.lt_size e
  rw [z] at this
  exact Nat.lt_irrefl _ this
 have hn1 : h1.get? (s.heap.objs.size + 1) = none := Heap.get?_none_of_le (by omega)
 have frC : H (s.heap.objs.size + 1) = none := I.hok.fresh (Nat.le_succ _)
 refine ⟨comp_ok O I hf hfs hk hz, rfl, I.bare, Un.kept hk2, ⟨m, hn, ?_⟩, ?_, ?_, ?_, ?_, ?_, compSt_len O⟩
 ·intro i y v hi hv _
  cases i with
  | zero => simp [compSt] at hv
  | succ j =>
   have hy : M[j]? = some y := by simpa [compCx] using hi
   obtain ⟨k, hk', C⟩ := O.cap.get j y hy
   have hv' : ((ix.map fun i => (σ[i]?).join)[j]?) = some (some v) := by simpa [compSt] using hv
   rw [List.getElem?_map, hk'] at hv'
   have hs : (σ[k]?).join = some v := by simpa using hv'
   have hs' : σ[k]? = some (some v) := by
    cases e : σ[k]? with
    | none => rw [e] at hs; simp at hs
    | some o => rw [e] at hs; simp at hs; rw [hs]
   obtain ⟨mX, _, hl⟩ := I.loc
   obtain ⟨u, r, lk⟩ := hl k y v C.at_ hs' C.vis
   refine ⟨u, r, .inr ⟨C.kind, ?_⟩⟩
   rcases lk with ⟨q, _⟩ | ⟨_, c, hc, hcell⟩
   ·exact absurd q C.nloc
   ·obtain ⟨c', hc'⟩ := C.cell
    have := O.cells hc'
    rw [hc] at this
    cases this
    exact ⟨c, hc', hcell.keeps fun b o e => hk2 b o (hk b o e)⟩
 ·intro y c hc
  obtain ⟨v, q⟩ := I.cell y c (O.cells hc)
  exact ⟨v, q.keeps fun b o e => hk2 b o (hk b o e)⟩
 ·show upd H s.heap.objs.size (.lst []) (s.heap.objs.size + 1) = none
  rw [upd_ne ne_succ']
  exact frC
 ·intro y c hc
  obtain ⟨v, q⟩ := I.cell y c (O.cells hc)
  have hne : (compCx X scope cl (x :: M) x (s.heap.objs.size + 1) { s with heap := h1, toks := tk } (upd H s.heap.objs.size (.lst [])) fp (X.pn ++ pins)).fn y = false := decide_eq_false fun z => by
   subst z
   have hc' : cl.lookup y = some c := hc
   rw [O.xcl] at hc'; cases hc'
  rcases I.freeC y c (O.cells hc) with fr | ⟨_, o, fr⟩
  ·refine .inl ?_
   show upd H s.heap.objs.size (.lst []) c = none
   rw [upd_ne (Nat.ne_of_lt q.lt)]
   exact fr
  ·refine .inr ⟨hne, o, ?_⟩
   show upd H s.heap.objs.size (.lst []) c = _
   rw [upd_ne (Nat.ne_of_lt q.lt)]
   exact fr
 ·intro p hp
  have hp' : p ∈ X.pn ++ pins := by simpa [compCx] using hp
  obtain ⟨q1, q2, q3, q4, q5⟩ := I.pin p hp'
  refine ⟨hk2 _ _ (hk _ _ q1), ?_, ?_, ?_, q5⟩
  ·show upd H s.heap.objs.size (.lst []) p.1 = none
   rw [upd_ne (old q1)]
   exact q2
  ·exact ne_succ (Heap.lt_size q1)
  ·intro hfb
   rcases List.mem_cons.mp (I.stkSub p.1 hfb) with e | e
   ·exact q3 e
   ·exact q4 e
 ·refine I.hok.laid (fun b o e => hk2 b o (hk b o e)) (Nat.le_refl _) ⟨Nat.zero_le _, [], 0, .nil, hk2 _ _ ha⟩
end
noncomputable def compL (f : D → Option (Option D)) : List D → Option (List D)
 | [] => some []
 | d :: r => match f d with
  | none => none
  | some o => match compL f r with
   | none => none
   | some ys => some (o.toList ++ ys)
noncomputable def compEn (ix : List Nat) (δ : En) (s : Sl) : En := s :: ix.map fun i => (δ[i]?).getD .no
noncomputable def turnD (ix : List Nat) (t : En → Res) (g : En → Res) (δ : En) (d : D) : Option (Option D) := match t (compEn ix δ (.pu d)) with
 | .ok (.bl true) => (match g (compEn ix δ (.pu d)) with
  | .ok y => some (some y)
  | _ => none)
 | .ok (.bl false) => some none
 | _ => none
noncomputable def gComp (r : En → ResL) (ix : List Nat) (t : En → Res) (g : En → Res) : En → Res := fun δ => match r δ with
 | .ok ds => if ds.length ≤ sizeLine then (match compL (turnD ix t g δ) ds with
  | some ys => .ok (.lst ys)
  | none => .st) else .st
 | .er c => .er c
 | .st => .st
theorem isL_comp {r : En → ResL} {ix : List Nat} {t g : En → Res} : IsL (gComp r ix t g) := fun δ d h => by
 unfold gComp at h
 split at h
 ·split at h
  ·split at h
   ·cases h; exact ⟨_, rfl⟩
   ·cases h
  ·cases h
 ·cases h
 ·cases h
theorem compP {E : EK} {G H : Hp} {r : En → ResL} {ix : List Nat} {t g : En → Res} {δ : En} {P : D → Prop} (q : ResP E G H (gComp r ix t g δ) P) :
  ResLP E G H (r δ) fun ds => ds.length ≤ sizeLine ∧ ∃ ys, compL (turnD ix t g δ) ds = some ys ∧ P (.lst ys) := by
 unfold gComp at q
 cases e : r δ with
 | ok ds =>
  rw [e] at q
  dsimp only at q
  by_cases hl : ds.length ≤ sizeLine
  ·rw [if_pos hl] at q
   cases e2 : compL (turnD ix t g δ) ds with
   | none => rw [e2] at q; exact q.elim
   | some ys => rw [e2] at q; exact ⟨hl, ys, e2, q⟩
  ·rw [if_neg hl] at q; exact q.elim
 | er c => rw [e] at q; exact q
 | st => rw [e] at q; exact q
theorem compEn_env {K : KA} {B G H : Hp} {σ : St} {δ : En} {ix : List Nat} {s : Sl} {o : Option V} (R : EnvR K B G H σ δ) (nd : ix.Nodup) (ok : SlOk K B G H s o) (no : s.own = false) : EnvR K B G H (compSt σ ix o) (compEn ix δ s) := by
 have key : ∀ (j : Nat) t, (ix.map fun i => (δ[i]?).getD Sl.no)[j]? = some t → ∃ i, ix[j]? = some i ∧ ((t = .no) ∨ δ[i]? = some t) ∧ (ix.map fun i => (σ[i]?).join)[j]? = some ((σ[i]?).join) := fun j t h => by
  rw [List.getElem?_map] at h
  cases e : ix[j]? with
  | none => rw [e] at h; cases h
  | some i =>
   rw [e] at h
   refine ⟨i, rfl, ?_, by rw [List.getElem?_map, e]; rfl⟩
   cases e2 : δ[i]? with
   | none => rw [Option.map_some, e2] at h; cases h; exact .inl rfl
   | some u => rw [Option.map_some, e2] at h; cases h; exact .inr rfl
 have jo : ∀ (i : Nat) a, (σ[i]?).join = some (V.ref a) → σ[i]? = some (some (.ref a)) := fun i a h => by
  cases e : σ[i]? with
  | none => rw [e] at h; simp at h
  | some o => rw [e] at h; simp at h; rw [h]
 refine ⟨R.bh, R.gh, ?_, fun j t h => ?_, fun j t a h1 h2 h3 => ?_, fun j k t u a h1 h2 h3 h4 h5 h6 => ?_, R.gb⟩
 ·unfold compSt compEn; rw [List.length_cons, List.length_cons, List.length_map, List.length_map]
 ·cases j with
  | zero =>
   have : t = s := by simpa [compEn] using h.symm
   subst this
   exact ⟨o, rfl, ok⟩
  | succ j =>
   obtain ⟨i, q1, q2, q3⟩ := key j t (by simpa [compEn] using h)
   refine ⟨_, by simpa [compSt] using q3, ?_⟩
   rcases q2 with rfl | q2
   ·trivial
   ·obtain ⟨o', z1, z2⟩ := R.sl i t q2
    rw [z1]
    exact z2
 ·cases j with
  | zero =>
   have : t = s := by simpa [compEn] using h1.symm
   subst this
   rw [no] at h2
   cases h2
  | succ j =>
   obtain ⟨i, q1, q2, q3⟩ := key j t (by simpa [compEn] using h1)
   have h3' : (ix.map fun i => (σ[i]?).join)[j]? = some (some (.ref a)) := by simpa [compSt] using h3
   rw [q3] at h3'
   rcases q2 with rfl | q2
   ·cases h2
   ·exact R.own i t a q2 h2 (jo i a (Option.some.inj h3'))
 ·cases j with
  | zero =>
   have : t = s := by simpa [compEn] using h1.symm
   subst this
   rw [no] at h3
   cases h3
  | succ j =>
   cases k with
   | zero =>
    have : u = s := by simpa [compEn] using h2.symm
    subst this
    rw [no] at h4
    cases h4
   | succ k =>
    obtain ⟨i, q1, q2, q3⟩ := key j t (by simpa [compEn] using h1)
    obtain ⟨i', y1, y2, y3⟩ := key k u (by simpa [compEn] using h2)
    have h5' : (ix.map fun i => (σ[i]?).join)[j]? = some (some (.ref a)) := by simpa [compSt] using h5
    have h6' : (ix.map fun i => (σ[i]?).join)[k]? = some (some (.ref a)) := by simpa [compSt] using h6
    rw [q3] at h5'
    rw [y3] at h6'
    rcases q2 with rfl | q2
    ·cases h3
    ·rcases y2 with rfl | y2
     ·cases h4
     ·have z := R.dis i i' t u a q2 y2 h3 h4 (jo i a (Option.some.inj h5')) (jo i' a (Option.some.inj h6'))
      subst z
      have lj : j < ix.length := (List.getElem?_eq_some_iff.mp q1).1
      rw [(List.getElem?_inj lj nd).mp (q1.trans y1.symm)]
section
variable {X : Cx} {B : Hp} {E : EK} {scope : Scope} {cl : List (Str × Addr)} {x : Str} {M : List Str} {ix : List Nat} {elt iter : Expr} {ifs : List Expr} {px pos : Pos} {r : En → ResL} {t g : En → Res}
noncomputable abbrev EF : EK := fun _ _ => False
structure BlockOk (X : Cx) (B : Hp) (E : EK) (scope : Scope) (cl : List (Str × Addr)) (x : Str) (M : List Str) (px : Pos) (elt : Expr) (ifs : List Expr) (t g : En → Res) : Prop where
 test : (ifs = [] ∧ t = gC (.bl true)) ∨ ∃ c, ifs = [c] ∧ ∀ C s₀ H₀ ex pn, PuT (compCx X scope cl (x :: M) x C s₀ H₀ ex pn) B EF c t
 elt : ∀ C s₀ H₀ ex pn, PuE (compCx X scope cl (x :: M) x C s₀ H₀ ex pn) B EF elt g
theorem tg_comp (O : CompOk X scope cl x M ix) (C s₀ H₀ ex pn) : PG (compCx X scope cl (x :: M) x C s₀ H₀ ex pn) (.Name x px) (gName 0) :=
 pg_name (i := 0) O.nd rfl (.inl (lookup_relabel_local O.loc)) (.inl (decide_eq_true rfl))
theorem ResP.ok0 {G H : Hp} {r : Res} {P : D → Prop} (d : D) (e : r = .ok d) (h : P d) : ResP EF G H r P := by rw [e]; exact h
theorem comp_run (O : CompOk X scope cl x M ix) (hc : X.calm = true) (Bk : BlockOk X B E scope cl x M px elt ifs t g) {pins : List (Addr × Obj)} {σ : St} {δ : En} {G H : Hp} {s : Shared} {it : Addr} {fp : List Addr} {tn : Nat → Heap → Prop} {J : It} {ds ys : List D}
  (I : Inv X pins σ H s) (T : Turn X.prog X.w (kx X) (.Name x px) J fp it tn) (st : tn 0 s.heap) (hf : ∀ b ∈ fp, FpOk X pins H b) (R : EnvR (kx X) B G H σ δ) (ok : ItOk (kx X) J ds (fun G2 H2 => Ext G H G2 H2)) (hl : ds.length ≤ sizeLine) (ey : compL (turnD ix t g δ) ds = some ys)
  {RR : Value → Addr → Result → Shared → Prop}
  (fin : ∀ s1 H1 G1 vs m, Inv X pins σ H1 s1 → s1.heap.Ns (s.heap.objs.size + 1) m → H1 (s.heap.objs.size + 1) = none → Ext G H G1 H1 → G1 s.heap.objs.size = none → H1 s.heap.objs.size = some (.lst vs) → DenL (kx X) G1 ys vs → RR (.ref s.heap.objs.size) (s.heap.objs.size + 1) (.ok .next) s1) :
  wpAny (model X.prog X.w) X.A (newList []) (fun acc s₃ => wpAny (model X.prog X.w) X.A (newFunctionEnv scope X.env.globals cl [] X.env.qual none .none (some X.env)) (fun cenv s₄ =>
   codeAny (model X.prog X.w) X.A (.compStart (.ListComp elt [⟨.Name x px, iter, ifs, 0⟩] scope pos) 0 (.ref it) acc { cenv with scope := relabel scope X.env }) (RR acc cenv.locals) s₄) X.xe s₃) X.xe s := by
 have hfs : ∀ b ∈ fp, b < s.heap.objs.size := fun b hb => by
  obtain ⟨o, e, _⟩ := T.obj 0 _ st b hb
  exact Heap.lt_size e
 refine wpAny_newObj_type (wpAny_newFunctionEnv O.ncell (by intro y hy; simp at hy) (fun h₂ hns₂ hsb₂ => ?_) O.kind)
 dsimp only at hns₂ hsb₂ ⊢
 generalize hH2 : s.heap.push { cls := .type "list", dict := none, data := .seq ([] : List Value).toArray } = h₁ at hns₂ hsb₂ ⊢
 have hz : h₁.objs.size = s.heap.objs.size + 1 := by rw [← hH2, Heap.size_push]
 rw [hz] at hns₂ hsb₂ ⊢
 have hk : ∀ b o, s.heap.get? b = some o → h₁.get? b = some o := fun b o e => by rw [← hH2]; exact Heap.get?_push_of_some _ e
 have hk2 : ∀ b o, h₁.get? b = some o → h₂.get? b = some o := fun b o e => by
  have : b < s.heap.objs.size + 1 := by rw [← hz]; exact Heap.lt_size e
  exact hsb₂.extBut b o (Nat.ne_of_lt this) (Heap.get?_push_of_some _ e)
 have ha : h₁.get? s.heap.objs.size = some { cls := .type "list", data := .seq #[] 0 } := by rw [← hH2]; exact Heap.get?_push_size _ rfl
 have I0 := comp_inv (tk := s.toks) (tk2 := s.toks + ([] : List (Str × Value)).length) O I hf hfs hk hz ha hk2 hns₂
 have fresh : H s.heap.objs.size = none := I.hok.fresh (Nat.le_refl _)
 have e0 : Ext G H G (upd H s.heap.objs.size (.lst [])) := Ext.own R.gh _ fresh
 have g0 : G s.heap.objs.size = none := free_of R.gh fresh
 have hfC : ∀ {H1 : Hp}, (∀ b ∈ fp, H1 b = none) → ∀ b ∈ fp, FpOk (compCx X scope cl (x :: M) x (s.heap.objs.size + 1) { s with heap := h₁, toks := s.toks } (upd H s.heap.objs.size (.lst [])) fp (X.pn ++ pins)) [] H1 b := fun {H1} hn b hb => by
  obtain ⟨f0, f1, f2, f3, f4, f5⟩ := hf b hb
  refine ⟨hn b hb, ?_, ?_, .inl hb, fun y c e => f4 y c (O.cells e), fun p hp => f5 p (by simpa [compCx] using hp)⟩
  ·exact ne_succ (hfs b hb)
  ·intro hfb
   rcases List.mem_cons.mp (I.stkSub b hfb) with e | e
   ·exact f1 e
   ·exact f2 e
 have loop : codeAny (model X.prog X.w) X.A (.compLoop (.ListComp elt [⟨.Name x px, iter, ifs, 0⟩] scope pos) 0 (.ref it) (.ref s.heap.objs.size) (compEnvC scope cl (s.heap.objs.size + 1) X.env)) (RR (.ref s.heap.objs.size) (s.heap.objs.size + 1))
   { s with heap := h₂, toks := s.toks + ([] : List (Str × Value)).length } := by
  refine compLoop_all (fun n s1 => ∃ i o H1 G1 vs zs rest, n = ds.length - i ∧ i ≤ ds.length ∧ Inv (compCx X scope cl (x :: M) x (s.heap.objs.size + 1) { s with heap := h₁, toks := s.toks } (upd H s.heap.objs.size (.lst [])) fp (X.pn ++ pins)) [] (compSt σ ix o) H1 s1 ∧ tn i s1.heap ∧ (∀ b ∈ fp, H1 b = none) ∧
   H1 s.heap.objs.size = some (.lst vs) ∧ G1 s.heap.objs.size = none ∧ Ext G H G1 H1 ∧ DenL (kx X) G1 zs vs ∧ zs.length ≤ i ∧ compL (turnD ix t g δ) (ds.drop i) = some rest ∧ ys = zs ++ rest) ?_ ds.length
   ⟨0, none, _, G, [], [], ys, rfl, Nat.zero_le _, I0, T.keep 0 _ _ st (fun b _ o e => hk2 b o (hk b o e)), fun b hb => by rw [upd_ne (Nat.ne_of_lt (hfs b hb))]; exact (hf b hb).1, upd_same, g0, e0, rfl, Nat.le_refl _, ey, rfl⟩
  rintro n s1 ⟨i, o, H1, G1, vs, zs, rest, rfl, hi, I1, st1, fr1, ha1, ga1, x1, dl1, zl, er, eys⟩
  obtain ⟨okg, oks⟩ := ok i G1 H1 x1 x1.gh
  by_cases hlt : i < ds.length
  ·obtain ⟨go, yl⟩ := okg ds[i] (by simp [hlt])
   rw [List.drop_eq_getElem_cons hlt] at er
   unfold compL at er
   cases ef : turnD ix t g δ ds[i] with
   | none => rw [ef] at er; cases er
   | some oy =>
   rw [ef] at er
   dsimp only at er
   cases er2 : compL (turnD ix t g δ) (ds.drop (i + 1)) with
   | none => rw [er2] at er; cases er
   | some rest2 =>
   rw [er2] at er
   have er' : rest = oy.toList ++ rest2 := by cases er; rfl
   subst er'
   refine wpAny_mono (T.item (compCx X scope cl (x :: M) x (s.heap.objs.size + 1) { s with heap := h₁, toks := s.toks } (upd H s.heap.objs.size (.lst [])) fp (X.pn ++ pins)) rfl rfl rfl hc i [] s1 _ H1 _ I1 (hfC fr1) st1 go) (fun rr s2 ⟨u, hr, h2⟩ => ?_) fun _ _ q => q
   subst hr
   refine wpAny_mono h2 (fun _ s3 ⟨xv, H3, I3, r3, y3, st3, fr3⟩ => ?_) fun _ _ q => q
   obtain ⟨G3, e3, dn⟩ := yl xv H3 y3
   have I3' := I3.pinned (hfC fr3) (T.obj _ _ st3)
   have x3 : Ext G H G3 H3 := x1.trans e3
   have ha3 : H3 s.heap.objs.size = some (.lst vs) := e3.hh _ _ ha1
   have ga3 : G3 s.heap.objs.size = none := e3.fr _ _ ha1 ga1 rfl
   refine wpAny_mono (tg_comp O _ _ _ _ _ _ s3 _ H3 xv u (fun σ' H' => σ' = compSt σ ix (some xv) ∧ H' = H3) I3' r3 ⟨rfl, rfl⟩) (fun _ s4 ⟨σ4, H4, I4, e4, e4'⟩ => ?_) fun _ _ q => q.elim
   subst e4 e4'
   have R4 : EnvR (kx X) B G3 H4 (compSt σ ix (some xv)) (compEn ix δ (.pu ds[i])) := compEn_env (R.ext x3) O.ixd ⟨xv, rfl, dn⟩ rfl
   have next : ∀ {s5 : Shared} {H5 : Hp} {G5 : Hp} {us : List V} {ws : List D}, Inv (compCx X scope cl (x :: M) x (s.heap.objs.size + 1) { s with heap := h₁, toks := s.toks } (upd H s.heap.objs.size (.lst [])) fp (X.pn ++ pins)) ([] ++ pinsAt fp s3.heap) (compSt σ ix (some xv)) H5 s5 →
     H5 s.heap.objs.size = some (.lst us) → G5 s.heap.objs.size = none → Ext G H G5 H5 → DenL (kx X) G5 ws us → ws = zs ++ oy.toList →
     ∃ m, m < ds.length - i ∧ ∃ i o H1 G1 vs zs rest, m = ds.length - i ∧ i ≤ ds.length ∧ Inv (compCx X scope cl (x :: M) x (s.heap.objs.size + 1) { s with heap := h₁, toks := s.toks } (upd H s.heap.objs.size (.lst [])) fp (X.pn ++ pins)) [] (compSt σ ix o) H1 s5 ∧ tn i s5.heap ∧ (∀ b ∈ fp, H1 b = none) ∧
      H1 s.heap.objs.size = some (.lst vs) ∧ G1 s.heap.objs.size = none ∧ Ext G H G1 H1 ∧ DenL (kx X) G1 zs vs ∧ zs.length ≤ i ∧ compL (turnD ix t g δ) (ds.drop i) = some rest ∧ ys = zs ++ rest := fun {s5 H5 G5 us ws} I5 ha5 ga5 x5 dl5 ew => by
    refine ⟨ds.length - (i + 1), by omega, i + 1, some xv, H5, G5, us, ws, rest2, rfl, hlt, I5.unpinned, T.keep _ _ _ st3 fun b hb ob e => (I5.pin (b, ob) (List.mem_append_right _ (List.mem_append_right _ (mem_pinsAt hb e)))).1, fun b hb => ?_, ha5, ga5, x5, dl5, ?_, er2, ?_⟩
    ·obtain ⟨ob, e, d⟩ := T.obj _ _ st3 b hb
     exact (I5.pin (b, ob) (List.mem_append_right _ (List.mem_append_right _ (mem_pinsAt hb e)))).2.1
    ·rw [ew, List.length_append]
     have : oy.toList.length ≤ 1 := by cases oy <;> simp
     omega
    ·rw [ew, List.append_assoc]; exact eys
   have val : ∀ {s5 : Shared} {H5 G5 : Hp}, Inv (compCx X scope cl (x :: M) x (s.heap.objs.size + 1) { s with heap := h₁, toks := s.toks } (upd H s.heap.objs.size (.lst [])) fp (X.pn ++ pins)) ([] ++ pinsAt fp s3.heap) (compSt σ ix (some xv)) H5 s5 → Ext G3 H4 G5 H5 → t (compEn ix δ (.pu ds[i])) = .ok (.bl true) →
     wpAny (model X.prog X.w) X.A (eval elt (compEnvC scope cl (s.heap.objs.size + 1) X.env)) (fun xx s₄ =>
       wpAny (model X.prog X.w) X.A (call (.builtin "list.append") [.ref s.heap.objs.size, xx]) (fun _ s₅ => ∃ m, m < ds.length - i ∧ ∃ i o H1 G1 vs zs rest, m = ds.length - i ∧ i ≤ ds.length ∧ Inv (compCx X scope cl (x :: M) x (s.heap.objs.size + 1) { s with heap := h₁, toks := s.toks } (upd H s.heap.objs.size (.lst [])) fp (X.pn ++ pins)) [] (compSt σ ix o) H1 s₅ ∧ tn i s₅.heap ∧ (∀ b ∈ fp, H1 b = none) ∧
      H1 s.heap.objs.size = some (.lst vs) ∧ G1 s.heap.objs.size = none ∧ Ext G H G1 H1 ∧ DenL (kx X) G1 zs vs ∧ zs.length ≤ i ∧ compL (turnD ix t g δ) (ds.drop i) = some rest ∧ ys = zs ++ rest) (fun _ _ => False) s₄) (fun _ _ => False) s5 := fun {s5 H5 G5} I5 e5 et => by
    unfold turnD at ef
    rw [et] at ef
    dsimp only at ef
    cases eg : g (compEn ix δ (.pu ds[i])) with
    | er c => rw [eg] at ef; cases ef
    | st => rw [eg] at ef; cases ef
    | ok y =>
     rw [eg] at ef
     have eo : oy = some y := by cases ef; rfl
     refine wpAny_mono (Bk.elt _ _ _ _ _ _ s5 _ H5 (fun v H6 => ∃ G6, Ext G5 H5 G6 H6 ∧ Den (kx X) G6 y v) I5 ⟨G5, _, R4.ext e5, ResP.ok0 y eg fun v G6 H6 e6 d6 => ⟨G6, e6, d6⟩⟩) (fun xx s6 ⟨v6, H6, I6, r6, G6, e6, d6⟩ => ?_) fun _ _ q => q
     have e56 := e5.trans e6
     have ha6 : H6 s.heap.objs.size = some (.lst vs) := e56.hh _ _ ha3
     have ga6 : G6 s.heap.objs.size = none := e56.fr _ _ ha3 ga3 rfl
     refine wpAny_mono (mt_append (X := compCx X scope cl (x :: M) x (s.heap.objs.size + 1) { s with heap := h₁, toks := s.toks } (upd H s.heap.objs.size (.lst [])) fp (X.pn ++ pins)) _ s6 _ H6 (.ref s.heap.objs.size) [v6] (.ref s.heap.objs.size) [xx] (fun _ H7 => H7 = upd H6 s.heap.objs.size (.lst (vs ++ [v6]))) I6 rfl (.cons r6 .nil) ⟨_, vs, v6, rfl, rfl, ha6, ?_, rfl⟩) (fun _ s7 ⟨_, H7, I7, _, e7⟩ => ?_) fun _ _ q => q
     ·have := dl1.length
      omega
     ·subst e7
      exact next I7 upd_same ga6 ((x3.trans e56).wr ga6 fresh) ((dl1.mono (e3.gg.trans e56.gg)).append (DenL.one d6)) (by rw [eo]; rfl)
   have noE : ∀ {F : Value → Shared → Prop} (v : Value) (s' : Shared), False → F v s' := fun _ _ f => f.elim
   rcases Bk.test with ⟨rfl, rfl⟩ | ⟨c, rfl, ht⟩
   ·refine wpAny_tests_nil ?_
    exact wpAny_mono (val I4 (Ext.refl R4.gh) rfl) (fun xx s6 q6 => wpAny_mono q6 (fun _ _ q => q) noE) noE
   ·refine wpAny_tests_one ?_
    unfold turnD at ef
    cases et : t (compEn ix δ (.pu ds[i])) with
    | er c => rw [et] at ef; cases ef
    | st => rw [et] at ef; cases ef
    | ok dt =>
     cases dt with
     | bl bt =>
      refine wpAny_mono (ht _ _ _ _ _ _ s4 _ H4 (fun b H6 => b = bt ∧ ∃ G6, Ext G3 H4 G6 H6) I4 ⟨G3, _, R4, ResP.ok0 (.bl bt) et ⟨bt, rfl, fun G6 H6 e6 => ⟨rfl, G6, e6⟩⟩⟩) (fun b s6 ⟨H6, I6, eb, G6, e6⟩ => ?_) noE
      subst eb
      cases b with
      | true => exact wpAny_mono (val I6 e6 et) (fun xx s7 q7 => wpAny_mono q7 (fun _ _ q => q) noE) noE
      | false =>
       rw [et] at ef
       have eo : oy = none := by cases ef; rfl
       show ∃ m, m < _ ∧ _
       exact next I6 (e6.hh _ _ ha3) (e6.fr _ _ ha3 ga3 rfl) (x3.trans e6) (dl1.mono (e3.gg.trans e6.gg)) (by rw [eo]; simp)
     | non => rw [et] at ef; cases ef
     | int _ => rw [et] at ef; cases ef
     | str _ => rw [et] at ef; cases ef
     | tup _ => rw [et] at ef; cases ef
     | lst _ => rw [et] at ef; cases ef
     | dct _ _ => rw [et] at ef; cases ef
     | obj _ _ => rw [et] at ef; cases ef
     | fn _ => rw [et] at ef; cases ef
  ·have hz2 : i = ds.length := by omega
   subst hz2
   rw [List.drop_length] at er
   have er' : rest = [] := by cases er; rfl
   subst er'
   rw [List.append_nil] at eys
   subst eys
   refine wpAny_mono (T.done (compCx X scope cl (x :: M) x (s.heap.objs.size + 1) { s with heap := h₁, toks := s.toks } (upd H s.heap.objs.size (.lst [])) fp (X.pn ++ pins)) rfl rfl rfl hc _ [] s1 _ H1 _ I1 (hfC fr1) st1 (oks (Nat.le_refl _))) (fun rr s2 ⟨hr, I2⟩ => ?_) fun _ _ q => q
   subst hr
   obtain ⟨m2, hm2, _⟩ := I2.loc
   have u1 : Un (frs X.stack) fp H (upd H s.heap.objs.size (.lst [])) s.heap h₁ := Un.laid hk (Nat.le_refl _) fresh
   have u2 : Un (frs X.stack) fp (upd H s.heap.objs.size (.lst [])) H1 h₁ s2.heap := I2.base
   have IX : Inv X pins σ H1 s2 := I.call' I2.os (u1.trans u2) I2.hok I2.bare fun b hb => by
    obtain ⟨f0, f1, f2, f3, f4, f5⟩ := hf b hb
    exact ⟨f3, f1, f4, f5⟩
   exact fin s2 H1 G1 vs m2 IX hm2 I2.free x1 ga1 ha1 dl1
 exact codeAny_compStart_list loop (T.self _ 0 _ _ _ (T.keep 0 _ _ st (fun b _ o e => hk2 b o (hk b o e))) loop)
theorem ow_comp (O : CompOk X scope cl x M ix) (hc : X.calm = true) (Bk : BlockOk X B E scope cl x M px elt ifs t g) (hi : PuIc X B E (.Name x px) iter r)
  (hs : ∀ x, foldedSetIterable iter X.env x = pure x := by intro _; rfl) : OwE X B E (.ListComp elt [⟨.Name x px, iter, ifs, 0⟩] scope pos) (gComp r ix t g) := by
 intro pins s σ H Q I q
 rw [eval_ListComp]
 obtain ⟨G, δ, R, q⟩ := q
 refine wpAny_comprehension_free (use := none) rfl hs (closureFor_eq O.clos) O.kind O.names ?_
 refine wpAny_mono (hi pins s σ H (fun J H1 => ∃ G1 ds ys, Ext G H G1 H1 ∧ ItOk (kx X) J ds (fun G2 H2 => Ext G1 H1 G2 H2) ∧ ds.length ≤ sizeLine ∧ compL (turnD ix t g δ) ds = some ys ∧
  ∀ a vs G' H', Ext G H G' H' → H a = none → G' a = none → H' a = some (.lst vs) → DenL (kx X) G' ys vs → Q (.ref a) H') I
  ⟨G, δ, R, (compP q).mono fun ds _ ⟨hl, ys, ey, ds', ed, q⟩ J G1 H1 e1 ok => ⟨G1, ds, ys, e1, ok, hl, ey, by cases ed; exact q⟩⟩) (fun v s1 h1 => wpAny_mono h1 (fun itv s2 h2 => ?_) fun _ _ e => e) fun _ _ e => e
 obtain ⟨it, fp, tn, J, H1, rfl, I1, T, st, hf, G1, ds, ys, e1, ok, hl, ey, q⟩ := h2
 refine comp_run (RR := fun acc C => compPost (model X.prog X.w) X.A X.xe none (EP X pins σ Q) acc C) O hc Bk I1 T st hf (R.ext e1) ok hl ey ?_
 intro s3 H3 G3 vs m I3 hm hC e3 g3 h3 dl
 refine ⟨m, hm, fun h' hs' => ⟨.ref s2.heap.objs.size, H3, ?_, rfl, q _ vs G3 H3 (e1.trans e3) (free_of e1.hh (I1.hok.fresh (Nat.le_refl _))) g3 h3 dl⟩⟩
 have hsz : s2.heap.objs.size ≤ s2.heap.objs.size + 1 := Nat.le_succ _
 refine I3.turned (t' := s3.toks) (it := s2.heap.objs.size + 1) (fun b o hb e => hs'.extBut b o hb e) hC ?_ (.inr (Nat.le_trans I1.sz hsz)) ?_ ?_
 ·exact fun z => absurd (Nat.lt_of_lt_of_le I1.lt (Nat.le_trans hsz (Nat.le_of_eq z))) (Nat.lt_irrefl _)
 ·intro y c hc' z
  obtain ⟨v', q'⟩ := I1.cell y c hc'
  exact absurd (Nat.lt_of_lt_of_le q'.lt (Nat.le_trans hsz (Nat.le_of_eq z.symm))) (Nat.lt_irrefl _)
 ·intro p hp z
  exact absurd (Nat.lt_of_lt_of_le (Heap.lt_size (I1.pin p hp).1) (Nat.le_trans hsz (Nat.le_of_eq z.symm))) (Nat.lt_irrefl _)
end
section
variable {K : KA}
theorem kit_int {d : D} {t : String} (h : tyD d = some t) : PySem.W.kitOne K (.type t) (.type "int") = some (isT t "int") := by cases d <;> cases h <;> rfl
theorem kit_bool {d : D} {t : String} (h : tyD d = some t) : PySem.W.kitOne K (.type t) (.type "bool") = some (isT t "bool") := by cases d <;> cases h <;> rfl
theorem kit_str {d : D} {t : String} (h : tyD d = some t) : PySem.W.kitOne K (.type t) (.type "str") = some (isT t "str") := by cases d <;> cases h <;> rfl
theorem kit_list {d : D} {t : String} (h : tyD d = some t) : PySem.W.kitOne K (.type t) (.type "list") = some (isT t "list") := by cases d <;> cases h <;> rfl
theorem kit_tuple {d : D} {t : String} (h : tyD d = some t) : PySem.W.kitOne K (.type t) (.type "tuple") = some (isT t "tuple") := by cases d <;> cases h <;> rfl
theorem kit_dict {d : D} {t : String} (h : tyD d = some t) : PySem.W.kitOne K (.type t) (.type "dict") = some (isT t "dict") := by cases d <;> cases h <;> rfl
end
section
variable {X : Cx} {B : Hp} {E : EK} {e a b : Expr} {es : List Expr} {g h : En → Res} {pos : Pos}
noncomputable def KitT (K : KA) (c : String) : Prop := ∀ {d : D} {t : String}, tyD d = some t → PySem.W.kitOne K (.type t) (.type c) = some (isT t c)
noncomputable def rIsI (K : KA) (c : String) : List V → Hp → VK → Prop := fun xs H Q => ∃ G d x t, xs = [x, .ty c] ∧ Same G H ∧ Arg K G H d x ∧ tyD d = some t ∧ Q (.bl (isT t c)) H
theorem call_isI {c : String} (hk : KitT (kx X) c) : CallR X (.builtin "isinstance") (rIsI (kx X) c) := by
 intro pins s σ H xs us Q I r q
 obtain ⟨G, d, x, t, rfl, sg, ax, et, q⟩ := q
 obtain ⟨u, u2, rfl, ru, ru2⟩ := vals2 r
 cases ru2
 have e := hk et
 have fin : ∀ tk, EP X pins σ Q (.bool (isT t c)) { s with toks := tk } := fun tk => ⟨.bl (isT t c), H, I.tok tk, rfl, q⟩
 cases d with
 | non =>
  cases et; rw [ax.non] at ru; cases ru
  exact PySem.W.kia_one PySem.W.kitx_none I.kIn True.intro e (fun z => nomatch z) fin
 | bl y =>
  cases et; rw [ax.bl] at ru; cases ru
  exact PySem.W.kia_one PySem.W.kitx_bool I.kIn True.intro e (fun z => nomatch z) fin
 | int i =>
  cases et; rw [ax.int] at ru; obtain ⟨t, rfl⟩ := ru
  exact PySem.W.kia_one PySem.W.kitx_int I.kIn True.intro e (fun z => nomatch z) fin
 | str y =>
  cases et; rw [ax.str] at ru; obtain ⟨t, rfl⟩ := ru
  exact PySem.W.kia_one PySem.W.kitx_str I.kIn True.intro e (fun z => nomatch z) fin
 | tup ds =>
  cases et
  obtain ⟨l, vs, rfl, sq, dl⟩ := ax.tup sg
  cases ru
  obtain ⟨its, rv, ⟨o, ho, hc, n, hd⟩, _⟩ := I.tuple sq
  exact PySem.W.kia_one PySem.W.kitx_tuple I.kIn ⟨o, ho, hc⟩ e (fun z => nomatch z) fin
 | lst ds =>
  cases et
  obtain ⟨l, vs, rfl, sq, dl⟩ := ax.lst sg
  cases ru
  obtain ⟨its, rv, pl, _⟩ := I.list sq
  obtain ⟨o, ho, hc, _⟩ := pl.isList
  exact PySem.W.kia_one PySem.W.kitx_list I.kIn ⟨o, ho, hc⟩ e (fun z => nomatch z) fin
 | dct tt kvs =>
  cases et
  have key : ∃ a, x = .ref a ∧ ((∃ es, H a = some (.dK es)) ∨ ∃ es, H a = some (.dT es)) := by
   rcases ax with ⟨a, h1, h2⟩ | ⟨_, _, _, z, _⟩ | ⟨t', kvs', a, z, h1, h2⟩
   ·exact ⟨a, h1, h2.elim (fun ⟨_, es, q, _⟩ => .inl ⟨es, sg _ _ q⟩) fun ⟨_, es, q, _⟩ => .inr ⟨es, sg _ _ q⟩⟩
   ·cases z
   ·exact ⟨a, h1, h2.elim (fun ⟨_, es, q, _⟩ => .inl ⟨es, q⟩) fun ⟨_, es, q, _⟩ => .inr ⟨es, q⟩⟩
  obtain ⟨a, rfl, h2⟩ := key
  cases ru
  rcases h2 with ⟨es, ea⟩ | ⟨es, ea⟩
  ·obtain ⟨_, _, vs, _, p⟩ := (show ObjOk X.prog X.w H s.heap a (.dK es) from I.hok a _ ea)
   obtain ⟨o, es', ep, h1, h2, _⟩ := p
   exact PySem.W.kia_one PySem.W.kitx_dict I.kIn ⟨o, h1, h2.1⟩ e (fun z => nomatch z) fin
  ·obtain ⟨_, _, xs, _, o, es', ep, h1, h2, _⟩ := (show ObjOk X.prog X.w H s.heap a (.dT es) from I.hok a _ ea)
   exact PySem.W.kia_one PySem.W.kitx_dict I.kIn ⟨o, h1, h2.1⟩ e (fun z => nomatch z) fin
 | obj _ _ => cases et
 | fn _ => cases et
theorem pu_isI {c : String} {x : Str} {p p2 : Pos} (hk : KitT (kx X) c) (hg : Gl X "isinstance") (hm : X.mg "isinstance" = none) (hg2 : Gl X x) (hm2 : X.mg x = none) (hv2 : bootBuiltins x = some (.type c)) (ha : ArE X B E e g)
  (hn2 : x ≠ "__name__" := by decide) (hd2 : (x == ("__debug__" : Str)) = false := by decide)
  (he : starEach [e, .Name x p2] X.env = (false, eval e X.env) :: starEach [.Name x p2] X.env := by rfl) (he2 : starEach [.Name x p2] X.env = (false, eval (.Name x p2) X.env) :: starEach [] X.env := by rfl) (hpl : (backTo pos (starEach [.Name x p2] X.env)).any (·.1) = false := by rfl) :
  PuE X B E (.Call (.Name "isinstance" p) [e, .Name x p2] [] pos) (g1 (pyIsI c) g) :=
 PE.imp (pe_callB (call_isI hk) hg hm boot_isinstance (pa_cons ha (pa_cons (pe_bltn (v := .ty c) hg2 hm2 hv2 rfl hn2 hd2) pa_nil he2) he) (by decide) (by decide) he hpl) fun σ H Q ⟨G, δ, R, q⟩ => ⟨G, δ, R, (ResP.bind q).mono fun dx _ qx x G1 H1 e1 ax => by
  obtain ⟨d, ed, qd⟩ := ResP.of qx
  unfold pyIsI at ed
  cases et : tyD dx with
  | none => rw [et] at ed; cases ed
  | some t =>
   rw [et] at ed
   cases ed
   exact ⟨G1, dx, x, t, rfl, e1.gh, ax, et, qd _ G1 H1 e1 rfl⟩⟩
noncomputable def pyInB (d : D) : D → Option Bool
 | .lst xs => match toPyL xs, toPy d with
  | some ps, some q => if PyData.canLayAll0 ps && SeqAt.shaped q then some (ps.any fun y => PyData.eqv y q) else none
  | _, _ => none
 | .tup xs => match toPyL xs, toPy d with
  | some ps, some q => if PyData.canLayAll0 ps && SeqAt.shaped q then some (ps.any fun y => PyData.eqv y q) else none
  | _, _ => none
 | .str z => match d with
  | .str x => some (!(Builtin.Str.occurrences z x 0 z.length 1).isEmpty)
  | _ => none
 | _ => none
noncomputable def pyIn (d e : D) : Option D := (pyInB d e).map .bl
noncomputable def pyNotIn (d e : D) : Option D := (pyInB d e).map fun b => .bl !b
theorem in_some {d : D} {xs : List D} {b : Bool} (h : (match toPyL xs, toPy d with
  | some ps, some q => if PyData.canLayAll0 ps && SeqAt.shaped q then some (ps.any fun y => PyData.eqv y q) else none
  | _, _ => none) = some b) : ∃ ps q, toPyL xs = some ps ∧ toPy d = some q ∧ PyData.canLayAll0 ps = true ∧ SeqAt.shaped q = true ∧ b = ps.any fun y => PyData.eqv y q := by
 cases e1 : toPyL xs with
 | none => rw [e1] at h; cases h
 | some ps =>
  cases e2 : toPy d with
  | none => rw [e1, e2] at h; cases h
  | some q =>
   rw [e1, e2] at h
   dsimp only at h
   by_cases hs : (PyData.canLayAll0 ps && SeqAt.shaped q) = true
   ·rw [if_pos hs] at h
    cases h
    rw [Bool.and_eq_true] at hs
    exact ⟨ps, q, rfl, rfl, hs.1, hs.2, rfl⟩
   ·rw [if_neg hs] at h; cases h
noncomputable def rInD (K : KA) (neg : Bool) : R2 := fun x y H Q => ∃ G dx dy b, Same G H ∧ Arg K G H dx x ∧ Arg K G H dy y ∧ pyInB dx dy = some b ∧ Q (.bl (if neg then !b else b)) H
theorem op_inD (hu : X.A.units + 65 < cLine) : OpR X (compareOp .In) (rInD (kx X) false) := by
 intro pins s σ H x y v u Q I rx ry q
 obtain ⟨G, dx, dy, b, sg, ax, ay, eb, q⟩ := q
 cases dy with
 | lst xs =>
  obtain ⟨ps, p, e1, e2, s1, s2, rfl⟩ := in_some eb
  obtain ⟨as, ra⟩ := reads_arg I sg ax rx e2
  obtain ⟨bs, rb⟩ := reads_arg (p := .list ps) I sg ay ry (by unfold toPy; rw [e1])
  exact SeqAt.in_list_reads rb ra s1 (SeqAt.canLay_of_shaped s2) (room_in_shaped s2 hu) ⟨.bl _, H, I, rfl, q⟩
 | tup xs =>
  obtain ⟨ps, p, e1, e2, s1, s2, rfl⟩ := in_some eb
  obtain ⟨as, ra⟩ := reads_arg I sg ax rx e2
  obtain ⟨bs, rb⟩ := reads_arg (p := .tuple ps) I sg ay ry (by unfold toPy; rw [e1])
  exact SeqAt.in_tuple_reads rb ra s1 (SeqAt.canLay_of_shaped s2) (room_in_shaped s2 hu) ⟨.bl _, H, I, rfl, q⟩
 | str z =>
  cases dx with
  | str w =>
   cases eb
   rw [ax.str] at rx
   rw [ay.str] at ry
   exact op_in_str pins s σ H _ _ _ _ Q I rx ry ⟨_, _, rfl, rfl, q⟩
  | _ => cases eb
 | _ => cases eb
theorem op_notInD (hu : X.A.units + 65 < cLine) : OpR X (compareOp .NotIn) (rInD (kx X) true) := by
 intro pins s σ H x y v u Q I rx ry q
 obtain ⟨G, dx, dy, b, sg, ax, ay, eb, q⟩ := q
 cases dy with
 | lst xs =>
  obtain ⟨ps, p, e1, e2, s1, s2, rfl⟩ := in_some eb
  obtain ⟨as, ra⟩ := reads_arg I sg ax rx e2
  obtain ⟨bs, rb⟩ := reads_arg (p := .list ps) I sg ay ry (by unfold toPy; rw [e1])
  exact SeqAt.notIn_list_reads rb ra s1 (SeqAt.canLay_of_shaped s2) (room_in_shaped s2 hu) ⟨.bl _, H, I, rfl, q⟩
 | tup xs =>
  obtain ⟨ps, p, e1, e2, s1, s2, rfl⟩ := in_some eb
  obtain ⟨as, ra⟩ := reads_arg I sg ax rx e2
  obtain ⟨bs, rb⟩ := reads_arg (p := .tuple ps) I sg ay ry (by unfold toPy; rw [e1])
  exact SeqAt.notIn_tuple_reads rb ra s1 (SeqAt.canLay_of_shaped s2) (room_in_shaped s2 hu) ⟨.bl _, H, I, rfl, q⟩
 | str z =>
  cases dx with
  | str w =>
   cases eb
   rw [ax.str] at rx
   rw [ay.str] at ry
   exact op_notin_str pins s σ H _ _ _ _ Q I rx ry ⟨_, _, rfl, rfl, q⟩
  | _ => cases eb
 | _ => cases eb
theorem prim_in : Prim2 (kx X) pyIn (rInD (kx X) false) := fun G H x y dx dy d sg ax ay ed Q q => by
 unfold pyIn at ed
 cases e : pyInB dx dy with
 | none => rw [e] at ed; cases ed
 | some b => rw [e] at ed; cases ed; exact ⟨G, dx, dy, b, sg, ax, ay, e, q _ G H (Ext.refl sg) rfl⟩
theorem prim_notIn : Prim2 (kx X) pyNotIn (rInD (kx X) true) := fun G H x y dx dy d sg ax ay ed Q q => by
 unfold pyNotIn at ed
 cases e : pyInB dx dy with
 | none => rw [e] at ed; cases ed
 | some b => rw [e] at ed; cases ed; exact ⟨G, dx, dy, b, sg, ax, ay, e, q _ G H (Ext.refl sg) rfl⟩
noncomputable def pyTuple : D → Option D
 | .lst ds => some (.tup ds)
 | .tup ds => some (.tup ds)
 | _ => none
noncomputable def pyInt : D → Option D
 | .int i => some (.int i)
 | .bl b => some (.int (if b then 1 else 0))
 | _ => none
theorem pu_tuple {p : Pos} (hg : Gl X "tuple") (hm : X.mg "tuple" = none) (ha : ArE X B E e g) (he : starEach [e] X.env = (false, eval e X.env) :: starEach [] X.env := by rfl) (hpl : (backTo pos (starEach [] X.env)).any (·.1) = false := by rfl) : PuE X B E (.Call (.Name "tuple" p) [e] [] pos) (g1 pyTuple g) :=
 PE.imp (pe_callTy call_tuple_of hg hm PyProof.Rows.boot_tuple (al_cons ha al_nil he) (by decide) (by decide) he hpl) fun σ H Q q => cb1 (fun G H x dx d sg ax ed Q q => by
  unfold pyTuple at ed
  split at ed
  ·cases ed
   obtain ⟨l, vs, rfl, sq, dl⟩ := ax.lst sg
   exact ⟨l, vs, rfl, .inl ⟨sq, fun p hp => q _ (upd G p (.tup vs)) _ (Ext.new sg _ hp) (den_newT sg hp dl)⟩⟩
  ·cases ed
   have ax' := ax
   obtain ⟨l, vs, rfl, sq, dl⟩ := ax.tup sg
   rcases ax' with ad | ⟨_, _, _, z, _⟩ | ⟨_, _, _, z, _⟩
   ·exact ⟨l, vs, rfl, .inr ⟨sq, q _ G H (Ext.refl sg) ad⟩⟩
   ·cases z
   ·cases z
  ·cases ed) q
theorem pu_int1 {p : Pos} (hg : Gl X "int") (hm : X.mg "int" = none) (ha : ArE X B E e g) (he : starEach [e] X.env = (false, eval e X.env) :: starEach [] X.env := by rfl) (hpl : (backTo pos (starEach [] X.env)).any (·.1) = false := by rfl) : PuE X B E (.Call (.Name "int" p) [e] [] pos) (g1 pyInt g) :=
 PE.imp (pe_callTy call_int1 hg hm PyProof.Rows.boot_int (al_cons ha al_nil he) (by decide) (by decide) he hpl) fun σ H Q q => cb1 (fun G H x dx d sg ax ed Q q => by
  unfold pyInt at ed
  split at ed
  ·cases ed
   rw [ax.int]
   exact .inl ⟨_, rfl, q _ G H (Ext.refl sg) rfl⟩
  ·cases ed
   rw [ax.bl]
   exact .inr ⟨_, rfl, q _ G H (Ext.refl sg) rfl⟩
  ·cases ed) q
end
section
variable {X : Cx} {G0 B : Hp} {E : EK} {e a b : Expr} {es : List Expr} {g h : En → Res} {pos : Pos}
noncomputable def sApp (i : Nat) (g : En → Res) : En → Out := fun δ => match δ[i]? with
 | some (.ow ds) => (g δ).then fun d => if ds.length < sizeLine then .nx (δ.set i (.ow (ds ++ [d]))) else .st
 | _ => .st
theorem EnvR.owAt {K : KA} {G H : Hp} {σ : St} {δ : En} {i : Nat} {ds : List D} (R : EnvR K B G H σ δ) (h : δ[i]? = some (.ow ds)) : ∃ a vs, σ[i]? = some (some (V.ref a)) ∧ H a = some (.lst vs) ∧ DenL K G ds vs ∧ G a = none ∧ B a = none := by
 obtain ⟨o, q1, a, vs, q2, q3, q4⟩ := R.sl i _ h
 subst q2
 obtain ⟨g, b⟩ := R.own i _ a h rfl q1
 exact ⟨a, vs, q1, q3, q4, g, b⟩
theorem s_append {i : Nat} {x : Str} {p apos cpos : Pos} (hv : PE X (.Name x p) (tVar i)) (ha : PuE X B E e g)
  (hbase : attributeBase (.Name x p) "append" X.env (eval (.Name x p) X.env) = eval (.Name x p) X.env := by rfl)
  (hfew : ((backTo cpos (starEach [e] X.env)).all (fun x => !x.1) && (backToKw cpos (keywordEach [] X.env)).all (fun x => x.1.isSome)
   && decide (([e] : List Expr).length + ([] : List Keyword).length + (if ([] : List Keyword).isEmpty then 0 else 1) < 30)) = true := by rfl)
  (hline : (apos.endLine == cpos.line) = true := by rfl) (hs : starEach [e] X.env = (false, eval e X.env) :: starEach [] X.env := by rfl) (hplain : (backTo cpos (starEach [] X.env)).any (·.1) = false := by rfl)
  (hsw : swapsWith (.Call (.Attribute (.Name x p) "append" apos) [e] [] cpos) none pos.line X.env = pure false := by rfl) :
  PuS X G0 B E (.Expr (.Call (.Attribute (.Name x p) "append" apos) [e] [] cpos) pos) (sApp i g) :=
 PS.imp (ps_expr (pe_bm PySem.F.plainAttrs_list PySem.F.slot_list_append PySem.F.type_list_append mt_append hv (al_consP ha al_nil hs) hbase hfew hline hs hplain) hsw) fun D σ H ⟨G, δ, R, ex, q⟩ => by
  unfold sApp at q
  cases ed : δ[i]? with
  | none => rw [ed] at q; exact q.elim
  | some sl =>
   rw [ed] at q
   cases sl with
   | ow ds =>
    dsimp only at q
    obtain ⟨l, vs, q1, q2, q3, q4, q5⟩ := R.owAt ed
    refine ⟨.ref l, q1, .inl ⟨rfl, vs, SqL.of q2⟩, G, δ, R, ?_⟩
    have q' := thenP ex q
    unfold gCons
    cases eg : g δ with
    | er c => rw [eg] at q'; exact q'
    | st => rw [eg] at q'; exact q'
    | ok d =>
     rw [eg] at q'
     have q' : OutP (kx X) G0 B E G (if ds.length < sizeLine then .nx (δ.set i (.ow (ds ++ [d]))) else .st) D := q'
     by_cases hl : ds.length < sizeLine
     ·rw [if_pos hl] at q'
      intro ws G1 H1 e1 al
      obtain ⟨d', dr, v, vr, z1, z2, dv, z3, z4⟩ := al
      cases z1
      subst z2 z4
      have h1 := e1.hh _ _ q2
      have g1 := e1.fr _ _ q2 q4 rfl
      refine ⟨l, vs, v, rfl, rfl, h1, by rw [← q3.length]; exact hl, ?_⟩
      exact q' σ G1 _ e1.gg (EnvR.wr (R.ext e1) ed q1 h1 ((q3.mono e1.gg).append (DenL.one dv))) (Ext.wr (ex.trans e1) g1 q5)
     ·rw [if_neg hl] at q'
      exact q'.elim
   | no => exact q.elim
   | pu _ => exact q.elim
   | bo _ => exact q.elim
   | od _ _ => exact q.elim
theorem extend_seqW (T : String) (hT : T = "list" ∨ T = "tuple") (l : Addr) (items : Array Value) (n : Nat) (b : Addr) (items2 : Array Value) (n2 : Nat) (dd2 : Option Addr) (sl2 : Array (Option Value)) (hs0 : ¬(!items.isEmpty && Builtin.List.listTooLong (items.size + items2.size)) = true) (hs1 : items.size ≤ sizeLine) (hs2 : items.size + items2.size ≤ sizeLine + 1) :
  Meets (Builtin.«list.extend» ⟨[.ref l, .ref b], []⟩) (fun _ R s => s.heap.get? l = some { cls := .type "list", dict := none, data := .seq items n, slots := #[] } ∧ s.heap.get? b = some { cls := .type T, dict := dd2, data := .seq items2 n2, slots := sl2 } ∧ R (.ok (.ret Value.none)) { s with heap := s.heap.update l (Obj.mapSeq fun x => x ++ items2), toks := s.toks }) :=
 .of_wp fun prog w A R s h => by
  obtain ⟨hp, g, d, tk, os⟩ := s; obtain ⟨hl, hb, h⟩ := h; have f1 := AutoSeq1.idx_int; have f2 := AutoSeq1.sub_tuple_tuple; have f3 := AutoSeq1.sub_list_list; have f4 := AutoSeq1.sub_tuple_list; have f5 := AutoSeq1.sub_list_tuple;
  have hz' : (items ++ items2).size ≤ sizeLine + 1 := by rw [Array.size_append]; exact hs2
  rcases hT with rfl | rfl
  ·wp_walk using (wpAny_updateSeq hl rfl (hz := hs1) (_hz' := hz')), AutoSeq1.wpAny_loadPart' hl, AutoSeq1.wpAny_loadPart' hb; exact ⟨_, rfl, h⟩
  ·wp_walk using (wpAny_updateSeq hl rfl (hz := hs1) (_hz' := hz')), AutoSeq1.wpAny_loadPart' hl, AutoSeq1.wpAny_loadPart' hb; exact ⟨_, rfl, h⟩
noncomputable def rExtD (K : KA) : V → List V → Hp → VK → Prop := fun x vs H Q => ∃ l b xs zs, x = .ref l ∧ vs = [.ref b] ∧ H l = some (.lst xs) ∧ (SqL K H b zs ∨ SqT K H b zs) ∧ xs.length + zs.length ≤ sizeLine ∧ Q .non (upd H l (.lst (xs ++ zs)))
theorem mt_extD : MtM X "list.extend" (rExtD (kx X)) := by
 intro pins s σ H x vs v us Q I rx rv h
 obtain ⟨l, b, xs, zs, rfl, rfl, hH, hB, hz, q⟩ := h
 cases rx
 obtain ⟨u, rfl, ru⟩ := rv.one
 cases ru
 obtain ⟨z, its, n, r, hl, e⟩ := I.lstM hH
 have key : ∃ T its2 n2 dd2 sl2, (T = "list" ∨ T = "tuple") ∧ Vals zs its2 ∧ s.heap.get? b = some { cls := .type T, dict := dd2, data := .seq its2.toArray n2, slots := sl2 } := by
  rcases hB with hB | hB
  ·obtain ⟨its2, r2, pl, _⟩ := I.list hB
   obtain ⟨⟨cls, dd, data, sl⟩, n2, ho, c, d, q⟩ := pl
   simp only at c d q
   subst c d q
   exact ⟨_, its2, n2, _, sl, .inl rfl, r2, ho⟩
  ·obtain ⟨its2, r2, pl, _⟩ := I.tuple hB
   obtain ⟨⟨cls, dd, data, sl⟩, ho, c, n2, q⟩ := pl
   simp only at c q
   subst c q
   exact ⟨_, its2, n2, _, sl, .inr rfl, r2, ho⟩
 obtain ⟨T, its2, n2, dd2, sl2, hT, r2, e2⟩ := key
 have hl2 := r2.length
 have hsz : its.toArray.size + its2.toArray.size ≤ sizeLine := by rw [List.size_toArray, List.size_toArray]; omega
 have hlong : ¬ (!its.toArray.isEmpty && Builtin.List.listTooLong (its.toArray.size + its2.toArray.size)) = true := by
  rw [notLongL hsz, Bool.and_false]
  exact Bool.false_ne_true
 refine call_meets F.slot_list_extend ⟨_, e, rfl⟩ F.entry_list_extend (F.args_list_extend_2 _ _)
  (extend_seqW T hT l its.toArray n b its2.toArray n2 dd2 sl2 hlong (by rw [List.size_toArray]; omega) (by omega)) ⟨e, e2, ?_⟩
 refine ⟨.non, _, I.lset (its' := its ++ its2) hH e (by simp) (r.append r2) ?_, rfl, q⟩
 rw [List.length_append]
 omega
noncomputable def sExt (i : Nat) (g : En → Res) : En → Out := fun δ => match δ[i]? with
 | some (.ow ds) => (g δ).then fun d => match itemsD d with
  | some es => if ds.length + es.length ≤ sizeLine then .nx (δ.set i (.ow (ds ++ es))) else .st
  | none => .st
 | _ => .st
theorem s_extend {i : Nat} {x : Str} {p apos cpos : Pos} (hv : PE X (.Name x p) (tVar i)) (ha : ArE X B E e g)
  (hbase : attributeBase (.Name x p) "extend" X.env (eval (.Name x p) X.env) = eval (.Name x p) X.env := by rfl)
  (hfew : ((backTo cpos (starEach [e] X.env)).all (fun x => !x.1) && (backToKw cpos (keywordEach [] X.env)).all (fun x => x.1.isSome)
   && decide (([e] : List Expr).length + ([] : List Keyword).length + (if ([] : List Keyword).isEmpty then 0 else 1) < 30)) = true := by rfl)
  (hline : (apos.endLine == cpos.line) = true := by rfl) (hs : starEach [e] X.env = (false, eval e X.env) :: starEach [] X.env := by rfl) (hplain : (backTo cpos (starEach [] X.env)).any (·.1) = false := by rfl)
  (hsw : swapsWith (.Call (.Attribute (.Name x p) "extend" apos) [e] [] cpos) none pos.line X.env = pure false := by rfl) :
  PuS X G0 B E (.Expr (.Call (.Attribute (.Name x p) "extend" apos) [e] [] cpos) pos) (sExt i g) :=
 PS.imp (ps_expr (pe_bm PySem.F.plainAttrs_list PySem.F.slot_list_extend PySem.F.type_list_extend mt_extD hv (al_cons ha al_nil hs) hbase hfew hline hs hplain) hsw) fun D σ H ⟨G, δ, R, ex, q⟩ => by
  unfold sExt at q
  cases ed : δ[i]? with
  | none => rw [ed] at q; exact q.elim
  | some sl =>
   rw [ed] at q
   cases sl with
   | ow ds =>
    dsimp only at q
    obtain ⟨l, vs, q1, q2, q3, q4, q5⟩ := R.owAt ed
    refine ⟨.ref l, q1, .inl ⟨rfl, vs, SqL.of q2⟩, G, δ, R, ?_⟩
    have q' := thenP ex q
    unfold gCons
    cases eg : g δ with
    | er c => rw [eg] at q'; exact q'
    | st => rw [eg] at q'; exact q'
    | ok d =>
     rw [eg] at q'
     cases ei : itemsD d with
     | none =>
      have q' : OutP (kx X) G0 B E G (match itemsD d with
       | some es => if ds.length + es.length ≤ sizeLine then .nx (δ.set i (.ow (ds ++ es))) else .st
       | none => .st) D := q'
      rw [ei] at q'
      exact q'.elim
     | some es =>
      have q' : OutP (kx X) G0 B E G (match itemsD d with
       | some es => if ds.length + es.length ≤ sizeLine then .nx (δ.set i (.ow (ds ++ es))) else .st
       | none => .st) D := q'
      rw [ei] at q'
      dsimp only at q'
      by_cases hl : ds.length + es.length ≤ sizeLine
      ·rw [if_pos hl] at q'
       intro ws G1 H1 e1 al
       obtain ⟨v, rfl, av⟩ := ArgsM.one al
       have h1 := e1.hh _ _ q2
       have g1 := e1.fr _ _ q2 q4 rfl
       have key : ∃ b zs, v = .ref b ∧ (SqL (kx X) H1 b zs ∨ SqT (kx X) H1 b zs) ∧ DenL (kx X) G1 es zs := by
        cases d with
        | lst ds' => cases ei; obtain ⟨b, zs, z1, z2, z3⟩ := av.lst e1.gh; exact ⟨b, zs, z1, .inl z2, z3⟩
        | tup ds' => cases ei; obtain ⟨b, zs, z1, z2, z3⟩ := av.tup e1.gh; exact ⟨b, zs, z1, .inr z2, z3⟩
        | _ => cases ei
       obtain ⟨b, zs, rfl, sq, dl⟩ := key
       have l1 := q3.length
       have l2 := dl.length
       refine ⟨l, b, vs, zs, rfl, rfl, h1, sq, by omega, ?_⟩
       exact q' σ G1 _ e1.gg (EnvR.wr (R.ext e1) ed q1 h1 ((q3.mono e1.gg).append dl)) (Ext.wr (ex.trans e1) g1 q5)
      ·rw [if_neg hl] at q'
       exact q'.elim
   | no => exact q.elim
   | pu _ => exact q.elim
   | bo _ => exact q.elim
   | od _ _ => exact q.elim
end
noncomputable def keyOf : D → Option Key
 | .int i => some (.inl i)
 | .str x => some (.inr x)
 | _ => none
theorem keyOf_kD (k : Key) : keyOf (kD k) = some k := by cases k <;> rfl
noncomputable def lookD : List (D × D) → Key → Option D
 | [], _ => none
 | (k, d) :: r, j => if keyOf k = some j then some d else lookD r j
noncomputable def hasD (kvs : List (D × D)) (j : Key) : Bool := kvs.any fun p => decide (keyOf p.1 = some j)
noncomputable def putD (kvs : List (D × D)) (j : Key) (v : D) : List (D × D) := if hasD kvs j = true then kvs.map (fun p => if keyOf p.1 = some j then (p.1, v) else p) else kvs ++ [(kD j, v)]
section
variable {K : KA} {G : Hp}
theorem DenK.length : ∀ {kvs : List (D × D)} {es : List (Key × V)}, DenK K G kvs es → kvs.length = es.length
 | [], _, h => by rw [show _ = [] from h]; rfl
 | (_, _) :: _, _, ⟨k, v, r, h1, _, _, h3⟩ => by rw [h1, List.length_cons, List.length_cons, DenK.length h3]
theorem DenK.look : ∀ {kvs : List (D × D)} {es : List (Key × V)}, DenK K G kvs es → ∀ j, (∀ d, lookD kvs j = some d → ∃ v, valV es j = some v ∧ Den K G d v) ∧ (lookD kvs j = none → valV es j = none)
 | [], es, h, j => by
  rw [show es = [] from h]
  exact ⟨fun d e => (by cases e), fun _ => valV_nil⟩
 | (k, d) :: r, es, h, j => by
  obtain ⟨k', v, t, rfl, rfl, dv, dt⟩ := h
  obtain ⟨i1, i2⟩ := DenK.look dt j
  unfold lookD
  rw [keyOf_kD]
  by_cases e : k' = j
  ·subst e
   rw [if_pos rfl]
   exact ⟨fun d' z => ⟨v, valV_pos rfl, by cases z; exact dv⟩, fun z => by cases z⟩
  ·rw [if_neg (fun z => e (Option.some.inj z))]
   refine ⟨fun d' z => ?_, fun z => ?_⟩
   ·obtain ⟨u, q1, q2⟩ := i1 d' z
    exact ⟨u, (valV_neg e).trans q1, q2⟩
   ·exact (valV_neg e).trans (i2 z)
theorem DenK.has : ∀ {kvs : List (D × D)} {es : List (Key × V)}, DenK K G kvs es → ∀ j, hasD kvs j = es.any fun kv => decide (kv.1 = j)
 | [], es, h, j => by rw [show es = [] from h]; rfl
 | (k, d') :: r, es, h, j => by
  obtain ⟨k', u, t, rfl, rfl, du, dt⟩ := h
  have ih := DenK.has dt j
  unfold hasD at ih ⊢
  rw [List.any_cons, List.any_cons, ih]
  congr 1
  rw [keyOf_kD]
  by_cases e : k' = j
  ·simp [e]
  ·rw [decide_eq_false e, decide_eq_false fun z => e (Option.some.inj z)]
theorem DenK.repl {d : D} {v : V} (dv : Den K G d v) : ∀ {kvs : List (D × D)} {es : List (Key × V)}, DenK K G kvs es → ∀ j, DenK K G (kvs.map fun p => if keyOf p.1 = some j then (p.1, d) else p) (es.map fun kv => if kv.1 = j then (kv.1, v) else kv)
 | [], es, h, j => by rw [show es = [] from h]; rfl
 | (k, d') :: r, es, h, j => by
  obtain ⟨k', u, t, rfl, rfl, du, dt⟩ := h
  have ih := DenK.repl dv dt j
  rw [List.map_cons, List.map_cons]
  dsimp only
  rw [keyOf_kD]
  by_cases e : k' = j
  ·rw [if_pos e, if_pos (by rw [e])]
   exact ⟨k', v, _, rfl, rfl, dv, ih⟩
  ·rw [if_neg e, if_neg fun z => e (Option.some.inj z)]
   exact ⟨k', u, _, rfl, rfl, du, ih⟩
theorem DenK.snoc {d : D} {v : V} (dv : Den K G d v) : ∀ {kvs : List (D × D)} {es : List (Key × V)}, DenK K G kvs es → ∀ j, DenK K G (kvs ++ [(kD j, d)]) (es ++ [(j, v)])
 | [], es, h, j => by rw [show es = [] from h]; exact ⟨j, v, [], rfl, rfl, dv, rfl⟩
 | (k, d') :: r, es, h, j => by
  obtain ⟨k', u, t, rfl, rfl, du, dt⟩ := h
  exact ⟨k', u, _, rfl, rfl, du, DenK.snoc dv dt j⟩
theorem DenK.put {d : D} {v : V} (dv : Den K G d v) {kvs : List (D × D)} {es : List (Key × V)} (h : DenK K G kvs es) (j : Key) : DenK K G (putD kvs j d) (putK es j v) := by
 unfold putD putK
 rw [h.has j]
 by_cases e : (es.any fun kv => decide (kv.1 = j)) = true
 ·rw [if_pos e, if_pos e]
  exact h.repl dv j
 ·rw [if_neg e, if_neg e]
  exact h.snoc dv j
end
section
variable {X : Cx} {G0 B : Hp} {E : EK} {e a b : Expr} {es : List Expr} {g h k : En → Res} {pos : Pos}
theorem Arg.dctK {K : KA} {G H : Hp} {kvs : List (D × D)} {v : V} (s : Same G H) (h : Arg K G H (.dct false kvs) v) : ∃ a es, v = .ref a ∧ H a = some (.dK es) ∧ DenK K G kvs es := by
 rcases h with ⟨a, h1, h2⟩ | ⟨_, _, _, z, _⟩ | ⟨t', kvs', a, z, h1, h2⟩
 ·rcases h2 with ⟨_, es, q, r⟩ | ⟨z, _⟩
  ·exact ⟨a, es, h1, s _ _ q, r⟩
  ·cases z
 ·cases z
 ·cases z
  rcases h2 with ⟨_, es, q, r⟩ | ⟨z, _⟩
  ·exact ⟨a, es, h1, q, r⟩
  ·cases z
noncomputable def sSetD (i : Nat) : En → Out := fun δ => .nx (δ.set i (.od false []))
theorem EnvR.setD {K : KA} {G H : Hp} {σ : St} {δ : En} {i : Nat} {a : Addr} (R : EnvR K B G H σ δ) (hn : H a = none) : EnvR K B G (upd H a (.dK [])) (σ.set i (some (.ref a))) (δ.set i (.od false [])) := by
 have e : Ext G H G (upd H a (.dK [])) := Ext.own R.gh _ hn
 have R' := R.ext e
 have gn : G a = none := free_of R.gh hn
 have bn : B a = none := free_of R.bh hn
 have oth : ∀ (j : Nat) s, δ[j]? = some s → s.own = true → σ[j]? = some (some (V.ref a)) → False := fun j s q1 q2 q3 => by
  obtain ⟨o, z1, z2⟩ := R.sl j s q1
  rw [q3] at z1
  cases z1
  obtain ⟨a', z, u, z3, _⟩ := z2.ref q2
  cases z
  rw [hn] at z3
  cases z3
 have at_i : ∀ {s : Sl}, (δ.set i (.od false []))[i]? = some s → s = .od false [] ∧ i < δ.length := fun q => by
  have hl : i < δ.length := by
   have := (List.getElem?_eq_some_iff.mp q).1
   rwa [List.length_set] at this
  rw [List.getElem?_set_self hl] at q
  cases q
  exact ⟨rfl, hl⟩
 refine ⟨R'.bh, R'.gh, by rw [List.length_set, List.length_set]; exact R.len, fun j s q => ?_, fun j s b q1 q2 q3 => ?_, fun j k s t b q1 q2 q3 q4 q5 q6 => ?_, R.gb⟩
 ·by_cases z : i = j
  ·subst z
   obtain ⟨rfl, hl⟩ := at_i q
   exact ⟨some (.ref a), List.getElem?_set_self (by rw [R.len]; exact hl), a, [], rfl, upd_same, rfl⟩
  ·rw [List.getElem?_set_ne z] at q ⊢
   exact R'.sl j s q
 ·by_cases z : i = j
  ·subst z
   obtain ⟨rfl, hl⟩ := at_i q1
   rw [List.getElem?_set_self (by rw [R.len]; exact hl)] at q3
   cases q3
   exact ⟨gn, bn⟩
  ·rw [List.getElem?_set_ne z] at q1 q3
   exact R'.own j s b q1 q2 q3
 ·by_cases zj : i = j
  ·subst zj
   obtain ⟨rfl, hl⟩ := at_i q1
   rw [List.getElem?_set_self (by rw [R.len]; exact hl)] at q5
   cases q5
   by_cases zk : i = k
   ·exact zk
   ·rw [List.getElem?_set_ne zk] at q2 q6
    exact (oth k t q2 q4 q6).elim
  ·rw [List.getElem?_set_ne zj] at q1 q5
   by_cases zk : i = k
   ·subst zk
    obtain ⟨rfl, hl⟩ := at_i q2
    rw [List.getElem?_set_self (by rw [R.len]; exact hl)] at q6
    cases q6
    exact (oth j s q1 q3 q5).elim
   ·rw [List.getElem?_set_ne zk] at q2 q6
    exact R'.dis j k s t b q1 q2 q3 q4 q5 q6
theorem s_setD {i : Nat} {x : Str} {pos' p : Pos} (hs : PS X (.Assign [.Name x pos'] (.Dict [] [] p) pos) (tAsg tDNewK (gName i))) : PuS X G0 B E (.Assign [.Name x pos'] (.Dict [] [] p) pos) (sSetD i) :=
 PS.imp hs fun D σ H ⟨G, δ, R, e, q⟩ => fun a ha => q _ G _ (Same.refl G) (R.setD ha) (e.trans (Ext.own R.gh _ ha))
theorem EnvR.odAt {K : KA} {G H : Hp} {σ : St} {δ : En} {i : Nat} {kvs : List (D × D)} (R : EnvR K B G H σ δ) (h : δ[i]? = some (.od false kvs)) : ∃ a es, σ[i]? = some (some (V.ref a)) ∧ H a = some (.dK es) ∧ DenK K G kvs es ∧ G a = none ∧ B a = none := by
 obtain ⟨o, q1, a, vs, q2, q3, q4⟩ := R.sl i _ h
 subst q2
 obtain ⟨g, b⟩ := R.own i _ a h rfl q1
 exact ⟨a, vs, q1, q3, q4, g, b⟩
theorem EnvR.wrD {K : KA} {G H : Hp} {σ : St} {δ : En} {i : Nat} {kvs kvs' : List (D × D)} {a : Addr} {es es' : List (Key × V)} (R : EnvR K B G H σ δ) (hi : δ[i]? = some (.od false kvs)) (hs : σ[i]? = some (some (V.ref a))) (ha : H a = some (.dK es)) (dl : DenK K G kvs' es') :
  EnvR K B G (upd H a (.dK es')) σ (δ.set i (.od false kvs')) := by
 obtain ⟨gn, bn⟩ := R.own i _ a hi rfl hs
 have hl : i < δ.length := (List.getElem?_eq_some_iff.mp hi).1
 have sb : ∀ {F : Hp}, F a = none → Same F H → Same F (upd H a (.dK es')) := fun fn s b u q => by
  rw [upd_ne (ne_of_none q fn)]; exact s b u q
 have ownEq : ∀ {j : Nat} {s : Sl}, (δ.set i (.od false kvs'))[j]? = some s → s.own = true → ∃ s', δ[j]? = some s' ∧ s'.own = true := fun {j s} q o => by
  by_cases z : i = j
  ·subst z; exact ⟨_, hi, rfl⟩
  ·rw [List.getElem?_set_ne z] at q; exact ⟨s, q, o⟩
 refine ⟨sb bn R.bh, sb gn R.gh, by rw [List.length_set]; exact R.len, fun j s q => ?_, fun j s b q1 q2 q3 => ?_, fun j k s t b q1 q2 q3 q4 q5 q6 => ?_, R.gb⟩
 ·by_cases z : i = j
  ·subst z
   rw [List.getElem?_set_self hl] at q
   cases q
   exact ⟨_, hs, a, es', rfl, upd_same, dl⟩
  ·rw [List.getElem?_set_ne z] at q
   obtain ⟨o, z1, z2⟩ := R.sl j s q
   refine ⟨o, z1, ?_⟩
   cases s with
   | no => trivial
   | pu d => exact z2
   | bo d => exact z2
   | ow fs =>
    obtain ⟨b, us, y1, y2, y3⟩ := z2
    have nb : b ≠ a := by
     rintro rfl
     rw [ha] at y2
     cases y2
    exact ⟨b, us, y1, by rw [upd_ne nb]; exact y2, y3⟩
   | od t fs =>
    cases t with
    | false =>
     obtain ⟨b, us, y1, y2, y3⟩ := z2
     have nb : b ≠ a := by
      rintro rfl
      subst y1
      exact z (R.dis i j _ _ b hi q rfl rfl hs z1)
     exact ⟨b, us, y1, by rw [upd_ne nb]; exact y2, y3⟩
    | true =>
     obtain ⟨b, us, y1, y2, y3⟩ := z2
     have nb : b ≠ a := by
      rintro rfl
      rw [ha] at y2
      cases y2
     exact ⟨b, us, y1, by rw [upd_ne nb]; exact y2, y3⟩
 ·obtain ⟨s', z1, z2⟩ := ownEq q1 q2
  exact R.own j s' b z1 z2 q3
 ·obtain ⟨s', z1, z2⟩ := ownEq q1 q3
  obtain ⟨t', y1, y2⟩ := ownEq q2 q4
  exact R.dis j k s' t' b z1 y1 z2 y2 q5 q6
theorem den_key {K : KA} {G H : Hp} {d : D} {v : V} {k : Key} (h : Arg K G H d v) (e : keyOf d = some k) : v = kV k := by
 cases d with
 | int i => cases e; exact h.int
 | str x => cases e; exact h.str
 | _ => cases e
noncomputable def sDput (i : Nat) (gk gv : En → Res) : En → Out := fun δ => match δ[i]? with
 | some (.od false kvs) => (gv δ).then fun v => (gk δ).then fun k => match keyOf k with
  | some j => if kvs.length < sizeLine then .nx (δ.set i (.od false (putD kvs j v))) else .st
  | none => .st
 | _ => .st
theorem s_dput {i : Nat} {x : Str} {p pos' : Pos} {kxx vx : Expr} (hu : X.A.units + 1 < cLine) (hv : PE X (.Name x p) (tVar i)) (hk : ArE X B E kxx g) (hval : PuE X B E vx h)
  (hs : swapsWith vx (some (.Subscript (.Name x p) kxx pos')) pos.line X.env = pure false := by rfl) : PuS X G0 B E (.Assign [.Subscript (.Name x p) kxx pos'] vx pos) (sDput i g h) :=
 PS.imp (ps_dput hu hv hk hval hs) fun D σ H ⟨G, δ, R, ex, q⟩ => by
  unfold sDput at q
  cases ed : δ[i]? with
  | none => rw [ed] at q; exact q.elim
  | some sl =>
   rw [ed] at q
   cases sl with
   | od t kvs =>
    cases t with
    | true => exact q.elim
    | false =>
     dsimp only at q
     obtain ⟨l, es, q1, q2, q3, q4, q5⟩ := R.odAt ed
     refine ⟨G, δ, R, (thenP ex q).mono fun dv _ q v G1 H1 e1 dn => ⟨.ref l, q1, G1, δ, R.ext e1, (thenP (K := (kx X)) (ex.trans e1) (OutP.same e1.gg q)).mono fun dk _ q y G2 H2 e2 ay => ?_⟩⟩
     have e12 := e1.trans e2
     cases ej : keyOf dk with
     | none => rw [ej] at q; exact q.elim
     | some j =>
      rw [ej] at q
      dsimp only at q
      by_cases hl : kvs.length < sizeLine
      ·rw [if_pos hl] at q
       have h2 := e12.hh _ _ q2
       have g2 := e12.fr _ _ q2 q4 rfl
       rw [den_key ay ej]
       refine ⟨l, _, rfl, DPut.k h2 (by rw [← q3.length]; exact hl), ?_⟩
       exact q σ G2 _ e2.gg (EnvR.wrD (R.ext e12) ed q1 h2 ((q3.mono e12.gg).put (dn.mono e2.gg) j)) (Ext.wr (ex.trans e12) g2 q5)
      ·rw [if_neg hl] at q
       exact q.elim
   | no => exact q.elim
   | pu _ => exact q.elim
   | bo _ => exact q.elim
   | ow _ => exact q.elim
noncomputable def gGet2 (d k x : En → Res) : En → Res := fun δ => (d δ).bind fun dd => match dd with
 | .dct false kvs => (k δ).bind fun dk => (x δ).bind fun dx => match keyOf dk with
  | some j => .ok ((lookD kvs j).getD dx)
  | none => .st
 | _ => .st
theorem pu_get2 {o ke xe : Expr} {apos cpos : Pos} (hu : X.A.units + 1 < cLine) (ho : ArE X B E o g) (hk : ArE X B E ke h) (hx : PuE X B E xe k) (m : M2 X o "get" apos ke xe cpos) :
  PuE X B E (.Call (.Attribute o "get" apos) [ke, xe] [] cpos) (gGet2 g h k) :=
 PE.imp (pe_dget2 hu ho hk hx m) fun σ H Q ⟨G, δ, R, q⟩ => ⟨G, δ, R, (ResP.bind q).mono fun dd _ q v G1 H1 e1 av => by
  cases dd with
  | dct t kvs =>
   cases t with
   | true => exact q.elim
   | false =>
    obtain ⟨l, es, rfl, h1, dl⟩ := Arg.dctK e1.gh av
    refine ⟨l, rfl, .inl ⟨es, .inl h1⟩, G1, δ, R.ext e1, ((ResP.bind q).ext e1).mono fun dk _ q y G2 H2 e2 ay => ⟨G2, δ, R.ext (e1.trans e2), ((ResP.bind q).ext (e1.trans e2)).mono fun dx _ q z G3 H3 e3 dz => ?_⟩⟩
    have e13 := (e1.trans e2).trans e3
    cases ej : keyOf dk with
    | none => rw [ej] at q; exact q.elim
    | some j =>
     rw [ej] at q
     have q : ∀ v G' H', Ext G H G' H' → Den (kx X) G' ((lookD kvs j).getD dx) v → Q v H' := q
     rw [den_key ay ej]
     have h3 := (e2.trans e3).hh _ _ h1
     refine ⟨_, DGet.k h3, ?_⟩
     obtain ⟨k1, k2⟩ := (dl.mono (e2.trans e3).gg).look j
     cases el : lookD kvs j with
     | none =>
      rw [k2 el]
      rw [el] at q
      exact q _ G3 H3 e13 dz
     | some d' =>
      obtain ⟨v', z1, z2⟩ := k1 d' el
      rw [z1]
      rw [el] at q
      exact q _ G3 H3 e13 z2
  | non => exact q.elim
  | bl _ => exact q.elim
  | int _ => exact q.elim
  | str _ => exact q.elim
  | tup _ => exact q.elim
  | lst _ => exact q.elim
  | obj _ _ => exact q.elim
  | fn _ => exact q.elim⟩
end
noncomputable def nst : Expr → Bool
 | .Starred _ _ => false
 | _ => true
theorem star_cons {e : Expr} {es : List Expr} {env : Env} (h : nst e = true) : starEach (e :: es) env = (false, eval e env) :: starEach es env := by
 cases e <;> first | rfl | cases h
theorem star_any : ∀ {es : List Expr} {env : Env} {pos : Pos}, es.all nst = true → (backTo pos (starEach es env)).any (·.1) = false
 | [], _, _, _ => rfl
 | e :: es, env, pos, h => by
  rw [List.all_cons, Bool.and_eq_true] at h
  rw [star_cons h.1]
  show ((false || (backTo pos (starEach es env)).any (·.1))) = false
  rw [star_any h.2]; rfl
theorem star_all : ∀ {es : List Expr} {env : Env} {pos : Pos}, es.all nst = true → (backTo pos (starEach es env)).all (fun x => !x.1) = true
 | [], _, _, _ => rfl
 | e :: es, env, pos, h => by
  rw [List.all_cons, Bool.and_eq_true] at h
  rw [star_cons h.1]
  show ((true && (backTo pos (starEach es env)).all (fun x => !x.1))) = true
  rw [star_all h.2]; rfl
theorem star_two {e f : Expr} {env : Env} {pos : Pos} (h : nst e = true) (h2 : nst f = true) : backTo pos (starEach [e, f] env) = [(false, eval e env), (false, eval f env)] := by
 rw [star_cons h, star_cons h2]; rfl
noncomputable def plainT : Expr → Bool
 | .UnaryOp .Not _ _ => false
 | .BoolOp _ _ _ => false
 | .IfExp _ _ _ _ => false
 | .Compare _ _ _ _ => false
 | _ => true
theorem plainT_eq {a : Expr} {env : Env} (h : plainT a = true) : ∀ whole, isTrue a env whole = (do let v ← whole; standAt a.pos; holding [v] (truthy v)) := by
 intro whole
 cases a <;> first | rfl | (cases h; done) | skip
 rename_i op x p
 cases op <;> first | rfl | cases h
noncomputable def plainI : Expr → Bool
 | .Slice _ _ _ _ => false
 | _ => true
theorem plainI_ix {b : Expr} (h : plainI b = true) : PlainIx b := by
 intro o i
 cases b <;> first | rfl | cases h
noncomputable def noSet : Expr → Bool
 | .Set _ _ _ => false
 | _ => true
theorem noSet_marks {op : CmpOp} {b : Expr} (h : noSet b = true) : behindInMarks op b = false := by
 cases b <;> first | rfl | cases h
theorem noSet_iter {e : Expr} {env : Env} (h : noSet e = true) : ∀ x, foldedSetIterable e env x = pure x := by
 intro x
 cases e <;> first | rfl | cases h
theorem noSet_last {op op' : CmpOp} {b c : Expr} (h : noSet c = true) : lastMarks [op, op'] [b, c] = false := noSet_marks h
noncomputable def noComp : Expr → Bool
 | .ListComp _ _ _ _ => false
 | .SetComp _ _ _ _ => false
 | .DictComp _ _ _ _ _ => false
 | _ => true
theorem noComp_swaps {e : Expr} {t : Option Expr} {n : Nat} {env : Env} (h : noComp e = true) : swapsWith e t n env = pure false := by
 cases e <;> first | rfl | cases h
noncomputable def noCall : Expr → Bool
 | .Call _ _ _ _ => false
 | _ => true
theorem noCall_base {o : Expr} {a : Str} {env : Env} {w : Sem Value} (h : noCall o = true) : attributeBase o a env w = w := by
 cases o <;> first | rfl | cases h
end Pu
end
section
namespace L2
open PySem PySem.Spec PyProof.Rows
structure Noted (fr : List Addr) (e : Addr) (h h' : Heap) : Prop where
 keep : ∀ b o, b ≠ e → b ∉ fr → h.get? b = some o → h'.get? b = some o
 slot : ∀ b o, b ≠ e → h.get? b = some o → ∃ sl, h'.get? b = some { o with slots := sl }
structure Rec (h : Heap) (e T : Addr) (cls : Value) : Prop where
 exc : ∃ oe vs, h.get? e = some oe ∧ oe.cls = cls ∧ oe.data = .fields vs ∧ vs[1]? = some (.ref T)
 tb : ∃ oT ts, h.get? T = some oT ∧ oT.data = .fields ts ∧ ts[3]? = some .none
 ne : T ≠ e
section
variable {M : Model} {A : Around} {E : Value → Shared → Prop} {s : Shared}
theorem note_new {base : Heap} {env : Env} {outer : List Env} {L e : Addr} {oe : Obj} {vs : Array Value} {head : Value} {nx : Bool} {Q : Unit → Shared → Prop}
  (hfr : A.frames = some (env :: outer)) (hl : s.heap.FunFrames base (env :: outer)) (hf : env.frame = some L) (he : s.heap.get? e = some oe) (hd : oe.data = .fields vs) (hsz : 1 < vs.size)
  (h : ∀ h' T, s.heap.objs.size ≤ T → Noted (frs (env :: outer)) e s.heap h' → Rec h' e T oe.cls → Q () { s with heap := h' }) :
  wpAny M A (do let a ← frameOf env; let pl ← entryPlaceOf L nx; let b ← EntryCells.newEntry head a .none (rawInt L) .none pl; setField (.ref e) 1 b) (fun _ s' => wpAny M A (setFlight (.ref e) none) Q E s') E s := by
 have nfr : e ∉ frs (env :: outer) := fun z => by
  obtain ⟨_, u, hu, nf⟩ := hl.mem z
  rw [he] at hu; cases hu; exact nf vs hd
 refine wpAny_bind (wpAny_frameOf_fun hfr hl hf fun h1 k1 => wpAny_bind (wpAny_entryPlaceOf fun pl ipl => ?_))
 unfold EntryCells.newEntry newFields; refine wpAny_bind (wpAny_newObj_type ?_ (ipl.sizeOk5 _ _ _ _ _))
 have g1 : h1.get? e = some oe := (k1.2.1 e nfr).trans he
 generalize hto : ({ cls := Value.type "traceback", dict := none, data := .fields ([head, Value.ref L, Value.none, rawInt L, Value.none] ++ (if pl.isEmpty then List.replicate 6 Value.none else pl)).toArray } : Obj) = tO
 have g2 := Heap.get?_push_of_some (h := h1) tO g1
 refine wpAny_setField g2 hd hsz ?_
 have ne : h1.objs.size ≠ e := Nat.ne_of_gt (Heap.lt_size g1)
 have d3 := Obj.data_mapFields hd (·.setIfInBounds 1 (Value.ref h1.objs.size))
 have g3 := Heap.get?_update_self (Obj.mapFields (·.setIfInBounds 1 (Value.ref h1.objs.size))) g2 (Obj.isFreed_of_fields d3)
 have hfreed : tO.isFreed = false := by rw [← hto]; rfl
 have t3 := (Heap.get?_update_other (h1.push tO) (Obj.mapFields (·.setIfInBounds 1 (Value.ref h1.objs.size))) (Ne.symm ne)).trans (Heap.get?_push_size h1 hfreed)
 have dT : ∃ ts, tO.data = .fields ts ∧ 3 < ts.size := by
  rw [← hto]; exact ⟨_, rfl, by simp only [List.size_toArray, List.length_append, List.length_cons, List.length_nil] <;> omega⟩
 obtain ⟨ts, dT, s3⟩ := dT
 unfold setFlight; refine wpAny_bind (wpAny_field g3 d3 (x := .ref h1.objs.size) (by simp [hsz]) ?_)
 rw [if_pos (show (Value.ref h1.objs.size != Value.none) = true by simp)]
 have all : ∀ b o, b ≠ e → h1.get? b = some o → (((h1.push tO).update e (Obj.mapFields (·.setIfInBounds 1 (Value.ref h1.objs.size)))).update h1.objs.size (Obj.mapFields (·.setIfInBounds 3 ((none : Option Addr).elim Value.none fun f => rawInt f)))).get? b = some o := fun b o hb q => by
  rw [Heap.get?_update_other _ _ (Nat.ne_of_gt (Heap.lt_size q)), Heap.get?_update_other _ _ (Ne.symm hb)]; exact Heap.get?_push_of_some _ q
 refine wpAny_setField t3 dT s3 (h _ h1.objs.size (by rw [k1.1]; exact Nat.le_refl _) ⟨fun b o hb hn q => all b o hb ((k1.2.1 b hn).trans q), fun b o hb q => ?_⟩ ⟨⟨_, _, ?_, ?_, d3, by simp [hsz]⟩, ⟨_, _, Heap.get?_update_self _ t3 (Obj.isFreed_of_fields (Obj.data_mapFields dT _)), Obj.data_mapFields dT _, by simp [s3]⟩, ne⟩)
 ·obtain ⟨sl, q'⟩ := k1.2.2 b o q
  exact ⟨sl, all b _ hb q'⟩
 ·rw [Heap.get?_update_other _ _ ne]; exact g3
 ·exact Obj.cls_mapFields _ _
theorem note {base : Heap} {env : Env} {outer : List Env} {L e : Addr} {oe : Obj} {vs : Array Value} {Q : Unit → Shared → Prop}
  (hfr : A.frames = some (env :: outer)) (hl : s.heap.FunFrames base (env :: outer)) (hf : env.frame = some L) (he : s.heap.get? e = some oe) (hd : oe.data = .fields vs) (hsz : 1 < vs.size)
  (htb : vs[1]? = some .none ∨ ∃ T oT ts, vs[1]? = some (.ref T) ∧ T ≠ e ∧ s.heap.get? T = some oT ∧ oT.data = .fields ts ∧ ts[3]? = some .none)
  (h : ∀ h' T, s.heap.objs.size ≤ T → (∀ b o, b ≠ e → vs[1]? ≠ some (.ref b) → b ∉ frs (env :: outer) → s.heap.get? b = some o → h'.get? b = some o) → (∀ b o, b ≠ e → vs[1]? ≠ some (.ref b) → s.heap.get? b = some o → ∃ sl, h'.get? b = some { o with slots := sl }) → Rec h' e T oe.cls → Q () { s with heap := h' }) :
  wpAny M A (noteFrame (.ref e) env) (fun _ s' => wpAny M A (setFlight (.ref e) none) Q E s') E s := by
 unfold noteFrame
 simp only [hf]
 rcases htb with h1 | ⟨T, oT, ts, h1, hne, hT, hdT, h3⟩
 ·refine wpAny_bind (wpAny_field he hd h1 ?_); rw [if_neg (by decide)]
  exact note_new hfr hl hf he hd hsz fun h' T a b c => h h' T a (fun b' o q _ r z => b.keep b' o q r z) (fun b' o q _ z => b.slot b' o q z) c
 ·refine wpAny_bind (wpAny_field he hd h1 ?_); rw [if_pos (show (Value.ref T != Value.none) = true by simp)]
  refine wpAny_bind (wpAny_field hT hdT h3 ?_); rw [if_neg (show ¬ ((Value.none == rawInt L) = true) by simp [rawInt])]
  refine wpAny_bind (wpAny_setField hT hdT (Array.getElem?_eq_some_iff.mp h3).1 ?_)
  have oth : ∀ b, b ≠ T → (s.heap.update T (Obj.mapFields (·.setIfInBounds 3 Value.none))).get? b = s.heap.get? b := fun b hb => Heap.get?_update_other _ _ (Ne.symm hb)
  have hrec : ∀ b o, s.heap.get? b = some o → (∀ vs, o.data ≠ .fields vs) → b ≠ T := fun b o q nf z => by rw [z, hT] at q; cases q; exact nf ts hdT
  refine note_new hfr (hl.of_keeps fun b o q nf => ⟨o, (oth b (hrec b o q nf)).trans q, rfl⟩) hf ((oth e (Ne.symm hne)).trans he) hd hsz fun h' T' a b c => h h' T' ?_ (fun b' o q r z w => b.keep b' o q z ((oth b' fun y => r (y ▸ h1)).trans w)) (fun b' o q r w => b.slot b' o q ((oth b' fun y => r (y ▸ h1)).trans w)) c
  exact Nat.le_trans (Nat.le_of_eq (Heap.size_update ..).symm) a
theorem leave {base : Heap} {env : Env} {outer : List Env} {L e : Addr} {oe : Obj} {vs : Array Value} {Q : Unit → Shared → Prop}
  (hfr : A.frames = some (env :: outer)) (hl : s.heap.FunFrames base (env :: outer)) (hf : env.frame = some L) (he : s.heap.get? e = some oe) (hd : oe.data = .fields vs) (hsz : 1 < vs.size)
  (htb : vs[1]? = some .none ∨ ∃ T oT ts, vs[1]? = some (.ref T) ∧ T ≠ e ∧ s.heap.get? T = some oT ∧ oT.data = .fields ts ∧ ts[3]? = some .none)
  (h : ∀ h' T, s.heap.objs.size ≤ T → (∀ b o, b ≠ e → vs[1]? ≠ some (.ref b) → b ∉ frs (env :: outer) → s.heap.get? b = some o → h'.get? b = some o) → (∀ b o, b ≠ e → vs[1]? ≠ some (.ref b) → s.heap.get? b = some o → ∃ sl, h'.get? b = some { o with slots := sl }) → Rec h' e T oe.cls → Q () { s with heap := h' }) :
  wpAny M A (leaving env (.ref e)) Q E s := by
 unfold leaving
 exact wpAny_bind (note hfr hl hf he hd hsz htb h)
end
theorem objok_there {P : Program} {w : World} {H : Hp} {h : Heap} {a : Addr} {o : HO} (x : ObjOk P w H h a o) : ∃ u, h.get? a = some u := by
 cases o with
 | lst xs => obtain ⟨_, _, _, _, e⟩ := x; exact ⟨_, e⟩
 | tup xs => obtain ⟨_, _, _, u, e, _⟩ := x; exact ⟨_, e⟩
 | dK kvs => obtain ⟨_, _, _, _, o, _, _, e, _⟩ := x; exact ⟨_, e⟩
 | dT kvs => obtain ⟨_, _, _, _, o, _, _, e, _⟩ := x; exact ⟨_, e⟩
 | set S n => obtain ⟨o, _, _, _, e, _⟩ := x; exact ⟨_, e⟩
 | ins C dx fs => obtain ⟨_, _, _, e, _⟩ := x; exact ⟨_, e⟩
 | own y => exact x
 | xd fs => obtain ⟨_, ⟨_, _, _, e, _⟩, _⟩ := x; exact ⟨_, e⟩
 | rng lo hi => obtain ⟨_, _, _, e⟩ := x; exact ⟨_, e⟩
 | frz ob u => obtain ⟨e, _⟩ := x; exact ⟨_, e⟩
 | tbl q => obtain ⟨ps, e, _⟩ := x; exact ⟨_, e⟩
 | met f y => exact ⟨_, x⟩
 | ext φ => obtain ⟨_, e, _⟩ := x; exact e
theorem hok_none {P : Program} {w : World} {H : Hp} {h : Heap} {a : Addr} (x : HOk P w H h) (e : h.get? a = none) : H a = none := by
 cases q : H a with
 | none => rfl
 | some o =>
  obtain ⟨u, z⟩ := objok_there (x a o q)
  rw [e] at z; cases z
structure ExAt (h0 h : Heap) (H : Hp) (a : Addr) (cls : Value) : Prop where
 new : h0.get? a = none
 free : H a = none
 obj : ∃ oe vs, h.get? a = some oe ∧ oe.cls = cls ∧ oe.data = .fields vs ∧ 1 < vs.size ∧ (vs[1]? = some .none ∨ ∃ T oT ts, vs[1]? = some (.ref T) ∧ h0.get? T = none ∧ T ≠ a ∧ H T = none ∧ h.get? T = some oT ∧ oT.data = .fields ts ∧ ts[3]? = some .none)
noncomputable def CXe (P : Program) (w : World) : CXT := fun outer H s E e s' => ∃ a cls H', e = .ref a ∧ s'.os = s.os ∧ AllBare s'.gens ∧ Un (frs outer) [] H H' s.heap s'.heap ∧ HOk P w H' s'.heap ∧ ExAt s.heap s'.heap H' a cls ∧ E cls none H'
theorem pass_none {P : Program} {w : World} {X : Cx} : Passes (CXe P w) X E0 := fun _ _ _ _ _ _ _ h => by
 obtain ⟨_, _, _, _, _, _, _, _, _, q⟩ := h
 exact q.elim
theorem pass_body {P : Program} {w : World} {K : PySem.W.Frag} {mg : Str → Option Value} {base : Heap} {N : List Str} {qual : Str} {scope : Scope} {f : Addr} {cd : Value} {A : Around} {outer : List Env} {s₀ : Shared} {H₀ : Hp} {E : XK} :
  Passes (CXe P w) (cxOf (CXe P w) P w K mg base N qual scope f cd A outer s₀ H₀ E) E := fun pins σ H s e s' I c => by
 obtain ⟨a, cls, H', rfl, os, bare, un, hok, ex, q⟩ := c
 have J := I.call' os un hok bare (fun b z => absurd z (by simp))
 obtain ⟨oe, vs, he, rfl, hd, hsz, htb⟩ := ex.obj
 show wpAny _ _ (leaving _ (.ref a)) _ _ _
 have tb : vs[1]? = some .none ∨ ∃ T oT ts, vs[1]? = some (.ref T) ∧ T ≠ a ∧ s'.heap.get? T = some oT ∧ oT.data = .fields ts ∧ ts[3]? = some .none := by
  rcases htb with z | ⟨T, oT, ts, z1, _, z2, _, z3, z4, z5⟩
  ·exact .inl z
  ·exact .inr ⟨T, oT, ts, z1, z2, z3, z4, z5⟩
 have tbn : ∀ b, vs[1]? = some (.ref b) → s.heap.get? b = none ∧ H' b = none := fun b z => by
  rcases htb with z' | ⟨T, oT, ts, z1, z0, z2, zf, z3, z4, z5⟩
  ·rw [z'] at z; cases z
  ·rw [z1] at z; cases z; exact ⟨z0, zf⟩
 have nox : ∀ b : Addr, b ∉ (cxOf (CXe P w) P w K mg base N qual scope f cd A outer s₀ H₀ E).ex := fun b z => absurd (show b ∈ ([] : List Addr) from z) (by simp)
 have nw : ∀ b, s.heap.get? b = none → s₀.heap.get? b = none := fun b z => by
  cases r : s₀.heap.get? b with
  | none => rfl
  | some o =>
   obtain ⟨o', r'⟩ := I.base.there b o r (nox b)
   rw [z] at r'; cases r'
 refine leave J.ok.frames J.stack rfl he hd hsz tb fun h' T hT k1 k2 hR => ?_
 have old : ∀ b o, s₀.heap.get? b = some o → b ≠ a ∧ vs[1]? ≠ some (.ref b) := fun b o q => by
  refine ⟨fun z => ?_, fun z => ?_⟩
  ·rw [z, nw a ex.new] at q; cases q
  ·rw [nw b (tbn b z).1] at q; cases q
 have nofr : ∀ b o, s₀.heap.get? b = some o → b ∉ frs outer → b ∉ frs (envOfC qual scope s₀.heap.objs.size f cd :: outer) := fun b o q n z => by
  rcases List.mem_cons.mp (J.stkSub b z) with z | z
  ·have z' : b = s₀.heap.objs.size := z
   exact absurd (z' ▸ Heap.lt_size q) (Nat.lt_irrefl _)
  ·exact n z
 have jb : Un (frs outer) [] H₀ H' s₀.heap s'.heap := J.base
 refine ⟨a, oe.cls, H', rfl, J.os, bare, ⟨fun b o q n hb hx => ?_, fun b o q n hb hx => ?_, jb.free, fun b o q hx => ?_, jb.tups, jb.frzs, jb.tbls⟩, fun b o q => ?_, ⟨nw a ex.new, ex.free, ?_⟩, q⟩
 ·exact k1 b o (old b o q).1 (old b o q).2 (nofr b o q hb) (jb.keep b o q n hb hx)
 ·obtain ⟨sl, e1⟩ := jb.slot b o q n hb hx
  obtain ⟨sl', e2⟩ := k2 b _ (old b o q).1 (old b o q).2 e1
  exact ⟨sl', e2⟩
 ·obtain ⟨o', e1⟩ := jb.there b o q hx
  obtain ⟨sl, e2⟩ := k2 b o' (old b o q).1 (old b o q).2 e1
  exact ⟨_, e2⟩
 ·refine (hok b o q).stay (fun c u hc r => ?_) (fun _ z => z) fun _ _ z => z
  have tr : ∃ v, H' c = some v := by
   rcases hc with rfl | hc
   ·exact ⟨o, q⟩
   ·exact ⟨_, hc⟩
  obtain ⟨v, tr⟩ := tr
  refine k1 c u (fun z => ?_) (fun z => ?_) (fun z => ?_) r
  ·rw [z, ex.free] at tr; cases tr
  ·rw [(tbn c z).2] at tr; cases tr
  ·rw [J.stkFree c z] at tr; cases tr
 ·obtain ⟨⟨oe', vs', x1, x2, x3, x4⟩, ⟨oT, ts, y1, y2, y3⟩, hne⟩ := hR
  exact ⟨oe', vs', x1, x2, x3, (Array.getElem?_eq_some_iff.mp x4).1, .inr ⟨T, oT, ts, x4, Heap.get?_none_of_le (Nat.le_trans J.sz hT), hne, hok.fresh hT, y1, y2, y3⟩⟩
theorem own_at {K : PySem.W.Frag} {h : Heap} {mg : Str → Option Value} {x : Str} {C : Addr} {bmB : List Value} {newId : String} (X : K.In h) (hm : mg x = some (.ref C)) (q : PySem.W.excIn K C bmB newId = true) : OwnCls x C bmB newId mg h := by
 refine ⟨hm, ?_⟩
 unfold PySem.W.excIn at q; split at q
 ·rename_i dd cd sl ho
  split at q
  ·rename_i C' bm k0 k1 k2 k3 n k5 hro hs
   simp only [Bool.and_eq_true, beq_iff_eq, Bool.not_eq_true'] at q; obtain ⟨⟨⟨⟨⟨rfl, rfl⟩, hdel⟩, ht⟩, hk⟩, hni⟩ := q
   obtain ⟨nm, bs, mro, ns, qn, hd, sn, sub, ab, col, del⟩ := cd; dsimp only at hro hdel hk hni
   subst hro hdel
   obtain ⟨l⟩ := sl
   obtain rfl : l = [k0, k1, k2, k3, some (.builtin n), k5] := hs
   exact ⟨bm, ns, nm, qn, bs, hd, sn, sub, ab, col, dd, k0, k1, k2, k3, k5, _, X _ _ ho, .of_isNs (PySem.W.isNs_of_in X hk), PySem.W.nsMap_none_of_in X hk hni, PySem.W.tail_of_in X ht⟩
  ·cases q
 ·cases q
structure ExBase (bmB : List Value) (newId : String) : Prop where
 facts : ∃ Bn inN bmN B nid initId, ExcBaseFacts Bn newId inN bmN ∧ bmB.contains (.type Bn) = true ∧ ExcBaseFacts B nid initId bmB
noncomputable def tRaise (C : Addr) (E : XK) (t : TA) : TS := fun _ σ H => t σ H fun vs H1 => vs.length ≤ sizeLine ∧ E (.ref C) none H1
theorem ps_raise {X : Cx} {x : Str} {C : Addr} {bmB : List Value} {newId : String} {E : XK} {e₀ : Expr} {rest : List Expr} {t : TA} {np cpos pos : Pos} (hc : X.calm = true) (hg : Gl X x) (hm : X.mg x = some (.ref C)) (hx : PySem.W.excIn X.K C bmB newId = true) (B : ExBase bmB newId)
  (hp : Passes (CXe X.prog X.w) X E) (ha : PA X (e₀ :: rest) t) (hdb : (x == ("__debug__" : Str)) = false := by decide) (he : starEach (e₀ :: rest) X.env = (false, eval e₀ X.env) :: starEach rest X.env := by rfl) (hpl : (backTo cpos (starEach rest X.env)).any (·.1) = false := by rfl) :
  PS X (.Raise (some (.Call (.Name x np) (e₀ :: rest) [] cpos)) none pos) (tRaise C E t) := by
 intro pins s σ H D I h
 obtain ⟨Bn, inN, bmN, B', nid, initId, Fn, hBn, FB⟩ := B.facts
 obtain ⟨tl, N, nm, q, bs, hdct, sn, sub, ab, col, dd, k0, k1, k2, k3, k5, mN, hC, hN, hni, T⟩ := (own_at I.ok.mod.kin hm hx).obj
 refine wpAny_Raise_call_subU (C := C) (nm := nm) (q := q) (N := N) (bs := bs) (bm := tl) (hdct := hdct) (sn := sn) (sub := sub) (ab := ab) (col := col) (dd := dd) (k0 := k0) (k1 := k1) (k2 := k2) (k3 := k3) (k5 := k5) Fn hBn FB (mN := mN) (T.hasType FB.hasBase) (I.ok.hd hc)
  (by rw [he]; show (false || (backTo cpos (starEach rest X.env)).any (·.1)) = false; rw [hpl]; rfl) hni (ld_glob I hg hm ⟨rfl, ?_⟩ hdb)
 have h2 := ha cpos pins s σ H _ I h
 rw [he] at h2 ⊢
 refine Calls.evalArgs_plain (wpAny_mono h2 (fun us s2 ⟨vs, H1, I1, r, hl, qE⟩ => ⟨rfl, ?_, I1.bk _ _ hC, hN.keeps I1.bk, T.keeps I1.bk, fun h' e made => ?_⟩) fun _ _ y => y)
 ·show us.length ≤ sizeLine
  rw [← r.length]; exact hl
 ·obtain ⟨tt, ge, _, _⟩ := made.there
  refine hp pins σ H1 s2 (.ref e) _ I1 ⟨e, .ref C, H1, rfl, rfl, I1.bare, Un.kept made.keeps, I1.hok.kept made.keeps, ⟨made.new, hok_none I1.hok made.new, ⟨_, _, ge, rfl, rfl, by simp, .inl (by simp)⟩⟩, qE⟩
section
variable {X : Cx} {pins : List (Addr × Obj)} {σ : St} {H : Hp} {s : Shared}
theorem Inv.noted (J : Inv X pins σ H s) {h' : Heap} (ch : Addr → Prop) (hch : ∀ b, ch b → X.s₀.heap.get? b = none ∧ H b = none ∧ b ≠ X.env.locals ∧ (∀ x c, X.env.cells.lookup x = some c → c ≠ b) ∧ ∀ p ∈ X.pn ++ pins, p.1 ≠ b)
  (k1 : ∀ b o, ¬ ch b → b ∉ frs X.stack → s.heap.get? b = some o → h'.get? b = some o) (k2 : ∀ b o, ¬ ch b → s.heap.get? b = some o → ∃ sl, h'.get? b = some { o with slots := sl }) : Inv X pins σ H { s with heap := h' } := by
 have nch : ∀ b o, X.s₀.heap.get? b = some o → ¬ ch b := fun b o e z => by rw [(hch b z).1] at e; cases e
 have nst : ∀ b, b ≠ X.env.locals → b ∉ X.fs → b ∉ frs X.stack := fun b h1 h2 z => (List.mem_cons.mp (J.stkSub b z)).elim h1 h2
 have neL : ∀ b o, X.s₀.heap.get? b = some o → b ≠ X.env.locals := fun b o e => Nat.ne_of_lt (Nat.lt_of_lt_of_le (Heap.lt_size e) J.ok.above)
 have cellK : ∀ x c, X.env.cells.lookup x = some c → ∀ v, s.heap.IsCell c v → h'.IsCell c v := fun x c e v ⟨o, ho, hd⟩ => by
  obtain ⟨sl, q⟩ := k2 c o (fun z => (hch c z).2.2.2.1 x c e rfl) ho
  exact ⟨_, q, hd⟩
 refine ⟨J.ok, J.os, J.bare, ⟨fun b o e n hb hx => ?_, fun b o e n hb hx => ?_, J.base.free, fun b o e hx => ?_, J.base.tups, J.base.frzs, J.base.tbls⟩, ?_, fun x c e => ?_, J.free, J.freeC, fun p hp => ?_, fun b o q => ?_, J.len⟩
 ·exact k1 b o (nch b o e) (nst b (neL b o e) hb) (J.base.keep b o e n hb hx)
 ·obtain ⟨sl, e1⟩ := J.base.slot b o e n hb hx
  obtain ⟨sl', e2⟩ := k2 b _ (nch b o e) e1
  exact ⟨sl', e2⟩
 ·obtain ⟨o', e1⟩ := J.base.there b o e hx
  obtain ⟨sl, e2⟩ := k2 b o' (nch b o e) e1
  exact ⟨_, e2⟩
 ·obtain ⟨m, ⟨o, es, ep, ho, r⟩, hl⟩ := J.loc
  obtain ⟨sl, q⟩ := k2 X.env.locals o (fun z => (hch _ z).2.2.1 rfl) ho
  refine ⟨m, ⟨_, es, ep, q, r⟩, fun i x v e1 e2 e3 => ?_⟩
  obtain ⟨u, rv, l⟩ := hl i x v e1 e2 e3
  refine ⟨u, rv, ?_⟩
  rcases l with l | ⟨k, c, e, z⟩
  ·exact .inl l
  ·exact .inr ⟨k, c, e, cellK x c e _ z⟩
 ·obtain ⟨v, z⟩ := J.cell x c e
  exact ⟨v, cellK x c e v z⟩
 ·obtain ⟨a1, a2, a3, a4, a5⟩ := J.pin p hp
  exact ⟨k1 p.1 p.2 (fun z => (hch _ z).2.2.2.2 p hp rfl) (nst _ a3 a4) a1, a2, a3, a4, a5⟩
 ·refine (J.hok b o q).stay (fun c u hc r => ?_) (fun _ z => z) fun _ _ z => z
  have tr : ∃ v, H c = some v := by
   rcases hc with rfl | hc
   ·exact ⟨o, q⟩
   ·exact ⟨_, hc⟩
  obtain ⟨v, tr⟩ := tr
  refine k1 c u (fun z => ?_) (fun z => ?_) r
  ·rw [(hch c z).2.1] at tr; cases tr
  ·rw [J.stkFree c z] at tr; cases tr
noncomputable abbrev Cx.marked (X : Cx) (a : Addr) : Cx := { X with A := X.A.mark (some (.ref a)), calm := false }
theorem Cx.Ok.marked (ok : X.Ok) (a : Addr) : (X.marked a).Ok :=
 ⟨ok.mod, ok.kind, ok.glob, ok.blt, ok.above, ok.inj, ok.has, ok.cab, fun z => absurd (show false = true from z) (by decide), ok.frames, ok.stk, ok.exf, ok.bs, ok.bsz, ok.noex, ok.exfs, ok.funs, ok.frf⟩
theorem Inv.marked (I : Inv X pins σ H s) (a : Addr) : Inv (X.marked a) pins σ H s := ⟨I.ok.marked a, I.os, I.bare, I.base, I.loc, I.cell, I.free, I.freeC, I.pin, I.hok, I.len⟩
theorem Inv.unmarked {a : Addr} (ok : X.Ok) (I : Inv (X.marked a) pins σ H s) : Inv X pins σ H s := ⟨ok, I.os, I.bare, I.base, I.loc, I.cell, I.free, I.freeC, I.pin, I.hok, I.len⟩
theorem ExAt.tb {h0 h : Heap} {H : Hp} {a : Addr} {cls : Value} (x : ExAt h0 h H a cls) : ∃ oe vs, h.get? a = some oe ∧ oe.cls = cls ∧ oe.data = .fields vs ∧ 1 < vs.size ∧ (vs[1]? = some .none ∨ ∃ T oT ts, vs[1]? = some (.ref T) ∧ T ≠ a ∧ h.get? T = some oT ∧ oT.data = .fields ts ∧ ts[3]? = some .none) ∧ ∀ b, vs[1]? = some (.ref b) → h0.get? b = none ∧ H b = none := by
 obtain ⟨oe, vs, he, hc, hd, hsz, htb⟩ := x.obj
 refine ⟨oe, vs, he, hc, hd, hsz, ?_, fun b z => ?_⟩
 ·rcases htb with z | ⟨T, oT, ts, z1, _, z2, _, z3, z4, z5⟩
  ·exact .inl z
  ·exact .inr ⟨T, oT, ts, z1, z2, z3, z4, z5⟩
 ·rcases htb with z' | ⟨T, oT, ts, z1, z0, z2, zf, z3, z4, z5⟩
  ·rw [z'] at z; cases z
  ·rw [z1] at z; cases z; exact ⟨z0, zf⟩
theorem Inv.young {H1 : Hp} {s1 : Shared} (I : Inv X pins σ H1 s1) (hx : X.ex = []) {b : Addr} (z : s1.heap.get? b = none) : X.s₀.heap.get? b = none ∧ b ≠ X.env.locals ∧ (∀ x c, X.env.cells.lookup x = some c → c ≠ b) ∧ ∀ p ∈ X.pn ++ pins, p.1 ≠ b := by
 refine ⟨?_, ?_, fun x c e y => ?_, fun p hp y => ?_⟩
 ·cases r : X.s₀.heap.get? b with
  | none => rfl
  | some o =>
   obtain ⟨o', r'⟩ := I.base.there b o r (by rw [hx]; simp)
   rw [z] at r'; cases r'
 ·rintro rfl
  obtain ⟨m, ⟨o, es, ep, ho, r⟩, hl⟩ := I.loc
  rw [z] at ho; cases ho
 ·subst y
  obtain ⟨v, o, ho, _⟩ := I.cell x c e
  rw [z] at ho; cases ho
 ·subst y
  rw [(I.pin p hp).1] at z; cases z
theorem caught {H1 H' : Hp} {s1 s' : Shared} {a : Addr} {cls : Value} {Q : Unit → Shared → Prop} {E : Value → Shared → Prop} (hstk : X.stack = X.env :: X.outer) (hfr : X.env.frame = some X.env.locals) (hx : X.ex = []) (I : Inv X pins σ H1 s1) (J : Inv X pins σ H' s') (un : Un (frs X.stack) [] H1 H' s1.heap s'.heap) (ex : ExAt s1.heap s'.heap H' a cls)
  (h : ∀ h', Inv X pins σ H' { s' with heap := h' } → ExAt s1.heap h' H' a cls → Q () { s' with heap := h' }) :
  wpAny (model X.prog X.w) X.A (noteFrame (.ref a) X.env) (fun _ s2 => wpAny (model X.prog X.w) X.A (setFlight (.ref a) none) Q E s2) E s' := by
 obtain ⟨oe, vs, he, rfl, hd, hsz, tb, tbn⟩ := ex.tb
 have fr := J.ok.frames
 have st := J.stack
 rw [hstk] at fr st
 refine note fr st hfr he hd hsz tb fun h' T hT k1 k2 hR => h h' ?_ ?_
 ·refine J.noted (fun b => b = a ∨ vs[1]? = some (.ref b)) (fun b hb => ?_) (fun b o hb hn q => k1 b o (fun z => hb (.inl z)) (fun z => hb (.inr z)) (by rw [← hstk]; exact hn) q) fun b o hb q => k2 b o (fun z => hb (.inl z)) (fun z => hb (.inr z)) q
  rcases hb with rfl | hb
  ·have y := I.young hx ex.new
   exact ⟨y.1, ex.free, y.2⟩
  ·have y := I.young hx (tbn b hb).1
   exact ⟨y.1, (tbn b hb).2, y.2⟩
 ·obtain ⟨⟨oe', vs', x1, x2, x3, x4⟩, ⟨oT, ts, y1, y2, y3⟩, hne⟩ := hR
  have hz : s1.heap.get? T = none := by
   cases r : s1.heap.get? T with
   | none => rfl
   | some o =>
    obtain ⟨o', r'⟩ := un.there T o r (by simp)
    exact absurd (Nat.lt_of_lt_of_le (Heap.lt_size r') hT) (Nat.lt_irrefl _)
  exact ⟨ex.new, ex.free, oe', vs', x1, x2, x3, (Array.getElem?_eq_some_iff.mp x4).1, .inr ⟨T, oT, ts, x4, hz, hne, J.hok.fresh hT, y1, y2, y3⟩⟩
theorem flight {M : Model} {A' : Around} {H1 H' : Hp} {s1 s' : Shared} {a : Addr} {cls : Value} {Q : Unit → Shared → Prop} {E : Value → Shared → Prop} (hx : X.ex = []) (I : Inv X pins σ H1 s1) (J : Inv X pins σ H' s') (ex : ExAt s1.heap s'.heap H' a cls)
  (h : ∀ h', Inv X pins σ H' { s' with heap := h' } → ExAt s1.heap h' H' a cls → Q () { s' with heap := h' }) : wpAny M A' (setFlight (.ref a) none) Q E s' := by
 obtain ⟨oe, vs, he, hc, hd, hsz, tb, tbn⟩ := ex.tb
 unfold setFlight
 rcases tb with h1 | ⟨T, oT, ts, h1, hne, hT, hdT, h3⟩
 ·refine wpAny_bind (wpAny_field he hd h1 ?_); rw [if_neg (by decide)]
  exact wpAny_pure (h s'.heap J ex)
 ·refine wpAny_bind (wpAny_field he hd h1 ?_); rw [if_pos (show (Value.ref T != Value.none) = true by simp)]
  have s3 : 3 < ts.size := (Array.getElem?_eq_some_iff.mp h3).1
  refine wpAny_setField hT hdT s3 (h _ ?_ ?_)
  ·have y := I.young hx (tbn T h1).1
   refine J.noted (fun b => b = T) (fun b hb => ?_) (fun b o hb _ q => ?_) fun b o hb q => ⟨o.slots, ?_⟩
   ·subst hb; exact ⟨y.1, (tbn b h1).2, y.2⟩
   ·rw [Heap.get?_update_other _ _ (Ne.symm hb)]; exact q
   ·rw [Heap.get?_update_other _ _ (Ne.symm hb)]; exact q
  ·refine ⟨ex.new, ex.free, oe, vs, ?_, hc, hd, hsz, .inr ⟨T, _, _, h1, (tbn T h1).1, hne, (tbn T h1).2, Heap.get?_update_self _ hT (Obj.isFreed_of_fields (Obj.data_mapFields hdT _)), Obj.data_mapFields hdT _, by simp [s3]⟩⟩
   rw [Heap.get?_update_other _ _ hne]; exact he
end
theorem SP.unmarked {X : Cx} {pins : List (Addr × Obj)} {a : Addr} {D : Ends} {f : Flow} {s' : Shared} (ok : X.Ok) (h : SP (X.marked a) pins D f s') : SP X pins D f s' := by
 cases f with
 | next => obtain ⟨σ', H', I, q⟩ := h; exact ⟨σ', H', I.unmarked ok, q⟩
 | brk => obtain ⟨σ', H', I, q⟩ := h; exact ⟨σ', H', I.unmarked ok, q⟩
 | cont => obtain ⟨σ', H', I, q⟩ := h; exact ⟨σ', H', I.unmarked ok, q⟩
 | ret u => obtain ⟨v, σ', H', I, r, q⟩ := h; exact ⟨v, σ', H', I.unmarked ok, r, q⟩
noncomputable def tTry (sp : Sp) (K : PySem.W.Frag) (Cy : Addr) (t : TA) (u : TS) : TS := fun D σ H => t σ H fun vs H1 => sp vs H1 (fun _ H2 => D.nx σ H2) fun cls _ H2 => PySem.W.exmOne K cls (.ref Cy) = some true ∧ u D σ H2
section
variable {X : Cx} {k : Nat} {f Cy : Addr} {fd : FuncData} {ps : List Str} {sp : Sp} {x y : Str} {p yp cpos epos hpos pos : Pos} {e : Expr} {es : List Expr} {t : TA} {u : TS} {b₀ : Stmt} {suite : List Stmt}
theorem try_call {pins : List (Addr × Obj)} {σ : St} {H : Hp} {s : Shared} {Q : VK} {E1 : XK} {Qf : Value → Shared → Prop} {Ef : Value → Shared → Prop} (F : FnOk X.prog X.w X.K X.mg X.base (CXe X.prog X.w) k f fd ps sp) (hr : Room k X.A) (hg : Gl X x) (hm : X.mg x = some (.ref f)) (hk : PySem.W.keepIn X.K (.ref f) = true) (hb : Binds X.K fd ps [])
  (ha : PA X.nox (e :: es) t) (I : Inv X pins σ H s) (h : t σ H fun vs H1 => sp vs H1 Q E1) (hdb : (x == ("__debug__" : Str)) = false) (he : starEach (e :: es) X.env = (false, eval e X.env) :: starEach es X.env) (hpl : (backTo cpos (starEach es X.env)).any (·.1) = false)
  (hq : ∀ v H2 u s2, Inv X pins σ H2 s2 → RelV v u → Q v H2 → Qf u s2) (hx : ∀ H1 s1 H2 s2 a cls, Inv X pins σ H1 s1 → Inv X pins σ H2 s2 → Un (frs X.stack) [] H1 H2 s1.heap s2.heap → ExAt s1.heap s2.heap H2 a cls → E1 cls none H2 → Ef (.ref a) s2) :
  wpAny (model X.prog X.w) X.A (eval (.Call (.Name x p) (e :: es) [] cpos) X.env) Qf Ef s := by
 refine wpAny_Call_Name_kw (ld_glob I hg hm ?_ hdb)
 refine PySem.W.callWith_K (h₀ := X.base) I.ok.mod.kin hk (wpAny_mono (ha cpos pins s σ H _ (I.wish _) h) (fun us s1 ⟨vs, H1, I1, r, q⟩ => ⟨I1.kIn, ?_⟩) fun _ _ z => False.elim z) he hpl
 have I1 := I1.unwish
 have hl : us.length = ps.length := by rw [← r.length]; exact F.len _ _ _ _ q
 have hbd := hb s1 us I1.kIn (by rw [List.append_nil]; exact hl)
 rw [List.append_nil] at hbd
 refine wpAny_call (codeAny_mono (F.run X.A X.stack s1 H1 ⟨us, []⟩ us vs Q E1 hr I1.env0 hbd r q) fun rs s2 z => ?_)
 cases rs with
 | ok fl =>
  cases fl with
  | ret u =>
   obtain ⟨v, H2, I2, rv, qv⟩ := I1.after z
   exact hq v H2 u s2 I2 rv qv
  | next => exact False.elim z
  | brk => exact False.elim z
  | cont => exact False.elim z
 | error ev =>
  obtain ⟨a, cls, H2, rfl, os, bare, un, hok, ex, qE⟩ := z
  exact hx H1 s1 H2 s2 a cls I1 (I1.call' os un hok bare fun b z => absurd z (by simp)) un ex qE
theorem ps_try0 (F : FnOk X.prog X.w X.K X.mg X.base (CXe X.prog X.w) k f fd ps sp) (hr : Room k X.A) (hg : Gl X x) (hm : X.mg x = some (.ref f)) (hk : PySem.W.keepIn X.K (.ref f) = true) (hb : Binds X.K fd ps []) (ha : PA X.nox (e :: es) t)
  (hstk : X.stack = X.env :: X.outer) (hfr : X.env.frame = some X.env.locals) (hex : X.ex = []) (hgy : Gl X y) (hmy : X.mg y = some (.ref Cy)) (hs : ∀ a, PSs (X.marked a).nox (b₀ :: suite) u) (hsw : swapsWith (.Call (.Name x p) (e :: es) [] cpos) none epos.line X.env = pure false := by rfl)
  (hdb : (x == ("__debug__" : Str)) = false := by decide) (hdy : (y == ("__debug__" : Str)) = false := by decide) (he : starEach (e :: es) X.env = (false, eval e X.env) :: starEach es X.env := by rfl) (hpl : (backTo cpos (starEach es X.env)).any (·.1) = false := by rfl) :
  PS X (.Try [.Expr (.Call (.Name x p) (e :: es) [] cpos) epos] [.ExceptHandler (some (.Name y yp)) none (b₀ :: suite) hpos] [] [] pos) (tTry sp X.K Cy t u) := by
 intro pins s σ H D I h
 refine wpAny_Try_except (wpAny_execs_cons (wpAny_Expr_any (try_call F hr hg hm hk hb ha I h hdb he hpl (fun v H2 w s2 I2 _ q => ?_) fun H1 s1 H2 s2 a cls I1 J un ex ⟨hc, hu⟩ => ?_) I.quiet hsw))
 ·exact wpAny_execs_nil (wpAny_execs_nil ⟨σ, H2, I2, q⟩)
 ·refine caught hstk hfr hex I1 J un ex fun h' J' ex' => ?_
  refine wpAny_handleBy_cons (codeAny_handlers_test (ld_glob (X := X.marked a) (J'.marked a) hgy hmy ?_ hdy)) (by intro q; cases q)
  have LT : PySem.W.Looks (model X.prog X.w) h' (typeOf (.ref a)) cls := by
   obtain ⟨oe, vs, g, rfl, _⟩ := ex'.obj
   exact (PySem.W.Looks.ld g).andThen .now
  refine PySem.W.exm_one J'.kIn LT hc _ _ _ _ (fun _ _ q => q) (codeAny_handlers_suite (flight hex I1 J' ex' fun h2 J2 ex2 => ?_))
  exact wpAny_mono (hs a pins _ σ H2 D ((J2.marked a).wish _) hu) (fun fl s4 q => (SP.unwish q).unmarked I.ok) fun _ _ z => False.elim z
end
section
open PySem.W PySem.Calls
variable {K : PySem.W.Frag} {x t c : Value} {H : Heap → Prop}
theorem isi_ans (ty : ∀ (M : Model) (h : Heap), K.In h → H h → PySem.W.Looks M h (typeOf x) t) (e : kitCls K t c = some true) (q : (t == c) = false) : Answers (fun s => K.In s.heap ∧ H s.heap) x c true := by
 intro dep tk prog w A R s hs
 obtain ⟨h0, g, d, tt, os⟩ := s; obtain ⟨⟨X, p⟩, hq⟩ := hs
 have LT := ty (model prog w) h0 X p
 unfold Builtin.«isinstance.nested»; refine wpAny_bind (LT.at ?_); rw [if_neg (by rw [q]; decide)]
 obtain ⟨hty, his, hsub⟩ := kit_cls (M := model prog w) X e; have LI : PySem.W.Looks (model prog w) h0 (isInstance x c) true := LT.andThen hsub
 refine wpAny_bind (hty.at ?_); rw [if_pos (by decide)]
 k_delta "plainIsInstance"; refine wpAny_bind (wpAny_bind (his.at ?_))
 simp only [Bool.not_true, Bool.false_eq_true, if_false]; refine wpAny_bind (LI.at ?_)
 first | exact wpAny_pure (wpAny_pure (hq tt)) | (simp only [if_true]; first | exact wpAny_pure (wpAny_pure (hq tt)) | exact wpAny_pure (hq tt))
theorem isi_yes {prog : Program} {w : World} {A : Around} {E : Value → Shared → Prop} {s : Shared} {Q : Value → Shared → Prop} (ty : ∀ (M : Model) (h : Heap), K.In h → H h → PySem.W.Looks M h (typeOf x) t) (e : kitCls K t c = some true) (q : (t == c) = false)
  (X : K.In s.heap) (p : H s.heap) (hx : x ≠ .builtin "__main__.__loader__#opaque") (h : ∀ tk, Q (.bool true) { s with toks := tk }) : wpAny (model prog w) A (call (.builtin "isinstance") [x, c]) Q E s :=
 call_isinstance (S := fun _ R s => (K.In s.heap ∧ H s.heap) ∧ ∀ tk, R (.ok (.ret (.bool true))) { s with toks := tk }) (fun prog w A R s hs => isinstance_outer (isi_ans ty e q 0 _ prog w A R s hs) hx) ⟨⟨X, p⟩, h⟩
end
section
variable {X : Cx} {pins : List (Addr × Obj)} {σ : St} {H : Hp} {s : Shared} {a : Addr} {oe : Obj}
noncomputable abbrev Cx.held (X : Cx) (a : Addr) (oe : Obj) : Cx := { X with A := X.A.mark (some (.ref a)), calm := false, pn := (a, oe) :: X.pn }
theorem Cx.Ok.held (ok : X.Ok) (a : Addr) (oe : Obj) : (X.held a oe).Ok :=
 ⟨ok.mod, ok.kind, ok.glob, ok.blt, ok.above, ok.inj, ok.has, ok.cab, fun z => absurd (show false = true from z) (by decide), ok.frames, ok.stk, ok.exf, ok.bs, ok.bsz, ok.noex, ok.exfs, ok.funs, ok.frf⟩
theorem Inv.held (I : Inv X pins σ H s) (g : s.heap.get? a = some oe) (f : H a = none) (n : a ≠ X.env.locals) (nf : a ∉ X.fs) (nc : ∀ v, oe.data ≠ .cell v) : Inv (X.held a oe) pins σ H s :=
 ⟨I.ok.held a oe, I.os, I.bare, I.base, I.loc, I.cell, I.free, I.freeC, fun p hp => by
  rcases List.mem_cons.mp (show p ∈ (a, oe) :: (X.pn ++ pins) from hp) with rfl | hp
  ·exact ⟨g, f, n, nf, nc⟩
  ·exact I.pin p hp, I.hok, I.len⟩
theorem Inv.unheld (ok : X.Ok) (I : Inv (X.held a oe) pins σ H s) : Inv X pins σ H s := ⟨ok, I.os, I.bare, I.base, I.loc, I.cell, I.free, I.freeC, fun p hp => I.pin p (List.mem_cons_of_mem _ hp), I.hok, I.len⟩
theorem call_isE {T : String} {E : Value → Shared → Prop} (e : PySem.W.kitCls X.K oe.cls (.type T) = some true) (q : (oe.cls == .type T) = false) : CallR ((X.held a oe).wish E) (.builtin "isinstance") (fun xs H Q => xs = [.ref a, .ty T] ∧ Q (.bl true) H) := by
 intro pins s σ H xs us Q I r h
 obtain ⟨rfl, h⟩ := h
 obtain ⟨u, u2, rfl, ru, ru2⟩ := vals2 r
 cases ru; cases ru2
 have g := (I.pin (a, oe) List.mem_cons_self).1
 exact isi_yes (K := X.K) (H := fun h => h.get? a = some oe) (fun M h _ g => (PySem.W.Looks.ld g).andThen .now) e q I.kIn g (fun z => nomatch z) fun tk => ⟨.bl true, H, I.tok tk, rfl, h⟩
theorem unbind_ok {M : Model} {A : Around} {E : Value → Shared → Prop} {i : Nat} {n : Str} {pos : Pos} {Q : Unit → Shared → Prop} (I : Inv X pins σ H s) (hN : X.N.Nodup) (hi : X.N[i]? = some n) (hk : X.env.scope.names.lookup n = some .local)
  (h : ∀ s', Inv X pins (σ.set i none) H s' → Q () s') : wpAny M A (do bindName X.env n .none; unbindBehindTheSuite X.env n pos) Q E s := by
 obtain ⟨m, hn, hl⟩ := id I.loc
 have hiσ : i < σ.length := by rw [I.len]; exact (List.getElem?_eq_some_iff.mp hi).1
 have old : ∀ b o, X.s₀.heap.get? b = some o → b ≠ X.env.locals := fun b o e => Nat.ne_of_lt (Nat.lt_of_lt_of_le (Heap.lt_size e) I.ok.above)
 have cne := I.cne
 refine wpAny_nameGoes_keeps hk hn (by rw [I.ok.kind]; rfl) fun h' v hn' hs => h _ ⟨I.ok, I.os, I.bare, ⟨fun b o e n hb hx => (hs.2 b (old b o e)).trans (I.base.keep b o e n hb hx), fun b o e n hb hx => ?_, I.base.free, fun b o e hx => ?_, I.base.tups, I.base.frzs, I.base.tbls⟩, ⟨_, hn', fun j y v' e1 e2 e3 => ?_⟩, fun y c e => ?_, I.free, I.freeC, fun p hp => ?_, fun b ob e => ?_, by simpa using I.len⟩
 ·obtain ⟨sl, e1⟩ := I.base.slot b o e n hb hx
  exact ⟨sl, (hs.2 b (old b o e)).trans e1⟩
 ·obtain ⟨o', e1⟩ := I.base.there b o e hx
  exact ⟨o', (hs.2 b (old b o e)).trans e1⟩
 ·by_cases hj : j = i
  ·subst hj
   rw [List.getElem?_set_self hiσ] at e2; cases e2
  ·rw [List.getElem?_set_ne (Ne.symm hj)] at e2
   obtain ⟨u', r', q⟩ := hl j y v' e1 e2 e3
   refine ⟨u', r', ?_⟩
   rcases q with ⟨k, e⟩ | ⟨k, c, e, z⟩
   ·have : y ≠ n := fun e => hj (nodup_ix hN e1 (e ▸ hi))
    exact .inl ⟨k, by simp [this, e]⟩
   ·exact .inr ⟨k, c, e, z.sameBut hs (cne y c e)⟩
 ·obtain ⟨w', z⟩ := I.cell y c e
  exact ⟨w', z.sameBut hs (cne y c e)⟩
 ·obtain ⟨e, n, ne, nf, d⟩ := I.pin p hp
  exact ⟨(hs.2 p.1 ne).trans e, n, ne, nf, d⟩
 ·refine (I.hok b ob e).stay (fun c w' hc q => (hs.2 c ?_).trans q) (fun _ q => q) fun _ _ q => q
  rintro rfl
  rcases hc with rfl | hc
  ·rw [I.free] at e; cases e
  ·rw [I.free] at hc; cases hc
end
section
variable {X : Cx} {k : Nat} {f Cy : Addr} {fd : FuncData} {ps : List Str} {sp : Sp} {x y r n xT : Str} {T : String} {i j : Nat} {p yp cpos epos hpos pos rp rp2 ip isp np tp icpos ccpos bpos apos : Pos} {e : Expr} {es : List Expr} {t : TA}
end
section
variable {P : Program} {w : World} {K : PySem.W.Frag} {mg : Str → Option Value} {base : Heap}
theorem Fun.okE {x qual : Str} {st : Stmt} {f : Addr} {fd : FuncData} {N ps : List Str} {k : Nat} {sp : Sp} (F : Fun K x qual st f fd) (S : FnScope N ps (defScope st)) (len : ∀ vs H Q E, sp vs H Q E → vs.length = ps.length)
  (hbody : ∀ (cdv : Value) (A : Around) (outer : List Env) (s : Shared) (H : Hp) (vs : List V) (Q : VK) (E : XK), fd.code = cdv → Room k (A.deeper (envOfC qual (defScope st) s.heap.objs.size f cdv)) → sp vs H Q E →
   ∃ t, PSs (cxOf (CXe P w) P w K mg base N qual (defScope st) f cdv A outer s H E) (defBody st) t ∧ t { nx := fun _ H' => Q .non H', rt := Q } (start N vs) H) : FnOk P w K mg base (CXe P w) (k + 1) f fd ps sp := by
 obtain ⟨oc, od, kV, doc, pm, an, cdv, ct, osl, rfl, lk, hcd⟩ := F.ex
 exact fn_of lk hcd S len fun A outer s H vs Q E hr hsp => hbody cdv A outer s H vs Q E rfl hr hsp
theorem FnOk.calm {k : Nat} {f : Addr} {fd : FuncData} {ps : List Str} {sp : Sp} (F : FnOk P w K mg base (CXe P w) k f fd ps sp) : FnOk P w K mg base CX0 k f fd ps (fun vs H Q _ => sp vs H Q E0) := by
 refine ⟨fun vs H Q E h => F.len vs H Q E0 h, fun A outer s H args us vs Q E hr e0 hb r h => codeAny_mono (F.run A outer s H args us vs Q E0 hr e0 hb r h) fun rs s' z => ?_⟩
 cases rs with
 | ok fl => cases fl <;> exact z
 | error e =>
  obtain ⟨_, _, _, _, _, _, _, _, _, q⟩ := z
  exact q.elim
end
end L2
namespace Pu
open PySem PySem.Spec PyProof.Rows L2
theorem fn_puE {P : Program} {w : World} {Kf : PySem.W.Frag} {mg : Str → Option Value} {base : Heap} {x qual : Str} {st : Stmt} {f : Addr} {fd : FuncData} {N ps : List Str} {k : Nat} {ms : List Bool} {Fb : En → Out} (F : Fun Kf x qual st f fd) (S : FnScope N ps (defScope st)) (hm : ms.length = ps.length)
  (hbody : ∀ (cdv : Value) (A : Around) (outer : List Env) (s : Shared) (H G0 : Hp) (E : XK), fd.code = cdv → Room k (A.deeper (envOfC qual (defScope st) s.heap.objs.size f cdv)) →
   PuSs (cxOf (CXe P w) P w Kf mg base N qual (defScope st) f cdv A outer s H E) G0 H (ek ⟨Kf, adr mg⟩ E) (defBody st) Fb) :
  FnOk P w Kf mg base (CXe P w) (k + 1) f fd ps (spPu ⟨Kf, adr mg⟩ ms (fnD ms N.length Fb)) := by
 refine F.okE S (fun vs H Q E h => h.1.trans hm) fun cdv A outer s H vs Q E hc hr h => ?_
 obtain ⟨hl, gb, G, ds, sg, al, q⟩ := h
 exact ⟨_, hbody cdv A outer s H G E hc hr, G, _, envR_start gb sg al, Ext.refl sg, outP_of sg q⟩
end Pu
end
section
namespace L2
open PySem PySem.Spec PyProof.Rows
section
variable {X : Cx} {k : Nat} {f Cy : Addr} {fd : FuncData} {ps : List Str} {sp : Sp} {x y : Str} {p yp cpos epos hpos pos : Pos} {e : Expr} {es : List Expr} {t : TA} {u : TS} {h₀ : ExceptHandler} {hs : List ExceptHandler}
end
end L2
end
section
namespace Pu
open PySem PySem.Spec PyProof.Rows L2
structure SC where
 N : List Str
 sc : Scope
 td : List Str
 lam : Bool
structure FS where
 ms : List Bool
 f : List D → Res
structure XT where
 exc : Str → Bool
 sub : Str → Str → Bool
 ve : Str → Bool
 nsub : Str → Str → Bool
structure GT where
 fns : Str → Option FS
 gstr : Str → Option Str
 xs : XT
 lam : Expr → List (Str × D) → List D → Res
noncomputable def bnames : List Str := ["len", "list", "tuple", "int", "isinstance", "range", "all", "any", "sorted", "set", "min", "max", "abs", "str", "bool", "dict", "enumerate", "zip", "reversed", "ValueError"]
noncomputable def LamCx (X : Cx) : Prop := ∃ c P, (c, P, X.env.qual ++ "<lambda>") ∈ tbs ∧ X.env.code = .ref c ∧ PySem.W.CodeHd X.base c P ∧
 (∃ bm o, X.mg "__builtins__" = some (.ref bm) ∧ bm ≠ builtinsNs ∧ bm ≠ mainGlobals ∧ X.base.get? bm = some o ∧ o.cls = .type "module" ∧ o.dict = some builtinsNs ∧ o.data = .plain) ∧
 (∀ y c, X.env.cells.lookup y = some c → X.s₀.heap.objs.size ≤ c) ∧ ∀ y ∈ lamCaps, X.fn y = false
noncomputable def LamRun (P : Program) (w : World) (K : PySem.W.Frag) (mg : Str → Option Value) (base : Heap) (k : Nat) (e : Expr) (fs : List (Str × D)) (ds : List D) (d : D) : Prop :=
 ∀ (A : Around) (outer : List Env) (s : Shared) (H G : Hp) (a : Addr) (us : List Value) (vs : List V) (Q : VK), Room k A → Env0 P w K mg base A outer s H → GOk H → Same G H → Den ⟨K, adr mg⟩ G (.obj e fs) (.ref a) → DenL ⟨K, adr mg⟩ G ds vs → Vals vs us →
  (∀ v G' H', Ext G H G' H' → Den ⟨K, adr mg⟩ G' d v → Q v H') → codeAny (model P w) A (.call (.ref a) ⟨us, []⟩) (CR (CXe P w) outer P w H s Q E0) s
structure XOk (X : Cx) (C : SC) (T : GT) (E : XK) : Prop where
 n : X.N = C.N
 s : X.env.scope = C.sc
 nd : C.N.Nodup
 calm : X.calm = true
 units : X.A.units + 65 < cLine
 fns : ∀ x s, T.fns x = some s → ∃ k f fd ps, Room k X.A ∧ X.mg x = some (.ref f) ∧ PySem.W.keepIn X.K (.ref f) = true ∧ Binds X.K fd ps [] ∧ FnOk X.prog X.w X.K X.mg X.base (CXe X.prog X.w) k f fd ps (spPu (kx X) s.ms s.f)
 gstr : ∀ x y, T.gstr x = some y → ∃ t, X.mg x = some (.str y t)
 bl : ∀ x ∈ bnames, X.mg x = none
 exc : ∀ x, T.xs.exc x = true → ∃ C bm newId, X.mg x = some (.ref C) ∧ PySem.W.excIn X.K C bm newId = true ∧ ExBase bm newId
 sub : ∀ c y, T.xs.sub c y = true → ∃ Cy, X.mg y = some (.ref Cy) ∧ PySem.W.exmOne X.K (.ref (adr X.mg c)) (.ref Cy) = some true
 ve : ∀ c, T.xs.ve c = true → PySem.W.kitCls X.K (.ref (adr X.mg c)) (.type "ValueError") = some true
 nsub : ∀ c y, T.xs.nsub c y = true → ∃ Cy, X.mg y = some (.ref Cy) ∧ PySem.W.exmOne X.K (.ref (adr X.mg c)) (.ref Cy) = some false
 goes : Passes (CXe X.prog X.w) X E
 lamc : C.lam = true → LamCx X
 lams : ∀ e fs ds d, T.lam e fs ds = .ok d → ∃ k, Room k X.A ∧ LamRun X.prog X.w X.K X.mg X.base k e fs ds d
noncomputable def vis (sc : Scope) (x : Str) : Bool := match sc.names.lookup x with
 | some .local => true
 | some .cell => true
 | some .free => true
 | _ => false
theorem vis_ok {sc : Scope} {x : Str} (h : vis sc x = true) : Vis sc x := by
 unfold vis at h
 unfold Vis
 cases e : sc.names.lookup x with
 | none => rw [e] at h; cases h
 | some k => rw [e] at h; cases k <;> first | exact .inl rfl | exact .inr (.inl rfl) | exact .inr (.inr rfl) | cases h
noncomputable def isLoc (sc : Scope) (x : Str) : Bool := match sc.names.lookup x with
 | some .local => true
 | some .cell => true
 | _ => false
theorem isLoc_ok {sc : Scope} {x : Str} (h : isLoc sc x = true) : L2.Loc sc x := by
 unfold isLoc at h
 unfold L2.Loc
 cases e : sc.names.lookup x with
 | none => rw [e] at h; cases h
 | some k => rw [e] at h; cases k <;> first | exact .inl rfl | exact .inr rfl | cases h
noncomputable def okName (x : Str) : Bool := !(x == ("__debug__" : Str)) && !(x == ("__classdict__" : Str))
theorem okName_1 {x : Str} (h : okName x = true) : (x == ("__debug__" : Str)) = false := by
 unfold okName at h
 simp only [Bool.and_eq_true, Bool.not_eq_true'] at h
 exact h.1
theorem okName_2 {x : Str} (h : okName x = true) : (x == ("__classdict__" : Str)) = false := by
 unfold okName at h
 simp only [Bool.and_eq_true, Bool.not_eq_true'] at h
 exact h.2
noncomputable def ixOf (x : Str) : List Str → Nat → Option Nat
 | [], _ => none
 | y :: r, i => if x = y then some i else ixOf x r (i + 1)
theorem ixOf_ok {x : Str} : ∀ {l : List Str} {i j : Nat}, ixOf x l i = some j → i ≤ j ∧ l[j - i]? = some x
 | [], _, _, h => by cases h
 | y :: r, i, j, h => by
  unfold ixOf at h
  by_cases e : x = y
  ·rw [if_pos e] at h
   cases h
   subst e
   exact ⟨Nat.le_refl _, by simp⟩
  ·rw [if_neg e] at h
   obtain ⟨h1, h2⟩ := ixOf_ok h
   refine ⟨by omega, ?_⟩
   rw [show j - i = (j - (i + 1)) + 1 by omega]
   simpa using h2
noncomputable def slot (C : SC) (x : Str) : Option Nat := if vis C.sc x && okName x then ixOf x C.N 0 else none
theorem slot_ok {C : SC} {x : Str} {i : Nat} (h : slot C x = some i) : C.N[i]? = some x ∧ vis C.sc x = true ∧ okName x = true := by
 unfold slot at h
 by_cases e : (vis C.sc x && okName x) = true
 ·rw [if_pos e] at h
  rw [Bool.and_eq_true] at e
  obtain ⟨_, q⟩ := ixOf_ok h
  exact ⟨by simpa using q, e.1, e.2⟩
 ·rw [if_neg e] at h; cases h
noncomputable def isG (C : SC) (x : Str) : Bool := decide (C.sc.names.lookup x = some .globalImplicit) && okName x
section
variable {X : Cx} {C : SC} {T : GT} {B : Hp} {E : EK} {x : Str} {i : Nat} {pos : Pos}
theorem XOk.var {E' : XK} (O : XOk X C T E') (h : slot C x = some i) : PE X (.Name x pos) (tVar i) := by
 obtain ⟨h1, h2, h3⟩ := slot_ok h
 exact pe_var (by rw [O.n]; exact h1) (by rw [O.s]; exact vis_ok h2) (okName_1 h3) (okName_2 h3)
theorem XOk.gl {E' : XK} (O : XOk X C T E') (h : isG C x = true) : Gl X x ∧ (x == ("__debug__" : Str)) = false := by
 unfold isG at h
 rw [Bool.and_eq_true] at h
 refine ⟨?_, okName_1 h.2⟩
 show X.env.scope.names.lookup x = _
 rw [O.s]
 exact of_decide_eq_true h.1
end
noncomputable def gSt : En → Res := fun _ => .st
noncomputable def gStL : En → ResL := fun _ => .st
noncomputable def sSt : En → Out := fun _ => .st
section
variable {X : Cx} {B G0 : Hp} {E : EK} {e tg : Expr} {es : List Expr}
theorem pu_st : PuE X B E e gSt := fun pins s σ H Q I ⟨G, δ, R, q⟩ => q.elim
theorem ow_st : OwE X B E e gSt := fun pins s σ H Q I ⟨G, δ, R, q⟩ => q.elim
theorem pt_st : PuT X B E e gSt := fun pins s σ H Q I ⟨G, δ, R, q⟩ => q.elim
theorem al_st {ms : List Bool} : ArL X B E ms es gStL := fun pos pins s σ H Q I ⟨G, δ, R, q⟩ => q.elim
theorem s_st {st : Stmt} : PuS X G0 B E st sSt := fun pins s σ H D I ⟨G, δ, R, x, q⟩ => q.elim
end
theorem freeN_mem {y : Str} : ∀ {l : List (Str × NameKind)}, (y, NameKind.free) ∈ l ↔ y ∈ freeN l
 | [] => by simp [freeN]
 | (n, k) :: r => by
  unfold freeN
  by_cases h : k = .free
  ·subst h
   rw [if_pos rfl, List.mem_cons, List.mem_cons, freeN_mem]
   constructor
   ·rintro (z | z)
    ·cases z; exact .inl rfl
    ·exact .inr z
   ·rintro (z | z)
    ·subst z; exact .inl rfl
    ·exact .inr z
  ·rw [if_neg h, List.mem_cons, freeN_mem]
   constructor
   ·rintro (z | z)
    ·cases z; exact absurd rfl h
    ·exact z
   ·exact .inr
noncomputable def relabelS (scope sc : Scope) : Scope :=
 { scope with names := scope.names.map fun (n, k) => if (k == .free && sc.kind == .function && sc.names.lookup n == some .cell) then (n, .cell) else (n, k) }
noncomputable def slots (C : SC) : List Str → Option (List Nat)
 | [] => some []
 | y :: r => match slot C y, slots C r with
  | some i, some is => some (i :: is)
  | _, _ => none
noncomputable def capOk (C : SC) (scope : Scope) (y : Str) : Bool :=
 (decide (C.sc.names.lookup y = some .cell) || decide (C.sc.names.lookup y = some .free)) &&
 (decide ((relabelS scope C.sc).names.lookup y = some .cell) || decide ((relabelS scope C.sc).names.lookup y = some .free))
noncomputable def compOk (C : SC) (scope : Scope) (x : Str) : Bool :=
 decide (scope.kind = .function) && (scope.names.all fun y => decide (y.2 ≠ .cell)) && (scope.names.all fun y => !decide (y.2 = .local) || decide (scope.names.lookup y.1 = some .local)) &&
 decide (scope.names.lookup x = some .local) && decide ((x :: freeN scope.names).Nodup) && (freeN scope.names).all (capOk C scope)
theorem slots_ok {C : SC} : ∀ {M : List Str} {ix : List Nat}, slots C M = some ix → ∀ {X : Cx} {scope : Scope} {cl : List (Str × Addr)}, X.N = C.N → X.env.scope = C.sc → (∀ y ∈ M, ∃ c, cl.lookup y = some c) → M.all (capOk C scope) = true → Caps X scope cl M ix
 | [], ix, h, X, scope, cl, _, _, _, _ => by cases h; exact rfl
 | y :: r, ix, h, X, scope, cl, hn, hs, hc, ha => by
  unfold slots at h
  cases e1 : slot C y with
  | none => rw [e1] at h; cases h
  | some i =>
   cases e2 : slots C r with
   | none => rw [e1, e2] at h; cases h
   | some is =>
    rw [e1, e2] at h
    cases h
    rw [List.all_cons, Bool.and_eq_true] at ha
    obtain ⟨q1, q2, q3⟩ := slot_ok e1
    have q4 := ha.1
    unfold capOk at q4
    rw [Bool.and_eq_true, Bool.or_eq_true, Bool.or_eq_true, decide_eq_true_eq, decide_eq_true_eq, decide_eq_true_eq, decide_eq_true_eq] at q4
    refine ⟨i, is, rfl, ⟨by rw [hn]; exact q1, by rw [hs]; exact vis_ok q2, ?_, hc y (List.mem_cons_self), ?_⟩, slots_ok e2 hn hs (fun z hz => hc z (List.mem_cons_of_mem _ hz)) ha.2⟩
    ·show X.env.scope.names.lookup y ≠ _
     rw [hs]
     rcases q4.1 with z | z <;> rw [z] <;> decide
    ·have : relabel scope X.env = relabelS scope C.sc := by
      unfold relabel relabelS
      rw [← hs]
      rfl
     rw [this]
     exact q4.2
theorem slots_nd {C : SC} (nd : C.N.Nodup) : ∀ {M : List Str} {ix : List Nat}, slots C M = some ix → M.Nodup → ix.Nodup ∧ ∀ i ∈ ix, ∃ y ∈ M, C.N[i]? = some y
 | [], ix, h, _ => by cases h; exact ⟨List.nodup_nil, fun i hi => by simp at hi⟩
 | y :: r, ix, h, hM => by
  unfold slots at h
  cases e1 : slot C y with
  | none => rw [e1] at h; cases h
  | some i =>
   cases e2 : slots C r with
   | none => rw [e1, e2] at h; cases h
   | some is =>
    rw [e1, e2] at h
    cases h
    obtain ⟨m1, m2⟩ := List.nodup_cons.mp hM
    obtain ⟨n1, n2⟩ := slots_nd nd e2 m2
    obtain ⟨q1, _, _⟩ := slot_ok e1
    refine ⟨List.nodup_cons.mpr ⟨fun hi => ?_, n1⟩, fun j hj => ?_⟩
    ·obtain ⟨z, hz, ez⟩ := n2 i hi
     rw [q1] at ez
     cases ez
     exact m1 hz
    ·rcases List.mem_cons.mp hj with rfl | hj
     ·exact ⟨y, List.mem_cons_self, q1⟩
     ·obtain ⟨z, hz, ez⟩ := n2 j hj
      exact ⟨z, List.mem_cons_of_mem _ hz, ez⟩
theorem closGo_some (env : Env) : ∀ (names : List (Str × NameKind)) (cs : List (Str × Addr)), (∀ y ∈ freeN names, ∃ c, env.cells.lookup y = some c) → ∃ cl, closGo env names cs = some cl
 | [], cs, _ => ⟨cs, rfl⟩
 | (n, k) :: r, cs, h => by
  unfold closGo
  by_cases hk : k = .free
  ·subst hk
   rw [if_pos rfl]
   obtain ⟨c, e⟩ := h n (by unfold freeN; rw [if_pos rfl]; exact List.mem_cons_self)
   rw [e]
   exact closGo_some env r _ fun y hy => h y (by unfold freeN; rw [if_pos rfl]; exact List.mem_cons_of_mem _ hy)
  ·rw [if_neg hk]
   exact closGo_some env r cs fun y hy => h y (by unfold freeN; rw [if_neg hk]; exact hy)
theorem closGo_keys (env : Env) : ∀ (names : List (Str × NameKind)) (cs cl : List (Str × Addr)), closGo env names cs = some cl → ∀ y, (cs.lookup y = none) → y ∉ freeN names → cl.lookup y = none
 | [], cs, cl, h, y, q, _ => by cases h; exact q
 | (n, k) :: r, cs, cl, h, y, q, m => by
  unfold closGo at h
  by_cases hk : k = .free
  ·subst hk
   rw [if_pos rfl] at h
   unfold freeN at m
   rw [if_pos rfl, List.mem_cons, not_or] at m
   cases hc : env.cells.lookup n with
   | none => rw [hc] at h; cases h
   | some c =>
    rw [hc] at h
    refine closGo_keys env r _ cl h y ?_ m.2
    have hb : (y == n) = false := by simpa using m.1
    rw [List.lookup_cons, hb]
    exact q
  ·rw [if_neg hk] at h
   unfold freeN at m
   rw [if_neg hk] at m
   exact closGo_keys env r cs cl h y q m
theorem comp_static {X : Cx} {C : SC} {T : GT} {scope : Scope} {x : Str} {ix : List Nat} {E' : XK} (O : XOk X C T E') (ok : X.Ok) (h : compOk C scope x = true) (hx : slots C (freeN scope.names) = some ix) : ∃ cl, CompOk X scope cl x (freeN scope.names) ix := by
 unfold compOk at h
 simp only [Bool.and_eq_true, decide_eq_true_eq] at h
 obtain ⟨⟨⟨⟨⟨h1, h2⟩, h3⟩, h4⟩, h5⟩, h6⟩ := h
 have hcells : ∀ y ∈ freeN scope.names, ∃ c, X.env.cells.lookup y = some c := fun y hy => by
  have q := List.all_eq_true.mp h6 y hy
  unfold capOk at q
  rw [Bool.and_eq_true, Bool.or_eq_true, decide_eq_true_eq, decide_eq_true_eq, ← O.s] at q
  exact ok.has y q.1
 obtain ⟨cl, hcl⟩ := closGo_some X.env scope.names [] hcells
 obtain ⟨n1, n2⟩ := List.nodup_cons.mp h5
 have hfree : ∀ y ∈ freeN scope.names, ∃ c, cl.lookup y = some c := fun y hy => closGo_free X.env _ _ cl hcl y (.inr (freeN_mem.mpr hy))
 refine ⟨cl, hcl, h1, fun y hy => ?_, fun y hy e => ?_, h4, closGo_keys X.env _ _ cl hcl x rfl n1, h5, (slots_nd O.nd hx n2).1, slots_ok hx O.n O.s hfree h6⟩
 ·exact of_decide_eq_true (List.all_eq_true.mp h2 y hy)
 ·have q := List.all_eq_true.mp h3 y hy
  rw [decide_eq_true e] at q
  exact of_decide_eq_true (by simpa using q)
noncomputable def compSC (C : SC) (scope : Scope) (x : Str) : SC := ⟨x :: freeN scope.names, relabelS scope C.sc, [], false⟩
theorem comp_xok {X : Cx} {C : SC} {T : GT} {scope : Scope} {cl : List (Str × Addr)} {x : Str} {E' : XK} (O : XOk X C T E') (h : compOk C scope x = true) (Cc s₀ H₀ ex pn) : XOk (compCx X scope cl (x :: freeN scope.names) x Cc s₀ H₀ ex pn) (compSC C scope x) T E0 where
 n := rfl
 s := by
  show relabel scope X.env = _
  unfold relabel
  show _ = relabelS scope C.sc
  unfold relabelS
  rw [← O.s]
  rfl
 nd := by
  unfold compOk at h
  simp only [Bool.and_eq_true, decide_eq_true_eq] at h
  exact h.1.2
 calm := O.calm
 units := O.units
 fns := O.fns
 gstr := O.gstr
 bl := O.bl
 exc := O.exc
 sub := O.sub
 ve := O.ve
 nsub := O.nsub
 goes := pass_none
 lamc := fun h => by cases h
 lams := O.lams
theorem XOk.none {X : Cx} {C : SC} {T : GT} {E : XK} (O : XOk X C T E) : XOk X C T E0 := ⟨O.n, O.s, O.nd, O.calm, O.units, O.fns, O.gstr, O.bl, O.exc, O.sub, O.ve, O.nsub, pass_none, O.lamc, O.lams⟩
theorem XOk.nox {X : Cx} {C : SC} {T : GT} {E : XK} (O : XOk X C T E) : XOk X.nox C T E0 := ⟨O.n, O.s, O.nd, O.calm, O.units, O.fns, O.gstr, O.bl, O.exc, O.sub, O.ve, O.nsub, pass_none, O.lamc, O.lams⟩
end Pu
end
section
namespace L2
open PySem PySem.Spec PyProof.Rows
theorem Inv.chill {X : Cx} {pins : List (Addr × Obj)} {σ : List (Option V)} {H : Hp} {s : Shared} {y : Str} {c : Addr} {o : Obj} (I : Inv X pins σ H s) (hc : X.env.cells.lookup y = some c) (hf : X.fn y = false) (ab : X.s₀.heap.objs.size ≤ c) (ho : s.heap.get? c = some o) (hn : H c = none) :
  Inv X pins σ (upd H c (.frz o (.own 0))) s := by
 have old : ∀ b o, X.s₀.heap.get? b = some o → b ≠ c := fun b o e => Nat.ne_of_lt (Nat.lt_of_lt_of_le (Heap.lt_size e) ab)
 refine ⟨I.ok, I.os, I.bare, ⟨I.base.keep, I.base.slot, fun b o e n hx => ?_, I.base.there, fun b xs e => ?_, fun b o u e => ?_, fun b q e => ?_⟩, I.loc, I.cell, ?_, fun x c' e => ?_, fun p hp => ?_, fun b u e => ?_, I.len⟩
 ·rw [upd_ne (old b o e)]; exact I.base.free b o e n hx
 ·have := I.base.tups b xs e
  rw [upd_ne (ne_of_none this hn)]; exact this
 ·have := I.base.frzs b o u e
  rw [upd_ne (ne_of_none this hn)]; exact this
 ·have := I.base.tbls b q e
  rw [upd_ne (ne_of_none this hn)]; exact this
 ·rw [upd_ne (Ne.symm (I.cne y c hc))]; exact I.free
 ·by_cases z : c' = c
  ·subst z
   have := I.ok.inj _ _ _ e hc
   subst this
   exact .inr ⟨hf, o, upd_same⟩
  ·rw [upd_ne z]; exact I.freeC x c' e
 ·obtain ⟨q1, q2, q3, q4, q5⟩ := I.pin p hp
  have ne : p.1 ≠ c := fun z => by
   obtain ⟨v, oc, h1, h2⟩ := I.cell y c hc
   rw [z, h1] at q1
   cases q1
   exact q5 v h2
  exact ⟨q1, by rw [upd_ne ne]; exact q2, q3, q4, q5⟩
 ·by_cases z : b = c
  ·subst z
   rw [upd_same] at e; cases e
   exact ⟨ho, o, ho⟩
  ·rw [upd_ne z] at e
   exact (I.hok b u e).stay (fun _ _ _ q => q) (fun b' q => by rw [upd_ne (ne_of_none q hn)]; exact q) (fun b' xs q => by rw [upd_ne (ne_of_none q hn)]; exact q) fun b' o' u' q => by rw [upd_ne (ne_of_none q hn)]; exact q
end L2
namespace Pu
open PySem PySem.Spec PyProof.Rows L2
section
variable {X : Cx} {pins : List (Addr × Obj)} {σ : St} {s : Shared}
theorem chillL : ∀ (l : List (Str × Addr)), (∀ p ∈ l, X.env.cells.lookup p.1 = some p.2 ∧ X.fn p.1 = false ∧ X.s₀.heap.objs.size ≤ p.2) → ∀ {G H : Hp}, Inv X pins σ H s → Same G H →
  ∃ G' H', Inv X pins σ H' s ∧ Ext G H G' H' ∧ ∀ p ∈ l, ∃ o, G' p.2 = some (.frz o (.own 0)) ∧ s.heap.get? p.2 = some o
 | [], _, G, H, I, sg => ⟨G, H, I, Ext.refl sg, fun p hp => by simp at hp⟩
 | (y, c) :: r, h, G, H, I, sg => by
  obtain ⟨h1, h2, h3⟩ := h (y, c) List.mem_cons_self
  obtain ⟨v, o, ho, hd⟩ := I.cell y c h1
  rcases I.freeC y c h1 with fr | ⟨_, o', fr⟩
  ·obtain ⟨G', H', I', e', q⟩ := chillL r (fun p hp => h p (List.mem_cons_of_mem _ hp)) (I.chill h1 h2 h3 ho fr) (Ext.new sg (.frz o (.own 0)) fr).gh
   refine ⟨G', H', I', (Ext.new sg (.frz o (.own 0)) fr).trans e', fun p hp => ?_⟩
   rcases List.mem_cons.mp hp with rfl | hp
   ·exact ⟨o, e'.gg _ _ upd_same, ho⟩
   ·exact q p hp
  ·obtain ⟨q1, _⟩ := I.hok c _ fr
   rw [ho] at q1; cases q1
   obtain ⟨G', H', I', e', q⟩ := chillL r (fun p hp => h p (List.mem_cons_of_mem _ hp)) I (Ext.known sg fr).gh
   refine ⟨G', H', I', (Ext.known sg fr).trans e', fun p hp => ?_⟩
   rcases List.mem_cons.mp hp with rfl | hp
   ·exact ⟨o, e'.gg _ _ upd_same, ho⟩
   ·exact q p hp
end
theorem closGo_from (env : Env) : ∀ (names : List (Str × NameKind)) (cs cl : List (Str × Addr)), closGo env names cs = some cl → ∀ p ∈ cl, p ∈ cs ∨ (p.1, NameKind.free) ∈ names
 | [], cs, cl, h, p, hp => by cases h; exact .inl hp
 | (n, k) :: r, cs, cl, h, p, hp => by
  unfold closGo at h
  by_cases hk : k = .free
  ·subst hk
   simp only [if_true] at h
   cases hc : env.cells.lookup n with
   | none => rw [hc] at h; cases h
   | some c =>
    rw [hc] at h
    rcases closGo_from env r _ cl h p hp with z | z
    ·rcases List.mem_cons.mp z with rfl | z
     ·exact .inr List.mem_cons_self
     ·exact .inl z
    ·exact .inr (List.mem_cons_of_mem _ z)
  ·rw [if_neg hk] at h
   rcases closGo_from env r _ cl h p hp with z | z
   ·exact .inl z
   ·exact .inr (List.mem_cons_of_mem _ z)
noncomputable def capsOf (δ : En) : List Str → List Nat → Option (List (Str × D))
 | [], [] => some []
 | y :: ys, i :: is => match δ[i]?, capsOf δ ys is with
  | some (.pu d), some r => some ((y, d) :: r)
  | _, _ => none
 | _, _ => none
theorem capsOf_den {K : KA} {B G H : Hp} {σ : St} {δ : En} (R : EnvR K B G H σ δ) : ∀ {ys : List Str} {ix : List Nat} {fs : List (Str × D)}, capsOf δ ys ix = some fs →
  ∃ vs : List (Str × V), DenF K G fs vs ∧ vs.map (·.1) = ys ∧ ∀ y v, (y, v) ∈ vs → ∃ (j i : Nat), ys[j]? = some y ∧ ix[j]? = some i ∧ σ[i]? = some (some v)
 | [], [], fs, h => by cases h; exact ⟨[], rfl, rfl, fun y v h => by simp at h⟩
 | [], _ :: _, _, h => by cases h
 | _ :: _, [], _, h => by cases h
 | y :: ys, i :: is, fs, h => by
  unfold capsOf at h
  split at h
  ·rename_i d r e1 e2
   cases h
   obtain ⟨vs, q1, q2, q3⟩ := capsOf_den R e2
   obtain ⟨v, z1, z2⟩ := R.var e1
   refine ⟨(y, v) :: vs, ⟨v, vs, rfl, z2, q1⟩, by rw [List.map_cons, q2], fun y' v' hm => ?_⟩
   rcases List.mem_cons.mp hm with e | hm
   ·cases e; exact ⟨0, i, rfl, rfl, z1⟩
   ·obtain ⟨j, i', a1, a2, a3⟩ := q3 y' v' hm
    exact ⟨j + 1, i', by simpa using a1, by simpa using a2, a3⟩
  ·cases h
noncomputable def lamOk (C : SC) (params : Arguments) (scope : Scope) : Bool :=
 C.lam && params.defaults.isEmpty && params.kw_defaults.isEmpty && decide ((freeN scope.names).Nodup) && (freeN scope.names).all fun y => decide (C.sc.names.lookup y = some .cell) && decide (y ∈ lamCaps)
noncomputable def gLamI (e : Expr) (ys : List Str) (ix : List Nat) : En → Res := fun δ => match capsOf δ ys ix with
 | some fs => .ok (.obj e fs)
 | none => .st
noncomputable def gLam (C : SC) (params : Arguments) (body : Expr) (scope : Scope) (pos : Pos) : En → Res := if lamOk C params scope then (match slots C (freeN scope.names) with
 | some ix => gLamI (.Lambda params body scope pos) (freeN scope.names) ix
 | none => gSt) else gSt
theorem trip_ok {H : Hp} {q : Str} (l : List Value) (h : Trip H q l) : TriplesOk l := by
 fun_induction Trip H q l with
 | case1 => trivial
 | case2 _ _ _ _ c' r ih => exact ih h.2
 | case3 => exact h.elim
theorem trip_hit {H : Hp} {q : Str} {pos : Pos} {cv : Value} (l : List Value) (h : Trip H q l) (e : codeAmong pos l = some cv) : ∃ (c' : Addr) (oc : Obj) (vs : Array Value) (t : Tok), cv = .ref c' ∧ H c' = some (.frz oc (.own 0)) ∧ oc.data = .fields vs ∧ vs[1]? = some (.str q t) := by
 fun_induction Trip H q l with
 | case1 => cases e
 | case2 _ _ _ _ c' r ih =>
  unfold codeAmong at e
  split at e
  ·cases e
   obtain ⟨⟨oc, vs, t, e1, e2⟩, _⟩ := h
   exact ⟨c', oc, vs, t, rfl, e1, e2⟩
  ·exact ih h.2 e
 | case3 => exact h.elim
theorem trip_snoc {H : Hp} {q : Str} {i j : Int} {c' : Addr} {oc : Obj} {vs : Array Value} {t : Tok} (l : List Value) (h : Trip H q l) (e1 : H c' = some (.frz oc (.own 0))) (e2 : oc.data = .fields vs) (e3 : vs[1]? = some (.str q t)) : Trip H q (l ++ [rawInt i, rawInt j, .ref c']) := by
 fun_induction Trip H q l with
 | case1 => exact ⟨⟨oc, vs, t, e1, e2, e3⟩, trivial⟩
 | case2 _ _ _ _ c'' r ih => exact ⟨h.1, ih h.2⟩
 | case3 => exact h.elim
section
variable {X : Cx} {C : SC} {T : GT} {B : Hp} {E : EK} {E' : XK} {params : Arguments} {body : Expr} {scope : Scope} {pos : Pos}
theorem pu_lam (O : XOk X C T E') : PuE X B E (.Lambda params body scope pos) (gLam C params body scope pos) := by
 unfold gLam
 cases hl : lamOk C params scope with
 | false => exact pu_st
 | true =>
 rw [if_pos rfl]
 cases hx : slots C (freeN scope.names) with
 | none => exact pu_st
 | some ix =>
 dsimp only
 intro pins s σ H Q I ⟨G, δ, R, q⟩
 unfold gLamI at q
 cases hf : capsOf δ (freeN scope.names) ix with
 | none => rw [hf] at q; exact q.elim
 | some fs =>
 rw [hf] at q
 have q : ∀ v G' H', Ext G H G' H' → Den (kx X) G' (.obj (.Lambda params body scope pos) fs) v → Q v H' := q
 unfold lamOk at hl
 simp only [Bool.and_eq_true, decide_eq_true_eq, List.isEmpty_iff] at hl
 obtain ⟨⟨⟨⟨l1, l2⟩, l3⟩, l4⟩, l5⟩ := hl
 obtain ⟨c, P, hm, hcode, C0, ⟨bm, ob, b1, b2, b3, b4, b5, b6, b7⟩, hab, hfn⟩ := O.lamc l1
 have hfree : ∀ y, (y, NameKind.free) ∈ scope.names → X.env.scope.names.lookup y = some .cell ∧ y ∈ lamCaps := fun y hy => by
  have z := List.all_eq_true.mp l5 y (freeN_mem.mp hy)
  rw [Bool.and_eq_true, decide_eq_true_eq, decide_eq_true_eq, ← O.s] at z
  exact z
 have hcells : ∀ y ∈ freeN scope.names, ∃ c, X.env.cells.lookup y = some c := fun y hy => I.ok.has y (.inl (hfree y (freeN_mem.mpr hy)).1)
 obtain ⟨cl, hcl⟩ := closGo_some X.env scope.names [] hcells
 have clc : ∀ p ∈ cl, X.env.cells.lookup p.1 = some p.2 := closGo_mem X.env _ _ cl hcl fun p hp => by simp at hp
 have clf : ∀ p ∈ cl, (p.1, NameKind.free) ∈ scope.names := fun p hp => (closGo_from X.env _ _ cl hcl p hp).elim (fun z => by simp at z) fun z => z
 obtain ⟨G1, H1, I1, e1, hz⟩ := chillL cl (fun p hp => ⟨clc p hp, hfn _ (hfree _ (clf p hp)).2, hab _ _ (clc p hp)⟩) I R.gh
 have hP : H1 P = some (.tbl (X.env.qual ++ "<lambda>")) := e1.hh _ _ (R.bh _ _ (R.gb _ hm))
 obtain ⟨ps, hPo, tr⟩ := I1.hok P _ hP
 have hns := I1.mod.glob.keeps I1.bk
 have neP : ∀ {b : Addr} {o : Obj}, X.base.get? b = some o → b ≠ P := fun {b o} e z => by
  have := (I1.bs b o e).2
  rw [z, hP] at this; cases this
 have hgP : mainGlobals ≠ P := by
  obtain ⟨o, es, ep, e, _⟩ := I1.mod.glob
  exact neP e
 have hb : s.heap.BuiltinsAt X.mg P := ⟨bm, ob, b1, b2, b3, neP b4, I1.bk _ _ b4, b5, b6, b7⟩
 have hdef : defaultsOf params X.env = ([], []) := by
  obtain ⟨a1, a2, a3, a4, a5, a6, a7⟩ := params
  have z1 : a7 = [] := l2
  have z2 : a5 = [] := l3
  subst z1 z2
  rfl
 obtain ⟨vs, dF, dm, dv⟩ := capsOf_den R hf
 have cells : ∀ {G' : Hp}, Same G1 G' → ∀ y c, cl.lookup y = some c → ∃ o v u, G' c = some (.frz o (.own 0)) ∧ o.data = .cell (some u) ∧ (y, v) ∈ vs ∧ RelV v u := fun {G'} sg y c hc => by
  have hmem := lookup_mem hc
  obtain ⟨o, g1, g2⟩ := hz _ hmem
  have hyf := freeN_mem.mp (clf _ hmem)
  have : y ∈ vs.map (·.1) := by rw [dm]; exact hyf
  obtain ⟨⟨y', v⟩, hp, rfl⟩ := List.mem_map.mp this
  obtain ⟨j, i, a1, a2, a3⟩ := dv _ _ hp
  obtain ⟨k1, k2, k3⟩ : X.N[i]? = some y' ∧ vis C.sc y' = true ∧ True := by
   have gen : ∀ {M : List Str} {ix : List Nat}, slots C M = some ix → ∀ {j i : Nat} {y : Str}, M[j]? = some y → ix[j]? = some i → slot C y = some i := by
    intro M
    induction M with
    | nil => intro ix h j i y z; simp at z
    | cons m M ih =>
     intro ix h j i y z1 z2
     unfold slots at h
     cases e1 : slot C m with
     | none => rw [e1] at h; cases h
     | some i0 =>
      cases e2 : slots C M with
      | none => rw [e1, e2] at h; cases h
      | some is =>
       rw [e1, e2] at h
       cases h
       cases j with
       | zero => simp at z1 z2; subst z1; subst z2; exact e1
       | succ j => exact ih e2 (by simpa using z1) (by simpa using z2)
   obtain ⟨m1, m2, m3⟩ := slot_ok (gen hx a1 a2)
   exact ⟨by rw [O.n]; exact m1, m2, trivial⟩
  obtain ⟨m, hn, hl⟩ := I.loc
  obtain ⟨u, ru, lk⟩ := hl i y' v k1 a3 (by rw [O.s]; exact vis_ok k2)
  have kc : X.env.kindOf y' = some .cell := (hfree _ (clf _ hmem)).1
  rcases lk with ⟨z, _⟩ | ⟨_, c2, z1, o2, z2, z3⟩
  ·rw [kc] at z; cases z
  ·have : X.env.cells.lookup y' = some c := clc _ hmem
   rw [this] at z1; cases z1
   rw [g2] at z2; cases z2
   exact ⟨o, v, u, sg _ _ g1, z3, hp, ru⟩
 have inj : ∀ x y c, cl.lookup x = some c → cl.lookup y = some c → x = y := fun x y c h1 h2 => I.ok.inj x y c (clc _ (lookup_mem h1)) (clc _ (lookup_mem h2))
 have all : ∀ y, (y, NameKind.free) ∈ scope.names → ∃ c, cl.lookup y = some c := fun y h => closGo_free X.env _ _ cl hcl y (.inr h)
 have frm : ∀ y c, cl.lookup y = some c → (y, NameKind.free) ∈ scope.names := fun y c h => clf _ (lookup_mem h)
 refine PySem.W.kla_eval hdef ?_
 cases ha : codeAmong pos ps.toList with
 | none =>
  refine PySem.W.kla_makeFunction (mg := X.mg) (closureFor_eq hcl) I.ok.glob hns hcode (C0.keeps I1.bk) hPo (trip_ok _ tr) ha hgP hb fun c' ctv h' tk hxt hge hlt hrec htb => ?_
  obtain ⟨c2, oc, cvs, t, e2, hoc, hd, hv⟩ := hrec
  cases e2
  have f1 : H1 c' = none := I1.hok.fresh hge
  have hs : s.heap.objs.size ≤ h'.objs.size := Nat.le_of_lt (Nat.lt_of_le_of_lt hge hlt)
  have f2 : upd H1 c' (.frz oc (.own 0)) h'.objs.size = none := by rw [upd_ne (Nat.ne_of_gt hlt)]; exact I1.hok.fresh hs
  generalize hfo : PySem.W.kla_obj "<lambda>" (X.env.qual ++ "<lambda>") params body scope cl ((X.mg "__name__").getD .none) c' ctv = fo
  have x2 := (Ext.new e1.gh (.frz oc (.own 0)) f1).trans (Ext.new (Ext.new e1.gh (.frz oc (.own 0)) f1).gh (.frz fo (.own 0)) f2)
  have old : ∀ {b : Addr} {u : HO}, H1 b = some u → b ≠ c' ∧ b ≠ h'.objs.size := fun {b u} z => ⟨ne_of_none z f1, fun y => by
   have := I1.hok.lt z
   rw [y] at this
   exact absurd (Nat.lt_of_lt_of_le this hs) (Nat.lt_irrefl _)⟩
  have up : ∀ {b : Addr} {u : HO}, H1 b = some u → upd (upd H1 c' (.frz oc (.own 0))) h'.objs.size (.frz fo (.own 0)) b = some u := fun z => by rw [upd_ne (old z).2, upd_ne (old z).1]; exact z
  have kp : ∀ {b : Addr} {o : Obj}, b ≠ P → s.heap.get? b = some o → (h'.push fo).get? b = some o := fun hb e => Heap.get?_push_of_some _ (hxt _ _ hb e)
  have I2 : Inv X pins σ (upd (upd H1 c' (.frz oc (.own 0))) h'.objs.size (.frz fo (.own 0))) { s with heap := h'.push fo, toks := tk } := by
   refine I1.un ⟨fun b o e n _ _ => kp (fun z => by rw [z, hP] at n; cases n) e, fun b o e n _ _ => ⟨o.slots, kp (fun z => by rw [z, hP] at n; cases n) e⟩, fun b o e n _ => ?_, fun b o e _ => ?_, fun b xs e => up e, fun b o u e => up e, fun b q e => up e⟩ fun b u e => ?_
   ·have := Heap.lt_size e
    rw [upd_ne (Nat.ne_of_lt (Nat.lt_of_lt_of_le this hs)), upd_ne (Nat.ne_of_lt (Nat.lt_of_lt_of_le this hge))]; exact n
   ·by_cases z : b = P
    ·subst z; exact ⟨_, Heap.get?_push_of_some _ htb⟩
    ·exact ⟨o, kp z e⟩
   ·by_cases z1 : b = h'.objs.size
    ·subst z1
     rw [upd_same] at e; cases e
     have : (h'.push fo).get? h'.objs.size = some fo := Heap.get?_push_size _ (by rw [← hfo]; rfl)
     exact ⟨this, fo, this⟩
    ·rw [upd_ne z1] at e
     by_cases z2 : b = c'
     ·subst z2
      rw [upd_same] at e; cases e
      have : (h'.push fo).get? b = some oc := Heap.get?_push_of_some _ hoc
      exact ⟨this, oc, this⟩
     ·rw [upd_ne z2] at e
      by_cases z3 : b = P
      ·subst z3
       rw [hP] at e; cases e
       refine ⟨_, Heap.get?_push_of_some _ htb, ?_⟩
       rw [Array.toList_append]
       refine trip_snoc (oc := oc) (vs := cvs) (t := t) _ (tr.mono fun b o u z => up z) ?_ hd hv
       rw [upd_ne (Nat.ne_of_lt hlt), upd_same]
      ·refine (I1.hok b u e).stay (fun b' u' hb' r => kp ?_ r) (fun b' z => up z) (fun b' xs z => up z) fun b' o' u' z => up z
       rcases hb' with y | y
       ·rw [y]; exact z3
       ·intro y'; rw [y', hP] at y; cases y
  refine ⟨.ref h'.objs.size, _, I2, rfl, q _ _ _ (e1.trans x2) ⟨_, vs, rfl, ⟨X.env.qual ++ "<lambda>", (X.mg "__name__").getD .none, c', ctv, cl, oc, cvs, t, ?_, ?_, hd, hv, inj, all, frm, cells x2.gg, dm⟩, (dF.mono e1.gg).mono x2.gg⟩⟩
  ·rw [hfo]; exact upd_same
  ·rw [upd_ne (Nat.ne_of_lt hlt), upd_same]
 | some cv =>
  obtain ⟨c', oc, cvs, t, rfl, hc', hd, hv⟩ := trip_hit _ tr ha
  refine PySem.W.kla_makeFunctionHit (mg := X.mg) (closureFor_eq hcl) I.ok.glob hns hcode (C0.keeps I1.bk) hPo (trip_ok _ tr) ha hb fun ctv h' tk hk hs => ?_
  have f2 : H1 h'.objs.size = none := I1.hok.fresh hs
  generalize hfo : PySem.W.kla_obj "<lambda>" (X.env.qual ++ "<lambda>") params body scope cl ((X.mg "__name__").getD .none) c' ctv = fo
  have x1 := Ext.known e1.gh hc'
  have x2 := x1.trans (Ext.new x1.gh (.frz fo (.own 0)) f2)
  have I2 : Inv X pins σ (upd H1 h'.objs.size (.frz fo (.own 0))) { s with heap := h'.push fo, toks := tk } := by
   refine I1.laid (fun b u e => Heap.get?_push_of_some _ (hk b u e)) hs ?_
   have : (h'.push fo).get? h'.objs.size = some fo := Heap.get?_push_size _ (by rw [← hfo]; rfl)
   exact ⟨this, fo, this⟩
  subst hfo
  refine ⟨.ref h'.objs.size, _, I2, rfl, q _ _ _ (e1.trans x2) ⟨_, vs, rfl, ⟨X.env.qual ++ "<lambda>", (X.mg "__name__").getD .none, c', ctv, cl, oc, cvs, t, ?_, ?_, hd, hv, inj, all, frm, cells x2.gg, dm⟩, (dF.mono e1.gg).mono x2.gg⟩⟩
  ·exact upd_same
  ·exact (Ext.new x1.gh _ f2).gg _ _ upd_same
end
end Pu
end
section
namespace Pu
open PySem PySem.Spec PyProof.Rows L2
noncomputable abbrev Ev := SC → Expr → En → Res
noncomputable def EvOk (T : GT) (ev : Ev) : Prop := ∀ X C B (E : XK) e, XOk X C T E → PuE X B (ek (kx X) E) e (ev C e)
noncomputable def TvOk (T : GT) (tv : Ev) : Prop := ∀ X C B (E : XK) e, XOk X C T E → PuT X B (ek (kx X) E) e (tv C e)
section
variable {X : Cx} {B : Hp} {E : EK} {e a b : Expr} {es : List Expr} {g h : En → Res} {pos : Pos}
noncomputable def pyNeg : D → Option D
 | .int i => some (.int (-i))
 | _ => none
theorem pu_neg (ha : ArE X B E a g) : PuE X B E (.UnaryOp .USub a pos) (g1 pyNeg g) := pu_un un_neg (fun G H x dx d sg ax ed Q q => by
 cases dx with
 | int i => cases ed; exact ⟨i, ax.int, q _ G H (Ext.refl sg) rfl⟩
 | _ => cases ed) ha
noncomputable def isNon : D → Bool
 | .non => true
 | _ => false
noncomputable def pyIsN : D → D → Option D
 | d, .non => some (.bl (isNon d))
 | _, _ => none
noncomputable def pyIsNotN : D → D → Option D
 | d, .non => some (.bl (!isNon d))
 | _, _ => none
theorem arg_non_iff {K : KA} {G H : Hp} {d : D} {v : V} (h : Arg K G H d v) : decide (v = .non) = isNon d := by
 rcases h with h | ⟨ds, a, vs, rfl, rfl, _⟩ | ⟨t, kvs, a, rfl, rfl, _⟩
 ·cases d with
  | non => cases (show v = .non from h); rfl
  | bl b => cases (show v = .bl b from h); rfl
  | int b => cases (show v = .int b from h); rfl
  | str b => cases (show v = .str b from h); rfl
  | tup ds => obtain ⟨a, vs, rfl, _⟩ := h; rfl
  | lst ds => obtain ⟨a, vs, rfl, _⟩ := h; rfl
  | dct t kvs => obtain ⟨a, rfl, _⟩ := h; rfl
  | obj C fs => obtain ⟨a, vs, rfl, _⟩ := h; rfl
  | fn f => cases (show v = .ref _ from h); rfl
 ·rfl
 ·rfl
theorem prim_isN {K : KA} : Prim2 K pyIsN (fun x y H Q => y = .non ∧ Q (.bl (decide (x = .non))) H) := fun G H x y dx dy d sg ax ay ed Q q => by
 cases dy with
 | non =>
  cases ed
  refine ⟨ay.non, ?_⟩
  rw [arg_non_iff ax]
  exact q _ G H (Ext.refl sg) rfl
 | _ => cases ed
theorem prim_isNotN {K : KA} : Prim2 K pyIsNotN (fun x y H Q => y = .non ∧ Q (.bl (!decide (x = .non))) H) := fun G H x y dx dy d sg ax ay ed Q q => by
 cases dy with
 | non =>
  cases ed
  refine ⟨ay.non, ?_⟩
  rw [arg_non_iff ax]
  exact q _ G H (Ext.refl sg) rfl
 | _ => cases ed
noncomputable def cmpP : CmpOp → Option (D → D → Option D)
 | .Eq => some pyEq
 | .NotEq => some pyNe
 | .Lt => some pyLtI
 | .LtE => some pyLe
 | .Gt => some pyGt
 | .GtE => some pyGe
 | .In => some pyIn
 | .NotIn => some pyNotIn
 | .Is => some pyIsN
 | .IsNot => some pyIsNotN
theorem cmpP_ok {op : CmpOp} {f : D → D → Option D} (hf : cmpP op = some f) (hu : X.A.units + 65 < cLine) : ∃ r, OpR X (compareOp op) r ∧ Prim2 (kx X) f r ∧ ∀ x y d, f x y = some d → ∃ b, d = .bl b := by
 cases op <;> cases hf
 ·exact ⟨_, op_eqD (by omega), prim_eq, fun _ _ _ h => map_bl (f := id) h⟩
 ·exact ⟨_, op_neD (by omega), prim_ne, fun _ _ _ h => map_bl (f := fun b => !b) h⟩
 ·exact ⟨_, op_lt, prim_cmp, cmp_bl⟩
 ·exact ⟨_, op_le, prim_cmp, cmp_bl⟩
 ·exact ⟨_, op_gt, prim_cmp, cmp_bl⟩
 ·exact ⟨_, op_ge, prim_cmp, cmp_bl⟩
 ·exact ⟨_, op_isN, prim_isN, fun x y d h => by cases y <;> first | (cases h; exact ⟨_, rfl⟩) | cases h⟩
 ·exact ⟨_, op_notN, prim_isNotN, fun x y d h => by cases y <;> first | (cases h; exact ⟨_, rfl⟩) | cases h⟩
 ·exact ⟨_, op_inD hu, prim_in, fun _ _ _ h => map_bl (f := id) h⟩
 ·exact ⟨_, op_notInD hu, prim_notIn, fun _ _ _ h => map_bl (f := fun b => !b) h⟩
end
noncomputable def gAr (ev : Ev) (C : SC) (e : Expr) : En → Res := match e with
 | .Name x _ => (match slot C x with
  | some i => gArg i
  | none => ev C e)
 | _ => ev C e
noncomputable def gAL (ev : Ev) (C : SC) : List Bool → List Expr → En → ResL
 | [], [] => gNil
 | m :: ms, e :: es => gCons (if m then gAr ev C e else ev C e) (gAL ev C ms es)
 | _, _ => gStL
noncomputable def gData (ev : Ev) (C : SC) : List Expr → En → ResL
 | [] => gNil
 | e :: es => gCons (ev C e) (gData ev C es)
noncomputable def stepName (T : GT) (C : SC) (x : Str) : En → Res := match slot C x with
 | some i => gVar i
 | none => if isG C x then (match T.gstr x with
  | some y => gC (.str y)
  | none => (match T.fns x with
   | some _ => gC (.fn x)
   | none => gSt)) else gSt
noncomputable def gAndL (f : Expr → En → Res) : List Expr → En → Res
 | [] => gSt
 | [a] => f a
 | a :: r => gAnd (f a) (gAndL f r)
noncomputable def gOrL (f : Expr → En → Res) : List Expr → En → Res
 | [] => gSt
 | [a] => f a
 | a :: r => gOr (f a) (gOrL f r)
noncomputable def stepCmp (ev : Ev) (C : SC) (l : Expr) (ops : List CmpOp) (rs : List Expr) : En → Res := match ops, rs with
 | [op], [r] => (match cmpP op with
  | some f => if noSet r then g2 f (gAr ev C l) (gAr ev C r) else gSt
  | none => gSt)
 | [op, op'], [m, r] => (match cmpP op, cmpP op' with
  | some f, some f' => if noSet r then gChain f f' (gAr ev C l) (gAr ev C m) (gAr ev C r) else gSt
  | _, _ => gSt)
 | _, _ => gSt
section
variable {T : GT} {ev tv : Ev} {X : Cx} {C : SC} {B : Hp} {E : XK} {pos : Pos}
theorem ar_ok (h : EvOk T ev) (O : XOk X C T E) (e : Expr) : ArE X B (ek (kx X) E) e (gAr ev C e) := by
 have d : ArE X B (ek (kx X) E) e (ev C e) := pu_ar (h X C B E e O)
 cases e with
 | Name x p =>
  show ArE X B _ _ (match slot C x with
   | some i => gArg i
   | none => ev C (.Name x p))
  cases es : slot C x with
  | none => exact d
  | some i => exact ar_var i (O.var es)
 | _ => exact d
theorem aL_ok (h : EvOk T ev) (O : XOk X C T E) : ∀ {ms : List Bool} {es : List Expr}, es.all nst = true → ArL X B (ek (kx X) E) ms es (gAL ev C ms es)
 | [], [], _ => al_nil
 | [], _ :: _, _ => al_st
 | _ :: _, [], _ => al_st
 | m :: ms, e :: es, hs => by
  rw [List.all_cons, Bool.and_eq_true] at hs
  cases m with
  | true => exact al_cons (ar_ok h O e) (aL_ok h O hs.2) (star_cons hs.1)
  | false => exact al_consP (h X C B E e O) (aL_ok h O hs.2) (star_cons hs.1)
theorem data_ok (h : EvOk T ev) (O : XOk X C T E) : ∀ {es : List Expr}, es.all nst = true → ArL X B (ek (kx X) E) (es.map fun _ => false) es (gData ev C es)
 | [], _ => al_nil
 | e :: es, hs => by
  rw [List.all_cons, Bool.and_eq_true] at hs
  exact al_consP (h X C B E e O) (data_ok h O hs.2) (star_cons hs.1)
theorem allF_map : ∀ {es : List Expr}, allF (es.map fun _ => false) = true
 | [] => rfl
 | _ :: es => by
  show (!false && allF (es.map fun _ => false)) = true
  rw [allF_map (es := es)]; rfl
theorem name_ok (O : XOk X C T E) {x : Str} : PuE X B (ek (kx X) E) (.Name x pos) (stepName T C x) := by
 unfold stepName
 cases es : slot C x with
 | some i => exact pu_var i (O.var es)
 | none =>
  dsimp only
  by_cases hg : isG C x = true
  ·rw [if_pos hg]
   obtain ⟨g1, g2⟩ := O.gl hg
   cases e1 : T.gstr x with
   | some y =>
    obtain ⟨t, q⟩ := O.gstr x y e1
    exact pu_gstr g1 q g2
   | none =>
    cases e2 : T.fns x with
    | some s =>
     obtain ⟨k, f, fd, ps, _, q, _⟩ := O.fns x s e2
     exact pu_gfn g1 q g2
    | none => exact pu_st
  ·rw [if_neg hg]; exact pu_st
theorem andL_ok {f : Expr → En → Res} {E : EK} (h : ∀ e, PuE X B E e (f e)) : ∀ {vs : List Expr}, PuE X B E (.BoolOp .And vs pos) (gAndL f vs)
 | [] => pu_st
 | [a] => pu_one (h a)
 | a :: b :: r => pu_and (h a) (andL_ok h (vs := b :: r))
theorem orL_ok {f : Expr → En → Res} {E : EK} (h : ∀ e, PuE X B E e (f e)) : ∀ {vs : List Expr}, PuE X B E (.BoolOp .Or vs pos) (gOrL f vs)
 | [] => pu_st
 | [a] => pu_one (h a)
 | a :: b :: r => pu_or (h a) (orL_ok h (vs := b :: r))
theorem pw_st {E : EK} {e : Expr} : PuW X B E e gSt := fun wh pins s σ H Q I ⟨G, δ, R, q⟩ => q.elim
theorem andT_ok {f : Expr → En → Res} {E : EK} (h : ∀ e, PuT X B E e (f e)) : ∀ {vs : List Expr}, PuW X B E (.BoolOp .And vs pos) (gAndL f vs)
 | [] => pw_st
 | [a] => pw_and1' (h a)
 | a :: b :: r => pw_and' (h a) (andT_ok h (vs := b :: r))
theorem orT_ok {f : Expr → En → Res} {E : EK} (h : ∀ e, PuT X B E e (f e)) : ∀ {vs : List Expr}, PuW X B E (.BoolOp .Or vs pos) (gOrL f vs)
 | [] => pw_st
 | [a] => pw_or1' (h a)
 | a :: b :: r => pw_or' (h a) (orT_ok h (vs := b :: r))
theorem cmp_ok (h : EvOk T ev) (O : XOk X C T E) {l : Expr} {ops : List CmpOp} {rs : List Expr} : PuE X B (ek (kx X) E) (.Compare l ops rs pos) (stepCmp ev C l ops rs) ∧ PuT X B (ek (kx X) E) (.Compare l ops rs pos) (stepCmp ev C l ops rs) := by
 unfold stepCmp
 split
 ·rename_i op r
  cases hf : cmpP op with
  | none => exact ⟨pu_st, pt_st⟩
  | some f =>
   dsimp only
   by_cases hs : noSet r = true
   ·rw [if_pos hs]
    obtain ⟨rr, h1, h2, h3⟩ := cmpP_ok (X := X) hf O.units
    exact ⟨pu_cmp h1 h2 (ar_ok h O l) (ar_ok h O r) (noSet_marks hs), pt_cmp' h1 h2 h3 (ar_ok h O l) (ar_ok h O r) (noSet_marks hs)⟩
   ·rw [if_neg hs]; exact ⟨pu_st, pt_st⟩
 ·rename_i op op' m r
  cases hf : cmpP op with
  | none => exact ⟨pu_st, pt_st⟩
  | some f =>
   cases hf' : cmpP op' with
   | none => exact ⟨pu_st, pt_st⟩
   | some f' =>
    dsimp only
    by_cases hs : noSet r = true
    ·rw [if_pos hs]
     obtain ⟨rr, h1, h2, h3⟩ := cmpP_ok (X := X) hf O.units
     obtain ⟨rr', h1', h2', h3'⟩ := cmpP_ok (X := X) hf' O.units
     exact ⟨pu_chain h1 h2 h1' h2' (ar_ok h O l) (ar_ok h O m) (ar_ok h O r) (noSet_last hs), pt_chain' h1 h2 h1' h2' h3' (ar_ok h O l) (ar_ok h O m) (ar_ok h O r) (noSet_last hs)⟩
    ·rw [if_neg hs]; exact ⟨pu_st, pt_st⟩
 ·exact ⟨pu_st, pt_st⟩
end
section
variable {X : Cx} {pins : List (Addr × Obj)} {σ : St} {G H : Hp} {s : Shared} {B : Hp} {E : EK} {e a b : Expr} {g h : En → Res} {pos p : Pos}
theorem walked (I : Inv X pins σ H s) {h' : Heap} {t' : Nat} (k : ∀ b o, s.heap.get? b = some o → h'.get? b = some o) : Inv X pins σ H { s with heap := h', toks := t' } := I.kept k
noncomputable def boolsOf : List D → Option (List Bool)
 | [] => some []
 | .bl b :: r => (boolsOf r).map (b :: ·)
 | _ :: _ => none
theorem boolsOf_get {K : KA} : ∀ {ds : List D} {bs : List Bool} {vs : List V} {us : List Value}, boolsOf ds = some bs → DenL K G ds vs → Vals vs us → us = bs.map Value.bool
 | [], bs, vs, us, h, d, r => by cases h; cases (show vs = [] from d); cases r; rfl
 | d :: ds, bs, vs, us, h, dl, r => by
  obtain ⟨v, vr, rfl, dv, dr⟩ := dl
  cases d with
  | bl b =>
   unfold boolsOf at h
   cases e : boolsOf ds with
   | none => rw [e] at h; cases h
   | some bs' =>
    rw [e] at h
    cases h
    cases r with
    | cons r1 rr =>
     cases (show v = .bl b from dv)
     cases (show _ = Value.bool b from r1)
     rw [List.map_cons, boolsOf_get e dr rr]
  | _ => cases h
theorem all_range_get (bs : List Bool) (f : List Bool → (Nat → Bool)) (hf : f = fun bs i => bs.getD i false) : (List.range bs.length).all (f bs) = bs.all id ∧ (List.range bs.length).any (f bs) = bs.any id := by
 subst hf
 have e : (List.range bs.length).map (fun i => bs.getD i false) = bs := by
  apply List.ext_getElem
  ·simp
  ·intro i h1 h2
   simp [List.getD_eq_getElem?_getD, h2]
 constructor
 ·have := congrArg (fun l => l.all id) e
  simp only [List.all_map] at this
  simpa [Function.comp_def] using this
 ·have := congrArg (fun l => l.any id) e
  simp only [List.any_map] at this
  simpa [Function.comp_def] using this
noncomputable def rAllD (K : KA) (an : Bool) : List V → Hp → VK → Prop := fun xs H Q => ∃ G l vs ds bs, xs = [.ref l] ∧ SqL K H l vs ∧ DenL K G ds vs ∧ boolsOf ds = some bs ∧ Q (.bl (if an then bs.any id else bs.all id)) H
theorem bools_truth {A : Around} {prog : Program} {w : World} {bs : List Bool} {items : Array Value} (e : items.toList = bs.map Value.bool) : TruthOf prog w A (fun i v => items[i]? = some v) (fun i => bs.getD i false) := by
 intro i v s Q E hv hQ
 have hv' : items.toList[i]? = some v := by simpa using hv
 rw [e, List.getElem?_map] at hv'
 cases eb : bs[i]? with
 | none => rw [eb] at hv'; cases hv'
 | some b =>
  rw [eb] at hv'
  cases hv'
  have hQ' : Q (bs.getD i false) s := hQ
  rw [List.getD_eq_getElem?_getD, eb] at hQ'
  exact wpAny_truthy_bool hQ'
theorem call_allD (hc : X.calm = true) : CallR X (.builtin "all") (rAllD (kx X) false) := by
 intro pins s σ H xs us Q I r q
 obtain ⟨G, l, vs, ds, bs, rfl, sq, dl, eb, q⟩ := q
 obtain ⟨u, rfl, ru⟩ := vals1 r
 cases ru
 obtain ⟨its, rv, pl, _⟩ := I.list sq
 have e := boolsOf_get eb dl rv
 have hl : l < s.heap.objs.size := by obtain ⟨o, ho, _⟩ := pl.isList; exact Heap.lt_size ho
 have W := Walks.list (prog := X.prog) (w := X.w) (A := X.A.in1) (show X.A.in1.handled = none from I.ok.hd hc) s.heap.objs.size l (Nat.ne_of_lt hl) its.toArray
 refine call_all_walk (wpAny_pyIter_list pl.isList ⟨s.heap.objs.size, _, _, _, _, _, fun i => bs.getD i false, rfl, W, ⟨⟨_, Heap.get?_push_size _ rfl, rfl, rfl⟩, pl.isList.at fun o ho => Heap.get?_push_of_some _ ho⟩, bools_truth (by simpa using e), fun h' tk hk => ?_⟩)
 refine ⟨.bl _, H, I.kept fun b o e => hk b o (by simpa using Nat.ne_of_lt (Heap.lt_size e)) (Heap.get?_push_of_some _ e), ?_, q⟩
 have hsz : its.toArray.size = bs.length := by rw [List.size_toArray, e, List.length_map]
 rw [hsz, (all_range_get bs _ rfl).1]
 rfl
theorem call_anyD (hc : X.calm = true) : CallR X (.builtin "any") (rAllD (kx X) true) := by
 intro pins s σ H xs us Q I r q
 obtain ⟨G, l, vs, ds, bs, rfl, sq, dl, eb, q⟩ := q
 obtain ⟨u, rfl, ru⟩ := vals1 r
 cases ru
 obtain ⟨its, rv, pl, _⟩ := I.list sq
 have e := boolsOf_get eb dl rv
 have hl : l < s.heap.objs.size := by obtain ⟨o, ho, _⟩ := pl.isList; exact Heap.lt_size ho
 have W := Walks.list (prog := X.prog) (w := X.w) (A := X.A.in1) (show X.A.in1.handled = none from I.ok.hd hc) s.heap.objs.size l (Nat.ne_of_lt hl) its.toArray
 refine call_any_walk (wpAny_pyIter_list pl.isList ⟨s.heap.objs.size, _, _, _, _, _, fun i => bs.getD i false, rfl, W, ⟨⟨_, Heap.get?_push_size _ rfl, rfl, rfl⟩, pl.isList.at fun o ho => Heap.get?_push_of_some _ ho⟩, bools_truth (by simpa using e), fun h' tk hk => ?_⟩)
 refine ⟨.bl _, H, I.kept fun b o e => hk b o (by simpa using Nat.ne_of_lt (Heap.lt_size e)) (Heap.get?_push_of_some _ e), ?_, q⟩
 have hsz : its.toArray.size = bs.length := by rw [List.size_toArray, e, List.length_map]
 rw [hsz, (all_range_get bs _ rfl).2]
 rfl
noncomputable def pyAll : D → Option D
 | .lst ds => (boolsOf ds).map fun bs => .bl (bs.all id)
 | _ => none
noncomputable def pyAny : D → Option D
 | .lst ds => (boolsOf ds).map fun bs => .bl (bs.any id)
 | _ => none
theorem pu_all (hc : X.calm = true) (hg : Gl X "all") (hm : X.mg "all" = none) (ha : ArE X B E e g) (he : starEach [e] X.env = (false, eval e X.env) :: starEach [] X.env) : PuE X B E (.Call (.Name "all" p) [e] [] pos) (g1 pyAll g) :=
 PE.imp (pe_callB (call_allD hc) hg hm PyProof.Rows.boot_all (al_cons ha al_nil he) (by decide) (by decide) he rfl) fun σ H Q q => cb1 (fun G H x dx d sg ax ed Q q => by
  cases dx with
  | lst ds =>
   unfold pyAll at ed
   dsimp only at ed
   cases eb : boolsOf ds with
   | none => rw [eb] at ed; cases ed
   | some bs =>
    rw [eb] at ed
    cases ed
    obtain ⟨l, vs, rfl, sq, dl⟩ := ax.lst sg
    exact ⟨G, l, vs, ds, bs, rfl, sq, dl, eb, q _ G H (Ext.refl sg) rfl⟩
  | _ => cases ed) q
theorem pu_any (hc : X.calm = true) (hg : Gl X "any") (hm : X.mg "any" = none) (ha : ArE X B E e g) (he : starEach [e] X.env = (false, eval e X.env) :: starEach [] X.env) : PuE X B E (.Call (.Name "any" p) [e] [] pos) (g1 pyAny g) :=
 PE.imp (pe_callB (call_anyD hc) hg hm PyProof.Rows.boot_any (al_cons ha al_nil he) (by decide) (by decide) he rfl) fun σ H Q q => cb1 (fun G H x dx d sg ax ed Q q => by
  cases dx with
  | lst ds =>
   unfold pyAny at ed
   dsimp only at ed
   cases eb : boolsOf ds with
   | none => rw [eb] at ed; cases ed
   | some bs =>
    rw [eb] at ed
    cases ed
    obtain ⟨l, vs, rfl, sq, dl⟩ := ax.lst sg
    exact ⟨G, l, vs, ds, bs, rfl, sq, dl, eb, q _ G H (Ext.refl sg) rfl⟩
  | _ => cases ed) q
end
noncomputable def signD (x : Str) : List D := x.cps.toList.map fun c => .str ⟨#[c]⟩
noncomputable def Its (x : Str) : It := ⟨fun i _ => i < x.cps.size, fun i H v H' => H' = H ∧ ∃ c, x.cps[i]? = some c ∧ v = .str ⟨#[c]⟩, fun i _ => x.cps.size ≤ i⟩
theorem turn_ascii {P : Program} {w : World} {K : PySem.W.Frag} {tg : Expr} (it : Addr) (x : Str) (t : Tok) : Turn P w K tg (Its x) [it] it (fun i h => h.IsStrIter it "str_ascii_iterator" x t i) where
 mem := by simp
 obj := fun i h st b hb => by
  have e : b = it := by simpa using hb
  subst e
  obtain ⟨o, e, c, d⟩ := st
  exact ⟨o, e, fun v z => by rw [d] at z; cases z⟩
 keep := fun i h h' st k => let ⟨o, ho, r⟩ := st; ⟨o, k it (by simp) o ho, r⟩
 item := by
  intro X hP hw hK hc i pins s σ H E I hf st hg
  subst hP hw hK
  obtain ⟨f0, f1, f2, f3, f4, f5⟩ := hf it (by simp)
  have hg' : i < x.cps.size := hg
  refine wpAny_pyNext_ascii_item st (c := x.cps[i]) (by simp [hg']) fun h' st' sb => ?_
  have I1 : Inv X pins σ H { s with heap := h', toks := s.toks + 1 } := I.turned (t' := s.toks + 1) (fun b o hb e => (sb.2 b hb).trans e) f0 f1 f3 f4 f5
  obtain ⟨o, e, c, d⟩ := id st'
  exact ⟨_, rfl, go_of (s := { s with heap := h', toks := s.toks + 1 }) e c d (by decide) ⟨.str ⟨#[x.cps[i]]⟩, H, I1, ⟨_, rfl⟩, ⟨rfl, _, by simp [hg'], rfl⟩, st', fun b hb => (hf b hb).1⟩⟩
 done := by
  intro X hP hw hK hc i pins s σ H E I hf st hg
  subst hP hw hK
  obtain ⟨f0, f1, f2, f3, f4, f5⟩ := hf it (by simp)
  have hg' : x.cps.size ≤ i := hg
  exact wpAny_pyNext_ascii_end (I.ok.hd hc) st (by simp [hg']) fun h' eb => ⟨rfl, I.turned (t' := s.toks) (fun b o hb e => eb b o hb e) f0 f1 f3 f4 f5⟩
 self := fun _ _ _ _ _ st h => wpAny_pyIter_striter_ascii st h
theorem turn_wide {P : Program} {w : World} {K : PySem.W.Frag} {tg : Expr} (it : Addr) (x : Str) (t : Tok) : Turn P w K tg (Its x) [it] it (fun i h => h.IsStrIter it "str_iterator" x t i) where
 mem := by simp
 obj := fun i h st b hb => by
  have e : b = it := by simpa using hb
  subst e
  obtain ⟨o, e, c, d⟩ := st
  exact ⟨o, e, fun v z => by rw [d] at z; cases z⟩
 keep := fun i h h' st k => let ⟨o, ho, r⟩ := st; ⟨o, k it (by simp) o ho, r⟩
 item := by
  intro X hP hw hK hc i pins s σ H E I hf st hg
  subst hP hw hK
  obtain ⟨f0, f1, f2, f3, f4, f5⟩ := hf it (by simp)
  have hg' : i < x.cps.size := hg
  refine wpAny_pyNext_wide_item st (c := x.cps[i]) (by simp [hg']) fun h' st' sb => ?_
  have I1 : Inv X pins σ H { s with heap := h', toks := s.toks + 1 } := I.turned (t' := s.toks + 1) (fun b o hb e => (sb.2 b hb).trans e) f0 f1 f3 f4 f5
  obtain ⟨o, e, c, d⟩ := id st'
  exact ⟨_, rfl, go_of (s := { s with heap := h', toks := s.toks + 1 }) e c d (by decide) ⟨.str ⟨#[x.cps[i]]⟩, H, I1, ⟨_, rfl⟩, ⟨rfl, _, by simp [hg'], rfl⟩, st', fun b hb => (hf b hb).1⟩⟩
 done := by
  intro X hP hw hK hc i pins s σ H E I hf st hg
  subst hP hw hK
  obtain ⟨f0, f1, f2, f3, f4, f5⟩ := hf it (by simp)
  have hg' : x.cps.size ≤ i := hg
  exact wpAny_pyNext_wide_end (I.ok.hd hc) st (by simp [hg']) fun h' eb => ⟨rfl, I.turned (t' := s.toks) (fun b o hb e => eb b o hb e) f0 f1 f3 f4 f5⟩
 self := fun _ _ _ _ _ st h => wpAny_pyIter_striter_wide st h
theorem its_ok {K : KA} {x : Str} {S : Hp → Hp → Prop} : ItOk K (Its x) (signD x) S := fun i G H hS sg => by
 unfold signD
 refine ⟨fun d ed => ?_, fun hl => ?_⟩
 ·rw [List.getElem?_map] at ed
  cases e : x.cps.toList[i]? with
  | none => rw [e] at ed; cases ed
  | some c =>
   rw [e] at ed
   cases ed
   have hi : i < x.cps.size := by simpa using (List.getElem?_eq_some_iff.mp e).1
   refine ⟨hi, fun v H' ⟨z, c', ec, ev⟩ => ?_⟩
   subst z
   have : x.cps.toList[i]? = some c' := by simpa using ec
   rw [e] at this
   cases this
   exact ⟨G, Ext.refl sg, ev⟩
 ·rw [List.length_map] at hl
  show x.cps.size ≤ i
  simpa using hl
section
variable {X : Cx} {G0 B : Hp} {E : EK} {e a b c tg iter : Expr} {g h : En → Res} {pos p : Pos}
noncomputable def iWalk (K : PySem.W.Frag) (tl : TE) : TI := fun σ H R => tl σ H fun x H1 => (∃ a, x = .ref a ∧ (((∃ xs, SqL K H1 a xs) ∧ R (Itl K a) H1) ∨ ((∃ xs, SqT K H1 a xs) ∧ R (Itt K a) H1))) ∨ ∃ z, x = .str z ∧ R (Its z) H1
theorem pi_walk {l : Expr} {tl : TE} (hl : PE X l tl) : PI X tg l (iWalk X.K tl) := by
 intro pins s σ H R I h
 refine thn (hl pins s σ H _ I h) fun v s1 ⟨x, H1, I1, r1, q1⟩ => ?_
 rcases q1 with ⟨a, e, ⟨⟨xs, hq⟩, q⟩ | ⟨⟨xs, hq⟩, q⟩⟩ | ⟨z, e, q⟩
 ·subst e
  cases r1
  obtain ⟨its, rv, p, hz⟩ := I1.list hq
  refine wpAny_pyIter_list p.isList ?_
  refine ⟨s1.heap.objs.size, [s1.heap.objs.size], _, _, H1, rfl, I1.kept (t' := s1.toks) fun b o e => Heap.get?_push_of_some _ e, turn_list a _, ⟨_, Heap.get?_push_size _ rfl, rfl, rfl⟩, fun b hb => ?_, q⟩
  have e : b = s1.heap.objs.size := by simpa using hb
  subst e
  exact I1.fpOk (Nat.le_refl _) (I1.hok.fresh (Nat.le_refl _))
 ·subst e
  cases r1
  obtain ⟨its, rv, p, hz⟩ := I1.tuple hq
  refine wpAny_pyIter_tuple (show s1.heap.IsTuple a its.toArray from p) ?_
  refine ⟨s1.heap.objs.size, [s1.heap.objs.size], _, _, H1, rfl, I1.kept (t' := s1.toks) fun b o e => Heap.get?_push_of_some _ e, turn_tuple a _, ⟨_, Heap.get?_push_size _ rfl, rfl, rfl⟩, fun b hb => ?_, q⟩
  have e : b = s1.heap.objs.size := by simpa using hb
  subst e
  exact I1.fpOk (Nat.le_refl _) (I1.hok.fresh (Nat.le_refl _))
 ·subst e
  obtain ⟨t, rfl⟩ := r1
  cases ha : z.cps.all (· < 128)
  ·refine wpAny_pyIter_wide ha ⟨s1.heap.objs.size, [s1.heap.objs.size], _, _, H1, rfl, I1.kept (t' := s1.toks) fun b o e => Heap.get?_push_of_some _ e, turn_wide _ z t, ⟨_, Heap.get?_push_size _ rfl, rfl, rfl⟩, fun b hb => ?_, q⟩
   have e : b = s1.heap.objs.size := by simpa using hb
   subst e
   exact I1.fpOk (Nat.le_refl _) (I1.hok.fresh (Nat.le_refl _))
  ·refine wpAny_pyIter_ascii ha ⟨s1.heap.objs.size, [s1.heap.objs.size], _, _, H1, rfl, I1.kept (t' := s1.toks) fun b o e => Heap.get?_push_of_some _ e, turn_ascii _ z t, ⟨_, Heap.get?_push_size _ rfl, rfl, rfl⟩, fun b hb => ?_, q⟩
   have e : b = s1.heap.objs.size := by simpa using hb
   subst e
   exact I1.fpOk (Nat.le_refl _) (I1.hok.fresh (Nat.le_refl _))
noncomputable def walkD : D → Option (List D)
 | .lst ds => some ds
 | .tup ds => some ds
 | .str x => some (signD x)
 | _ => none
noncomputable def gWalk (g : En → Res) : En → ResL := fun δ => match g δ with
 | .ok d => (match walkD d with
  | some ds => .ok ds
  | none => .st)
 | .er c => .er c
 | .st => .st
theorem walkP {G H : Hp} {δ : En} {P : List D → Prop} (q : ResLP E G H (gWalk g δ) P) : ResP E G H (g δ) fun d => ∃ ds, walkD d = some ds ∧ P ds := by
 unfold gWalk at q
 cases e : g δ with
 | ok d =>
  rw [e] at q
  dsimp only at q
  cases e2 : walkD d with
  | some ds => rw [e2] at q; exact ⟨ds, e2, q⟩
  | none => rw [e2] at q; exact q.elim
 | er c => rw [e] at q; exact q
 | st => rw [e] at q; exact q
theorem pi_boW (h : BoE X B E e g) : PuI X B E tg e (gWalk g) := PI.imp (pi_walk h) fun σ H R ⟨G, δ, Rr, q⟩ => ⟨G, δ, Rr, (walkP q).mono fun d _ ⟨ds, ed, q⟩ v G1 H1 e1 ax => by
 have bh : Same B H1 := Rr.bh.trans e1.hh
 cases d with
 | lst ds' =>
  cases ed
  rcases ax with ⟨a, vs, rfl, s, dl⟩ | ⟨ds2, a, vs, z, rfl, s, dl⟩ | ⟨t, kvs, a, z, _⟩
  ·exact .inl ⟨a, rfl, .inl ⟨⟨vs, SqL.mono e1.gh s⟩, q _ G1 H1 e1 (itl_ok (fun G2 H2 ⟨x1, x2⟩ sg => ⟨SqL.mono (x1.trans sg) s, x1⟩) dl)⟩⟩
  ·cases z
   exact .inl ⟨a, rfl, .inl ⟨⟨vs, SqL.mono bh s⟩, q _ G1 H1 e1 (itl_ok (fun G2 H2 ⟨x1, x2⟩ sg => ⟨SqL.mono x2 s, x1⟩) dl)⟩⟩
  ·cases z
 | tup ds' =>
  cases ed
  rcases ax with ⟨a, vs, rfl, s, dl⟩ | ⟨ds2, a, vs, z, rfl, s, dl⟩ | ⟨t, kvs, a, z, _⟩
  ·exact .inl ⟨a, rfl, .inr ⟨⟨vs, SqT.of (e1.gh _ _ s)⟩, q _ G1 H1 e1 (itt_ok (fun G2 H2 ⟨x1, x2⟩ sg => ⟨SqT.of ((x1.trans sg) _ _ s), x1⟩) dl)⟩⟩
  ·cases z
  ·cases z
 | str z => cases ed; exact .inr ⟨z, ax.str, q _ G1 H1 e1 its_ok⟩
 | non => cases ed
 | bl _ => cases ed
 | int _ => cases ed
 | dct _ _ => cases ed
 | obj _ _ => cases ed
 | fn _ => cases ed⟩
theorem pic_arW (h : ArE X B E e g) : PuIc X B E tg e (gWalk g) := PI.imp (pi_walk h) fun σ H R ⟨G, δ, Rr, q⟩ => ⟨G, δ, Rr, (walkP q).mono fun d _ ⟨ds, ed, q⟩ v G1 H1 e1 ax => by
 cases d with
 | lst ds' =>
  cases ed
  obtain ⟨a, vs, rfl, s, dl⟩ := ax.lst e1.gh
  exact .inl ⟨a, rfl, .inl ⟨⟨vs, s⟩, q _ G1 H1 e1 (itl_ok (fun G2 H2 x sg => ⟨SqL.mono x.hh s, x.gg⟩) dl)⟩⟩
 | tup ds' =>
  cases ed
  obtain ⟨a, vs, rfl, s, dl⟩ := ax.tup e1.gh
  exact .inl ⟨a, rfl, .inr ⟨⟨vs, s⟩, q _ G1 H1 e1 (itt_ok (fun G2 H2 x sg => ⟨SqT.mono x.hh s, x.gg⟩) dl)⟩⟩
 | str z => cases ed; exact .inr ⟨z, ax.str, q _ G1 H1 e1 its_ok⟩
 | non => cases ed
 | bl _ => cases ed
 | int _ => cases ed
 | dct _ _ => cases ed
 | obj _ _ => cases ed
 | fn _ => cases ed⟩
noncomputable def findD (ps : List PyData) (q : PyData) : Option Nat := ps.findIdx? fun y => PyData.eqv y q
noncomputable def pyIndex : D → D → Option D
 | .lst xs, d => (match toPyL xs, toPy d with
  | some ps, some q => if PyData.canLayAll0 ps && SeqAt.shaped q && decide (xs.length ≤ sizeLine) then (findD ps q).map fun j => .int (j : Nat) else none
  | _, _ => none)
 | _, _ => none
noncomputable def pyCount : D → D → Option D
 | .lst xs, d => (match toPyL xs, toPy d with
  | some ps, some q => if PyData.canLayAll0 ps && SeqAt.shaped q then some (.int (ps.countP (fun y => PyData.eqv y q) : Nat)) else none
  | _, _ => none)
 | _, _ => none
noncomputable def rMt (K : KA) (f : D → D → Option D) : V → List V → Hp → VK → Prop := fun x vs H Q => ∃ G dx dy y d, Same G H ∧ Arg K G H dx x ∧ vs = [y] ∧ Arg K G H dy y ∧ f dx dy = some d ∧ ∀ v, Den K G d v → Q v H
theorem mt_indexD (hu : X.A.units + 65 < cLine) : MtR X "list.index" (rMt (kx X) pyIndex) := by
 intro pins s σ H x vs v us Q I rx rv q
 obtain ⟨G, dx, dy, y, d, sg, ax, rfl, ay, ed, q⟩ := q
 obtain ⟨u, rfl, ru⟩ := rv.one
 cases dx with
 | lst xs =>
  unfold pyIndex at ed
  dsimp only at ed
  cases e1 : toPyL xs with
  | none => rw [e1] at ed; cases ed
  | some ps =>
   cases e2 : toPy dy with
   | none => rw [e1, e2] at ed; cases ed
   | some q' =>
    rw [e1, e2] at ed
    dsimp only at ed
    by_cases hs : (PyData.canLayAll0 ps && SeqAt.shaped q' && decide (xs.length ≤ sizeLine)) = true
    ·rw [if_pos hs] at ed
     simp only [Bool.and_eq_true, decide_eq_true_eq] at hs
     obtain ⟨⟨h1, h2⟩, h3⟩ := hs
     cases ej : findD ps q' with
     | none => rw [ej] at ed; cases ed
     | some j =>
      rw [ej] at ed
      cases ed
      obtain ⟨as, ra⟩ := reads_arg (p := .list ps) I sg ax rx (by unfold toPy; rw [e1])
      obtain ⟨bs, rb⟩ := reads_arg I sg ay ru e2
      cases ra with
      | @list l o items n _ _ g1 g2 g3 g4 =>
       obtain ⟨cls, dd, data, sl⟩ := o
       simp only at g2 g3
       subst g2 g3
       have hm := SeqAt.readsAll_map ps _ _ h1 g4
       have hlen : items.size = ps.length := by rw [← hm, List.length_map]; simp
       unfold findD at ej
       obtain ⟨w1, w2, w3⟩ := List.findIdx?_eq_some_iff_getElem.mp ej
       have at_ : ∀ (k : Nat) (hk : k < items.size), PyData.eqv (SeqAt.readOf s.heap items[k]) q' = PyData.eqv (ps[k]'(by omega)) q' := fun k hk => by
        congr 1
        have : (items.toList.map (SeqAt.readOf s.heap))[k]? = ps[k]? := by rw [hm]
        rw [List.getElem?_map, List.getElem?_eq_getElem (by simpa using hk), List.getElem?_eq_getElem (by omega)] at this
        simpa using this
       have hz : ps.length ≤ sizeLine := by
        have : xs.length = ps.length := by
         obtain ⟨l', vs', rfl, sq, dl⟩ := ax.lst sg
         cases rx
         obtain ⟨its, rv', pl, _⟩ := I.list sq
         obtain ⟨o', ho', hc', n', hd'⟩ := pl.isList
         rw [g1] at ho'
         cases ho'
         cases hd'
         rw [dl.length, rv'.length, ← hlen]; simp
        omega
       have hbig : (sizeLine : Int) < 2 ^ 63 - 1 := by decide
       refine call_meets PySem.F.slot_list_index ⟨_, g1, rfl⟩ PySem.F.entry_list_index (PySem.F.args_list_index_2 _ _)
        (PySem.SeqAt.list_indexAt l items n dd sl u (fun y => PyData.eqv (SeqAt.readOf s.heap y) q') j (by omega) (by omega) ?_ ?_) ⟨g1, fun y hy => SeqAt.items_eqAt g4 rb h1 (SeqAt.canLay_of_shaped h2) (room_in_shaped h2 hu) y hy, ?_⟩
       ·show PyData.eqv (SeqAt.readOf s.heap items[j]) q' = true
        rw [at_ j (by omega)]; exact w2
       ·intro k hk hlt
        show PyData.eqv (SeqAt.readOf s.heap items[k]) q' = false
        rw [at_ k hk]
        have := w3 k hlt
        simpa using this
       ·exact ⟨.int j, H, I.tok _, ⟨_, rfl⟩, q _ rfl⟩
    ·rw [if_neg hs] at ed; cases ed
 | _ => cases ed
end
end Pu
end
section
namespace L2
open PySem PySem.Spec PyProof.Rows
theorem notMany {n : Int} (h : n ≤ 16777216) : Builtin.Tuple.tupleTooMany n = false := by
 unfold Builtin.Tuple.tupleTooMany
 rw [decide_eq_false_iff_not]
 have : (sizeLine : Int) = 16777216 := by decide
 omega
theorem tup_mul (l : Addr) (o : Obj) (items : Array Value) (n : Nat) (x : Int) (u : Tok) (hcl : o.cls = .type "tuple") (hd : o.data = .seq items n) (h0 : items.isEmpty = false) (h2 : 2 ≤ x) (h3 : x < 2 ^ 20) (hz : items.size * x.toNat ≤ 16777216) :
  Meets (Builtin.«tuple.__mul__» ⟨[.ref l, .int x u], []⟩) (fun _ R s => s.heap.get? l = some o ∧ R (.ok (.ret (Value.ref s.heap.objs.size))) { s with heap := s.heap.push { cls := Value.type "tuple", data := Data.seq (List.foldl (fun x1 x2 => x1 ++ x2) #[] (List.replicate x.toNat items)) } }) :=
 .of_wp fun prog w A R s h => by
  obtain ⟨hp, g, d, tk, os⟩ := s; obtain ⟨hl, h⟩ := h
  obtain ⟨oc, od, odt, osl⟩ := o
  subst hcl hd
  unfold Builtin.«tuple.__mul__»
  have hx : (decide (x < -2 ^ 63) || decide (x ≥ 2 ^ 63)) = false := by
   rw [Bool.or_eq_false_iff, decide_eq_false_iff_not, decide_eq_false_iff_not]; omega
  wp_walk
  rw [if_neg (by rw [hx]; decide)]
  refine wpAny_bind (wpAny_tupleItemsOf hl rfl ?_)
  have h1 : (items.isEmpty || x == 1) = false := by
   rw [h0, Bool.false_or]; exact beq_eq_false_iff_ne.mpr (by omega)
  rw [if_neg (by rw [h1]; decide)]
  have hc : ((items.size : Nat) : Int) * x ≤ 16777216 := by
   have e : x = ((x.toNat : Nat) : Int) := by omega
   rw [e, ← Int.natCast_mul]; omega
  have h4 : (decide (x ≤ 0) || items.isEmpty) = false := by
   rw [h0, Bool.or_false, decide_eq_false_iff_not]; omega
  rw [if_neg (by rw [h4]; decide)]
  rw [if_neg (by omega), if_neg (by rw [notMany hc]; decide)]
  have hf : List.foldl (fun x1 x2 => x1 ++ x2) #[] (List.replicate x.toNat items) = (List.replicate x.toNat items.toList).flatten.toArray := by
   have := foldl_rep items.toList x.toNat []
   simpa using this
  have hsz : (List.foldl (fun x1 x2 => x1 ++ x2) #[] (List.replicate x.toNat items)).size ≤ sizeLine := by
   rw [hf, List.size_toArray, len_rep, Array.length_toList, Nat.mul_comm]; exact hz
  first
   | exact wpAny_bind (m := Builtin.Tuple.tupleExact _) (wpAny_newObj_type (wpAny_pure ⟨_, rfl, h⟩) hsz)
   | exact wpAny_bind (m := Builtin.Tuple.tupleExact _) (wpAny_newObj_type ⟨_, rfl, h⟩ hsz)
theorem tup_mul1 (l : Addr) (o : Obj) (items : Array Value) (n : Nat) (u : Tok) (hcl : o.cls = .type "tuple") (hd : o.data = .seq items n) :
  Meets (Builtin.«tuple.__mul__» ⟨[.ref l, .int 1 u], []⟩) (fun _ R s => s.heap.get? l = some o ∧ R (.ok (.ret (Value.ref l))) s) :=
 .of_wp fun prog w A R s h => by
  obtain ⟨hp, g, d, tk, os⟩ := s; obtain ⟨hl, h⟩ := h
  obtain ⟨oc, od, odt, osl⟩ := o
  subst hcl hd
  unfold Builtin.«tuple.__mul__»
  wp_walk
  exact ⟨_, rfl, h⟩
theorem noFill_tuple_mul : fillsNumberSlot (.type "tuple") "mul" = pure false := PySem.fillsNumberSlot_seq (id := "tuple.__mul__") (r := some (.builtin "tuple.__rmul__")) F.slot_tuple_mul.lookup (by decide +kernel) F.slot_tuple_rmul.lookup (by decide +kernel)
theorem repeat_tuple : seqRepeat? (.type "tuple") = pure (some (.builtin "tuple.__mul__")) := by
 unfold seqRepeat?; rw [PySem.seqSlot_of (T := "tuple") (name := "__mul__") (id := "tuple.__mul__") F.slot_tuple_mul.lookup (by decide +kernel), PySem.seqSlot_of (T := "tuple") (name := "__rmul__") (id := "tuple.__rmul__") F.slot_tuple_rmul.lookup (by decide +kernel)]; rfl
theorem rmul_tup (a : Int) (t : Tok) (l : Addr) (o : Obj) (items : Array Value) (n : Nat) (hcl : o.cls = .type "tuple") (hd : o.data = .seq items n) : Meets (Builtin.«int.__rmul__» ⟨[.int a t, .ref l], []⟩) (fun _ R s => s.heap.get? l = some o ∧ R (.ok (.ret Value.notImplemented)) s) :=
 .of_wp fun prog w A R s h => by
  obtain ⟨hp, g, d, tk, os⟩ := s; obtain ⟨hl, h⟩ := h
  obtain ⟨oc, od, odt, osl⟩ := o
  subst hcl hd
  wp_walk; exact ⟨_, rfl, h⟩
section
variable {X : Cx}
noncomputable def rRepT (K : PySem.W.Frag) : R2 := fun x y H Q => ∃ l k xs, x = .ref l ∧ y = .int k ∧ SqT K H l xs ∧ xs ≠ [] ∧ 1 ≤ k ∧ k < 2 ^ 20 ∧ xs.length * k.toNat ≤ 16777216 ∧ (k = 1 → Q (.ref l) H) ∧
 ∀ p, H p = none → Q (.ref p) (upd H p (.tup (List.replicate k.toNat xs).flatten))
theorem op_repT : OpR X (binaryOp .Mult) (rRepT X.K) := by
 intro pins s σ H x y v u Q I rx ry h
 obtain ⟨l, k, xs, rfl, rfl, hH, hne, h1, h2, hz, q1, q⟩ := h
 cases rx
 obtain ⟨t, rfl⟩ := ry
 obtain ⟨its, r, ⟨o, e, hc, n, hd⟩, _⟩ := I.tuple hH
 have hl := r.length
 by_cases hk1 : k = 1
 ·subst hk1
  exact wpAny_binaryOp_repeat_ref (T := "tuple") (U := "int") (by decide) ⟨_, e, hc⟩ (fun s' => typeIs_int s' 1 t) noFill_tuple_mul F.fills_int_mul F.slot_int_rmul repeat_tuple F.slot_int_index.lookup
   (call_meets F.slot_int_rmul (typeIs_int s 1 t) F.entry_int_rmul (F.args_int_rmul_2 _ _) (rmul_tup 1 t l o its.toArray n hc hd)
    ⟨e, rfl, ⟨_, e, hc⟩, call_meets F.slot_tuple_mul ⟨_, e, hc⟩ F.entry_tuple_mul (F.args_tuple_mul_2 _ _) (tup_mul1 l o its.toArray n t hc hd) ⟨e, ⟨.ref l, H, I, rfl, q1 rfl⟩⟩⟩)
 have h1 : 2 ≤ k := by omega
 have hemp : its.toArray.isEmpty = false := by
  cases its with
  | nil => cases xs with
   | nil => exact absurd rfl hne
   | cons _ _ => cases hl
  | cons a b => rfl
 refine wpAny_binaryOp_repeat_ref (T := "tuple") (U := "int") (by decide) ⟨_, e, hc⟩ (fun s' => typeIs_int s' k t) noFill_tuple_mul F.fills_int_mul F.slot_int_rmul repeat_tuple F.slot_int_index.lookup
  (call_meets F.slot_int_rmul (typeIs_int s k t) F.entry_int_rmul (F.args_int_rmul_2 _ _) (rmul_tup k t l o its.toArray n hc hd)
   ⟨e, rfl, ⟨_, e, hc⟩, call_meets F.slot_tuple_mul ⟨_, e, hc⟩ F.entry_tuple_mul (F.args_tuple_mul_2 _ _) (tup_mul l o its.toArray n k t hc hd hemp h1 h2 (by rw [List.size_toArray, ← hl]; exact hz)) ⟨e, ?_⟩⟩)
 have hnew : List.foldl (fun x1 x2 => x1 ++ x2) #[] (List.replicate k.toNat its.toArray) = (List.replicate k.toNat its).flatten.toArray := by
  have := foldl_rep its k.toNat []
  rw [List.nil_append] at this
  exact this
 rw [hnew]
 exact ⟨.ref _, _, I.laid (o := .tup (List.replicate k.toNat xs).flatten) (t' := s.toks) (fun _ _ q => Heap.get?_push_of_some _ q) (Nat.le_refl _) ⟨by rw [len_rep, Nat.mul_comm]; exact hz, _, r.rep k.toNat, ⟨_, Heap.get?_push_size _ rfl, rfl, 0, rfl⟩⟩, rfl, q _ I.fresh⟩
theorem lst_mul (l : Addr) (o : Obj) (items : Array Value) (n : Nat) (x : Int) (u : Tok) (hcl : o.cls = .type "list") (hdc : o.dict = none) (hd : o.data = .seq items n) (hc0 : ¬(!Builtin.List.listFitsIndex x) = true) (hc1 : ¬items.size * x.toNat > (2 ^ 63 - 1) / 8) (hc2 : ¬Builtin.List.listTooLong (items.size * x.toNat) = true) :
  Meets (Builtin.«list.__mul__» ⟨[.ref l, .int x u], []⟩) (fun _ R s => s.heap.get? l = some o ∧ R (.ok (.ret (Value.ref s.heap.objs.size))) { s with heap := s.heap.push { cls := Value.type "list", data := Data.seq (List.foldl (fun x1 x2 => x1 ++ x2) #[] (List.replicate (if items.isEmpty = true then 0 else x.toNat) items)) } }) :=
 .of_wp fun prog w A R s h => by
  obtain ⟨hp, g, d, tk, os⟩ := s; obtain ⟨hl, h⟩ := h
  obtain ⟨oc, od, odt, osl⟩ := o
  subst hcl hdc hd
  have hsz := AutoListH.joined_fits hc2
  wp_walk; refine wpAny_ite_false (decide_eq_false (Nat.not_lt.mpr hsz)) ?_; wp_walk; exact ⟨_, rfl, h⟩
theorem rmul_lst (a : Int) (t : Tok) (l : Addr) (o : Obj) (items : Array Value) (n : Nat) (hcl : o.cls = .type "list") (hd : o.data = .seq items n) : Meets (Builtin.«int.__rmul__» ⟨[.int a t, .ref l], []⟩) (fun _ R s => s.heap.get? l = some o ∧ R (.ok (.ret Value.notImplemented)) s) :=
 .of_wp fun prog w A R s h => by
  obtain ⟨hp, g, d, tk, os⟩ := s; obtain ⟨hl, h⟩ := h
  obtain ⟨oc, od, odt, osl⟩ := o
  subst hcl hd
  wp_walk; exact ⟨_, rfl, h⟩
noncomputable def rRepL (K : PySem.W.Frag) : R2 := fun x y H Q => ∃ l k xs, x = .ref l ∧ y = .int k ∧ SqL K H l xs ∧ -(2 ^ 63) ≤ k ∧ k < 2 ^ 63 ∧ xs.length * k.toNat ≤ sizeLine ∧
 ∀ p, H p = none → Q (.ref p) (upd H p (.lst (List.replicate k.toNat xs).flatten))
theorem op_repL : OpR X (binaryOp .Mult) (rRepL X.K) := by
 intro pins s σ H x y v u Q I rx ry h
 obtain ⟨l, k, xs, rfl, rfl, hH, h1, h2, hz, q⟩ := h
 cases rx
 obtain ⟨t, rfl⟩ := ry
 obtain ⟨its, r, ⟨o, n, e, hc, hdc, hd⟩, _⟩ := I.list hH
 have hl := r.length
 have hlen : its.toArray.size * k.toNat ≤ sizeLine := by rw [List.size_toArray, ← hl]; exact hz
 have hcap : ¬ its.toArray.size * k.toNat > (2 ^ 63 - 1) / 8 := by
  have : (sizeLine : Nat) ≤ (2 ^ 63 - 1) / 8 := by decide
  omega
 have hfit : ¬ (!Builtin.List.listFitsIndex k) = true := by
  rw [fitsIndex_both h1 h2]
  exact Bool.false_ne_true
 have hlong : ¬ Builtin.List.listTooLong (its.toArray.size * k.toNat) = true := by
  rw [notLongL hlen]
  exact Bool.false_ne_true
 have hnew : List.foldl (fun x1 x2 => x1 ++ x2) #[] (List.replicate (if its.toArray.isEmpty = true then 0 else k.toNat) its.toArray) = (List.replicate k.toNat its).flatten.toArray := by
  have f0 : ∀ m : Nat, List.foldl (fun x1 x2 => x1 ++ x2) #[] (List.replicate m its.toArray) = (List.replicate m its).flatten.toArray := fun m => by
   have := foldl_rep its m []
   rw [List.nil_append] at this
   exact this
  rw [f0]
  cases its with
  | nil => simp
  | cons a r' => rw [if_neg (by simp)]
 refine wpAny_binaryOp_repeat_ref (T := "list") (U := "int") (by decide) ⟨_, e, hc⟩ (fun s' => typeIs_int s' k t) noFill_list_mul F.fills_int_mul F.slot_int_rmul repeat_list F.slot_int_index.lookup
  (call_meets F.slot_int_rmul (typeIs_int s k t) F.entry_int_rmul (F.args_int_rmul_2 _ _) (rmul_lst k t l o its.toArray n hc hd)
   ⟨e, rfl, ⟨_, e, hc⟩, call_meets F.slot_list_mul ⟨_, e, hc⟩ F.entry_list_mul (F.args_list_mul_2 _ _) (lst_mul l o its.toArray n k t hc hdc hd hfit hcap hlong) ⟨e, ?_⟩⟩)
 rw [hnew]
 exact ⟨.ref _, _, I.lnew (t' := s.toks) (r.rep k.toNat) (by rw [len_rep, Nat.mul_comm]; exact hz), rfl, q _ I.fresh⟩
end
end L2
end
section
namespace Pu
open PySem PySem.Spec PyProof.Rows L2
section
variable {X : Cx} {G0 B : Hp} {E : EK} {e a b c tg iter : Expr} {g h : En → Res} {pos p : Pos}
theorem mt_countD (hu : X.A.units + 65 < cLine) : MtR X "list.count" (rMt (kx X) pyCount) := by
 intro pins s σ H x vs v us Q I rx rv q
 obtain ⟨G, dx, dy, y, d, sg, ax, rfl, ay, ed, q⟩ := q
 obtain ⟨u, rfl, ru⟩ := rv.one
 cases dx with
 | lst xs =>
  unfold pyCount at ed
  dsimp only at ed
  cases e1 : toPyL xs with
  | none => rw [e1] at ed; cases ed
  | some ps =>
   cases e2 : toPy dy with
   | none => rw [e1, e2] at ed; cases ed
   | some q' =>
    rw [e1, e2] at ed
    dsimp only at ed
    by_cases hs : (PyData.canLayAll0 ps && SeqAt.shaped q') = true
    ·rw [if_pos hs] at ed
     simp only [Bool.and_eq_true] at hs
     obtain ⟨h1, h2⟩ := hs
     cases ed
     obtain ⟨as, ra⟩ := reads_arg (p := .list ps) I sg ax rx (by unfold toPy; rw [e1])
     obtain ⟨bs, rb⟩ := reads_arg I sg ay ru e2
     cases ra with
     | @list l o items n _ _ g1 g2 g3 g4 =>
      obtain ⟨cls, dd, data, sl⟩ := o
      simp only at g2 g3
      subst g2 g3
      have hm := SeqAt.readsAll_map ps _ _ h1 g4
      refine call_meets PySem.F.slot_list_count ⟨_, g1, rfl⟩ PySem.F.entry_list_count (PySem.F.args_list_count_2 _ _)
       (PySem.SeqAt.list_countAt l items n dd sl u (fun y => PyData.eqv (SeqAt.readOf s.heap y) q')) ⟨g1, fun y hy => SeqAt.items_eqAt g4 rb h1 (SeqAt.canLay_of_shaped h2) (room_in_shaped h2 hu) y hy, ?_⟩
      have ec : items.toList.countP (fun y => PyData.eqv (SeqAt.readOf s.heap y) q') = ps.countP (fun y => PyData.eqv y q') := by
       rw [← hm, List.countP_map]; rfl
      rw [ec]
      exact ⟨.int _, H, I.tok _, ⟨_, rfl⟩, q _ rfl⟩
    ·rw [if_neg hs] at ed; cases ed
 | _ => cases ed
noncomputable def gM (f : D → D → Option D) (g h : En → Res) : En → Res := fun δ => (g δ).bind fun x => match x with
 | .lst xs => (h δ).bind fun y => Res.of (f (.lst xs) y)
 | _ => .st
theorem pu_mt {f : D → D → Option D} {m : Str} {id : String} {ap cp : Pos} (slot : Slot "list" m id) (hty : typeOf (.builtin id) = pure (.type "method_descriptor")) (hm : MtR X id (rMt (kx X) f)) (ho : ArE X B E a g) (he : ArE X B E e h)
  (hb : attributeBase a m X.env (eval a X.env) = eval a X.env) (hn : nst e = true) (hl : (ap.endLine == cp.line) = true) : PuE X B E (.Call (.Attribute a m ap) [e] [] cp) (gM f g h) :=
 PE.imp (pe_bm PySem.F.plainAttrs_list slot hty hm ho (al_cons he al_nil (star_cons hn)) hb (by rw [star_all (by rw [List.all_cons, hn]; rfl)]; rfl) hl (star_cons hn) rfl) fun σ H Q ⟨G, δ, R, q⟩ => ⟨G, δ, R, (ResP.bind q).mono fun dx _ qx x G1 H1 e1 ax => by
  cases dx with
  | lst xs =>
   have ax' := ax
   obtain ⟨l, vs, rfl, sq, dl⟩ := ax.lst e1.gh
   refine ⟨.inl ⟨rfl, vs, sq⟩, G1, δ, R.ext e1, ?_⟩
   have qx : ResP E G1 H1 ((h δ).bind fun y => Res.of (f (.lst xs) y)) _ := ResP.ext e1 qx
   unfold gCons
   cases eh : h δ with
   | ok dy =>
    rw [eh] at qx
    obtain ⟨d, ed, qd⟩ := ResP.of (show ResP E G1 H1 (Res.of (f (.lst xs) dy)) _ from qx)
    intro ws G2 H2 e2 al
    obtain ⟨y, rfl, ay⟩ := ArgsM.one al
    exact ⟨G2, .lst xs, dy, y, d, e2.gh, ax'.ext e2, rfl, ay, ed, fun v dn => qd v G2 H2 (e1.trans e2) dn⟩
   | er c => rw [eh] at qx; exact qx
   | st => rw [eh] at qx; exact qx
  | _ => exact qx.elim⟩
theorem pu_index {ap cp : Pos} (hu : X.A.units + 65 < cLine) (ho : ArE X B E a g) (he : ArE X B E e h) (hb : noCall a = true) (hn : nst e = true) (hl : (ap.endLine == cp.line) = true) : PuE X B E (.Call (.Attribute a "index" ap) [e] [] cp) (gM pyIndex g h) :=
 pu_mt PySem.F.slot_list_index PySem.F.type_list_index (mt_indexD hu) ho he (noCall_base hb) hn hl
theorem pu_count {ap cp : Pos} (hu : X.A.units + 65 < cLine) (ho : ArE X B E a g) (he : ArE X B E e h) (hb : noCall a = true) (hn : nst e = true) (hl : (ap.endLine == cp.line) = true) : PuE X B E (.Call (.Attribute a "count" ap) [e] [] cp) (gM pyCount g h) :=
 pu_mt PySem.F.slot_list_count PySem.F.type_list_count (mt_countD hu) ho he (noCall_base hb) hn hl
noncomputable def pyMul : D → D → Option D
 | .int i, .int j => if (-(2 ^ 64) < i ∧ i < 2 ^ 64) ∨ (-(2 ^ 64) < j ∧ j < 2 ^ 64) then some (.int (i * j)) else none
 | .str x, .int n => if x.length * n.toNat ≤ sizeLine ∧ -(2 ^ 20) ≤ n ∧ n < 2 ^ 20 then some (.str (Txt.mul x n)) else none
 | .tup xs, .int n => if xs ≠ [] ∧ 1 ≤ n ∧ n < 2 ^ 20 ∧ xs.length * n.toNat ≤ 16777216 then some (.tup (List.replicate n.toNat xs).flatten) else none
 | .lst xs, .int n => if xs.length * n.toNat ≤ sizeLine ∧ -(2 ^ 20) ≤ n ∧ n < 2 ^ 20 then some (.lst (List.replicate n.toNat xs).flatten) else none
 | _, _ => none
theorem mulOk {x : Str} {n : Int} (h : x.length * n.toNat ≤ sizeLine ∧ -(2 ^ 20) ≤ n ∧ n < 2 ^ 20) : MulOk x n := by
 obtain ⟨h1, h2, h3⟩ := h
 refine ⟨?_, fun a b => ?_, fun a b => ?_⟩
 ·simp only [Bool.or_eq_false_iff, decide_eq_false_iff_not]
  omega
 ·intro hc
  have hx : x.length ≤ sizeLine := by
   have : 1 ≤ n.toNat := by omega
   exact Nat.le_trans (Nat.le_mul_of_pos_right _ this) h1
  have hs : (sizeLine : Int) = 2 ^ 24 := rfl
  have h4 : (2 ^ 63 - 1 : Int) / n ≥ 2 ^ 43 - 1 := by
   rw [ge_iff_le, Int.le_ediv_iff_mul_le (by omega)]
   have : (2 ^ 43 - 1 : Int) * n ≤ (2 ^ 43 - 1) * 2 ^ 20 := Int.mul_le_mul_of_nonneg_left (by omega) (by decide)
   omega
  omega
 ·unfold Builtin.Str.tooLong
  simp only [gt_iff_lt, decide_eq_false_iff_not, Nat.not_lt]
  exact h1
theorem denL_rep {K : KA} {G : Hp} {ds : List D} {vs : List V} (dl : DenL K G ds vs) : ∀ n : Nat, DenL K G (List.replicate n ds).flatten (List.replicate n vs).flatten
 | 0 => rfl
 | n + 1 => by
  rw [List.replicate_succ, List.flatten_cons, List.replicate_succ, List.flatten_cons]
  exact dl.append (denL_rep dl n)
noncomputable def rMulD (K : KA) : R2 := fun x y H Q => ∃ G dx dy d, Same G H ∧ Arg K G H dx x ∧ Arg K G H dy y ∧ pyMul dx dy = some d ∧ ∀ v G' H', Ext G H G' H' → Den K G' d v → Q v H'
theorem op_mulD : OpR X (binaryOp .Mult) (rMulD (kx X)) := by
 intro pins s σ H x y v u Q I rx ry q
 obtain ⟨G, dx, dy, d, sg, ax, ay, ed, q⟩ := q
 unfold pyMul at ed
 split at ed
 ·split at ed
  ·rename_i hc
   cases ed
   rw [ax.int] at rx
   rw [ay.int] at ry
   exact op_mul pins s σ H _ _ _ _ Q I rx ry ⟨_, _, rfl, rfl, hc, q _ G H (Ext.refl sg) rfl⟩
  ·cases ed
 ·split at ed
  ·rename_i hc
   cases ed
   rw [ax.str] at rx
   rw [ay.int] at ry
   obtain ⟨t, rfl⟩ := rx
   obtain ⟨t', rfl⟩ := ry
   exact SB.mul (mulOk hc) fun t'' k => ⟨.str _, H, I.tok _, ⟨_, rfl⟩, q _ G H (Ext.refl sg) rfl⟩
  ·cases ed
 ·split at ed
  ·rename_i xs n hc
   cases ed
   have ax' := ax
   obtain ⟨l, vs, rfl, sq, dl⟩ := ax.tup sg
   rw [ay.int] at ry
   have hl := dl.length
   refine op_repT pins s σ H _ _ _ _ Q I rx ry ⟨l, n, vs, rfl, rfl, sq, fun z => hc.1 (List.length_eq_zero_iff.mp (by rw [hl, z]; rfl)), hc.2.1, hc.2.2.1, by rw [← hl]; exact hc.2.2.2, fun hn => q _ G H (Ext.refl sg) (by subst hn; rw [show (List.replicate (1 : Int).toNat xs).flatten = xs from List.append_nil xs]; rcases ax' with ad | ⟨_, _, _, z, _⟩ | ⟨_, _, _, z, _⟩ <;> first | exact ad | cases z), fun p hp => q _ (upd G p (.tup (List.replicate n.toNat vs).flatten)) _ (Ext.new sg _ hp) (den_newT sg hp (denL_rep dl n.toNat))⟩
  ·cases ed
 ·split at ed
  ·rename_i xs n hc
   cases ed
   obtain ⟨l, vs, rfl, sq, dl⟩ := ax.lst sg
   rw [ay.int] at ry
   have hl := dl.length
   exact op_repL pins s σ H _ _ _ _ Q I rx ry ⟨l, n, vs, rfl, rfl, sq, by omega, by omega, by rw [← hl]; exact hc.1, fun p hp => q _ (upd G p (.lst (List.replicate n.toNat vs).flatten)) _ (Ext.new sg _ hp) (den_newL sg hp (denL_rep dl n.toNat))⟩
  ·cases ed
 ·cases ed
theorem pu_mul (ha : ArE X B E a g) (hb : ArE X B E b h) : PuE X B E (.BinOp a .Mult b pos) (g2 pyMul g h) := pu_op op_mulD (fun G H x y dx dy d sg ax ay ed Q q => ⟨G, dx, dy, d, sg, ax, ay, ed, q⟩) ha hb
noncomputable def gRep (g h : En → Res) : En → Res := fun δ => (g δ).bind fun x => (h δ).bind fun y => match x, y with
 | .lst xs, .int n => if xs.length * n.toNat ≤ sizeLine ∧ -(2 ^ 20) ≤ n ∧ n < 2 ^ 20 then .ok (.lst (List.replicate n.toNat xs).flatten) else .st
 | _, _ => .st
theorem ow_rep (ha : OwE X B E a g) (hil : IsL g) (hb : ArE X B E b h) : OwE X B E (.BinOp a .Mult b pos) (gRep g h) :=
 PE.imp (pe_op op_rep ha hb) fun σ H Q ⟨G, δ, R, q⟩ => ⟨G, δ, R, (ResP.bind q).mono fun dx edx qx => by
  obtain ⟨xs, rfl⟩ := hil δ dx edx
  ·refine ⟨xs, rfl, fun l vs G1 H1 e1 hn gn hl dl => ⟨G1, δ, R.ext e1, ((ResP.bind qx).ext e1).mono fun dy _ qy y G2 H2 e2 ay => ?_⟩⟩
   cases dy with
   | int n =>
    dsimp only at qy
    split at qy
    ·rename_i hc
     obtain ⟨ds, ed, qd⟩ := qy
     cases ed
     have e12 := e1.trans e2
     refine ⟨l, n, vs, rfl, ay.int, e2.hh _ _ hl, by omega, by omega, by rw [← dl.length]; exact hc.1, fun p hp => ?_⟩
     exact qd p _ G2 _ (e12.trans (Ext.own e2.gh _ hp)) (free_of e12.hh hp) (free_of e2.gh hp) upd_same (denL_rep (dl.mono e2.gg) n.toNat)
    ·exact qy.elim
   | _ => exact qy.elim⟩
theorem isL_rep : IsL (gRep g h) := fun δ d e => by
 unfold gRep at e
 cases e1 : g δ with
 | er c => rw [e1] at e; cases e
 | st => rw [e1] at e; cases e
 | ok x =>
  rw [e1] at e
  cases e2 : h δ with
  | er c => rw [e2] at e; cases e
  | st => rw [e2] at e; cases e
  | ok y =>
   rw [e2] at e
   cases x with
   | lst xs =>
    cases y with
    | int n =>
     have e : (if xs.length * n.toNat ≤ sizeLine ∧ -(2 ^ 20) ≤ n ∧ n < 2 ^ 20 then Res.ok (.lst (List.replicate n.toNat xs).flatten) else .st) = .ok d := e
     split at e
     ·cases e; exact ⟨_, rfl⟩
     ·cases e
    | _ => cases e
   | _ => cases e
theorem vals_get : ∀ {xs : List V} {us : List Value}, xs.length = us.length → (∀ (i : Nat) x u, xs[i]? = some x → us[i]? = some u → RelV x u) → Vals xs us
 | [], [], _, _ => .nil
 | [], _ :: _, h, _ => by simp at h
 | _ :: _, [], h, _ => by simp at h
 | x :: xs, u :: us, h, f => .cons (f 0 x u rfl rfl) (vals_get (by simpa using h) fun i y v e1 e2 => f (i + 1) y v (by simpa using e1) (by simpa using e2))
theorem items_vals {acc : Array Value} {n : Nat} (h : ItemsOf (fun i v => ∃ t, v = .int (0 + (i : Int) * 1) t) acc n) : Vals ((List.range n).map fun (i : Nat) => V.int (0 + (i : Int))) acc.toList := by
 obtain ⟨h1, h2⟩ := h
 refine vals_get (by simp [h1]) fun i x u e1 e2 => ?_
 have hi : i < n := by
  have := (List.getElem?_eq_some_iff.mp e1).1
  simpa using this
 rw [List.getElem?_map, List.getElem?_range hi] at e1
 cases e1
 obtain ⟨t, rfl⟩ := h2 i u (by simpa using e2)
 exact ⟨t, by simp⟩
noncomputable def gListR (g : En → ResL) : En → Res := fun δ => match g δ with
 | .ok [.int j] => if -(2 ^ 20) ≤ j ∧ j ≤ 2 ^ 20 then .ok (.lst (rangeD 0 j.toNat)) else .st
 | .ok _ => .st
 | .er c => .er c
 | .st => .st
theorem denL_range {K : KA} {G : Hp} (n : Nat) : DenL K G (rangeD 0 n) ((List.range n).map fun (i : Nat) => V.int (0 + (i : Int))) := by
 unfold rangeD
 generalize List.range n = l
 induction l with
 | nil => rfl
 | cons a l ih => exact ⟨_, _, rfl, rfl, ih⟩
theorem ow_listR {r : En → ResL} {p2 pos2 : Pos} (hc : X.calm = true) (hg : Gl X "list") (hm : X.mg "list" = none) (hg2 : Gl X "range") (hm2 : X.mg "range" = none) (ha : ArL X B E [true] [a] r) (hn : nst a = true) :
  OwE X B E (.Call (.Name "list" p) [.Call (.Name "range" p2) [a] [] pos2] [] pos) (gListR r) := by
 intro pins s σ H Q I ⟨G, δ, R, q⟩
 refine wpAny_Call_Name_kw (ld_blt I hg hm PyProof.Rows.boot_list ?_ (by decide) (by decide))
 refine PyProof.Rows.callWith_type1 ?_ rfl rfl
 show wpAny _ _ (spliced ((false, eval (.Call (.Name "range" p2) [a] [] pos2) X.env) :: backTo pos (starEach [] X.env))) _ _ s
 refine Calls.spliced_cons ?_
 have key : ResLP E G H (r δ) fun ds => ∃ j, ds = [.int j] ∧ -(2 ^ 20) ≤ j ∧ j ≤ 2 ^ 20 ∧ ∀ a vs G' H', Ext G H G' H' → H a = none → G' a = none → H' a = some (.lst vs) → DenL (kx X) G' (rangeD 0 j.toNat) vs → Q (.ref a) H' := by
  unfold gListR at q
  cases er : r δ with
  | er c => rw [er] at q; exact q
  | st => rw [er] at q; exact q
  | ok ds =>
   rw [er] at q
   show ∃ j, _
   split at q
   ·rename_i e
    cases e
    split at q
    ·rename_i hj
     obtain ⟨ds', ed, q⟩ := q
     cases ed
     exact ⟨_, rfl, hj.1, hj.2, q⟩
    ·exact q.elim
   ·exact q.elim
   ·rename_i e; cases e
   ·rename_i e; cases e
 refine Call_ (ld_blt I hg2 hm2 boot_range (PyProof.Rows.callWith_type1 (thn (ha pos2 pins s σ H (fun vs H1 => ∃ j G1, vs = [.int j] ∧ -(2 ^ 20) ≤ j ∧ j ≤ 2 ^ 20 ∧ Ext G H G1 H1 ∧ ∀ a vs G' H', Ext G H G' H' → H a = none → G' a = none → H' a = some (.lst vs) → DenL (kx X) G' (rangeD 0 j.toNat) vs → Q (.ref a) H') I
  ⟨G, δ, R, key.mono fun ds _ ⟨j, ed, j1, j2, q⟩ vs G1 H1 e1 al => by
   subst ed
   obtain ⟨v, rfl, av⟩ := ArgsM.one al
   exact ⟨j, G1, by rw [av.int], j1, j2, e1, q⟩⟩) fun us s1 ⟨vs, H1, I1, r1, q1⟩ => ?_) (star_cons hn) rfl))
 obtain ⟨j, G1, rfl, j1, j2, e1, q⟩ := q1
 obtain ⟨u, rfl, ru⟩ := vals1 r1
 obtain ⟨t, rfl⟩ := ru
 refine call_range_1 ?_
 have I2 : Inv X pins σ H1 { s1 with heap := s1.heap.push { cls := .type "range", data := .fields #[.int 0 s1.toks, .int j t, .int 1 (s1.toks + 1)] }, toks := s1.toks + 1 + 1 } := I1.kept fun b o e => Heap.get?_push_of_some _ e
 refine Calls.spliced_nil ?_
 refine call_list_range (n := j.toNat) (I2.ok.hd hc) (IsRange.new ..) (small_one (by omega) (by omega) (by omega) (by omega)) (by rw [rangeSize_one]; split <;> omega) (by omega) fun h' tk acc c' hk hS hacc => ?_
 have fr := I2.hok.fresh (Nat.le_refl _)
 have hv := items_vals hacc
 refine ⟨.ref _, _, I2.laid (t' := tk) (o := .lst ((List.range j.toNat).map fun (i : Nat) => V.int (0 + (i : Int)))) hk (Nat.le_refl _) ⟨?_, acc.toList, c', hv, by simpa using hS⟩, rfl, ?_⟩
 ·rw [List.length_map, List.length_range]
  have : (2 : Nat) ^ 20 ≤ sizeLine := by decide
  omega
 ·exact q _ _ G1 _ (e1.trans (Ext.own e1.gh _ fr)) (free_of e1.hh fr) (free_of e1.gh fr) upd_same (denL_range _)
end
noncomputable def intsOf : List D → Option (List Int)
 | [] => some []
 | .int i :: r => (intsOf r).map (i :: ·)
 | _ :: _ => none
theorem intsOf_vals {K : KA} {G : Hp} : ∀ {ds : List D} {ns : List Int} {vs : List V}, intsOf ds = some ns → DenL K G ds vs → vs = ns.map V.int
 | [], ns, vs, h, d => by cases h; exact d
 | d :: ds, ns, vs, h, dl => by
  obtain ⟨v, vr, rfl, dv, dr⟩ := dl
  cases d with
  | int b =>
   unfold intsOf at h
   cases e : intsOf ds with
   | none => rw [e] at h; cases h
   | some ns' =>
    rw [e] at h
    cases h
    cases (show v = .int b from dv)
    rw [List.map_cons, intsOf_vals e dr]
  | _ => cases h
section
variable {X : Cx} {G0 B : Hp} {E : EK} {e a b c tg iter : Expr} {g h : En → Res} {pos p : Pos}
noncomputable def rRemI : V → List V → Hp → VK → Prop := fun x vs H Q => ∃ (l : Addr) (ns : List Int) (k : Int) (j : Nat), x = .ref l ∧ vs = [.int k] ∧ H l = some (.lst (ns.map V.int)) ∧ ns.findIdx? (· == k) = some j ∧ Q .non (upd H l (.lst ((ns.map V.int).eraseIdx j)))
theorem mt_remI : MtM X "list.remove" rRemI := by
 intro pins s σ H x vs v us Q I rx rv h
 obtain ⟨l, ns, k, j, rfl, rfl, hH, hj, q⟩ := h
 cases rx
 obtain ⟨u, rfl, ru⟩ := rv.one
 obtain ⟨t, rfl⟩ := ru
 obtain ⟨z, its, n, r, hl, e⟩ := I.lstM hH
 have hi : IntsAre its ns := intsAre_of r
 have hlen := hi.length
 rw [List.length_map] at z hl
 obtain ⟨w1, w2, w3⟩ := List.findIdx?_eq_some_iff_getElem.mp hj
 have hs1 : its.toArray.size ≤ sizeLine := by rw [List.size_toArray]; omega
 refine call_meets F.slot_list_remove ⟨_, e, rfl⟩ F.entry_list_remove (F.args_list_remove_2 _ _)
  (MeetsSeq.list_remove l its.toArray n (.int k t) (isInt k) (fun y hy => eq_isInt k t hi y (by simpa using hy)) j (by rw [List.size_toArray]; omega) ?_ ?_ hs1) ⟨e, ?_⟩
 ·show isInt k its[j] = true
  rw [isInt_at k hi j (by omega) w1]
  exact w2
 ·intro m hm hlt
  show isInt k its[m] = false
  rw [isInt_at k hi m (by simpa using hm) (by omega)]
  have := w3 m hlt
  simpa using this
 ·refine ⟨.non, _, I.lset (its' := its.eraseIdx j) hH e ?_ (r.eraseIdx j) ?_, rfl, q⟩
  ·show its.toArray.eraseIdxIfInBounds j = (its.eraseIdx j).toArray
   rw [List.eraseIdxIfInBounds_toArray]
  ·have := len_erase (ns.map V.int) j
   rw [List.length_map] at this
   omega
noncomputable def sRem (i : Nat) (g : En → Res) : En → Out := fun δ => match δ[i]? with
 | some (.ow ds) => (g δ).then fun d => match d, intsOf ds with
  | .int k, some ns => (match ns.findIdx? (· == k) with
   | some j => .nx (δ.set i (.ow (ds.eraseIdx j)))
   | none => .st)
  | _, _ => .st
 | _ => .st
theorem s_remove {i : Nat} {x : Str} {p apos cpos : Pos} (hv : PE X (.Name x p) (tVar i)) (ha : ArE X B E e g) (hn : nst e = true) (hline : (apos.endLine == cpos.line) = true) :
  PuS X G0 B E (.Expr (.Call (.Attribute (.Name x p) "remove" apos) [e] [] cpos) pos) (sRem i g) :=
 PS.imp (ps_expr (pe_bm PySem.F.plainAttrs_list PySem.F.slot_list_remove PySem.F.type_list_remove mt_remI hv (al_cons ha al_nil (star_cons hn)) rfl (by rw [star_all (by rw [List.all_cons, hn]; rfl)]; rfl) hline (star_cons hn) rfl) rfl) fun D σ H ⟨G, δ, R, ex, q⟩ => by
  unfold sRem at q
  cases ed : δ[i]? with
  | none => rw [ed] at q; exact q.elim
  | some sl =>
   rw [ed] at q
   cases sl with
   | ow ds =>
    dsimp only at q
    obtain ⟨l, vs, q1, q2, q3, q4, q5⟩ := R.owAt ed
    refine ⟨.ref l, q1, .inl ⟨rfl, vs, SqL.of q2⟩, G, δ, R, ?_⟩
    have q' := thenP ex q
    unfold gCons
    cases eg : g δ with
    | er c => rw [eg] at q'; exact q'
    | st => rw [eg] at q'; exact q'
    | ok d =>
     rw [eg] at q'
     intro ws G1 H1 e1 al
     obtain ⟨v, rfl, av⟩ := ArgsM.one al
     cases d with
     | int k =>
      cases ei : intsOf ds with
      | none =>
       have q' : OutP (kx X) G0 B E G (match Pu.D.int k, intsOf ds with
        | .int k, some ns => (match ns.findIdx? (· == k) with
         | some j => .nx (δ.set i (.ow (ds.eraseIdx j)))
         | none => .st)
        | _, _ => .st) D := q'
       rw [ei] at q'
       exact q'.elim
      | some ns =>
       have q' : OutP (kx X) G0 B E G (match Pu.D.int k, intsOf ds with
        | .int k, some ns => (match ns.findIdx? (· == k) with
         | some j => .nx (δ.set i (.ow (ds.eraseIdx j)))
         | none => .st)
        | _, _ => .st) D := q'
       rw [ei] at q'
       dsimp only at q'
       cases ej : ns.findIdx? (· == k) with
       | none => rw [ej] at q'; exact q'.elim
       | some j =>
        rw [ej] at q'
        have evs := intsOf_vals ei q3
        have h1 := e1.hh _ _ q2
        have g1 := e1.fr _ _ q2 q4 rfl
        refine ⟨l, ns, k, j, rfl, by rw [av.int], by rw [← evs]; exact h1, ej, ?_⟩
        rw [← evs]
        exact q' σ G1 _ e1.gg (EnvR.wr (R.ext e1) ed q1 h1 ((q3.mono e1.gg).eraseIdx j)) (Ext.wr (ex.trans e1) g1 q5)
     | _ => exact q'.elim
   | no => exact q.elim
   | pu _ => exact q.elim
   | bo _ => exact q.elim
   | od _ _ => exact q.elim
end
inductive ResE where
 | ok (d : D) (δ : En)
 | er (c : Str)
 | st
noncomputable def ResEP (K : KA) (G0 B : Hp) (E : EK) (G : Hp) (σ : St) (r : ResE) (P : D → Hp → Hp → En → Prop) : Prop := match r with
 | .ok d δ' => ∀ G' H', Same G G' → EnvR K B G' H' σ δ' → Ext G0 B G' H' → P d G' H' δ'
 | .er c => ∀ G' H', Ext G0 B G' H' → E c H'
 | .st => False
noncomputable def tEf (K : KA) (G0 B : Hp) (E : EK) (g : En → ResE) : TE := fun σ H Q => ∃ G δ, EnvR K B G H σ δ ∧ Ext G0 B G H ∧ ResEP K G0 B E G σ (g δ) fun d G' H' _ => ∀ v, Den K G' d v → Q v H'
noncomputable def tEt (K : KA) (G0 B : Hp) (E : EK) (g : En → ResE) : TT := fun σ H Q => ∃ G δ, EnvR K B G H σ δ ∧ Ext G0 B G H ∧ ResEP K G0 B E G σ (g δ) fun d G' H' _ => ∃ b, d = .bl b ∧ Q b H'
noncomputable abbrev EfE (X : Cx) (G0 B : Hp) (E : EK) (e : Expr) (g : En → ResE) : Prop := PE X e (tEf (kx X) G0 B E g)
noncomputable abbrev EfT (X : Cx) (G0 B : Hp) (E : EK) (e : Expr) (g : En → ResE) : Prop := PT X e (tEt (kx X) G0 B E g)
noncomputable def Res.ef (r : Res) (δ : En) : ResE := match r with
 | .ok d => .ok d δ
 | .er c => .er c
 | .st => .st
noncomputable def gPure (g : En → Res) : En → ResE := fun δ => (g δ).ef δ
section
variable {X : Cx} {G0 B : Hp} {E : EK} {e a b c tg iter : Expr} {g h k : En → Res} {f : En → ResE} {pos p : Pos} {ss tt : List Stmt} {F1 F2 : En → Out}
theorem efP {K : KA} {G H : Hp} {σ : St} {δ : En} {r : Res} {P : D → Hp → Hp → En → Prop} (R : EnvR K B G H σ δ) (x : Ext G0 B G H) (q : ResEP K G0 B E G σ (r.ef δ) P) : ResP E G H r fun d => ∀ G' H', Ext G H G' H' → P d G' H' δ := by
 cases r with
 | ok d => exact fun G' H' e => q G' H' e.gg (R.ext e) (x.trans e)
 | er c => exact fun G' H' e => q G' H' (x.trans e)
 | st => exact q
theorem ef_pure (h : PuE X B E e g) : EfE X G0 B E e (gPure g) := PE.imp h fun σ H Q ⟨G, δ, R, x, q⟩ => ⟨G, δ, R, (efP R x q).mono fun d _ q v G' H' e dn => q G' H' e v dn⟩
noncomputable def gIfE (c : En → Res) (f1 f2 : En → ResE) : En → ResE := fun δ => match c δ with
 | .ok (.bl true) => f1 δ
 | .ok (.bl false) => f2 δ
 | .ok _ => .st
 | .er c => .er c
 | .st => .st
theorem ef_if {f1 f2 : En → ResE} (hc : PuT X B E c g) (h1 : EfE X G0 B E a f1) (h2 : EfE X G0 B E b f2) : EfE X G0 B E (.IfExp c a b pos) (gIfE g f1 f2) :=
 PE.imp (pe_ifExp hc h1 h2) fun σ H Q ⟨G, δ, R, x, q⟩ => ⟨G, δ, R, by
  unfold gIfE at q
  cases eg : g δ with
  | er c => rw [eg] at q; exact fun G' H' e => q G' H' (x.trans e)
  | st => rw [eg] at q; exact q
  | ok d =>
   rw [eg] at q
   cases d with
   | bl t =>
    cases t with
    | true =>
     refine ⟨true, rfl, fun G1 H1 e1 => ⟨G1, δ, R.ext e1, x.trans e1, ?_⟩⟩
     dsimp only at q
     cases ef : f1 δ with
     | ok d δ' => rw [ef] at q; exact fun G' H' s => q G' H' (e1.gg.trans s)
     | er c => rw [ef] at q; exact q
     | st => rw [ef] at q; exact q
    | false =>
     refine ⟨false, rfl, fun G1 H1 e1 => ⟨G1, δ, R.ext e1, x.trans e1, ?_⟩⟩
     dsimp only at q
     cases ef : f2 δ with
     | ok d δ' => rw [ef] at q; exact fun G' H' s => q G' H' (e1.gg.trans s)
     | er c => rw [ef] at q; exact q
     | st => rw [ef] at q; exact q
   | _ => exact q.elim⟩
noncomputable def gCmpE (p : D → D → Option D) (f : En → ResE) (h : En → Res) : En → ResE := fun δ => match f δ with
 | .ok x δ' => ((h δ').bind fun y => Res.of (p x y)).ef δ'
 | .er c => .er c
 | .st => .st
theorem et_cmp {op : CmpOp} {f2 : D → D → Option D} {r : R2} (ho : OpR X (compareOp op) r) (hp : Prim2 (kx X) f2 r) (hb' : ∀ x y d, f2 x y = some d → ∃ b, d = .bl b) (ha : EfE X G0 B E a f) (hb : ArE X B E b h) (hm : behindInMarks op b = false) : EfT X G0 B E (.Compare a [op] [b] pos) (gCmpE f2 f h) :=
 PT.imp (pt_cmpR ho ha hb hm) fun σ H Q ⟨G, δ, R, x, q⟩ => ⟨G, δ, R, x, by
  unfold gCmpE at q
  cases ef : f δ with
  | er c => rw [ef] at q; exact q
  | st => rw [ef] at q; exact q
  | ok dx δ' =>
   rw [ef] at q
   intro G1 H1 s1 R1 x1 v dn
   have q1 : ResEP (kx X) G0 B E G1 σ (((h δ').bind fun y => Res.of (f2 dx y)).ef δ') fun d G' H' _ => ∃ b, d = .bl b ∧ Q b H' := by
    dsimp only at q
    cases eh : (h δ').bind fun y => Res.of (f2 dx y) with
    | ok d => rw [eh] at q; exact fun G' H' s => q G' H' (s1.trans s)
    | er c => rw [eh] at q; exact q
    | st => rw [eh] at q; exact q
   have q2 := efP R1 x1 q1
   refine ⟨G1, δ', R1, (ResP.bind q2).mono fun dy _ qy y G2 H2 e2 ay => ?_⟩
   obtain ⟨d, ed, qd⟩ := ResP.of qy
   obtain ⟨b, rfl⟩ := hb' _ _ _ ed
   refine hp G2 H2 v y dx dy (.bl b) e2.gh (Arg.ext e2 (.inl dn)) ay ed _ fun w G3 H3 e3 dw => ?_
   obtain ⟨b', eb, qb⟩ := qd G3 H3 (e2.trans e3)
   cases eb
   exact ⟨b, dw, qb⟩⟩
noncomputable def sIfE (f : En → ResE) (F1 F2 : En → Out) : En → Out := fun δ => match f δ with
 | .ok (.bl true) δ' => F1 δ'
 | .ok (.bl false) δ' => F2 δ'
 | .ok _ _ => .st
 | .er c => .er c
 | .st => .st
theorem s_ifE (hc : EfT X G0 B E c f) (ha : PuSs X G0 B E ss F1) (hb : PuSs X G0 B E tt F2) : PuS X G0 B E (.If c ss tt pos) (sIfE f F1 F2) :=
 PS.imp (ps_if hc ha hb) fun D σ H ⟨G, δ, R, x, q⟩ => ⟨G, δ, R, x, by
  unfold sIfE at q
  cases ef : f δ with
  | er c => rw [ef] at q; exact q
  | st => rw [ef] at q; exact q
  | ok d δ' =>
   rw [ef] at q
   intro G1 H1 s1 R1 x1
   cases d with
   | bl t =>
    refine ⟨t, rfl, ?_⟩
    cases t with
    | true => exact ⟨G1, δ', R1, x1, OutP.same s1 q⟩
    | false => exact ⟨G1, δ', R1, x1, OutP.same s1 q⟩
   | _ => exact q.elim⟩
noncomputable def sSetE (i : Nat) (f : En → ResE) : En → Out := fun δ => match f δ with
 | .ok d δ' => .nx (δ'.set i (.pu d))
 | .er c => .er c
 | .st => .st
theorem s_setE {i : Nat} {x : Str} {pos' : Pos} (hs : PS X (.Assign [.Name x pos'] e pos) (tAsg (tEf (kx X) G0 B E f) (gName i))) : PuS X G0 B E (.Assign [.Name x pos'] e pos) (sSetE i f) :=
 PS.imp hs fun D σ H ⟨G, δ, R, x, q⟩ => ⟨G, δ, R, x, by
  unfold sSetE at q
  cases ef : f δ with
  | er c => rw [ef] at q; exact q
  | st => rw [ef] at q; exact q
  | ok d δ' =>
   rw [ef] at q
   intro G1 H1 s1 R1 x1 v dn
   exact q _ G1 H1 s1 (R1.set dn) x1⟩
noncomputable def sDropE (f : En → ResE) : En → Out := fun δ => match f δ with
 | .ok _ δ' => .nx δ'
 | .er c => .er c
 | .st => .st
theorem s_dropE (h : EfE X G0 B E e f) (hs : swapsWith e none pos.line X.env = pure false) : PuS X G0 B E (.Expr e pos) (sDropE f) :=
 PS.imp (ps_expr h hs) fun D σ H ⟨G, δ, R, x, q⟩ => ⟨G, δ, R, x, by
  unfold sDropE at q
  cases ef : f δ with
  | er c => rw [ef] at q; exact q
  | st => rw [ef] at q; exact q
  | ok d δ' =>
   rw [ef] at q
   intro G1 H1 s1 R1 x1 v dn
   exact q σ G1 H1 s1 R1 x1⟩
theorem d_setdef {pins : List (Addr × Obj)} {σ : St} {H : Hp} {s : Shared} {a : Addr} {kvs : List (Key × V)} {k : Key} {v : V} {u r : Value} {A : Around} {E : Value → Shared → Prop} {Q : Value → Shared → Prop} (I : Inv X pins σ H s) (e : H a = some (.dK kvs)) (hl : kvs.length < sizeLine) (ry : RelV (kV k) u) (rv : RelV v r)
  (h1 : ∀ v' w s', valV kvs k = some v' → RelV v' w → Inv X pins σ H s' → Q w s') (h2 : ∀ s', valV kvs k = none → Inv X pins σ (upd H a (.dK (putK kvs k v))) s' → Q r s') :
  wpAny (model X.prog X.w) A (call (.builtin "dict.setdefault") [.ref a, u, r]) Q E s := by
 obtain ⟨z, hd, vs, rel, dd⟩ := dk_of I.hok e
 refine call_meetsIn PySem.F.slot_dict_setdefault dd.typeIs PySem.F.entry_dict_setdefault (PySem.F.args_dict_setdefault_3 _ _ _) (kt_meets_setdefault (mixKind X.prog X.w) a (kV_is ry) hd r)
  ⟨vs, dd, by rw [← rel.length]; exact z, fun w hw => ?_, fun hn h' dd' hs => ?_⟩
 ·have := rel.val k
  rw [hw] at this
  cases ev : valV kvs k with
  | none => rw [ev] at this; cases this
  | some v' => rw [ev] at this; exact h1 v' w _ ev this (I.tok _)
 ·have hv := rel.val k
  rw [hn] at hv
  have ev : valV kvs k = none := by
   cases ev : valV kvs k with
   | none => rfl
   | some v' => rw [ev] at hv; cases hv
  refine h2 _ ev ?_
  have he : ∃ q, h'.get? a = some q := let ⟨q, _, _, hq, _⟩ := dd'; ⟨q, hq⟩
  have hz : (putK kvs k v).length ≤ sizeLine := by have := length_putK kvs k v; omega
  exact d_write I (by rw [e]; exact True.intro) hs he (dk_new hz hd (rel.put k rv) dd')
end
section
variable {X : Cx} {G0 B : Hp} {E : EK} {e a b c tg iter : Expr} {g h k : En → Res} {f : En → ResE} {pos p : Pos}
noncomputable def gSetdef (i : Nat) (gk gv : En → Res) : En → ResE := fun δ => match δ[i]? with
 | some (.od false kvs) => (match gk δ with
  | .ok dk => (match gv δ with
   | .ok dv => (match keyOf dk with
    | some j => if kvs.length < sizeLine then (match lookD kvs j with
     | some d => .ok d δ
     | none => .ok dv (δ.set i (.od false (putD kvs j dv)))) else .st
    | none => .st)
   | .er c => .er c
   | .st => .st)
  | .er c => .er c
  | .st => .st)
 | _ => .st
theorem putK_look {K : KA} {G : Hp} {kvs : List (D × D)} {es : List (Key × V)} (dl : DenK K G kvs es) {j : Key} (h : valV es j = none) : lookD kvs j = none := by
 cases e : lookD kvs j with
 | none => rfl
 | some d =>
  obtain ⟨v, q, _⟩ := (dl.look j).1 d e
  rw [h] at q
  cases q
theorem ef_setdef {i : Nat} {x : Str} {ke ve : Expr} {ap cp : Pos} (hv : PE X (.Name x p) (tVar i)) (hk : ArE X B E ke g) (hval : PuE X B E ve h) (hn : nst ke = true) (hn2 : nst ve = true) (hl : (ap.endLine == cp.line) = true) :
  EfE X G0 B E (.Call (.Attribute (.Name x p) "setdefault" ap) [ke, ve] [] cp) (gSetdef i g h) := by
 intro pins s σ H Q I ⟨G, δ, R, ex, q⟩
 unfold gSetdef at q
 cases ed : δ[i]? with
 | none => rw [ed] at q; exact q.elim
 | some sl =>
  rw [ed] at q
  cases sl with
  | od t kvs =>
   cases t with
   | true => exact q.elim
   | false =>
    dsimp only at q
    obtain ⟨l, es, q1, q2, q3, q4, q5⟩ := R.odAt ed
    have few : ((backTo cp (starEach [ke, ve] X.env)).all (fun x => !x.1) && (backToKw cp (keywordEach [] X.env)).all (fun x => x.1.isSome)
     && decide (([ke, ve] : List Expr).length + ([] : List Keyword).length + (if ([] : List Keyword).isEmpty then 0 else 1) < 30)) = true := by
     rw [star_all (by rw [List.all_cons, List.all_cons, hn, hn2]; rfl)]; rfl
    refine wpAny_Call_method rfl few hl PySem.F.plainAttrs_dict PySem.F.slot_dict_setdefault PySem.F.type_dict_setdefault (thn (hv pins s σ H (fun v H1 => v = .ref l ∧ H1 = H) I ⟨_, q1, rfl, rfl⟩) fun u s1 ⟨v, H1, I1, r1, e1, e2⟩ => ?_)
    subst e1 e2
    cases r1
    obtain ⟨t1, t2, _⟩ := isD_at I1 (.inl ⟨es, .inl q2⟩)
    refine ⟨t1, t2, ?_⟩
    rw [star_two hn hn2]
    have qk : ResP (E) G H1 (g δ) fun dk => ResP E G H1 (h δ) fun dv => ∃ j, keyOf dk = some j ∧ kvs.length < sizeLine ∧ ResEP (kx X) G0 B E G σ (match lookD kvs j with
     | some d => .ok d δ
     | none => .ok dv (δ.set i (.od false (putD kvs j dv)))) fun d G' H' _ => ∀ v, Den (kx X) G' d v → Q v H' := by
     cases eg : g δ with
     | er c => rw [eg] at q; exact fun G' H' e => q G' H' (ex.trans e)
     | st => rw [eg] at q; exact q
     | ok dk =>
      rw [eg] at q
      dsimp only at q
      show ResP E G H1 (h δ) _
      cases eh : h δ with
      | er c => rw [eh] at q; exact fun G' H' e => q G' H' (ex.trans e)
      | st => rw [eh] at q; exact q
      | ok dv =>
       rw [eh] at q
       dsimp only at q
       cases ej : keyOf dk with
       | none => rw [ej] at q; exact q.elim
       | some j =>
        rw [ej] at q
        dsimp only at q
        by_cases hl : kvs.length < sizeLine
        ·rw [if_pos hl] at q; exact ⟨j, rfl, hl, q⟩
        ·rw [if_neg hl] at q; exact q.elim
    refine Calls.callWith_builtin rfl (Calls.evalArgs_plain (Calls.spliced_cons (thn (hk pins s1 σ H1 (fun y H2 => ∃ G2 dk, Ext G H1 G2 H2 ∧ Arg (kx X) G2 H2 dk y ∧ ResP E G H1 (h δ) fun dv => ∃ j, keyOf dk = some j ∧ kvs.length < sizeLine ∧ ResEP (kx X) G0 B E G σ (match lookD kvs j with
     | some d => .ok d δ
     | none => .ok dv (δ.set i (.od false (putD kvs j dv)))) fun d G' H' _ => ∀ v, Den (kx X) G' d v → Q v H') I1 ⟨G, δ, R, qk.mono fun dk _ qk y G2 H2 e2 ay => ⟨G2, dk, e2, ay, qk⟩⟩) fun yv s2 ⟨y, H2, I2, ry, G2, dk, e2, ay, qv⟩ => ?_)))
    refine Calls.spliced_cons (thn (hval pins s2 σ H2 (fun z H3 => ∃ G3 dv j, Ext G2 H2 G3 H3 ∧ Den (kx X) G3 dv z ∧ keyOf dk = some j ∧ kvs.length < sizeLine ∧ ResEP (kx X) G0 B E G σ (match lookD kvs j with
     | some d => .ok d δ
     | none => .ok dv (δ.set i (.od false (putD kvs j dv)))) fun d G' H' _ => ∀ v, Den (kx X) G' d v → Q v H') I2 ⟨G2, δ, R.ext e2, (qv.ext e2).mono fun dv _ ⟨j, ej, hl, q⟩ z G3 H3 e3 dz => ⟨G3, dv, j, e3, dz, ej, hl, q⟩⟩) fun zv s3 ⟨z, H3, I3, rz, G3, dv, j, e3, dz, ej, hsz, q⟩ => Calls.spliced_nil ?_)
    have e23 := e2.trans e3
    have h3 := e23.hh _ _ q2
    have g3 := e23.fr _ _ q2 q4 rfl
    have dl3 := q3.mono e23.gg
    have R3 := R.ext e23
    rw [den_key ay ej] at ry
    refine d_setdef I3 h3 (by rw [← dl3.length]; exact hsz) ry rz (fun v' w s' ev rw' I' => ?_) fun s' ev I' => ?_
    ·cases el : lookD kvs j with
     | none => rw [(dl3.look j).2 el] at ev; cases ev
     | some d =>
      rw [el] at q
      obtain ⟨v2, z1, z2⟩ := (dl3.look j).1 d el
      rw [z1] at ev
      cases ev
      exact ⟨v', H3, I', rw', q G3 H3 e23.gg R3 (ex.trans e23) v' z2⟩
    ·have el := putK_look dl3 ev
     rw [el] at q
     exact ⟨z, _, I', rz, q G3 _ e23.gg (EnvR.wrD R3 ed q1 h3 (dl3.put dz j)) (Ext.wr (ex.trans e23) g3 q5) z dz⟩
  | no => exact q.elim
  | pu _ => exact q.elim
  | bo _ => exact q.elim
  | ow _ => exact q.elim
noncomputable def keysD (kvs : List (D × D)) : List D := kvs.map (·.1)
theorem denL_keys {K : KA} {G : Hp} : ∀ {kvs : List (D × D)} {es : List (Key × V)}, DenK K G kvs es → DenL K G (keysD kvs) (es.map fun p => kV p.1)
 | [], es, h => by rw [show es = [] from h]; rfl
 | (_, _) :: _, es, ⟨k, v, r, h1, h0, h2, h3⟩ => by
  subst h1 h0
  refine ⟨kV k, _, rfl, ?_, denL_keys h3⟩
  cases k <;> rfl
noncomputable def pyListD : D → Option D
 | .lst ds => some (.lst ds)
 | .tup ds => some (.lst ds)
 | .dct false kvs => some (.lst (keysD kvs))
 | _ => none
theorem is_kV {P : Program} {w : World} {k : Key} {v : Value} (h : (mixKind P w).is k v = true) : RelV (kV k) v := by
 rcases keyIs_shape (show keyIs k v = true from h) with ⟨i, t, rfl, rfl⟩ | ⟨x, t, rfl, rfl⟩
 ·exact ⟨t, rfl⟩
 ·exact ⟨t, rfl⟩
theorem call_listD (hc : X.calm = true) : CallR X (.type "list") (fun xs H Q => ∃ p es, xs = [.ref p] ∧ H p = some (.dK es) ∧ ∀ l, H l = none → Q (.ref l) (upd H l (.lst (es.map fun p => kV p.1)))) := by
 intro pins s σ H xs us Q I r h
 obtain ⟨p, es, rfl, hp, q⟩ := h
 obtain ⟨u, rfl, rx⟩ := vals1 r
 cases rx
 obtain ⟨z, hd, vs, rel, dd⟩ := dk_of I.hok hp
 obtain ⟨ep, da⟩ := dd.dictAt
 refine PySem.W.kdl_call (PySem.W.kdl_dict (knd := mixKind X.prog X.w) (kvs := vs) (ep := ep) hd) (I.ok.hd hc) da (by rw [← rel.length]; exact z) fun h' tk acc c' hk hS ⟨hn, hacc⟩ => ?_
 have hv : Vals (es.map fun p => kV p.1) acc.toList := by
  refine vals_get (by rw [List.length_map, rel.length]; simp [hn]) fun i x u e1 e2 => ?_
  obtain ⟨k, y, ek, hk'⟩ := hacc i u (by simpa using e2)
  rw [List.getElem?_map] at e1
  have key : ∀ {l : List (Key × V)} {m : List (Key × Value)}, KV l m → ∀ (i : Nat) (p : Key × V) (q : Key × Value), l[i]? = some p → m[i]? = some q → p.1 = q.1 := by
   intro l m r
   induction r with
   | nil => intro i p q e; simp at e
   | @cons a b as bs hh t ih =>
    intro i p q e1 e2
    cases i with
    | zero => simp at e1 e2; subst e1 e2; exact hh.1
    | succ i => exact ih i p q (by simpa using e1) (by simpa using e2)
  cases eo : es[i]? with
  | none => rw [eo] at e1; cases e1
  | some pr =>
   rw [eo] at e1
   cases e1
   have := key rel i pr (k, y) eo ek
   show RelV (kV pr.1) u
   rw [this]
   exact is_kV hk'
 refine ⟨.ref _, _, I.laid (t' := tk) (o := .lst (es.map fun p => kV p.1)) hk (Nat.le_refl _) ⟨by rw [List.length_map]; exact z, acc.toList, c', hv, by simpa using hS⟩, rfl, q _ I.fresh⟩
theorem ow_listD (hc : X.calm = true) (hg : Gl X "list") (hm : X.mg "list" = none) (ha : ArE X B E e g) (hn : nst e = true) : OwE X B E (.Call (.Name "list" p) [e] [] pos) (g1 pyListD g) :=
 PE.imp (pe_callTy (CallR.or call_list_of (call_listD hc)) hg hm PyProof.Rows.boot_list (al_cons ha al_nil (star_cons hn)) (by decide) (by decide) (star_cons hn) rfl) fun σ H Q ⟨G, δ, R, q⟩ => ⟨G, δ, R, by
  unfold gCons
  unfold g1 at q
  cases e : g δ with
  | er c => rw [e] at q; exact q
  | st => rw [e] at q; exact q
  | ok dx =>
   rw [e] at q
   obtain ⟨d, ed, ds, e2, qd⟩ := ResP.of (show ResP E G H (Res.of (pyListD dx)) _ from q)
   subst e2
   intro vs G1 H1 e1 al
   obtain ⟨v, rfl, ax⟩ := ArgsM.one al
   unfold pyListD at ed
   split at ed
   ·cases ed
    obtain ⟨l, vs, rfl, sq, dl⟩ := ax.lst e1.gh
    exact .inl ⟨l, vs, rfl, .inl sq, fun p hp => qd p vs G1 _ (e1.trans (Ext.own e1.gh _ hp)) (free_of e1.hh hp) (free_of e1.gh hp) upd_same dl⟩
   ·cases ed
    obtain ⟨l, vs, rfl, sq, dl⟩ := ax.tup e1.gh
    exact .inl ⟨l, vs, rfl, .inr sq, fun p hp => qd p vs G1 _ (e1.trans (Ext.own e1.gh _ hp)) (free_of e1.hh hp) (free_of e1.gh hp) upd_same dl⟩
   ·cases ed
    obtain ⟨l, es, rfl, h1, dl⟩ := Arg.dctK e1.gh ax
    exact .inr ⟨l, es, rfl, h1, fun p hp => qd p _ G1 _ (e1.trans (Ext.own e1.gh _ hp)) (free_of e1.hh hp) (free_of e1.gh hp) upd_same (denL_keys dl)⟩
   ·cases ed⟩
theorem isL_listD : IsL (g1 pyListD g) := fun δ d h => by
 unfold g1 at h
 cases e : g δ with
 | er c => rw [e] at h; cases h
 | st => rw [e] at h; cases h
 | ok dx =>
  rw [e] at h
  have h' : Res.of (pyListD dx) = .ok d := h
  unfold pyListD at h'
  split at h'
  ·cases h'; exact ⟨_, rfl⟩
  ·cases h'; exact ⟨_, rfl⟩
  ·cases h'; exact ⟨_, rfl⟩
  ·cases h'
end
section
variable {X : Cx} {G0 B : Hp} {E : EK} {e a b : Expr} {g h : En → Res} {pos p : Pos}
end
section
variable {X : Cx} {G0 B : Hp} {E : EK} {e a b : Expr} {es : List Expr} {g h : En → Res} {pos p : Pos}
end
noncomputable def subsF : Nat → Nat → List (List Nat)
 | 0, _ => [[]]
 | n + 1, m => subsF n (m + 1) ++ (subsF n (m + 1)).map (m :: ·)
noncomputable def riseF (m : Nat) : List Nat → Prop
 | [] => True
 | k :: r => m ≤ k ∧ k < 6 ∧ riseF (k + 1) r
theorem riseF.mono {m m' : Nat} (h : m' ≤ m) : ∀ {S : List Nat}, riseF m S → riseF m' S
 | [], _ => trivial
 | _ :: _, ⟨h1, h2, h3⟩ => ⟨Nat.le_trans h h1, h2, h3⟩
theorem mem_subsF : ∀ (n m : Nat) (S : List Nat), m + n = 6 → riseF m S → S ∈ subsF n m
 | 0, m, [], _, _ => by simp [subsF]
 | 0, m, k :: r, e, ⟨h1, h2, _⟩ => by omega
 | n + 1, m, [], e, h => by
  unfold subsF
  exact List.mem_append_left _ (mem_subsF n (m + 1) [] (by omega) trivial)
 | n + 1, m, k :: r, e, ⟨h1, h2, h3⟩ => by
  unfold subsF
  by_cases z : k = m
  ·subst z
   exact List.mem_append_right _ (List.mem_map.mpr ⟨r, mem_subsF n (k + 1) r (by omega) h3, rfl⟩)
  ·exact List.mem_append_left _ (mem_subsF n (m + 1) (k :: r) (by omega) ⟨by omega, h2, h3⟩)
noncomputable def insS (k : Nat) : List Nat → List Nat
 | [] => [k]
 | a :: r => if k < a then k :: a :: r else if k = a then a :: r else a :: insS k r
theorem insS_rise {k : Nat} (hk : k < 6) : ∀ {S : List Nat} {m : Nat}, m ≤ k → riseF m S → riseF m (insS k S)
 | [], m, h, _ => ⟨h, hk, trivial⟩
 | a :: r, m, h, ⟨h1, h2, h3⟩ => by
  unfold insS
  split
  ·rename_i z; exact ⟨h, hk, z, h2, h3⟩
  ·split
   ·exact ⟨h1, h2, h3⟩
   ·exact ⟨h1, h2, insS_rise hk (by omega) h3⟩
noncomputable def setS (ns : List Int) : List Nat := ns.foldl (fun S n => insS n.toNat S) []
noncomputable def tabS (S : List Nat) (led : Bool) : SetTable := { mask := if S.length < 5 then 7 else 31, place := S.toArray, dummies := #[], finger := 0, led, moves := if S.length < 5 then 0 else 1, plain := true }
noncomputable def posS (k : Nat) (S : List Nat) : Nat := (S.filter fun a => decide (a < k)).length
noncomputable def midS (k : Nat) (S : List Nat) (led : Bool) : SetTable := { tabS S led with place := (insS k S).toArray }
noncomputable def chkAdd (S : List Nat) (k : Nat) (led : Bool) : Bool :=
 decide ((tabS S led).freeSlot (k : Int) = some (k, false)) && decide ((tabS S led).put k = (midS k S led, posS k S)) && decide ((midS k S led).fits (S.length + 1) = true) &&
 (if (midS k S led).tooFull then decide ((midS k S led).relaid ((insS k S).map Int.ofNat).toArray (SetTable.grown (S.length + 1)) = some (tabS (insS k S) led, Array.range (S.length + 1))) else decide (midS k S led = tabS (insS k S) led)) &&
 decide ((tabS S led).fits S.length = true)
noncomputable def chkAll : Bool := (subsF 6 0).all fun S => (List.range 6).all fun k => S.contains k || (chkAdd S k true && chkAdd S k false)
theorem chkAll_ok : chkAll = true := by decide +kernel
noncomputable def chkWalk : Bool := (subsF 6 0).all fun S => decide (SetTable.below S.toArray 0 = 0) && (List.range S.length).all fun i => decide (SetTable.below S.toArray (S.getD i 0 + 1) = i + 1)
theorem chkWalk_ok : chkWalk = true := by decide +kernel
noncomputable def SetS (h : Heap) (a : Addr) (S : List Nat) (led : Bool) : Prop := riseF 0 S ∧ ∃ (es : Array (Int × Value)) (ep : Nat), h.get? a = some { cls := .type "set", dict := none, data := .set es ep (tabS S led) } ∧
 es.toList.map (·.1) = S.map Int.ofNat ∧ IntsAre (es.toList.map (·.2)) (S.map Int.ofNat)
theorem riseF.len : ∀ {S : List Nat} {m : Nat}, m ≤ 6 → riseF m S → S.length + m ≤ 6
 | [], m, h, _ => by simpa using h
 | k :: r, m, _, ⟨h1, h2, h3⟩ => by
  have := riseF.len (by omega) h3
  rw [List.length_cons]; omega
theorem riseF.lt : ∀ {S : List Nat} {m : Nat}, riseF m S → ∀ k ∈ S, m ≤ k ∧ k < 6
 | [], _, _, k, h => by simp at h
 | a :: r, m, ⟨h1, h2, h3⟩, k, h => by
  rcases List.mem_cons.mp h with rfl | h
  ·exact ⟨h1, h2⟩
  ·have := riseF.lt h3 k h
   exact ⟨by omega, this.2⟩
theorem chk_at {S : List Nat} {k : Nat} (led : Bool) (hS : riseF 0 S) (hk : k < 6) (hn : k ∉ S) : chkAdd S k led = true := by
 have h := List.all_eq_true.mp (List.all_eq_true.mp chkAll_ok S (mem_subsF 6 0 S rfl hS)) k (List.mem_range.mpr hk)
 rw [Bool.or_eq_true, Bool.and_eq_true] at h
 rcases h with h | ⟨h1, h2⟩
 ·exact absurd (by simpa using h) hn
 ·cases led
  ·exact h2
  ·exact h1
theorem hash_small {prog : Program} {w : World} {k : Nat} (hk : k < 6) : (intKind prog w).hash (k : Int) = (k : Int) := by
 have : ∀ j : Fin 6, (intKind prog w).hash ((j.val : Nat) : Int) = ((j.val : Nat) : Int) := by
  intro j
  obtain ⟨j, hj⟩ := j
  match j, hj with
  | 0, _ => rfl
  | 1, _ => rfl
  | 2, _ => rfl
  | 3, _ => rfl
  | 4, _ => rfl
  | 5, _ => rfl
 exact this ⟨k, hk⟩
theorem ints_get : ∀ {vs : List Value} {ns : List Int}, IntsAre vs ns → ∀ {i : Nat} {v : Value}, vs[i]? = some v → ∃ n t, ns[i]? = some n ∧ v = .int n t
 | _, _, .nil, i, v, h => by simp at h
 | _, _, .cons n t r, 0, v, h => by simp at h; exact ⟨n, t, rfl, h.symm⟩
 | _, _, .cons n t r, i + 1, v, h => by
  obtain ⟨n', t', q1, q2⟩ := ints_get r (i := i) (by simpa using h)
  exact ⟨n', t', by simpa using q1, q2⟩
theorem SetS.elems {prog : Program} {w : World} {es : Array (Int × Value)} {S : List Nat} (hS : riseF 0 S) (h1 : es.toList.map (·.1) = S.map Int.ofNat) (h2 : IntsAre (es.toList.map (·.2)) (S.map Int.ofNat)) :
  ElemsOf (intKind prog w) es.toList ∧ ∀ k : Int, (∃ e ∈ es.toList, (intKind prog w).is k e.2 = true) ↔ ∃ j ∈ S, k = (j : Int) := by
 have at_ : ∀ (i : Nat) (e : Int × Value), es.toList[i]? = some e → ∃ j t, S[i]? = some j ∧ e = ((j : Int), .int (j : Int) t) := fun i e he => by
  have q1 : (es.toList.map (·.1))[i]? = some e.1 := by rw [List.getElem?_map, he]; rfl
  have q2 : (es.toList.map (·.2))[i]? = some e.2 := by rw [List.getElem?_map, he]; rfl
  rw [h1, List.getElem?_map] at q1
  obtain ⟨n, t, q3, q4⟩ := ints_get h2 q2
  rw [List.getElem?_map] at q3
  cases z : S[i]? with
  | none => rw [z] at q1; cases q1
  | some j =>
   rw [z] at q1 q3
   simp at q1 q3
   obtain ⟨e1, e2⟩ := e
   simp at q1 q4
   subst q1; subst q3
   exact ⟨j, t, rfl, by rw [q4]⟩
 refine ⟨fun e he => ?_, fun k => ⟨?_, ?_⟩⟩
 ·obtain ⟨i, hi, rfl⟩ := List.mem_iff_getElem.mp he
  obtain ⟨j, t, q1, q2⟩ := at_ i _ (List.getElem?_eq_getElem hi)
  have hj := (hS.lt j (List.mem_of_getElem? q1)).2
  refine ⟨⟨(j : Int), ?_, ?_⟩, ?_⟩
  ·rw [q2]; exact intKind_is _ _ _ _
  ·rw [q2, hash_small hj]
  ·rw [q2]; rfl
 ·rintro ⟨e, he, hk⟩
  obtain ⟨i, hi, rfl⟩ := List.mem_iff_getElem.mp he
  obtain ⟨j, t, q1, q2⟩ := at_ i _ (List.getElem?_eq_getElem hi)
  refine ⟨j, List.mem_of_getElem? q1, ?_⟩
  rw [q2] at hk
  exact (intKind prog w).inj _ _ _ hk (intKind_is _ _ _ t)
 ·rintro ⟨j, hj, rfl⟩
  obtain ⟨i, hi, rfl⟩ := List.mem_iff_getElem.mp hj
  have hl : es.toList.length = S.length := by have := congrArg List.length h1; simpa using this
  have hi' : i < es.toList.length := by rw [hl]; exact hi
  obtain ⟨j', t, q1, q2⟩ := at_ i _ (List.getElem?_eq_getElem hi')
  rw [List.getElem?_eq_getElem hi] at q1
  cases q1
  refine ⟨es.toList[i], List.getElem_mem hi', ?_⟩
  rw [q2]; exact intKind_is _ _ _ _
theorem insS_old {k : Nat} : ∀ {S : List Nat} {m : Nat}, riseF m S → k ∈ S → insS k S = S
 | [], _, _, h => by simp at h
 | a :: r, m, ⟨h1, h2, h3⟩, h => by
  unfold insS
  rcases List.mem_cons.mp h with rfl | h
  ·rw [if_neg (Nat.lt_irrefl _), if_pos rfl]
  ·have := (riseF.lt h3 k h).1
   rw [if_neg (by omega), if_neg (by omega), insS_old h3 h]
theorem posS_zero {k : Nat} : ∀ {S : List Nat} {m : Nat}, riseF m S → k < m → posS k S = 0
 | [], _, _, _ => rfl
 | a :: r, m, ⟨h1, h2, h3⟩, hk => by
  unfold posS
  rw [List.filter_cons, if_neg (by simp; omega)]
  exact posS_zero h3 (by omega)
theorem insS_split {k : Nat} : ∀ {S : List Nat} {m : Nat}, riseF m S → k ∉ S → insS k S = S.take (posS k S) ++ k :: S.drop (posS k S)
 | [], _, _, _ => rfl
 | a :: r, m, ⟨h1, h2, h3⟩, hn => by
  rw [List.mem_cons, not_or] at hn
  unfold insS
  by_cases z : k < a
  ·rw [if_pos z, posS_zero (S := a :: r) (m := a) ⟨Nat.le_refl _, h2, h3⟩ z]
   rfl
  ·rw [if_neg z, if_neg hn.1, insS_split h3 hn.2]
   have : posS k (a :: r) = posS k r + 1 := by
    unfold posS
    rw [List.filter_cons, if_pos (by simp; omega), List.length_cons]
   rw [this]
   rfl
theorem insertAt_list {α : Type} (xs : Array α) (p : Nat) (x : α) : (SetTable.insertAt xs p x).toList = xs.toList.take p ++ x :: xs.toList.drop p := by
 unfold SetTable.insertAt
 rw [Array.toList_append, Array.toList_push, Array.toList_extract, Array.toList_extract]
 simp [List.extract_eq_take_drop]
 exact List.take_of_length_le (by simp)
theorem filterMap_range {α : Type} (es : Array α) : (Array.range es.size).filterMap (es[·]?) = es := by
 apply Array.toList_inj.mp
 rw [Array.toList_filterMap, Array.toList_range]
 have gen : ∀ (l : List α), (List.range l.length).filterMap (fun i => l[i]?) = l := by
  intro l
  induction l with
  | nil => rfl
  | cons a r ih =>
   rw [List.length_cons, List.range_succ_eq_map, List.filterMap_cons, List.filterMap_map]
   simp only [List.getElem?_cons_zero]
   congr 1
 have := gen es.toList
 rw [Array.length_toList] at this
 simpa using this
theorem ints_app : ∀ {vs us : List Value} {ns ms : List Int}, IntsAre vs ns → IntsAre us ms → IntsAre (vs ++ us) (ns ++ ms)
 | _, _, _, _, .nil, q => q
 | _, _, _, _, .cons n t r, q => .cons n t (ints_app r q)
theorem ints_take : ∀ {vs : List Value} {ns : List Int} (p : Nat), IntsAre vs ns → IntsAre (vs.take p) (ns.take p)
 | _, _, 0, _ => by rw [List.take_zero, List.take_zero]; exact .nil
 | _, _, _ + 1, .nil => .nil
 | _, _, p + 1, .cons n t r => .cons n t (ints_take p r)
theorem ints_drop : ∀ {vs : List Value} {ns : List Int} (p : Nat), IntsAre vs ns → IntsAre (vs.drop p) (ns.drop p)
 | _, _, 0, h => h
 | _, _, _ + 1, .nil => .nil
 | _, _, p + 1, .cons n t r => ints_drop p r
theorem layNew_eq {t t' : SetTable} {es : Array (Int × Value)} {h : Int} {x : Value} {k p : Nat} (h1 : t.freeSlot h = some (k, false)) (h2 : t.put k = (t', p)) (h3 : t'.fits (SetTable.insertAt es p (h, x)).size = true) :
  layNew t es h x = (SetTable.insertAt es p (h, x), t', false, false) := by
 unfold layNew
 rw [h1]
 dsimp only
 rw [h2]
 dsimp only
 rw [h3]
 unfold SetTable.orStandIn
 rw [h3]
 rfl
theorem relayAll_eq {t t' : SetTable} {es : Array (Int × Value)} {n : Nat} (h1 : t.relaid (es.map (·.1)) n = some (t', Array.range es.size)) (h2 : t'.fits es.size = true) : relayAll t es n = (es, t', false) := by
 unfold relayAll
 rw [h1]
 dsimp only
 rw [filterMap_range, h2]
 have : coversAll (Array.range es.size) es.size = true := by
  unfold coversAll
  rw [Array.toList_range]
  exact List.isPerm_iff.mpr (List.Perm.refl _)
 rw [this]
 rfl
section
variable {prog : Program} {w : World} {A : Around} {E : Value → Shared → Prop} {s : Shared}
theorem add_small {a : Addr} {S : List Nat} {led : Bool} {k : Nat} {tk : Tok} {Q : Bool → Shared → Prop} (hS : SetS s.heap a S led) (hk : k < 6)
  (h : ∀ h' b, Heap.SameBut a s.heap h' → SetS h' a (insS k S) led → Q b { s with heap := h' }) : wpAny (model prog w) A (setAddHashed a (.int (k : Int) tk) (k : Int)) Q E s := by
 obtain ⟨hr, es, ep, ho, h1, h2⟩ := hS
 obtain ⟨hel, hmem⟩ := SetS.elems (prog := prog) (w := w) hr h1 h2
 have hl : es.size = S.length := by have := congrArg List.length h1; simpa using this
 have hz := hr.len (by omega)
 have hsb : es.size < scanBound := by rw [hl]; unfold scanBound; omega
 have hf : (tabS S led).fits es.size = true := by
  rw [hl]
  unfold SetTable.fits tabS SetTable.fill
  split <;> simp <;> omega
 have hash : (intKind prog w).hash (k : Int) = (k : Int) := hash_small hk
 unfold setAddHashed setAddHashedIn
 refine wpAny_holding (wpAny_bind (wpAny_setState_of ho rfl hf ?_))
 dsimp only
 rw [byScan_of (knd := intKind prog w) rfl hsb hel]
 simp only [↓reduceIte]
 unfold setAddByScan
 have scan : ∀ (Q' : ScanMet → Shared → Prop), Q' (match es.toList.findIdx? (fun e => (intKind prog w).is (k : Int) e.2) with
   | some j => .found (0 + j)
   | none => .absent) s → wpAny (model prog w) A (setScan a (.int (k : Int) tk) (k : Int) true es) Q' E s := fun Q' hq => by
  have := wpAny_setScan_of (knd := intKind prog w) (A := A) (E := E) (adding := true) (Q := Q') (intKind_is prog w (k : Int) tk) ho rfl hf hel hq
  rw [hash] at this
  exact this
 refine wpAny_bind (wpAny_bind (wpAny_rule (wpAny_bind (scan _ ?_))))
 cases hfd : es.toList.findIdx? (fun e => (intKind prog w).is (k : Int) e.2) with
 | some j =>
  dsimp only
  obtain ⟨hj, hpj, _⟩ := List.findIdx?_eq_some_iff_getElem.mp hfd
  obtain ⟨j', hj', ej⟩ := (hmem (k : Int)).mp ⟨_, List.getElem_mem hj, hpj⟩
  have hkS : k ∈ S := by
   have : k = j' := by omega
   rw [this]; exact hj'
  refine wpAny_pure (wpAny_pure ?_)
  have := h s.heap false (Heap.SameBut.refl a s.heap) (by rw [insS_old hr hkS]; exact ⟨hr, es, ep, ho, h1, h2⟩)
  exact this
 | none =>
  dsimp only
  have hkS : k ∉ S := fun z => by
   obtain ⟨e, he, hp⟩ := (hmem (k : Int)).mpr ⟨k, z, rfl⟩
   have := List.findIdx?_eq_none_iff.mp hfd e he
   rw [hp] at this; cases this
  have chk := chk_at led hr hk hkS
  unfold chkAdd at chk
  simp only [Bool.and_eq_true, decide_eq_true_eq] at chk
  obtain ⟨⟨⟨⟨c1, c2⟩, c3⟩, c4⟩, c5⟩ := chk
  have sz : (SetTable.insertAt es (posS k S) ((k : Int), Value.int (k : Int) tk)).size = S.length + 1 := by
   rw [← Array.length_toList, insertAt_list, List.length_append, List.length_cons, List.length_take, List.length_drop, Array.length_toList, hl]
   omega
  have lay := layNew_eq (es := es) (x := .int (k : Int) tk) c1 c2 (by rw [sz]; exact c3)
  have il := insertAt_list es (posS k S) ((k : Int), Value.int (k : Int) tk)
  generalize SetTable.insertAt es (posS k S) ((k : Int), Value.int (k : Int) tk) = es1 at sz lay il
  have f1 : es1.toList.map (·.1) = (insS k S).map Int.ofNat := by
   rw [il, insS_split hr hkS, List.map_append, List.map_cons, List.map_append, List.map_cons, List.map_take, List.map_drop, h1, List.map_take, List.map_drop]
   rfl
  have f2 : IntsAre (es1.toList.map (·.2)) ((insS k S).map Int.ofNat) := by
   rw [il, insS_split hr hkS, List.map_append, List.map_cons, List.map_append, List.map_cons, List.map_take, List.map_drop, List.map_take, List.map_drop]
   exact ints_app (ints_take _ h2) (.cons _ _ (ints_drop _ h2))
  have hr' := insS_rise hk (Nat.zero_le _) hr
  have hz1 : es1.size ≤ sizeLine := by rw [sz, sizeLine_eq]; omega
  rw [lay]
  dsimp only
  refine wpAny_bind (wpAny_pure ?_)
  have pl : (midS k S led).plain = true := rfl
  rw [pl]
  simp only [if_true]
  refine wpAny_bind ?_
  show wpAny _ A (pure true) _ _ s
  refine wpAny_pure ?_
  simp only [if_true]
  refine wpAny_bind (wpAny_storeSet_of ho rfl ?_ hz1)
  have g1 : (s.heap.update a (Obj.putSet es1 (midS k S led))).get? a = some { cls := .type "set", dict := none, data := .set es1 (ep + 1) (midS k S led) } := Heap.get?_update_self (Obj.putSet es1 (midS k S led)) ho rfl
  have sb1 := Heap.SameBut.update s.heap a (Obj.putSet es1 (midS k S led))
  by_cases full : (midS k S led).tooFull = true
  ·rw [if_pos full] at c4
   rw [decide_eq_true_eq] at c4
   have lf : (tabS (insS k S) led).fits es1.size = true := by
    have e : (insS k S).length = S.length + 1 := by rw [insS_split hr hkS, List.length_append, List.length_cons, List.length_take, List.length_drop]; have : posS k S ≤ S.length := List.length_filter_le _ _; omega
    rw [sz, ← e]
    have := hr'.len (by omega)
    unfold SetTable.fits tabS SetTable.fill
    split <;> simp <;> omega
   have rl := relayAll_eq (t := midS k S led) (t' := tabS (insS k S) led) (es := es1) (n := SetTable.grown es1.size) (by
    rw [sz]
    have : es1.map (·.1) = ((insS k S).map Int.ofNat).toArray := by
     apply Array.toList_inj.mp
     rw [Array.toList_map, f1]
    rw [this]; exact c4) lf
   rw [full]
   simp only [Bool.not_false, Bool.and_self, if_true]
   rw [rl]
   dsimp only
   refine wpAny_bind (wpAny_pure ?_)
   refine wpAny_bind (wpAny_storeSet_of g1 rfl ?_ hz1)
   refine wpAny_pure (wpAny_pure (h _ true (sb1.trans (Heap.SameBut.update _ a _)) ⟨hr', es1, ep + 1 + 1, ?_, f1, f2⟩))
   exact Heap.get?_update_self (Obj.putSet es1 (tabS (insS k S) led)) g1 rfl
  ·have full' : (midS k S led).tooFull = false := by simpa using full
   rw [if_neg full, decide_eq_true_eq] at c4
   rw [full']
   simp only [Bool.not_false, Bool.and_false, Bool.false_eq_true, if_false]
   refine wpAny_pure (wpAny_pure (h _ true sb1 ⟨hr', es1, ep + 1, ?_, f1, f2⟩))
   rw [g1, c4]
end
noncomputable def small (ns : List Int) : Prop := ∀ n ∈ ns, 0 ≤ n ∧ n < 6
noncomputable def ledW (w : World) : Bool := !(w.params.followText "set-order")
theorem SetS.keep {h h' : Heap} {a : Addr} {S : List Nat} {led : Bool} (x : SetS h a S led) (k : ∀ o, h.get? a = some o → h'.get? a = some o) : SetS h' a S led := by
 obtain ⟨r, es, ep, ho, q⟩ := x
 exact ⟨r, es, ep, k _ ho, q⟩
section
variable {prog : Program} {w : World} {A : Around} {R : Result → Shared → Prop} {I : Addr} {fp wr : List Addr} {P : Nat → Value → Prop} {St : Nat → Heap → Prop} {ns : List Int}
theorem upd_loop (W : Walks prog w A.in1 I fp wr ns.length P St) (a : Addr) (ha : a ∉ fp) (led : Bool) (hs : small ns) (hP : ∀ i v, P i v → ∃ n t, ns[i]? = some n ∧ v = .int n t) :
  ∀ (rest : List Int) (i : Nat) (s : Shared) (T : List Nat), ns.drop i = rest → i ≤ ns.length → St i s.heap → SetS s.heap a T led →
   (∀ h' tk, (∀ b o, b ≠ a → b ∉ wr → s.heap.get? b = some o → h'.get? b = some o) → SetS h' a (rest.foldl (fun S n => insS n.toNat S) T) led → R (.ok (.ret .none)) { s with heap := h', toks := tk }) →
   codeAny (model prog w) A (.builtin "set.update.loop" ⟨[.ref a, .ref I], []⟩) R s := by
 have haw : a ∉ wr := fun z => ha (W.sub _ z)
 intro rest
 induction rest with
 | nil =>
  intro i s T hd hi st hT hR
  have hin : i = ns.length := by
   have := congrArg List.length hd
   rw [List.length_drop, List.length_nil] at this
   omega
  subst hin
  refine codeAny_builtin PyProof.Rows.F.entry_set_update_loop ?_
  rw [Around.under_plainId PyProof.Rows.F.plain_set_update_loop _]
  show wpAny _ A.in1 (pyNext (.ref I) >>= _) _ _ s
  refine wpAny_bind (W.done s _ _ st fun h' tk hk => ?_)
  show wpAny _ A.in1 (ret Value.none) _ _ _
  exact wpAny_pure (hR h' tk (fun b o _ hb e => hk b o hb e) (hT.keep fun o e => hk a o haw e))
 | cons n rest ih =>
  intro i s T hd hi st hT hR
  have hlt : i < ns.length := by
   have := congrArg List.length hd
   rw [List.length_drop, List.length_cons] at this
   omega
  have hni : ns[i]? = some n := by
   have : (ns.drop i)[0]? = some n := by rw [hd]; rfl
   simpa using this
  have hd' : ns.drop (i + 1) = rest := by
   have : (ns.drop i).drop 1 = rest := by rw [hd]; rfl
   rw [List.drop_drop] at this
   exact this
  refine codeAny_builtin PyProof.Rows.F.entry_set_update_loop ?_
  rw [Around.under_plainId PyProof.Rows.F.plain_set_update_loop _]
  show wpAny _ A.in1 (pyNext (.ref I) >>= _) _ _ s
  refine wpAny_bind (W.item i s _ _ hlt st fun v h1 tk1 hv st1 hk1 => ?_)
  obtain ⟨n', t, e1, rfl⟩ := hP i v hv
  rw [hni] at e1
  cases e1
  obtain ⟨p1, p2⟩ := hs n (List.mem_of_getElem? hni)
  obtain ⟨k, rfl⟩ : ∃ k : Nat, n = (k : Int) := ⟨n.toNat, by omega⟩
  have hk6 : k < 6 := by omega
  show wpAny _ A.in1 (holding [Value.int (k : Int) t] (setAdd a (.int (k : Int) t)) >>= _) _ _ _
  refine wpAny_bind (wpAny_holding ?_)
  unfold setAdd
  refine wpAny_holding (wpAny_bind ((intKind prog w).pyHash (k := (k : Int)) (intKind_is _ _ _ _) ?_))
  rw [hash_small hk6]
  refine add_small (hT.keep fun o e => hk1 a o haw e) hk6 fun h2 b sb hT2 => ?_
  refine wpAny_pure ⟨plainId_quiet PyProof.Rows.F.plain_set_update_loop _, ih (i + 1) _ _ hd' hlt (W.frame _ _ _ st1 fun c hc o e => ?_) hT2 fun h' tk hk hT' => ?_⟩
  ·rw [sb.2 c (fun z : c = a => ha (z ▸ hc))]; exact e
  ·refine hR h' tk (fun c o hc hw e => hk c o hc hw ?_) hT'
   show h2.get? c = some o
   rw [sb.2 c hc]
   exact hk1 c o hw e
end
section
variable {prog : Program} {w : World} {A : Around} {E : Value → Shared → Prop} {s : Shared}
theorem new_set (x : Value) {Q : Value → Shared → Prop} (h : Q (.ref s.heap.objs.size) { s with heap := s.heap.push { cls := .type "set", dict := none, data := .set #[] 0 (.fresh 0 0 (ledW w)) } }) :
  codeAny (model prog w) A (.call (.builtin "set.__new__") ⟨[.type "set", x], []⟩) (wants Q E) s := by
 refine codeAny_of_tree ?_
 show wpAny _ A.in1 (checkBuiltinCall "set.__new__" ⟨[.type "set", x], []⟩ >>= fun _ => again (.builtin "set.__new__" ⟨[.type "set", x], []⟩)) _ _ s
 refine wpAny_bind (wpAny_of_eq (PySem.F.newCall_set_1 x) (wpAny_pure ?_))
 refine ⟨plainId_quiet PySem.F.plain_set_new _, codeAny_builtin PySem.F.entry_set_new ?_⟩
 rw [Around.under_plainId PySem.F.plain_set_new _]
 unfold Builtin.«set.__new__» Builtin.Frozenset.newClass
 have hsub := sub_set_self
 obtain ⟨hp, gs, dr, tk, os⟩ := s
 dsimp only at h ⊢
 wp_walk
 refine wpAny_askSetting (wpAny_pure ?_)
 dsimp only
 simp only [newObj]
 refine wpAny_bind (wpAny_alloc (wpAny_pure (wpAny_pure ?_)))
 exact h
end
theorem sub_tuple_set : isSubtype (.type "tuple") (.type "set") = pure false := by rw [isSubtype_type]; kernel_rfl
theorem sub_tuple_frozenset : isSubtype (.type "tuple") (.type "frozenset") = pure false := by rw [isSubtype_type]; kernel_rfl
theorem setS_fresh {h : Heap} {led : Bool} : SetS (h.push { cls := .type "set", dict := none, data := .set #[] 0 (.fresh 0 0 led) }) h.objs.size [] led :=
 ⟨trivial, #[], 0, Heap.get?_push_size _ rfl, rfl, .nil⟩
theorem items_ints {items : Array Value} {ns : List Int} (hi : IntsAre items.toList ns) (i : Nat) (v : Value) (h : items[i]? = some v) : ∃ n t, ns[i]? = some n ∧ v = .int n t :=
 ints_get hi (by rw [Array.getElem?_toList]; exact h)
section
variable {prog : Program} {w : World} {A : Around} {E : Value → Shared → Prop} {s : Shared}
theorem call_setS {l : Addr} {items : Array Value} {ns : List Int} {Q : Value → Shared → Prop} (b : Bool) (hh : A.handled = none) (hl : if b = true then s.heap.IsTuple l items else s.heap.IsList l items) (hi : IntsAre items.toList ns) (hs : small ns)
  (h : ∀ (h' : Heap) (tk : Nat), SetS h' s.heap.objs.size (setS ns) (ledW w) → (∀ c o, c < s.heap.objs.size → s.heap.get? c = some o → h'.get? c = some o) → Q (.ref s.heap.objs.size) { s with heap := h', toks := tk }) :
  wpAny (model prog w) A (call (.type "set") [.ref l]) Q E s := by
 obtain ⟨c0, tl0, hmro⟩ := PySem.F.called_set.mro
 have hmade := PySem.F.called_set.made
 have hsub := PySem.F.called_set.sub
 refine wpAny_call (codeAny_of_tree ?_)
 show wpAny _ _ (callAny (.type "set") _) _ _ _
 refine wpAny_pure ⟨Code.quiet_builtin _ (by decide +kernel), codeAny_builtin PySem.F.entry_type_call ?_⟩
 rw [Around.under_plain (weight_type_call_type "set" [.ref l] []) rfl]
 have hnt := PySem.F.called_set.notType
 have hcc := PySem.F.called_set.canCreate
 have hct := PySem.F.typeCall_set_1 (.ref l)
 repeat (any_goals (first | assumption | wp_step))
 refine codeAny_mono (new_set (.ref l) (E := E) (Q := fun obj s₁ => obj = .ref s.heap.objs.size ∧ s₁ = { s with heap := s.heap.push { cls := .type "set", dict := none, data := .set #[] 0 (.fresh 0 0 (ledW w)) } }) ⟨rfl, rfl⟩) fun r s₁ hr => ?_
 cases r with
 | error e => exact hr
 | ok fl =>
  cases fl with
  | ret obj =>
   obtain ⟨rfl, rfl⟩ := hr
   generalize hh1 : s.heap.push { cls := .type "set", dict := none, data := .set #[] 0 (.fresh 0 0 (ledW w)) } = h1
   have hz1 : h1.objs.size = s.heap.objs.size + 1 := by rw [← hh1, Heap.size_push]
   have k1 : ∀ c o, s.heap.get? c = some o → h1.get? c = some o := fun c o e => by rw [← hh1]; exact Heap.get?_push_of_some _ e
   have hS : h1.get? s.heap.objs.size = some { cls := .type "set", dict := none, data := .set #[] 0 (.fresh 0 0 (ledW w)) } := by rw [← hh1]; exact Heap.get?_push_size _ rfl
   have fr : SetS h1 s.heap.objs.size [] (ledW w) := by rw [← hh1]; exact setS_fresh
   have hT : Shared.TypeIs { s with heap := h1 } (.ref s.heap.objs.size) "set" := ⟨_, hS, rfl⟩
   have hli := PySem.F.called_set.init.lookup
   have hbi := PySem.F.called_set.init.bind (.ref s.heap.objs.size)
   repeat (any_goals (first | assumption | wp_step))
   refine codeAny_mono (codeAny_call_builtin (R := wants (fun r s₂ => r = .none ∧ ∃ h' tk, s₂ = { s with heap := h', toks := tk } ∧ SetS h' s.heap.objs.size (setS ns) (ledW w) ∧ (∀ c o, c < s.heap.objs.size → s.heap.get? c = some o → h'.get? c = some o)) E)
    PySem.F.called_set.init.plain PySem.F.entry_set_init (check_set_init_1 hT ?_)) fun r₂ s₂ hr₂ => ?_
   ·have hlt : l < s.heap.objs.size := by
     cases b
     ·obtain ⟨o, e, _⟩ := (show s.heap.IsList l items from hl); exact Heap.lt_size e
     ·obtain ⟨o, e, _⟩ := (show s.heap.IsTuple l items from hl); exact Heap.lt_size e
    have hh3 : A.in1.in1.in1.handled = none := by simp [hh]
    have hneI : l ≠ h1.objs.size := by rw [hz1]; exact Nat.ne_of_lt (Nat.lt_succ_of_lt hlt)
    have hSf : s.heap.objs.size ∉ [h1.objs.size, l] := by
     rw [hz1]
     simp only [List.mem_cons, List.not_mem_nil, or_false, not_or]
     exact ⟨Nat.ne_of_lt (Nat.lt_succ_self _), Nat.ne_of_gt hlt⟩
    have len : items.size = ns.length := by rw [← Array.length_toList]; exact IntsAre.length hi
    have fin : ∀ {h2 : Heap} {oI : Obj}, h2 = h1.push oI → ∀ (h' : Heap) (tk : Nat), (∀ c o, c ≠ s.heap.objs.size → c ∉ [h1.objs.size] → h2.get? c = some o → h'.get? c = some o) → ∀ c o, c < s.heap.objs.size → s.heap.get? c = some o → h'.get? c = some o := fun {h2 oI} e2 h' tk hk c o hc e => by
     refine hk c o (Nat.ne_of_lt hc) (by rw [hz1]; simp; omega) ?_
     rw [e2]; exact Heap.get?_push_of_some _ (k1 c o e)
    cases b with
    | false =>
     obtain ⟨ol, hol, hcl, nl, hdl⟩ := (show s.heap.IsList l items from hl)
     obtain ⟨ocls, odict, odata, oslots⟩ := ol
     simp only at hcl hdl
     subst hcl; subst hdl
     have hol' := k1 _ _ hol
     have q1 := PySem.F.sub_list_set
     have q2 := PySem.F.sub_list_frozenset
     have q3 : (Value.type "list" == Value.type "dict") = false := by decide
     have hl1 : h1.IsList l items := ⟨_, hol', rfl, nl, rfl⟩
     unfold Builtin.«set.__init__» noKeywords Builtin.Frozenset.updateFrom
     generalize hPI : pyIter = PI
     wp_walk
     subst hPI
     refine wpAny_pyIter_list hl1 (wpAny_bind (wpAny_runValue ?_))
     have W := Walks.list (prog := prog) (w := w) hh3 h1.objs.size l hneI items
     rw [len] at W
     refine upd_loop W s.heap.objs.size hSf (ledW w) hs (items_ints hi) ns 0 _ [] rfl (Nat.zero_le _) ⟨⟨_, Heap.get?_push_size _ rfl, rfl, rfl⟩, hl1.push _⟩ (fr.keep fun o e => Heap.get?_push_of_some _ e) fun h' tk hk hS' => ?_
     refine wpAny_pure ?_
     show wpAny _ _ (ret Value.none) _ _ _
     exact wpAny_pure ⟨rfl, h', tk, rfl, hS', fin rfl h' tk hk⟩
    | true =>
     obtain ⟨ol, hol, hcl, nl, hdl⟩ := (show s.heap.IsTuple l items from hl)
     obtain ⟨ocls, odict, odata, oslots⟩ := ol
     simp only at hcl hdl
     subst hcl; subst hdl
     have hol' := k1 _ _ hol
     have q1 := sub_tuple_set
     have q2 := sub_tuple_frozenset
     have q3 : (Value.type "tuple" == Value.type "dict") = false := by decide
     have hl1 : h1.IsTuple l items := ⟨_, hol', rfl, nl, rfl⟩
     unfold Builtin.«set.__init__» noKeywords Builtin.Frozenset.updateFrom
     generalize hPI : pyIter = PI
     wp_walk
     subst hPI
     refine wpAny_pyIter_tuple hl1 (wpAny_bind (wpAny_runValue ?_))
     have W := Walks.tuple (prog := prog) (w := w) hh3 h1.objs.size l hneI items
     rw [len] at W
     refine upd_loop W s.heap.objs.size hSf (ledW w) hs (items_ints hi) ns 0 _ [] rfl (Nat.zero_le _) ⟨⟨_, Heap.get?_push_size _ rfl, rfl, rfl⟩, hl1.push _⟩ (fr.keep fun o e => Heap.get?_push_of_some _ e) fun h' tk hk hS' => ?_
     refine wpAny_pure ?_
     show wpAny _ _ (ret Value.none) _ _ _
     exact wpAny_pure ⟨rfl, h', tk, rfl, hS', fin rfl h' tk hk⟩
   ·cases r₂ with
    | error e => exact hr₂
    | ok fl₂ =>
     cases fl₂ with
     | ret r =>
      obtain ⟨rfl, h', tk, rfl, hS', hk'⟩ := hr₂
      repeat (any_goals (first | assumption | wp_step))
      exact h _ _ hS' hk'
     | _ => exact hr₂.elim
  | _ => exact hr.elim
end
theorem erase_perm {α : Type} : ∀ {l : List α} {i : Nat} (h : i < l.length), (l[i] :: l.eraseIdx i).Perm l
 | a :: r, 0, _ => List.Perm.refl _
 | a :: r, i + 1, h => by
  have h' : i < r.length := by simpa using h
  exact (List.Perm.swap a (r[i]'h') (r.eraseIdx i)).trans ((erase_perm h').cons a)
theorem pickGo_perm {α : Type} (next : Nat → Nat) : ∀ (n k : Nat) (left : List α) (out : Array α), left.length = n → (pickOrder.go next n k left out).toList.Perm (out.toList ++ left)
 | 0, k, left, out, h => by
  have : left = [] := List.length_eq_zero_iff.mp h
  subst this
  unfold pickOrder.go
  rw [List.append_nil]
 | n + 1, k, left, out, h => by
  unfold pickOrder.go
  have hlt : next k % left.length < left.length := Nat.mod_lt _ (by omega)
  rw [List.getElem?_eq_getElem hlt]
  dsimp only
  refine (pickGo_perm next n (k + 1) _ _ (by rw [List.length_eraseIdx, if_pos hlt]; omega)).trans ?_
  rw [Array.toList_push, List.append_assoc]
  refine List.Perm.append_left _ ?_
  exact erase_perm hlt
theorem pick_perm {α : Type} (next : Nat → Nat) (xs : Array α) : (pickOrder next xs).toList.Perm xs.toList := by
 have := pickGo_perm next xs.size 0 xs.toList #[] (by simp)
 simpa [pickOrder] using this
noncomputable def walkE (w : World) (a ep : Nat) (es : Array (Int × Value)) : Array (Int × Value) := if w.params.followText "set-order" then pickOrder (w.params.setOrder a ep) es else es
theorem walkE_perm (w : World) (a ep : Nat) (es : Array (Int × Value)) : (walkE w a ep es).toList.Perm es.toList := by
 unfold walkE
 split
 ·exact pick_perm _ _
 ·exact List.Perm.refl _
noncomputable def SetAt (h : Heap) (a : Addr) (S : List Nat) (led : Bool) (es : Array (Int × Value)) (ep : Nat) : Prop := h.get? a = some { cls := .type "set", dict := none, data := .set es ep (tabS S led) }
noncomputable def SetIt (h : Heap) (I a : Addr) (slot i n ep : Nat) : Prop := h.get? I = some { cls := .type "set_iterator", data := .fields #[rawInt slot, rawInt i, .ref a, rawInt n, rawInt ep] }
noncomputable def slotS (w : World) (S : List Nat) (i : Nat) : Nat := if w.params.followText "set-order" then 0 else if i = 0 then 0 else S.getD (i - 1) 0 + 1
theorem fits_S {S : List Nat} {led : Bool} (hr : riseF 0 S) : (tabS S led).fits S.length = true := by
 have := hr.len (by omega)
 unfold SetTable.fits tabS SetTable.fill
 split <;> simp <;> omega
theorem walk_at {S : List Nat} (hr : riseF 0 S) : SetTable.below S.toArray 0 = 0 ∧ ∀ i, i < S.length → SetTable.below S.toArray (S.getD i 0 + 1) = i + 1 := by
 have h := List.all_eq_true.mp chkWalk_ok S (mem_subsF 6 0 S rfl hr)
 rw [Bool.and_eq_true, decide_eq_true_eq] at h
 exact ⟨h.1, fun i hi => of_decide_eq_true (List.all_eq_true.mp h.2 i (List.mem_range.mpr hi))⟩
section
variable {prog : Program} {w : World} {A : Around} {E : Value → Shared → Prop} {s : Shared} {a : Addr} {S : List Nat} {es : Array (Int × Value)} {ep : Nat}
theorem set_next {i : Nat} {Q : Option (Value × Nat) → Shared → Prop} (hr : riseF 0 S) (hz : es.size = S.length) (ho : SetAt s.heap a S (ledW w) es ep) (hi : i ≤ es.size)
  (h : Q (((walkE w a ep es)[i]?).map fun e => (e.2, slotS w S (i + 1))) s) : wpAny (model prog w) A (setNext a (slotS w S i) i ep) Q E s := by
 have hf : (tabS S (ledW w)).fits es.size = true := by rw [hz]; exact fits_S hr
 unfold setNext
 refine wpAny_bind (wpAny_setState_of ho rfl hf ?_)
 dsimp only
 unfold setsByText
 refine wpAny_bind (wpAny_bind (wpAny_askSetting (wpAny_pure ?_)))
 have hb0 : (model prog w).w.params.followText "set-order" = w.params.followText "set-order" := rfl
 cases bt : w.params.followText "set-order" with
 | true =>
  have e0 : walkE w a ep es = pickOrder (w.params.setOrder a ep) es := by unfold walkE; rw [if_pos bt]
  have e1 : ∀ i, slotS w S i = 0 := fun i => by unfold slotS; rw [if_pos bt]
  rw [e0, e1] at h
  rw [e1]
  have e2 : (⟨(model prog w).prog, (model prog w).w.params⟩ : Setting).params.followText "set-order" = true := bt
  rw [e2]
  simp only [if_true, bne_self_eq_false, Bool.false_eq_true, if_false]
  refine wpAny_bind ?_
  unfold setWalk
  refine wpAny_bind (wpAny_setState_of ho rfl hf ?_)
  dsimp only
  unfold setsByText
  refine wpAny_bind (wpAny_bind (wpAny_askSetting (wpAny_pure ?_)))
  rw [e2]
  simp only [if_true]
  refine wpAny_bind (wpAny_askSetting (wpAny_pure ?_))
  exact wpAny_pure h
 | false =>
  have e0 : walkE w a ep es = es := by unfold walkE; rw [if_neg (by rw [bt]; decide)]
  have e1 : ∀ i, slotS w S i = if i = 0 then 0 else S.getD (i - 1) 0 + 1 := fun i => by unfold slotS; rw [if_neg (by rw [bt]; decide)]
  have e2 : (⟨(model prog w).prog, (model prog w).w.params⟩ : Setting).params.followText "set-order" = false := bt
  have e3 : ledW w = true := by unfold ledW; rw [bt]; rfl
  have bl : SetTable.below (tabS S (ledW w)).place (slotS w S i) = i := by
   obtain ⟨b1, b2⟩ := walk_at hr
   show SetTable.below S.toArray _ = i
   rw [e1]
   by_cases z : i = 0
   ·rw [if_pos z, z]; exact b1
   ·rw [if_neg z, b2 (i - 1) (by omega)]; omega
  rw [e0] at h
  rw [e2]
  simp only [Bool.false_eq_true, if_false]
  refine wpAny_ite_split (fun z => ?_) fun _ => ?_
  ·have z' : (!true && decide (es.size > 1)) = true := z
   simp at z'
  ·refine wpAny_bind ?_
   have e4 : (!(tabS S (ledW w)).led && !es.isEmpty) = false := by
    have : (tabS S (ledW w)).led = true := e3
    rw [this]; rfl
   wp_delta
   rw [e4]
   simp only [Bool.false_eq_true, if_false]
   refine wpAny_pure (wpAny_pure ?_)
   rw [bl]
   have e5 : (tabS S (ledW w)).place[i]? = S[i]? := by show S.toArray[i]? = _; simp
   rw [e5]
   cases hc : es[i]? with
   | none =>
    rw [hc] at h
    exact h
   | some e =>
    rw [hc] at h
    have hlt : i < S.length := by
     have := (Array.getElem?_eq_some_iff.mp hc).1
     omega
    rw [List.getElem?_eq_getElem hlt]
    have : slotS w S (i + 1) = S[i] + 1 := by
     rw [e1, if_neg (by omega)]
     simp [hlt]
    rw [this] at h
    exact h
end
theorem sit_next : Slot "set_iterator" "__next__" "set_iterator.__next__" :=
 .of (owner := "set_iterator") (n := "__next__") (by rw [typeLookup_type, builtinLookup_eq_fast]; kernel_rfl) (by decide +kernel) (by decide +kernel) (by decide +kernel) (.inl (by decide +kernel)) (by rw [isSubtype_type]; kernel_rfl)
theorem sit_next_e : entryFor table "set_iterator.__next__" = some Builtin.«set_iterator.__next__» := entryFor_of_tree (by kernel_rfl)
theorem sit_next_a (a : Value) : argsOk "set_iterator.__next__" ⟨[a], []⟩ := by
 unfold argsOk; kernel_rfl
theorem sit_iter : Slot "set_iterator" "__iter__" "set_iterator.__iter__" :=
 .of (owner := "set_iterator") (n := "__iter__") (by rw [typeLookup_type, builtinLookup_eq_fast]; kernel_rfl) (by decide +kernel) (by decide +kernel) (by decide +kernel) (.inl (by decide +kernel)) (by rw [isSubtype_type]; kernel_rfl)
theorem set_iter_e : entryFor table "set.__iter__" = some Builtin.«frozenset.__iter__» := entryFor_alias (id' := "frozenset.__iter__") (by kernel_rfl) rfl (by decide +kernel) (by kernel_rfl)
theorem sit_iter_a (a : Value) : argsOk "set_iterator.__iter__" ⟨[a], []⟩ := by
 unfold argsOk; kernel_rfl
theorem sit_iter_e : entryFor table "set_iterator.__iter__" = some Builtin.«dict_keyiterator.__iter__» := entryFor_alias (id' := "dict_keyiterator.__iter__") (by kernel_rfl) (by first | rfl | decide +kernel) (by decide +kernel) (by kernel_rfl)
section
variable {prog : Program} {w : World} {A : Around} {E : Value → Shared → Prop} {s : Shared} {a I : Addr} {S : List Nat} {es : Array (Int × Value)} {ep i : Nat}
theorem SetIt.ty {slot n : Nat} (h : SetIt s.heap I a slot i n ep) : s.TypeIs (.ref I) "set_iterator" := ⟨_, h, rfl⟩
theorem set_item {Q : Option Value → Shared → Prop} (hr : riseF 0 S) (hz : es.size = S.length) (ho : SetAt s.heap a S (ledW w) es ep) (hit : SetIt s.heap I a (slotS w S i) i es.size ep) {e : Int × Value} (he : (walkE w a ep es)[i]? = some e)
  (hQ : ∀ h', SetIt h' I a (slotS w S (i + 1)) (i + 1) es.size ep → Heap.SameBut I s.heap h' → Q (some e.2) { s with heap := h' }) : wpAny (model prog w) A (pyNext (.ref I)) Q E s := by
 have hf : (tabS S (ledW w)).fits es.size = true := by rw [hz]; exact fits_S hr
 have hi : i ≤ es.size := by
  have h1 := (Array.getElem?_eq_some_iff.mp he).1
  have h2 := (walkE_perm w a ep es).length_eq
  rw [Array.length_toList, Array.length_toList] at h2
  omega
 unfold pyNext
 refine wpAny_bind (wpAny_attempt (wpAny_callSpecial?_slot (name := Str.ofString "__next__") hit.ty sit_next (wpAny_call_entry sit_next hit.ty sit_next_e ?_ (sit_next_a _))))
 unfold Builtin.«set_iterator.__next__»
 refine wpAny_bind (wpAny_pure ?_)
 refine wpAny_bind (wpAny_fieldsOf hit rfl ?_)
 dsimp only [rawInt]
 refine wpAny_bind (wpAny_setEntries_of ho rfl hf ?_)
 rw [if_neg (by simp)]
 refine wpAny_bind (set_next (prog := prog) hr hz ho hi ?_)
 rw [show ((ep : Int).toNat) = ep from Int.toNat_natCast ep, he]
 dsimp only [Option.map]
 have hit0 : s.heap.get? I = some { cls := .type "set_iterator", data := .fields #[rawInt (slotS w S i : Nat), rawInt (i : Nat), .ref a, rawInt (es.size : Nat), rawInt (ep : Nat)] } := hit
 refine wpAny_bind (wpAny_setField hit0 rfl (by simp) ?_)
 have g1 := Heap.get?_update_self (Obj.mapFields (·.setIfInBounds 0 (Value.int ((slotS w S (i + 1) : Nat) : Int) 0))) hit0 rfl
 refine wpAny_bind (wpAny_setField g1 rfl (by simp [Obj.mapFields]) ?_)
 have g2 := Heap.get?_update_self (Obj.mapFields (·.setIfInBounds 1 (Value.int ((i : Int) + 1) 0))) g1 rfl
 refine wpAny_pure ⟨e.2, rfl, wpAny_pure (hQ _ ?_ ((Heap.SameBut.update ..).trans (Heap.SameBut.update ..)))⟩
 unfold SetIt
 rw [g2]
 rfl
theorem set_end {Q : Option Value → Shared → Prop} (hh : A.handled = none) (hr : riseF 0 S) (hz : es.size = S.length) (ho : SetAt s.heap a S (ledW w) es ep) (hit : SetIt s.heap I a (slotS w S es.size) es.size es.size ep)
  (hQ : ∀ h', Heap.ExtBut I s.heap h' → Q none { s with heap := h' }) : wpAny (model prog w) A (pyNext (.ref I)) Q E s := by
 have hf : (tabS S (ledW w)).fits es.size = true := by rw [hz]; exact fits_S hr
 have he : (walkE w a ep es)[es.size]? = none := by
  have h2 := (walkE_perm w a ep es).length_eq
  rw [Array.length_toList, Array.length_toList] at h2
  rw [← h2]; simp
 unfold pyNext
 refine wpAny_bind (wpAny_attempt (wpAny_callSpecial?_slot (name := Str.ofString "__next__") hit.ty sit_next (wpAny_call_entry sit_next hit.ty sit_next_e ?_ (sit_next_a _))))
 unfold Builtin.«set_iterator.__next__»
 refine wpAny_bind (wpAny_pure ?_)
 refine wpAny_bind (wpAny_fieldsOf hit rfl ?_)
 dsimp only [rawInt]
 refine wpAny_bind (wpAny_setEntries_of ho rfl hf ?_)
 rw [if_neg (by simp)]
 refine wpAny_bind (set_next (prog := prog) hr hz ho (Nat.le_refl _) ?_)
 rw [show ((ep : Int).toNat) = ep from Int.toNat_natCast ep, he]
 dsimp only [Option.map]
 have hit0 : s.heap.get? I = some { cls := .type "set_iterator", data := .fields #[rawInt (slotS w S es.size : Nat), rawInt (es.size : Nat), .ref a, rawInt (es.size : Nat), rawInt (ep : Nat)] } := hit
 refine wpAny_bind (wpAny_setField hit0 rfl (by simp) ?_)
 show wpAny _ _ (newExc (.type "StopIteration") [] >>= raiseNew) _ _ _
 refine wpAny_bind ?_
 simp only [newExc, newTuple]
 refine wpAny_bind (wpAny_newObj_type ?_ (by size_fits))
 refine wpAny_bind (m := firstArgMember _ _) (wpAny_of_eq (a := Value.none) (by first | rfl | (simp only [firstArgMember]; rfl)) ?_)
 refine wpAny_newObj_type ?_ (by size_fits)
 simp only [raiseNew]
 refine wpAny_bind (wpAny_handled ?_)
 rw [show A.in1.handled = none from hh]
 refine wpAny_bind (wpAny_pure (wpAny_throw ?_))
 refine wpAny_bind (wpAny_isInstance (T := "StopIteration") (b := true) ⟨_, Heap.get?_push_size _ rfl, rfl⟩ isSubtype_stop ?_)
 exact wpAny_pure (hQ _ (((Heap.SameBut.update ..).extBut.push _).push _))
theorem set_iter {Q : Value → Shared → Prop} (hr : riseF 0 S) (hz : es.size = S.length) (ho : SetAt s.heap a S (ledW w) es ep)
  (hQ : Q (.ref s.heap.objs.size) { s with heap := s.heap.push { cls := .type "set_iterator", data := .fields #[rawInt (0 : Nat), rawInt (0 : Nat), .ref a, rawInt (es.size : Nat), rawInt (ep : Nat)] } }) : wpAny (model prog w) A (pyIter (.ref a)) Q E s := by
 have hT : s.TypeIs (.ref a) "set" := ⟨_, ho, rfl⟩
 have hf : (tabS S (ledW w)).fits es.size = true := by rw [hz]; exact fits_S hr
 refine wpAny_pyIter_slot hT PySem.F.slot_set_iter (wpAny_call_entry PySem.F.slot_set_iter hT set_iter_e ?_ (PySem.F.args_set_iter_1 _))
 unfold Builtin.«frozenset.__iter__» Builtin.Frozenset.slot0 slotArgs
 simp only [List.isEmpty_nil, Bool.not_true, Bool.false_eq_true, ↓reduceIte, bind_assoc, List.length_nil, bne_self_eq_false]
 unfold Builtin.Frozenset.addrOf Builtin.Frozenset.sizeOf
 refine wpAny_bind (wpAny_pure ?_)
 try dsimp only
 refine wpAny_bind (wpAny_pure ?_)
 refine wpAny_bind (wpAny_bind (wpAny_setEntries_of ho rfl hf (wpAny_pure ?_)))
 refine wpAny_bind ?_
 unfold setDrawn
 refine wpAny_bind (wpAny_setState_of ho rfl hf ?_)
 dsimp only
 unfold setsByText
 refine wpAny_bind (wpAny_bind (wpAny_askSetting (wpAny_pure (wpAny_pure ?_))))
 refine wpAny_ite_split (fun z => ?_) fun _ => ?_
 ·exfalso
  rw [Bool.and_eq_true] at z
  have z' : (!true && decide (es.size > 1)) = true := z.2
  simp at z'
 ·refine wpAny_bind (wpAny_pure (wpAny_bind (wpAny_setEpoch_of ho rfl hf ?_)))
  refine wpAny_bind (wpAny_newObj_type (wpAny_pure ⟨_, rfl, "set_iterator", _, ⟨_, Heap.get?_push_size _ rfl, rfl⟩, sit_next.lookup, hQ⟩) (by size_fits))
theorem walks_set (hh : A.handled = none) (hr : riseF 0 S) (hz : es.size = S.length) (hne : a ≠ I) : Walks prog w A I [I, a] [I] es.size (fun i v => ∃ e, (walkE w a ep es)[i]? = some e ∧ v = e.2) (fun i h => SetIt h I a (slotS w S i) i es.size ep ∧ SetAt h a S (ledW w) es ep) where
 sub := fun b hb => by simp at hb; simp [hb]
 frame := fun _ _ _ st hk => ⟨hk I (by simp) _ st.1, hk a (by simp) _ st.2⟩
 item := fun i s Q E hi st hQ => by
  have h2 := (walkE_perm w a ep es).length_eq
  rw [Array.length_toList, Array.length_toList] at h2
  have he : (walkE w a ep es)[i]? = some ((walkE w a ep es)[i]'(by omega)) := Array.getElem?_eq_getElem _
  exact set_item hr hz st.2 st.1 he fun h' hit' hs' => hQ _ h' s.toks ⟨_, he, rfl⟩ ⟨hit', (hs'.2 a hne).trans st.2⟩ fun b o hb e => hs'.extBut b o (fun h => hb (by simp [h])) e
 done := fun s Q E st hQ => set_end hh hr hz st.2 st.1 fun h' he' => hQ h' s.toks fun b o hb e => he' b o (fun h => hb (by simp [h])) e
 self := fun i s Q E st hQ => by
  refine wpAny_pyIter_slot st.1.ty sit_iter (wpAny_call_entry sit_iter st.1.ty sit_iter_e ?_ (sit_iter_a _))
  show wpAny _ _ (ret (.ref I)) _ _ s
  exact wpAny_pure ⟨_, rfl, "set_iterator", _, st.1.ty, sit_next.lookup, hQ⟩
theorem set_hint (hT : s.TypeIs (.ref a) "set") {Q : Bool → Shared → Prop} (h : Q false s) : wpAny (model prog w) A (Builtin.List.listLengthHint (.ref a)) Q E s := by
 unfold Builtin.List.listLengthHint
 refine wpAny_bind (wpAny_specialOf hT PySem.F.slot_set_len.lookup ?_)
 generalize hid : ("set.__len__" : String) = id0
 wp_delta
 rw [show splitId id0 = some ("set", "__len__") from by subst hid; decide +kernel]
 subst hid
 refine wpAny_bind (wpAny_isInstance (T := "set") (b := true) hT sub_set_self ?_)
 refine wpAny_ite_split (fun hab => absurd hab (by decide)) (fun _ => ?_)
 refine wpAny_ite_split (fun _ => ?_) (fun hab => absurd (by decide +kernel) hab)
 exact wpAny_bind (wpAny_typeOf hT (wpAny_pure h))
theorem src_set (hr : riseF 0 S) (hz : es.size = S.length) : PySem.W.KdlSrc prog w "set" a a es.size (fun i v => ∃ e, (walkE w a ep es)[i]? = some e ∧ v = e.2) (fun h => SetAt h a S (ledW w) es ep) where
 type := fun _ hm => ⟨_, hm, rfl⟩
 there := fun _ hm => ⟨Heap.lt_size hm, Heap.lt_size hm⟩
 keep := fun _ _ hm hk => hk a (.inl rfl) _ hm
 notList := by decide
 notTuple := by decide
 hint := fun _ _ _ _ hm hq => set_hint ⟨_, hm, rfl⟩ hq
 iter := fun A s hh hm => ⟨_, _, (fun _ _ hq => set_iter hr hz hm hq), walks_set hh hr hz (Nat.ne_of_lt (Heap.lt_size hm)), ⟨by
  have : slotS w S 0 = 0 := by unfold slotS; split <;> rfl
  rw [this]; exact Heap.get?_push_size _ rfl, Heap.get?_push_of_some _ hm⟩⟩
end
section
variable {X : Cx}
theorem vals_ints' : ∀ {ns : List Int} {us : List Value}, Vals (ns.map V.int) us → IntsAre us ns
 | [], _, .nil => .nil
 | n :: ns, _, .cons r t => by
  obtain ⟨tk, rfl⟩ := r
  exact .cons n tk (vals_ints' t)
noncomputable def extS (w : World) (p : Addr) (S : List Nat) : HO := .ext fun h => SetS h p S (ledW w)
noncomputable def rSet (X : Cx) : List V → Hp → VK → Prop := fun xs H Q => ∃ a ns, xs = [.ref a] ∧ (SqL X.K H a (ns.map V.int) ∨ SqT X.K H a (ns.map V.int)) ∧ small ns ∧ ∀ p, H p = none → Q (.ref p) (upd H p (extS X.w p (setS ns)))
theorem call_set (hc : X.calm = true) : CallR X (.type "set") (rSet X) := by
 intro pins s σ H xs us Q I r q
 obtain ⟨a, ns, rfl, sq, sm, q⟩ := q
 obtain ⟨u, rfl, ru⟩ := vals1 r
 cases ru
 have fin : ∀ (b : Bool) (its : List Value), (if b = true then s.heap.IsTuple a its.toArray else s.heap.IsList a its.toArray) → IntsAre its ns → wpAny (model X.prog X.w) X.A (call (.type "set") [.ref a]) (EP X pins σ Q) X.xe s := fun b its hl hi => by
  refine call_setS b (I.ok.hd hc) hl (by simpa using hi) sm fun h' tk hS hk => ?_
  refine ⟨.ref s.heap.objs.size, _, I.laid (a := s.heap.objs.size) (o := extS X.w s.heap.objs.size (setS ns)) (t' := tk) (fun b o e => hk b o (Heap.lt_size e) e) (Nat.le_refl _) ?_, rfl, q _ (I.hok.fresh (Nat.le_refl _))⟩
  obtain ⟨_, es, ep, ho, _⟩ := id hS
  exact ⟨hS, ⟨_, ho⟩, fun h1 h2 x k => x.keep k⟩
 rcases sq with sq | sq
 ·obtain ⟨its, rv, pl, _⟩ := I.list sq
  exact fin false its pl.isList (vals_ints' rv)
 ·obtain ⟨its, rv, pl, _⟩ := I.tuple sq
  exact fin true its pl (vals_ints' rv)
theorem ints_perm : ∀ {vs us : List Value}, vs.Perm us → ∀ {ns : List Int}, IntsAre us ns → ∃ ms : List Int, IntsAre vs ms ∧ ms.Perm ns := by
 intro vs us p
 induction p with
 | nil => intro ns h; cases h; exact ⟨[], .nil, List.Perm.refl _⟩
 | cons x p ih =>
  intro ns h
  cases h with
  | cons n t r =>
   obtain ⟨ms, h1, h2⟩ := ih r
   exact ⟨n :: ms, .cons n t h1, h2.cons n⟩
 | swap x y l =>
  intro ns h
  cases h with
  | cons n t r =>
   cases r with
   | cons n' t' r => exact ⟨n' :: n :: _, .cons _ _ (.cons _ _ r), List.Perm.swap _ _ _⟩
 | trans p1 p2 ih1 ih2 =>
  intro ns h
  obtain ⟨ms, h1, h2⟩ := ih2 h
  obtain ⟨ks, h3, h4⟩ := ih1 h1
  exact ⟨ks, h3, h4.trans h2⟩
theorem riseF.pw : ∀ {S : List Nat} {m : Nat}, riseF m S → (S.map Int.ofNat).Pairwise (· ≤ ·)
 | [], _, _ => List.Pairwise.nil
 | k :: r, m, ⟨h1, h2, h3⟩ => by
  rw [List.map_cons]
  refine List.Pairwise.cons (fun x hx => ?_) (riseF.pw h3)
  obtain ⟨j, hj, rfl⟩ := List.mem_map.mp hx
  have := (riseF.lt h3 j hj).1
  show (k : Int) ≤ (j : Int)
  omega
noncomputable def rSortS (X : Cx) : List V → Hp → VK → Prop := fun xs H Q => ∃ p S, xs = [.ref p] ∧ H p = some (extS X.w p S) ∧ ∀ q, H q = none → Q (.ref q) (upd H q (.lst (S.map fun (k : Nat) => V.int (k : Int))))
theorem call_sortS (hc : X.calm = true) : CallR X (.builtin "sorted") (rSortS X) := by
 intro pins s σ H xs us Q I r q
 obtain ⟨p, S, rfl, hp, q⟩ := q
 obtain ⟨u, rfl, ru⟩ := vals1 r
 cases ru
 obtain ⟨⟨hr, es, ep, ho, h1, h2⟩, _, _⟩ := I.hok p _ hp
 have hz : es.size = S.length := by have := congrArg List.length h1; simpa using this
 have hz6 := hr.len (by omega)
 refine Calls.call_function_entry kind_sorted plain_sorted entry_sorted (args_sorted1 _) ?_
 unfold Builtin.«sorted»
 refine wpAny_bind (m := checkCount "sorted" 1 1 _) (wpAny_pure ?_)
 refine wpAny_bind (PySem.W.kdu_collect (A := X.A.in1) (src_set hr hz) (I.ok.hd hc) ho (by rw [hz, sizeLine_eq]; omega) fun h' tk acc hk hacc => ?_)
 have al : acc.toList.length = es.size := by rw [Array.length_toList]; exact hacc.1
 have ew : acc.toList = (walkE X.w p ep es).toList.map (·.2) := by
  have wl := (walkE_perm X.w p ep es).length_eq
  refine List.ext_getElem? fun i => ?_
  by_cases hi : i < acc.size
  ·have hi' : acc.toList[i]? = some acc[i] := by rw [Array.getElem?_toList]; exact Array.getElem?_eq_getElem hi
   obtain ⟨e, e1, e2⟩ := hacc.2 i acc[i] (Array.getElem?_eq_getElem hi)
   rw [hi', List.getElem?_map, Array.getElem?_toList, e1, e2]; rfl
  ·rw [List.getElem?_eq_none (by rw [Array.length_toList]; omega), List.getElem?_eq_none (by rw [List.length_map, wl, Array.length_toList, ← hacc.1]; omega)]
 obtain ⟨ms, m1, m2⟩ := ints_perm (show acc.toList.Perm (es.toList.map (·.2)) by rw [ew]; exact (walkE_perm X.w p ep es).map _) h2
 refine wpAny_bind (wpAny_newList ?_ (by rw [al, hz, sizeLine_eq]; omega))
 have hoL : (h'.push { cls := .type "list", data := .seq acc.toList.toArray }).get? h'.objs.size = some (seqObj "list" acc.toList.toArray 0) := Heap.get?_push_size _ rfl
 refine wpAny_bind (wpAny_holding (wpAny_call_entry slot_list_sort ⟨_, hoL, rfl⟩ entry_list_sort (list_sort_tree hoL m1 (by rw [al, hz]; omega) fun out ns' a1 a2 a3 => ⟨_, rfl, ?_⟩) (args_list_sort _)))
 have en : ns' = S.map Int.ofNat := PySem.W.ksm_same (a2.trans m2) a3 hr.pw
 subst en
 refine wpAny_pure ⟨_, rfl, ?_⟩
 obtain ⟨e, hat⟩ := sortedHeap_at (out := out) hoL
 have I' : Inv X pins σ H { s with heap := h', toks := tk } := I.kept hk
 have z : (S.map fun (k : Nat) => V.int (k : Int)).length ≤ sizeLine := by rw [List.length_map, sizeLine_eq]; omega
 refine ⟨.ref h'.objs.size, _, I'.laid (a := h'.objs.size) (o := .lst (S.map fun (k : Nat) => V.int (k : Int))) (t' := tk) (fun b o e => ?_) (Nat.le_refl _) ⟨z, out.toList, e, ?_, by rw [Array.toArray_toList]; exact hat⟩, rfl, q _ (I'.hok.fresh (Nat.le_refl _))⟩
 ·have hlt := Heap.lt_size e
  rw [sortedHeap_old (Nat.ne_of_lt hlt) (by rw [Heap.size_push]; exact Nat.lt_succ_of_lt hlt)]
  exact Heap.get?_push_of_some _ e
 ·have := vals_ints a1
  rw [List.map_map] at this
  exact this
noncomputable def rLenS (X : Cx) : List V → Hp → VK → Prop := fun xs H Q => ∃ p S, xs = [.ref p] ∧ H p = some (extS X.w p S) ∧ Q (.int (S.length : Int)) H
theorem call_lenS : CallR X (.builtin "len") (rLenS X) := by
 intro pins s σ H xs us Q I r q
 obtain ⟨p, S, rfl, hp, q⟩ := q
 obtain ⟨u, rfl, ru⟩ := vals1 r
 cases ru
 obtain ⟨⟨hr, es, ep, ho, h1, h2⟩, _, _⟩ := I.hok p _ hp
 have hz : es.size = S.length := by have := congrArg List.length h1; simpa using this
 have hz6 := hr.len (by omega)
 refine call_len_set ho ⟨rfl, rfl, rfl⟩ rfl (by rw [hz]; exact fits_S hr) (by omega) ?_
 exact ⟨.int (es.size : Int), H, I.tok _, ⟨_, rfl⟩, by rw [hz]; exact q⟩
end
noncomputable def intsD : List D → Option (List Int)
 | [] => some []
 | .int n :: r => (intsD r).map (n :: ·)
 | _ :: _ => none
noncomputable def smallB (ns : List Int) : Bool := ns.all fun n => decide (0 ≤ n) && decide (n < 6)
theorem smallB_ok {ns : List Int} (h : smallB ns = true) : small ns := fun n hn => by
 have := List.all_eq_true.mp h n hn
 simpa using this
theorem intsD_den {K : KA} {G : Hp} : ∀ {ds : List D} {ns : List Int} {vs : List V}, intsD ds = some ns → DenL K G ds vs → vs = ns.map V.int
 | [], ns, vs, h, d => by cases h; exact d
 | d :: r, ns, vs, h, ⟨v, vr, e1, e2, e3⟩ => by
  cases d with
  | int n =>
   unfold intsD at h
   cases hr : intsD r with
   | none => rw [hr] at h; cases h
   | some ms =>
    rw [hr] at h
    cases h
    rw [e1, intsD_den hr e3, show v = .int n from e2]; rfl
  | _ => cases h
noncomputable def setOf : D → Option (List Nat)
 | .lst ds => (intsD ds).bind fun ns => if smallB ns then some (setS ns) else none
 | .tup ds => (intsD ds).bind fun ns => if smallB ns then some (setS ns) else none
 | _ => none
noncomputable def natsD (S : List Nat) : List D := S.map fun (k : Nat) => .int (k : Int)
noncomputable def pySortSet (d : D) : Option D := (setOf d).map fun S => .lst (natsD S)
noncomputable def pyLenSet (d : D) : Option D := (setOf d).map fun S => .int (S.length : Int)
theorem denL_nats {K : KA} {G : Hp} : ∀ S : List Nat, DenL K G (natsD S) (S.map fun (k : Nat) => V.int (k : Int))
 | [] => rfl
 | k :: S => ⟨.int k, _, rfl, rfl, denL_nats S⟩
section
variable {X : Cx} {B : Hp} {E : EK} {e : Expr} {g : En → Res} {pos p pos' p' : Pos}
theorem setOf_arg {K : KA} {G H : Hp} {d : D} {v : V} {S : List Nat} (sg : Same G H) (ax : Arg K G H d v) (h : setOf d = some S) : ∃ a ns, v = .ref a ∧ (SqL K H a (ns.map V.int) ∨ SqT K H a (ns.map V.int)) ∧ small ns ∧ setS ns = S := by
 have key : ∀ {ds : List D} {vs : List V}, ((intsD ds).bind fun ns => if smallB ns then some (setS ns) else none) = some S → DenL K G ds vs → ∃ ns, vs = ns.map V.int ∧ small ns ∧ setS ns = S := fun {ds vs} h dl => by
  cases hi : intsD ds with
  | none => rw [hi] at h; cases h
  | some ns =>
   rw [hi] at h
   have h' : (if smallB ns then some (setS ns) else none) = some S := h
   by_cases hb : smallB ns = true
   ·rw [if_pos hb] at h'
    cases h'
    exact ⟨ns, intsD_den hi dl, smallB_ok hb, rfl⟩
   ·rw [if_neg hb] at h'; cases h'
 cases d with
 | lst ds =>
  obtain ⟨a, vs, rfl, sq, dl⟩ := ax.lst sg
  obtain ⟨ns, rfl, q1, q2⟩ := key h dl
  exact ⟨a, ns, rfl, .inl sq, q1, q2⟩
 | tup ds =>
  obtain ⟨a, vs, rfl, sq, dl⟩ := ax.tup sg
  obtain ⟨ns, rfl, q1, q2⟩ := key h dl
  exact ⟨a, ns, rfl, .inr sq, q1, q2⟩
 | _ => cases h
theorem pu_sortS (hc : X.calm = true) (hg : Gl X "sorted") (hm : X.mg "sorted" = none) (hg' : Gl X "set") (hm' : X.mg "set" = none) (ha : ArE X B E e g) (he : starEach [e] X.env = (false, eval e X.env) :: starEach [] X.env) :
  PuE X B E (.Call (.Name "sorted" p) [.Call (.Name "set" p') [e] [] pos'] [] pos) (g1 pySortSet g) :=
 PE.imp (pe_callB (call_sortS hc) hg hm PyProof.Rows.boot_sorted (pa_cons (pe_callTy (call_set hc) hg' hm' PyProof.Rows.boot_set (al_cons ha al_nil he) (by decide) (by decide) he rfl) pa_nil rfl) (by decide) (by decide) rfl rfl) fun σ H Q q =>
  cb1 (rr := fun xs H Q => rSet X xs H fun x H1 => rSortS X [x] H1 Q) (fun G H x dx d sg ax ed Q q => by
   unfold pySortSet at ed
   cases hs : setOf dx with
   | none => rw [hs] at ed; cases ed
   | some S =>
    rw [hs] at ed
    cases ed
    obtain ⟨a, ns, rfl, sq, sm, es⟩ := setOf_arg sg ax hs
    refine ⟨a, ns, rfl, sq, sm, fun p hp => ⟨p, S, rfl, by rw [es]; exact upd_same, fun q' hq' => ?_⟩⟩
    have x1 := Ext.own sg (extS X.w p (setS ns)) hp
    exact q _ _ _ (x1.trans (Ext.new x1.gh (.lst (S.map fun (k : Nat) => V.int (k : Int))) hq')) (den_newL x1.gh hq' (denL_nats S))) q
theorem pu_lenS (hc : X.calm = true) (hg : Gl X "len") (hm : X.mg "len" = none) (hg' : Gl X "set") (hm' : X.mg "set" = none) (ha : ArE X B E e g) (he : starEach [e] X.env = (false, eval e X.env) :: starEach [] X.env) :
  PuE X B E (.Call (.Name "len" p) [.Call (.Name "set" p') [e] [] pos'] [] pos) (g1 pyLenSet g) :=
 PE.imp (pe_callB call_lenS hg hm PySem.boot_len (pa_cons (pe_callTy (call_set hc) hg' hm' PyProof.Rows.boot_set (al_cons ha al_nil he) (by decide) (by decide) he rfl) pa_nil rfl) (by decide) (by decide) rfl rfl) fun σ H Q q =>
  cb1 (rr := fun xs H Q => rSet X xs H fun x H1 => rLenS X [x] H1 Q) (fun G H x dx d sg ax ed Q q => by
   unfold pyLenSet at ed
   cases hs : setOf dx with
   | none => rw [hs] at ed; cases ed
   | some S =>
    rw [hs] at ed
    cases ed
    obtain ⟨a, ns, rfl, sq, sm, es⟩ := setOf_arg sg ax hs
    refine ⟨a, ns, rfl, sq, sm, fun p hp => ⟨p, S, rfl, by rw [es]; exact upd_same, ?_⟩⟩
    exact q _ _ _ (Ext.own sg (extS X.w p (setS ns)) hp) rfl) q
end
section
variable {prog : Program} {w : World} {A : Around} {E : Value → Shared → Prop} {s : Shared} {r : Addr} {a b c : Int} {t u v : Tok} {n : Nat}
theorem collect_range {R : List Value → Shared → Prop} (hh : A.handled = none) (hr : IsRange s.heap r a b c t u v) (hsmall : Builtin.Range.small a b c = true) (hn : Builtin.Range.rangeSize a b c = n) (hlen : n ≤ 2 ^ 24)
  (h : ∀ (h' : Heap) (tk : Nat) (acc : Array Value), (∀ b o, s.heap.get? b = some o → h'.get? b = some o) → ItemsOf (fun i v => ∃ t, v = .int (a + i * c) t) acc n → R acc.toList { s with heap := h', toks := tk }) :
  wpAny (model prog w) A (collect (.ref r)) R E s := by
 unfold collect
 refine wpAny_bind (wpAny_runValue (codeAny_builtin F.entry_proto_collect ?_))
 rw [Around.under_plainId PySem.F.plain_proto_collect _]
 show wpAny _ A.in1 (newList [] >>= fun l => again (.builtin "list.__iadd__" ⟨[l, .ref r], []⟩)) _ _ s
 refine wpAny_bind (wpAny_newObj_type ?_)
 refine wpAny_pure ⟨plainId_quiet PySem.F.plain_list_iadd _, codeAny_builtin F.entry_list_iadd ?_⟩
 rw [Around.under_plainId PySem.F.plain_list_iadd _]
 have hS₁ : (s.heap.push { cls := .type "list", data := .seq ([] : List Value).toArray }).get? s.heap.objs.size = some { cls := .type "list", data := .seq #[] } := Heap.get?_push_size _ rfl
 show wpAny _ A.in1 (Builtin.List.listExtendWith (.ref s.heap.objs.size) (.ref r) (.ref s.heap.objs.size)) _ _ _
 have key := wpAny_extend_range (A := A) (prog := prog) (w := w) (s := { s with heap := s.heap.push { cls := .type "list", data := .seq ([] : List Value).toArray } })
  (R := fun (q : Result) (s' : Shared) => ∃ (h' : Heap) (tk : Nat) (acc' : Array Value) (c' : Nat), q = .ok (.ret (.ref s.heap.objs.size)) ∧ s' = { s with heap := h', toks := tk } ∧
   (∀ b o, s.heap.get? b = some o → h'.get? b = some o) ∧ h'.get? s.heap.objs.size = some { cls := .type "list", dict := none, data := .seq acc' c', slots := #[] } ∧ ItemsOf (fun i v => ∃ t, v = .int (a + i * c) t) acc' n)
  hh (Heap.get?_push_of_some _ hr) hsmall hn hlen s.heap.objs.size (.ref s.heap.objs.size) 0 hS₁
  (fun h' tk acc' c' hk hS' hacc => ⟨h', tk, acc', c', rfl, rfl, fun b o e => hk b o (Nat.ne_of_lt (Heap.lt_size e)) (Heap.get?_push_of_some _ e), hS', hacc⟩)
 refine wpAny_mono key (fun fin s' x => ?_) fun e s' x => ?_
 ·cases fin with
  | done f =>
   obtain ⟨h', tk, acc', c', e, rfl, hk, hS', hacc⟩ := x
   cases e
   show wpAny _ A (load s.heap.objs.size >>= _) _ _ _
   refine wpAny_bind (wpAny_load hS' ?_)
   exact wpAny_pure (h h' tk acc' hk hacc)
  | again c₁ =>
   refine ⟨x.1, codeAny_mono x.2 fun q s₂ y => ?_⟩
   obtain ⟨h', tk, acc', c', rfl, rfl, hk, hS', hacc⟩ := y
   show wpAny _ A (load s.heap.objs.size >>= _) _ _ _
   refine wpAny_bind (wpAny_load hS' ?_)
   exact wpAny_pure (h h' tk acc' hk hacc)
 ·obtain ⟨_, _, _, _, e', _⟩ := x
  cases e'
theorem call_tuple_range {Q : Value → Shared → Prop} (hh : A.handled = none) (hr : IsRange s.heap r a b c t u v) (hsmall : Builtin.Range.small a b c = true) (hn : Builtin.Range.rangeSize a b c = n) (hlen : n ≤ 2 ^ 24)
  (h : ∀ (h' : Heap) (tk : Nat) (acc : Array Value), (∀ b o, s.heap.get? b = some o → h'.get? b = some o) → ItemsOf (fun i v => ∃ t, v = .int (a + i * c) t) acc n → Q (.ref h'.objs.size) { s with heap := h'.push { cls := .type "tuple", data := .seq acc }, toks := tk }) :
  wpAny (model prog w) A (call (.type "tuple") [.ref r]) Q E s := by
 refine callType_codes (Q₁ := fun obj s₁ => s₁.TypeIs obj "tuple" ∧ Q obj s₁) F.called_tuple (F.typeCall_tuple_1 _) F.entry_object_init ?_ fun obj s₁ h₁ => ?_
 ·refine codeAny_of_tree ?_
  show wpAny _ A.in1.in1 (do checkBuiltinCall "tuple.__new__" ⟨[.type "tuple", .ref r], []⟩; again (.builtin "tuple.__new__" ⟨[.type "tuple", .ref r], []⟩)) _ _ s
  refine wpAny_bind (wpAny_of_eq (F.newCall_tuple_1 _) (wpAny_pure ⟨plainId_quiet F.plain_tuple_new _, codeAny_builtin F.entry_tuple_new ?_⟩))
  rw [Around.under_plainId F.plain_tuple_new _]
  have hsub := sub_tuple_self
  have hinit := init_tuple_lookup
  have hmh := madeHere_tuple
  have hTI : s.TypeIs (.ref r) "range" := ⟨_, hr, rfl⟩
  wp_walk using wpAny_typeOf hTI, collect_range (A := A.in1.in1) (n := n) (show A.in1.in1.handled = none from hh) hr hsmall hn hlen
  intro h' tk acc hk hacc
  show wpAny _ _ (Builtin.Tuple.tupleExact acc.toList.toArray >>= fun v => ret v) _ _ _
  unfold Builtin.Tuple.tupleExact
  refine wpAny_bind (wpAny_newObj_type ?_ (by show acc.toList.toArray.size ≤ sizeLine; simp only [Array.toArray_toList]; rw [hacc.1, sizeLine_eq]; omega))
  refine wpAny_pure ?_
  have e : acc.toList.toArray = acc := by simp
  rw [e]
  exact ⟨⟨_, Heap.get?_push_size _ rfl, rfl⟩, h h' tk acc hk hacc⟩
 ·exact ⟨h₁.1, F.args_object_init_2 obj _, object_init_meets F.called_tuple.init.lookup F.called_tuple.made (by decide) prog w A.in1 _ s₁ ⟨h₁.1, rfl, h₁.2⟩⟩
end
section
variable {X : Cx}
noncomputable def rRng : List V → Hp → VK → Prop := fun xs H Q => ∃ i, xs = [.int i] ∧ ∀ p, H p = none → Q (.ref p) (upd H p (.rng 0 i))
theorem call_rng : CallR X (.type "range") rRng := by
 intro pins s σ H xs us Q I r q
 obtain ⟨i, rfl, q⟩ := q
 obtain ⟨u, rfl, ru⟩ := vals1 r
 obtain ⟨t, rfl⟩ := ru
 refine call_range_1 ⟨.ref s.heap.objs.size, _, I.laid (a := s.heap.objs.size) (o := .rng 0 i) (fun b o e => Heap.get?_push_of_some _ e) (Nat.le_refl _) ⟨_, _, _, Heap.get?_push_size _ rfl⟩, rfl, q _ (I.hok.fresh (Nat.le_refl _))⟩
noncomputable def rTupR : List V → Hp → VK → Prop := fun xs H Q => ∃ p n, xs = [.ref p] ∧ H p = some (.rng 0 n) ∧ 0 ≤ n ∧ n ≤ 1000 ∧ ∀ q, H q = none → Q (.ref q) (upd H q (.tup ((List.range n.toNat).map fun (k : Nat) => V.int (k : Int))))
theorem vals_items : ∀ {m k : Nat} {l : List Value}, l.length = m → (∀ (i : Nat) (v : Value), l[i]? = some v → ∃ t, v = .int ((k : Int) + (i : Int)) t) → Vals ((List.range' k m).map fun (k : Nat) => V.int (k : Int)) l
 | 0, k, l, h, _ => by cases l with
  | nil => exact .nil
  | cons => cases h
 | m + 1, k, l, h, hv => by cases l with
  | nil => cases h
  | cons x l =>
   obtain ⟨t, e⟩ := hv 0 x rfl
   refine .cons ⟨t, by rw [e]; simp⟩ (vals_items (k := k + 1) (by simpa using h) fun i v q => ?_)
   obtain ⟨t', e'⟩ := hv (i + 1) v q
   exact ⟨t', by rw [e']; congr 1; push_cast; omega⟩
theorem call_tupR (hc : X.calm = true) : CallR X (.type "tuple") rTupR := by
 intro pins s σ H xs us Q I r q
 obtain ⟨p, n, rfl, hp, n0, n1, q⟩ := q
 obtain ⟨u, rfl, ru⟩ := vals1 r
 cases ru
 obtain ⟨t, u, v, ho⟩ := I.hok p _ hp
 refine call_tuple_range (n := n.toNat) (I.ok.hd hc) ho (small_one (by omega) (by omega) (by omega) (by omega)) (by rw [rangeSize_nat]; simp) (by omega) fun h' tk acc hk hacc => ?_
 have I' : Inv X pins σ H { s with heap := h', toks := tk } := I.kept hk
 refine ⟨.ref h'.objs.size, _, I'.laid (a := h'.objs.size) (o := .tup ((List.range n.toNat).map fun (k : Nat) => V.int (k : Int))) (t' := tk) (fun b o e => Heap.get?_push_of_some _ e) (Nat.le_refl _) ⟨?_, acc.toList, ?_, ?_⟩, rfl, q _ (I'.hok.fresh (Nat.le_refl _))⟩
 ·rw [List.length_map, List.length_range, sizeLine_eq]; omega
 ·rw [List.range_eq_range']
  refine vals_items (by rw [Array.length_toList]; exact hacc.1) fun i v q => ?_
  rw [Array.getElem?_toList] at q
  obtain ⟨t, e⟩ := hacc.2 i v q
  exact ⟨t, by rw [e]; congr 1; omega⟩
 ·rw [Array.toArray_toList]; exact IsTup.new _ _
end
noncomputable def pyTupRange : D → Option D
 | .int n => if 0 ≤ n ∧ n ≤ 1000 then some (.tup (natsD (List.range n.toNat))) else none
 | _ => none
section
variable {X : Cx} {B : Hp} {E : EK} {e : Expr} {g : En → Res} {pos p pos' p' : Pos}
theorem pu_tupR (hc : X.calm = true) (hg : Gl X "tuple") (hm : X.mg "tuple" = none) (hg' : Gl X "range") (hm' : X.mg "range" = none) (ha : ArE X B E e g) (he : starEach [e] X.env = (false, eval e X.env) :: starEach [] X.env) :
  PuE X B E (.Call (.Name "tuple" p) [.Call (.Name "range" p') [e] [] pos'] [] pos) (g1 pyTupRange g) :=
 PE.imp (pe_callTy (call_tupR hc) hg hm PyProof.Rows.boot_tuple (pa_cons (pe_callTy call_rng hg' hm' PyProof.Rows.boot_range (al_cons ha al_nil he) (by decide) (by decide) he rfl) pa_nil rfl) (by decide) (by decide) rfl rfl) fun σ H Q q =>
  cb1 (rr := fun xs H Q => rRng xs H fun x H1 => rTupR [x] H1 Q) (fun G H x dx d sg ax ed Q q => by
   unfold pyTupRange at ed
   split at ed
   ·rename_i n
    split at ed
    ·rename_i hn
     cases ed
     have ex : x = .int n := ax.int
     subst ex
     refine ⟨n, rfl, fun p hp => ⟨p, n, rfl, upd_same, hn.1, hn.2, fun q' hq' => ?_⟩⟩
     have x1 := Ext.own sg (.rng 0 n) hp
     exact q _ _ _ (x1.trans (Ext.new x1.gh (.tup ((List.range n.toNat).map fun (k : Nat) => V.int (k : Int))) hq')) (den_newT x1.gh hq' (denL_nats _))
    ·cases ed
   ·cases ed) q
end
noncomputable def Ite (K : PySem.W.Frag) (a : Addr) : It :=
 ⟨fun i H => ∃ xs x, SqL K H a xs ∧ xs[i]? = some x, fun i H v H' => ∃ p x, H p = none ∧ v = .ref p ∧ H' = upd H p (.tup [.int (i : Int), x]) ∧ ∀ xs, SqL K H a xs → xs[i]? = some x, fun i H => ∃ xs, SqL K H a xs ∧ xs.length ≤ i⟩
noncomputable def tnE (e it a : Addr) (i : Nat) (h : Heap) : Prop := (∃ old, IsEnum h e it (i : Int) old) ∧ h.IsListIter it a i
theorem turn_enum {P : Program} {w : World} {K : PySem.W.Frag} {tes : List Expr} {k1} {tp : Pos} (a e it : Addr) (hne : e ≠ it) : Turn P w K (.Tuple tes k1 tp) (Ite K a) [e, it] e (tnE e it a) where
 mem := by simp
 obj := fun i h st b hb => by
  obtain ⟨⟨old, he⟩, o, ho, hc, hd⟩ := st
  rcases List.mem_cons.mp hb with rfl | hb
  ·exact ⟨_, he, fun v z => by
    have z' : Data.fields _ = Data.cell v := z
    cases z'⟩
  ·have e : b = it := by simpa using hb
   subst e
   exact ⟨o, ho, fun v z => by rw [hd] at z; cases z⟩
 keep := fun i h h' st k => ⟨let ⟨old, he⟩ := st.1; ⟨old, k e (by simp) _ he⟩, st.2.at fun o q => k it (by simp) o q⟩
 item := by
  intro X hP hw hK hc i pins s σ H E I hf st hg
  subst hP hw hK
  obtain ⟨xs, x, hq, hx⟩ := hg
  obtain ⟨its, rv, p, hz⟩ := I.list hq
  obtain ⟨u, hu, ru⟩ := rv.get hx
  obtain ⟨⟨old, he⟩, hit⟩ := st
  obtain ⟨f0, f1, f2, f3, f4, f5⟩ := hf e (by simp)
  obtain ⟨g0, g1, g2, g3, g4, g5⟩ := hf it (by simp)
  have fresh : H s.heap.objs.size = none := I.hok.fresh (Nat.le_refl _)
  have elt : e < s.heap.objs.size := Heap.lt_size he
  refine wpAny_pyNext_enum_item he hit p.isList (x := u) (by simpa using hu) hne fun h1 he1 hit1 ht1 hz1 hk1 => ?_
  refine ⟨_, rfl, wpAny_letOwnedTupleGo_enum he1 fun h2 he2 sb => ?_⟩
  have sb' : Heap.SameBut e h1 h2 := sb
  have k2 : ∀ b o, b ≠ e → b ≠ it → s.heap.get? b = some o → h2.get? b = some o := fun b o h1' h2' q => sb'.extBut b o h1' (hk1 b o h1' h2' q)
  have t2 : h2.get? s.heap.objs.size = some { cls := .type "tuple", data := .seq #[.int (i : Int) s.toks, u] } := sb'.extBut _ _ (Nat.ne_of_gt elt) ht1
  have old' : ∀ {b : Addr} {o : HO}, H b = some o → b ≠ s.heap.objs.size ∧ b ≠ e ∧ b ≠ it := fun {b o} q => ⟨ne_of_none q fresh, ne_of_none q f0, ne_of_none q g0⟩
  have ch : ∀ b, b ∉ [e, it] → b ≠ e ∧ b ≠ it := fun b hb => by simpa using hb
  have I2 : Inv X pins σ (upd H s.heap.objs.size (.tup [.int (i : Int), x])) { s with heap := h2, toks := s.toks + 1 } := by
   refine I.step (g' := s.gens) (d' := s.drawn) (ch := [e, it]) (fun b hb => ?_) (fun b o _ _ hc q _ => k2 b o (ch b hc).1 (ch b hc).2 q) (fun b o _ _ hc q _ => ⟨o.slots, k2 b o (ch b hc).1 (ch b hc).2 q⟩) (fun b o _ q n => ?_) (fun b o hc q => ⟨o, k2 b o (ch b hc).1 (ch b hc).2 q⟩)
    (fun b ys q => by rw [upd_ne (old' q).1]; exact q) (fun b o v q => by rw [upd_ne (old' q).1]; exact q) (fun b y q => by rw [upd_ne (old' q).1]; exact q) (fun m hm => ?_) (fun b v q => ?_) I.bare
   ·rcases List.mem_cons.mp hb with rfl | hb
    ·exact ⟨f3, f1, f4, f5⟩
    ·have z : b = it := by simpa using hb
     subst z
     exact ⟨g3, g1, g4, g5⟩
   ·rw [upd_ne (Nat.ne_of_lt (Heap.lt_size q))]; exact n
   ·obtain ⟨o, es, ep, ho, r⟩ := hm
    exact ⟨o, es, ep, k2 _ o (Ne.symm f1) (Ne.symm g1) ho, r⟩
   ·by_cases hb : b = s.heap.objs.size
    ·subst hb
     rw [upd_same] at q; cases q
     exact ⟨by rw [sizeLine_eq]; simp, [.int (i : Int) s.toks, u], .cons ⟨_, rfl⟩ (.cons ru .nil), _, t2, rfl, 0, rfl⟩
    ·rw [upd_ne hb] at q
     refine (I.hok b v q).stay (fun b' v' hb' r => k2 b' v' ?_ ?_ r) (fun b' z => by rw [upd_ne (old' z).1]; exact z) (fun b' ys z => by rw [upd_ne (old' z).1]; exact z) fun b' o' u' z => by rw [upd_ne (old' z).1]; exact z
     ·rcases hb' with z | z
      ·rw [z]; exact (old' q).2.1
      ·exact (old' z).2.1
     ·rcases hb' with z | z
      ·rw [z]; exact (old' q).2.2
      ·exact (old' z).2.2
  refine ⟨.ref s.heap.objs.size, _, I2, rfl, ⟨_, x, fresh, rfl, rfl, fun ys hy => by rw [I.list_inj hy hq]; exact hx⟩, ⟨⟨u, ?_⟩, ?_⟩, fun b hb => ?_⟩
  ·have : ((i + 1 : Nat) : Int) = (i : Int) + 1 := by push_cast; rfl
   rw [this]; exact he2
  ·exact hit1.at fun o q => sb'.extBut it o (Ne.symm hne) q
  ·have z := (hf b hb).1
   have : b < s.heap.objs.size := by
    rcases List.mem_cons.mp hb with rfl | hb
    ·exact elt
    ·have z : b = it := by simpa using hb
     subst z
     obtain ⟨o, ho, _⟩ := hit
     exact Heap.lt_size ho
   rw [upd_ne (Nat.ne_of_lt this)]; exact z
 done := by
  intro X hP hw hK hc i pins s σ H E I hf st hg
  subst hP hw hK
  obtain ⟨xs, hq, hx⟩ := hg
  obtain ⟨its, rv, p, hz⟩ := I.list hq
  obtain ⟨⟨old, he⟩, hit⟩ := st
  obtain ⟨g0, g1, g2, g3, g4, g5⟩ := hf it (by simp)
  have hl := rv.length
  exact wpAny_pyNext_enum_end (I.ok.hd hc) he hit p.isList (by simp; omega) fun h' eb => ⟨rfl, I.turned (t' := s.toks) (fun b o hb e => eb b o hb e) g0 g1 g3 g4 g5⟩
 self := fun _ _ _ _ _ st h => let ⟨_, he⟩ := st.1; wpAny_pyIter_enum he h
noncomputable def enumD : Nat → List D → List D
 | _, [] => []
 | i, d :: r => .tup [.int (i : Int), d] :: enumD (i + 1) r
theorem enumD_len : ∀ (i : Nat) (ds : List D), (enumD i ds).length = ds.length
 | _, [] => rfl
 | i, d :: r => by rw [enumD, List.length_cons, List.length_cons, enumD_len]
theorem enumD_get : ∀ (i j : Nat) (ds : List D), (enumD i ds)[j]? = (ds[j]?).map fun d => .tup [.int ((i + j : Nat) : Int), d]
 | _, _, [] => by simp [enumD]
 | i, 0, d :: r => by simp [enumD]
 | i, j + 1, d :: r => by
  rw [enumD, List.getElem?_cons_succ, List.getElem?_cons_succ, enumD_get (i + 1) j r]
  rw [show i + 1 + j = i + (j + 1) by omega]
noncomputable def gEnum (g : En → Res) : En → ResL := fun δ => match g δ with
 | .ok (.lst ds) => .ok (enumD 0 ds)
 | .er c => .er c
 | _ => .st
section
variable {X : Cx} {B : Hp} {E : EK} {e : Expr} {g : En → Res} {pos p tp : Pos} {tes : List Expr} {k1 : Nat}
theorem enumP {G H : Hp} {δ : En} {P : List D → Prop} (q : ResLP E G H (gEnum g δ) P) : ResP E G H (g δ) fun d => ∃ ds, d = .lst ds ∧ P (enumD 0 ds) := by
 unfold gEnum at q
 cases e : g δ with
 | ok d =>
  rw [e] at q
  cases d with
  | lst ds => exact ⟨ds, rfl, q⟩
  | _ => exact q.elim
 | er c => rw [e] at q; exact q
 | st => rw [e] at q; exact q
theorem ite_ok {K : KA} {a : Addr} {G1 : Hp} {ds : List D} {vs : List V} {S : Hp → Hp → Prop} (h : ∀ G H, S G H → Same G H → SqL K H a vs ∧ Same G1 G) (dl : DenL K G1 ds vs) : ItOk K (Ite K a) (enumD 0 ds) S := fun i G H hS sg => by
 obtain ⟨q, g⟩ := h G H hS sg
 refine ⟨fun d ed => ?_, fun hl => ⟨vs, q, by rw [enumD_len] at hl; rw [← dl.length]; exact hl⟩⟩
 rw [enumD_get, Nat.zero_add] at ed
 cases e0 : ds[i]? with
 | none => rw [e0] at ed; cases ed
 | some d0 =>
  rw [e0] at ed
  cases ed
  obtain ⟨v, ev, dv⟩ := dl.get e0
  refine ⟨⟨vs, v, q, ev⟩, fun x H' ⟨p, y, hp, e1, e2, e3⟩ => ?_⟩
  subst e1 e2
  have z := e3 vs q
  rw [ev] at z
  cases z
  exact ⟨_, Ext.new sg (.tup [.int (i : Int), v]) hp, den_newT sg hp (DenL.append (DenL.one (d := .int (i : Int)) rfl) (DenL.one (dv.mono g)))⟩
theorem pi_enum (hg : Gl X "enumerate") (hm : X.mg "enumerate" = none) (h : BoE X B E e g) (he : starEach [e] X.env = (false, eval e X.env) :: starEach [] X.env) :
  PuI X B E (.Tuple tes k1 tp) (.Call (.Name "enumerate" p) [e] [] pos) (gEnum g) := by
 intro pins s σ H R I ⟨G, δ, Rr, q⟩
 have ha : PA X [e] (tCons (tBo (kx X) B E g) tNil) := pa_cons h pa_nil he
 refine Call_ (ld_blt I hg hm (by decide +kernel : bootBuiltins "enumerate" = some (.type "enumerate")) (PyProof.Rows.callWith_type1 (thn (ha pos pins s σ H (fun vs H1 => ∃ a, vs = [.ref a] ∧ (∃ xs, SqL X.K H1 a xs) ∧ R (Ite X.K a) H1) I ⟨G, δ, Rr, (enumP q).mono fun d _ ⟨ds, ed, q⟩ v G1 H1 e1 ax => ?_⟩) fun us s1 ⟨vs, H1, I1, r1, a, e1, ⟨xs, hq⟩, q1⟩ => ?_) he rfl))
 ·subst ed
  have bh : Same B H1 := Rr.bh.trans e1.hh
  rcases ax with ⟨a, vs, rfl, s, dl⟩ | ⟨ds2, a, vs, z, rfl, s, dl⟩ | ⟨t, kvs, a, z, _⟩
  ·exact ⟨a, rfl, ⟨vs, SqL.mono e1.gh s⟩, q _ G1 H1 e1 (ite_ok (fun G2 H2 ⟨x1, x2⟩ sg => ⟨SqL.mono (x1.trans sg) s, x1⟩) dl)⟩
  ·cases z
   exact ⟨a, rfl, ⟨vs, SqL.mono bh s⟩, q _ G1 H1 e1 (ite_ok (fun G2 H2 ⟨x1, x2⟩ sg => ⟨SqL.mono x2 s, x1⟩) dl)⟩
  ·cases z
 ·subst e1
  obtain ⟨u, rfl, ru⟩ := vals1 r1
  cases ru
  obtain ⟨its, rv, pl, _⟩ := I1.list hq
  refine call_enumerate_list pl.isList fun h' he' hi' hz' hk' => ?_
  refine wpAny_pyIter_enum he' ⟨s1.heap.objs.size + 1, [s1.heap.objs.size + 1, s1.heap.objs.size], _, _, H1, rfl, I1.kept (t' := s1.toks) hk', turn_enum a _ _ (Nat.succ_ne_self _), ⟨⟨_, he'⟩, hi'⟩, fun b hb => ?_, q1⟩
  rcases List.mem_cons.mp hb with rfl | hb
  ·exact I1.fpOk (Nat.le_succ _) (I1.hok.fresh (Nat.le_succ _))
  ·have z : b = s1.heap.objs.size := by simpa using hb
   subst z
   exact I1.fpOk (Nat.le_refl _) (I1.hok.fresh (Nat.le_refl _))
end
noncomputable def binP : Operator → Option (D → D → Option D)
 | .Add => some pyAdd
 | .Sub => some pySub
 | .Mult => some pyMul
 | .Mod => some pyMod
 | .FloorDiv => some pyFdiv
 | .Pow => some pyPow
 | _ => none
theorem pu_bin {X : Cx} {B : Hp} {E : EK} {a b : Expr} {g h : En → Res} {pos : Pos} {op : Operator} {f : D → D → Option D} (hf : binP op = some f) (ha : ArE X B E a g) (hb : ArE X B E b h) : PuE X B E (.BinOp a op b pos) (g2 f g h) := by
 cases op <;> cases hf
 ·exact pu_add ha hb
 ·exact pu_sub ha hb
 ·exact pu_mul ha hb
 ·exact pu_mod ha hb
 ·exact pu_pow ha hb
 ·exact pu_fdiv ha hb
noncomputable def selA : List Bool → List ((En → Res) × (En → Res)) → En → ResL
 | [], [] => gNil
 | m :: ms, p :: ps => gCons (if m then p.1 else p.2) (selA ms ps)
 | _, _ => gStL
theorem selA_eq {ev : Ev} {C : SC} : ∀ {ms : List Bool} {es : List Expr}, selA ms (es.map fun e => (gAr ev C e, ev C e)) = gAL ev C ms es
 | [], [] => rfl
 | [], _ :: _ => rfl
 | _ :: _, [] => rfl
 | m :: ms, e :: es => by
  show gCons (if m then gAr ev C e else ev C e) (selA ms (es.map fun e => (gAr ev C e, ev C e))) = gCons (if m then gAr ev C e else ev C e) (gAL ev C ms es)
  rw [selA_eq]
noncomputable def okO : Res → Res
 | .ok d => .ok d
 | _ => .st
noncomputable def gCallX (T : GT) (i : Nat) (ps : List ((En → Res) × (En → Res))) : En → Res := fun δ => match gArg i δ with
 | .ok (.fn y) => (match T.fns y with
  | some s => gCall s.f (selA s.ms ps) δ
  | none => .st)
 | .ok (.obj e fs) => gCall (fun ds => okO (T.lam e fs ds)) (selA (ps.map fun _ => false) ps) δ
 | _ => .st
noncomputable def gCallV (T : GT) (ev : Ev) (C : SC) (i : Nat) (args : List Expr) : En → Res := gCallX T i (args.map fun e => (gAr ev C e, ev C e))
section
variable {T : GT} {ev tv : Ev} {X : Cx} {C : SC} {B : Hp} {E : XK} {pos p : Pos} {x : Str} {e a : Expr} {es : List Expr}
theorem callV_ok (h : EvOk T ev) (O : XOk X C T E) {i : Nat} (hs : slot C x = some i) (hn : (e :: es).all nst = true) : PuE X B (ek (kx X) E) (.Call (.Name x p) (e :: es) [] pos) (gCallV T ev C i (e :: es)) := by
 intro pins s σ H Q I ⟨G, δ, R, q⟩
 unfold gCallV gCallX at q
 cases ea : gArg i δ with
 | er c => rw [ea] at q; exact q.elim
 | st => rw [ea] at q; exact q.elim
 | ok d =>
  rw [ea] at q
  cases d with
  | fn y =>
   dsimp only at q
   cases ef : T.fns y with
   | none => rw [ef] at q; exact q.elim
   | some sp =>
    rw [ef] at q
    dsimp only at q
    rw [selA_eq] at q
    obtain ⟨k, f, fd, ps, hr, hm, hk, hb, F⟩ := O.fns y sp ef
    obtain ⟨v, q1, q2⟩ := R.arg ea
    have ev' : v = .ref f := by rw [q2.fn]; show V.ref (adr X.mg y) = _; rw [adr_of hm]
    subst ev'
    have hn' := hn
    rw [List.all_cons, Bool.and_eq_true] at hn'
    refine wpAny_Call_Name_kw (thn (O.var hs pins s σ H (fun v H1 => v = .ref f ∧ H1 = H) I ⟨_, q1, rfl, rfl⟩) fun u s1 ⟨v, H1, I1, r1, e1, e2⟩ => ?_)
    subst e1 e2
    cases r1
    refine PySem.W.callWith_K (h₀ := X.base) I.ok.mod.kin hk (thn (aL_ok (B := B) (E := E) h O (ms := sp.ms) hn pos pins s1 σ H1 (fun vs H2 => spPu (kx X) sp.ms sp.f vs H2 Q E) I1 ⟨G, δ, R, (callP q).mono fun ds _ q vs G1 H2 e1 al =>
     ⟨al.length.2, R.gb.same (R.bh.trans e1.hh), G1, ds, e1.gh, al, (q.ext e1).mono fun d _ q v G' H' e2 dn => q v G' H' (e1.trans e2) dn⟩⟩) fun us s2 ⟨vs, H2, I2, r, q2⟩ => ⟨I2.kIn, ?_⟩) (star_cons hn'.1) (star_any hn'.2)
    exact run_fn (dvs := []) F hr hb .nil O.goes I2 r (by rw [List.append_nil]; exact q2)
  | obj l fs =>
   dsimp only at q
   rw [List.map_map, show (((fun _ => false) ∘ fun e => (gAr ev C e, ev C e)) : Expr → Bool) = (fun _ => false) from rfl, selA_eq] at q
   obtain ⟨v, q1, q2⟩ := R.arg ea
   obtain ⟨a, lvs, rfl, la, df⟩ : Den (kx X) G (.obj l fs) v := by
    rcases q2 with z | ⟨_, _, _, z, _⟩ | ⟨_, _, _, z, _⟩
    ·exact z
    ·cases z
    ·cases z
   have hn' := hn
   rw [List.all_cons, Bool.and_eq_true] at hn'
   have fnat : ∀ {H' : Hp} {h' : Heap}, Same G H' → HOk X.prog X.w H' h' → PySem.W.FnAt a h' := fun {H' h'} sg hok => by
    unfold LamAt at la
    split at la
    ·obtain ⟨qual, pm, c', ctv, cl, oc, cvs, t, h1, _⟩ := la
     obtain ⟨z, _⟩ := hok a _ (sg _ _ h1)
     exact ⟨_, _, _, _, z⟩
    ·exact la.elim
   refine wpAny_Call_Name_kw (thn (O.var hs pins s σ H (fun v H1 => v = .ref a ∧ H1 = H) I ⟨_, q1, rfl, rfl⟩) fun u s1 ⟨v, H1, I1, r1, e1, e2⟩ => ?_)
   subst e1 e2
   cases r1
   refine PySem.W.callWith_F (fnat R.gh I1.hok) (thn (aL_ok (B := B) (E := E) h O (ms := (e :: es).map fun _ => false) hn pos pins s1 σ H1 (fun vs H2 => ∃ G1 ds d, Ext G H1 G1 H2 ∧ DenL (kx X) G1 ds vs ∧ T.lam l fs ds = .ok d ∧ ∀ v G' H', Ext G H1 G' H' → Den (kx X) G' d v → Q v H') I1 ⟨G, δ, R, (callP q).mono fun ds _ q vs G1 H2 e1 al => ?_⟩)
    fun us s2 ⟨vs, H2, I2, r, G1, ds, d, e1, dl, el, q⟩ => ⟨fnat (e1.gg.trans e1.gh) I2.hok, ?_⟩) (star_cons hn'.1) (star_any hn'.2)
   ·cases el : T.lam l fs ds with
    | ok d => rw [el] at q; exact ⟨G1, ds, d, e1, al.den allF_map, el, q⟩
    | er c => rw [el] at q; exact q.elim
    | st => rw [el] at q; exact q.elim
   ·obtain ⟨k, hr, run⟩ := O.lams l fs ds d el
    refine wpAny_call (codeAny_mono (run X.A X.stack s2 H2 G1 a us vs Q hr I2.env0 (R.gb.same (R.bh.trans e1.hh)) e1.gh ⟨a, lvs, rfl, la.mono e1.gg, df.mono e1.gg⟩ dl r fun v G' H' e2 dn => q v G' H' (e1.trans e2) dn) fun rr s' hq => ?_)
    cases rr with
    | error x =>
     obtain ⟨_, _, _, _, _, _, _, _, _, z⟩ := (show CXe X.prog X.w X.stack H2 s2 E0 x s' from hq)
     exact z.elim
    | ok fl =>
     cases fl with
     | ret u => exact I2.after hq
     | next => exact False.elim hq
     | brk => exact False.elim hq
     | cont => exact False.elim hq
  | _ => exact q.elim
end
noncomputable def bi1 (x : Str) : Option (D → Option D) :=
 if x = "len" then some pyLen else if x = "list" then some pyListD else if x = "tuple" then some pyTuple else if x = "int" then some pyInt else if x = "all" then some pyAll else if x = "any" then some pyAny else none
section
variable {X : Cx} {B : Hp} {E : EK} {e a b : Expr} {es : List Expr} {g h : En → Res} {pos p : Pos} {x : Str}
theorem bi1_ok {C : SC} {T : GT} {f : D → Option D} {E' : XK} (O : XOk X C T E') (hf : bi1 x = some f) (hg : Gl X x) (hn : nst e = true) (ha : ArE X B E e g) : PuE X B E (.Call (.Name x p) [e] [] pos) (g1 f g) := by
 unfold bi1 at hf
 by_cases h1 : x = "len"
 ·rw [if_pos h1] at hf; cases hf; subst h1
  exact pu_len hg (O.bl _ (by decide)) ha (star_cons hn) rfl
 rw [if_neg h1] at hf
 by_cases h1 : x = "list"
 ·rw [if_pos h1] at hf; cases hf; subst h1
  exact ow_pu (ow_listD O.calm hg (O.bl _ (by decide)) ha hn) isL_listD
 rw [if_neg h1] at hf
 by_cases h1 : x = "tuple"
 ·rw [if_pos h1] at hf; cases hf; subst h1
  exact pu_tuple hg (O.bl _ (by decide)) ha (star_cons hn) rfl
 rw [if_neg h1] at hf
 by_cases h1 : x = "int"
 ·rw [if_pos h1] at hf; cases hf; subst h1
  exact pu_int1 hg (O.bl _ (by decide)) ha (star_cons hn) rfl
 rw [if_neg h1] at hf
 by_cases h1 : x = "all"
 ·rw [if_pos h1] at hf; cases hf; subst h1
  exact pu_all O.calm hg (O.bl _ (by decide)) ha (star_cons hn)
 rw [if_neg h1] at hf
 by_cases h1 : x = "any"
 ·rw [if_pos h1] at hf; cases hf; subst h1
  exact pu_any O.calm hg (O.bl _ (by decide)) ha (star_cons hn)
 rw [if_neg h1] at hf
 cases hf
noncomputable def kindP (x : Str) : Option String :=
 if x = "int" then some "int" else if x = "bool" then some "bool" else if x = "str" then some "str" else if x = "list" then some "list" else if x = "tuple" then some "tuple" else if x = "dict" then some "dict" else none
theorem kind_ok {C : SC} {T : GT} {y : Str} {c : String} {p2 : Pos} {E' : XK} (O : XOk X C T E') (hf : kindP y = some c) (hg : Gl X "isinstance") (hg2 : Gl X y) (hn : nst e = true) (ha : ArE X B E e g) : PuE X B E (.Call (.Name "isinstance" p) [e, .Name y p2] [] pos) (g1 (pyIsI c) g) := by
 have he : starEach [e, .Name y p2] X.env = (false, eval e X.env) :: starEach [.Name y p2] X.env := star_cons hn
 unfold kindP at hf
 by_cases h1 : y = "int"
 ·rw [if_pos h1] at hf; cases hf; subst h1
  exact pu_isI kit_int hg (O.bl _ (by decide)) hg2 (O.bl _ (by decide)) PyProof.Rows.boot_int ha (by decide) (by decide) he rfl rfl
 rw [if_neg h1] at hf
 by_cases h1 : y = "bool"
 ·rw [if_pos h1] at hf; cases hf; subst h1
  exact pu_isI kit_bool hg (O.bl _ (by decide)) hg2 (O.bl _ (by decide)) PyProof.Rows.boot_bool ha (by decide) (by decide) he rfl rfl
 rw [if_neg h1] at hf
 by_cases h1 : y = "str"
 ·rw [if_pos h1] at hf; cases hf; subst h1
  exact pu_isI kit_str hg (O.bl _ (by decide)) hg2 (O.bl _ (by decide)) PyProof.Rows.boot_str ha (by decide) (by decide) he rfl rfl
 rw [if_neg h1] at hf
 by_cases h1 : y = "list"
 ·rw [if_pos h1] at hf; cases hf; subst h1
  exact pu_isI kit_list hg (O.bl _ (by decide)) hg2 (O.bl _ (by decide)) PyProof.Rows.boot_list ha (by decide) (by decide) he rfl rfl
 rw [if_neg h1] at hf
 by_cases h1 : y = "tuple"
 ·rw [if_pos h1] at hf; cases hf; subst h1
  exact pu_isI kit_tuple hg (O.bl _ (by decide)) hg2 (O.bl _ (by decide)) PyProof.Rows.boot_tuple ha (by decide) (by decide) he rfl rfl
 rw [if_neg h1] at hf
 by_cases h1 : y = "dict"
 ·rw [if_pos h1] at hf; cases hf; subst h1
  exact pu_isI kit_dict hg (O.bl _ (by decide)) hg2 (O.bl _ (by decide)) PyProof.Rows.boot_dict ha (by decide) (by decide) he rfl rfl
 rw [if_neg h1] at hf
 cases hf
end
noncomputable def setArg (C : SC) (n : Str) (a : Expr) : Option Expr := match a with
 | .Call (.Name y _) [e] [] _ => if decide (y = n) && decide (slot C y = none) && isG C y && nst e then some e else none
 | _ => none
noncomputable def stepBi (ev : Ev) (C : SC) (x : Str) (args : List Expr) : En → Res := match args with
 | [a] => (match setArg C "set" a with
  | some e => if x = "sorted" then g1 pySortSet (gAr ev C e) else if x = "len" then g1 pyLenSet (gAr ev C e) else gSt
  | none => (match setArg C "range" a with
   | some e => if x = "tuple" then g1 pyTupRange (gAr ev C e) else gSt
   | none => (match bi1 x with
    | some f => if nst a then g1 f (gAr ev C a) else gSt
    | none => gSt)))
 | [a, .Name y _] => if x = "isinstance" then (match kindP y with
   | some c => if nst a && isG C y then g1 (pyIsI c) (gAr ev C a) else gSt
   | none => gSt) else gSt
 | _ => gSt
noncomputable def stepCall (T : GT) (ev : Ev) (C : SC) (x : Str) (args : List Expr) : En → Res := match slot C x with
 | some i => (match args with
  | [] => gSt
  | e :: es => if (e :: es).all nst then gCallV T ev C i (e :: es) else gSt)
 | none => if isG C x then (match T.fns x with
  | some s => (match args with
   | [] => if s.ms = [] then (fun _ => s.f []) else gSt
   | e :: es => if (e :: es).all nst then gCall s.f (gAL ev C s.ms (e :: es)) else gSt)
  | none => stepBi ev C x args) else gSt
section
variable {T : GT} {ev tv : Ev} {X : Cx} {C : SC} {B : Hp} {E : XK} {pos p : Pos} {x : Str} {e a : Expr} {es : List Expr}
theorem setArg_ok {n : Str} (O : XOk X C T E) (h : setArg C n a = some e) : ∃ p pos, a = .Call (.Name n p) [e] [] pos ∧ Gl X n ∧ nst e = true := by
 unfold setArg at h
 split at h
 ·rename_i y p e' pos
  split at h
  ·rename_i c
   cases h
   simp only [Bool.and_eq_true, decide_eq_true_eq] at c
   obtain ⟨⟨⟨rfl, _⟩, h3⟩, h4⟩ := c
   exact ⟨p, pos, rfl, (O.gl h3).1, h4⟩
  ·cases h
 ·cases h
theorem bi_ok (h : EvOk T ev) (O : XOk X C T E) (hg : Gl X x) {args : List Expr} : PuE X B (ek (kx X) E) (.Call (.Name x p) args [] pos) (stepBi ev C x args) := by
 unfold stepBi
 split
 ·rename_i a
  cases hs : setArg C "set" a with
  | some e =>
   dsimp only
   obtain ⟨p2, pos2, rfl, hg2, hn⟩ := setArg_ok O hs
   by_cases h1 : x = "sorted"
   ·subst h1
    rw [if_pos rfl]
    exact pu_sortS O.calm hg (O.bl _ (by decide)) hg2 (O.bl _ (by decide)) (ar_ok h O e) (star_cons hn)
   ·rw [if_neg h1]
    by_cases h2 : x = "len"
    ·subst h2
     rw [if_pos rfl]
     exact pu_lenS O.calm hg (O.bl _ (by decide)) hg2 (O.bl _ (by decide)) (ar_ok h O e) (star_cons hn)
    ·rw [if_neg h2]; exact pu_st
  | none =>
   dsimp only
   cases hr : setArg C "range" a with
   | some e =>
    dsimp only
    obtain ⟨p2, pos2, rfl, hg2, hn⟩ := setArg_ok O hr
    by_cases h1 : x = "tuple"
    ·subst h1
     rw [if_pos rfl]
     exact pu_tupR O.calm hg (O.bl _ (by decide)) hg2 (O.bl _ (by decide)) (ar_ok h O e) (star_cons hn)
    ·rw [if_neg h1]; exact pu_st
   | none =>
    dsimp only
    cases hf : bi1 x with
    | none => exact pu_st
    | some f =>
     dsimp only
     by_cases hn : nst a = true
     ·rw [if_pos hn]; exact bi1_ok O hf hg hn (ar_ok h O a)
     ·rw [if_neg hn]; exact pu_st
 ·rename_i a y p2
  by_cases hx : x = "isinstance"
  ·subst hx
   rw [if_pos rfl]
   cases hf : kindP y with
   | none => exact pu_st
   | some c =>
    dsimp only
    by_cases hn : (nst a && isG C y) = true
    ·rw [if_pos hn]
     rw [Bool.and_eq_true] at hn
     exact kind_ok O hf hg (O.gl hn.2).1 hn.1 (ar_ok h O a)
    ·rw [if_neg hn]; exact pu_st
  ·rw [if_neg hx]; exact pu_st
 ·exact pu_st
theorem call_ok (h : EvOk T ev) (O : XOk X C T E) {args : List Expr} : PuE X B (ek (kx X) E) (.Call (.Name x p) args [] pos) (stepCall T ev C x args) := by
 unfold stepCall
 cases hs : slot C x with
 | some i =>
  cases args with
  | nil => exact pu_st
  | cons e es =>
   dsimp only
   by_cases hn : (e :: es).all nst = true
   ·rw [if_pos hn]; exact callV_ok h O hs hn
   ·rw [if_neg hn]; exact pu_st
 | none =>
  dsimp only
  by_cases hg : isG C x = true
  ·rw [if_pos hg]
   obtain ⟨g1, g2⟩ := O.gl hg
   cases ef : T.fns x with
   | none => exact bi_ok h O g1
   | some s =>
    obtain ⟨k, f, fd, ps, hr, hm, hk, hb, F⟩ := O.fns x s ef
    cases args with
    | nil =>
     dsimp only
     by_cases hms : s.ms = []
     ·rw [if_pos hms]
      rw [hms] at F
      exact pu_call0 F hr g1 hm hk hb O.goes g2
     ·rw [if_neg hms]; exact pu_st
    | cons e es =>
     dsimp only
     by_cases hn : (e :: es).all nst = true
     ·rw [if_pos hn]
      have hn' := hn
      rw [List.all_cons, Bool.and_eq_true] at hn'
      exact pu_call F hr g1 hm hk hb O.goes (aL_ok h O hn) g2 (star_cons hn'.1) (star_any hn'.2)
     ·rw [if_neg hn]; exact pu_st
  ·rw [if_neg hg]; exact pu_st
end
noncomputable def isRange (C : SC) (x : Str) : Bool := decide (x = "range") && decide (slot C x = none) && isG C x
noncomputable def stepIc (ev : Ev) (C : SC) (iter : Expr) : En → ResL := match iter with
 | .Call (.Name x _) [a] [] _ => if isRange C x && nst a then gRange (gAL ev C [true] [a]) else gWalk (gAr ev C iter)
 | .Call (.Name x _) [a, b] [] _ => if isRange C x && nst a && nst b then gRange (gAL ev C [true, true] [a, b]) else gWalk (gAr ev C iter)
 | _ => gWalk (gAr ev C iter)
noncomputable def gBoE (ev : Ev) (C : SC) (e : Expr) : En → Res := match e with
 | .Name x _ => (match slot C x with
  | some i => gBo i
  | none => ev C e)
 | _ => ev C e
noncomputable def stepI (ev : Ev) (C : SC) (iter : Expr) : En → ResL := match iter with
 | .Call (.Name x _) [a] [] _ => if isRange C x && nst a then gRange (gAL ev C [true] [a]) else gWalk (gBoE ev C iter)
 | .Call (.Name x _) [a, b] [] _ => if isRange C x && nst a && nst b then gRange (gAL ev C [true, true] [a, b]) else gWalk (gBoE ev C iter)
 | _ => gWalk (gBoE ev C iter)
section
variable {T : GT} {ev tv : Ev} {X : Cx} {C : SC} {B : Hp} {E : XK} {pos p : Pos} {x : Str} {e a tg : Expr} {es : List Expr}
theorem bo_ok (h : EvOk T ev) (O : XOk X C T E) (e : Expr) : BoE X B (ek (kx X) E) e (gBoE ev C e) := by
 have d : BoE X B (ek (kx X) E) e (ev C e) := bo_pu (h X C B E e O)
 cases e with
 | Name x p =>
  show BoE X B _ _ (match slot C x with
   | some i => gBo i
   | none => ev C (.Name x p))
  cases es : slot C x with
  | none => exact d
  | some i => exact bo_var i (O.var es)
 | _ => exact d
theorem range_of (O : XOk X C T E) {x : Str} (h : isRange C x = true) : x = "range" ∧ Gl X "range" ∧ X.mg "range" = none := by
 unfold isRange at h
 simp only [Bool.and_eq_true, decide_eq_true_eq] at h
 obtain ⟨⟨h1, h2⟩, h3⟩ := h
 subst h1
 exact ⟨rfl, (O.gl h3).1, O.bl _ (by decide)⟩
theorem i_ok (h : EvOk T ev) (O : XOk X C T E) (e : Expr) : PuI X B (ek (kx X) E) tg e (stepI ev C e) := by
 unfold stepI
 split
 ·rename_i x _ a _
  by_cases hc : (isRange C x && nst a) = true
  ·rw [if_pos hc]
   rw [Bool.and_eq_true] at hc
   obtain ⟨rfl, g1, g2⟩ := range_of O hc.1
   exact pi_rng1 g1 g2 (aL_ok h O (by rw [List.all_cons, hc.2]; rfl)) (star_cons hc.2)
  ·rw [if_neg hc]; exact pi_boW (bo_ok h O _)
 ·rename_i x _ a b _
  by_cases hc : (isRange C x && nst a && nst b) = true
  ·rw [if_pos hc]
   rw [Bool.and_eq_true, Bool.and_eq_true] at hc
   obtain ⟨⟨h1, h2⟩, h3⟩ := hc
   obtain ⟨rfl, g1, g2⟩ := range_of O h1
   exact pi_rng2 g1 g2 (aL_ok h O (by rw [List.all_cons, List.all_cons, h2, h3]; rfl)) (by rw [star_cons h2, star_cons h3]; rfl) (star_cons h3)
  ·rw [if_neg hc]; exact pi_boW (bo_ok h O _)
 ·exact pi_boW (bo_ok h O _)
noncomputable def enumArg (C : SC) (tg iter : Expr) : Option Expr := match tg, iter with
 | .Tuple _ _ _, .Call (.Name y _) [e] [] _ => if decide (y = "enumerate") && decide (slot C y = none) && isG C y && nst e then some e else none
 | _, _ => none
noncomputable def stepIt (ev : Ev) (C : SC) (tg iter : Expr) : En → ResL := match enumArg C tg iter with
 | some e => gEnum (gBoE ev C e)
 | none => stepI ev C iter
theorem it_ok (h : EvOk T ev) (O : XOk X C T E) (e : Expr) : PuI X B (ek (kx X) E) tg e (stepIt ev C tg e) := by
 unfold stepIt
 cases he : enumArg C tg e with
 | none => exact i_ok h O e
 | some a =>
  dsimp only
  unfold enumArg at he
  split at he
  ·rename_i y p a' pos
   split at he
   ·rename_i c
    cases he
    simp only [Bool.and_eq_true, decide_eq_true_eq] at c
    obtain ⟨⟨⟨rfl, _⟩, h3⟩, h4⟩ := c
    exact pi_enum (O.gl h3).1 (O.bl _ (by decide)) (bo_ok h O a) (star_cons h4)
   ·cases he
  ·cases he
theorem ic_ok (h : EvOk T ev) (O : XOk X C T E) (e : Expr) : PuIc X B (ek (kx X) E) tg e (stepIc ev C e) := by
 unfold stepIc
 split
 ·rename_i x _ a _
  by_cases hc : (isRange C x && nst a) = true
  ·rw [if_pos hc]
   rw [Bool.and_eq_true] at hc
   obtain ⟨rfl, g1, g2⟩ := range_of O hc.1
   exact pic_of (pi_rng1 g1 g2 (aL_ok h O (by rw [List.all_cons, hc.2]; rfl)) (star_cons hc.2))
  ·rw [if_neg hc]; exact pic_arW (ar_ok h O _)
 ·rename_i x _ a b _
  by_cases hc : (isRange C x && nst a && nst b) = true
  ·rw [if_pos hc]
   rw [Bool.and_eq_true, Bool.and_eq_true] at hc
   obtain ⟨⟨h1, h2⟩, h3⟩ := hc
   obtain ⟨rfl, g1, g2⟩ := range_of O h1
   exact pic_of (pi_rng2 g1 g2 (aL_ok h O (by rw [List.all_cons, List.all_cons, h2, h3]; rfl)) (by rw [star_cons h2, star_cons h3]; rfl) (star_cons h3))
  ·rw [if_neg hc]; exact pic_arW (ar_ok h O _)
 ·exact pic_arW (ar_ok h O _)
end
noncomputable def stepM (ev : Ev) (C : SC) (o : Expr) (m : Str) (args : List Expr) : En → Res := match args with
 | [a] => if noCall o && nst a then (if m = "index" then gM pyIndex (gAr ev C o) (gAr ev C a) else if m = "count" then gM pyCount (gAr ev C o) (gAr ev C a) else gSt) else gSt
 | [a, b] => if noCall o && nst a && nst b then (if m = "get" then gGet2 (gAr ev C o) (gAr ev C a) (ev C b) else gSt) else gSt
 | _ => gSt
theorem m_ok {T : GT} {ev : Ev} {X : Cx} {C : SC} {B : Hp} {E : XK} (h : EvOk T ev) (O : XOk X C T E) {o : Expr} {m : Str} {ap cp : Pos} {args : List Expr} (hl : (ap.endLine == cp.line) = true) : PuE X B (ek (kx X) E) (.Call (.Attribute o m ap) args [] cp) (stepM ev C o m args) := by
 unfold stepM
 split
 ·rename_i a
  by_cases hc : (noCall o && nst a) = true
  ·rw [if_pos hc]
   rw [Bool.and_eq_true] at hc
   by_cases hm : m = "index"
   ·subst hm; rw [if_pos rfl]; exact pu_index O.units (ar_ok h O o) (ar_ok h O a) hc.1 hc.2 hl
   ·rw [if_neg hm]
    by_cases hm : m = "count"
    ·subst hm; rw [if_pos rfl]; exact pu_count O.units (ar_ok h O o) (ar_ok h O a) hc.1 hc.2 hl
    ·rw [if_neg hm]
     exact pu_st
  ·rw [if_neg hc]; exact pu_st
 ·rename_i a b
  by_cases hc : (noCall o && nst a && nst b) = true
  ·rw [if_pos hc]
   rw [Bool.and_eq_true, Bool.and_eq_true] at hc
   obtain ⟨⟨h1, h2⟩, h3⟩ := hc
   by_cases hm : m = "get"
   ·subst hm
    rw [if_pos rfl]
    have hu : X.A.units + 1 < cLine := by have := O.units; omega
    exact pu_get2 hu (ar_ok h O o) (ar_ok h O a) (h X C B E b O) ⟨noCall_base h1, by rw [star_all (by rw [List.all_cons, List.all_cons, h2, h3]; rfl)]; rfl, hl, star_two h2 h3⟩
   ·rw [if_neg hm]; exact pu_st
  ·rw [if_neg hc]; exact pu_st
 ·exact pu_st
noncomputable def stepComp (ev tv : Ev) (C : SC) (elt : Expr) (gens : List Comprehension) (scope : Scope) : En → Res := match gens with
 | [⟨.Name x _, iter, ifs, 0⟩] => if compOk C scope x && noSet iter then (match slots C (freeN scope.names) with
  | some ix => (match ifs with
   | [] => gComp (stepIc ev C iter) ix (gC (.bl true)) (ev (compSC C scope x) elt)
   | [c] => gComp (stepIc ev C iter) ix (tv (compSC C scope x) c) (ev (compSC C scope x) elt)
   | _ => gSt)
  | none => gSt) else gSt
 | _ => gSt
section
variable {T : GT} {ev tv : Ev} {X : Cx} {C : SC} {B : Hp} {E : XK} {pos p : Pos} {elt : Expr}
theorem comp_ok' (h : EvOk T ev) (ht : TvOk T tv) (O : XOk X C T E) {gens : List Comprehension} {scope : Scope} : OwE X B (ek (kx X) E) (.ListComp elt gens scope pos) (stepComp ev tv C elt gens scope) ∧ IsL (stepComp ev tv C elt gens scope) := by
 have bad : OwE X B (ek (kx X) E) (.ListComp elt gens scope pos) gSt ∧ IsL gSt := ⟨ow_st, fun δ d h => by cases h⟩
 unfold stepComp
 split
 ·rename_i x px iter ifs
  by_cases hc : (compOk C scope x && noSet iter) = true
  ·rw [if_pos hc]
   rw [Bool.and_eq_true] at hc
   obtain ⟨hc, hset⟩ := hc
   cases hx : slots C (freeN scope.names) with
   | none => exact bad
   | some ix =>
    dsimp only
    cases ifs with
    | nil =>
     refine ⟨fun pins s σ H Q I q => ?_, isL_comp⟩
     obtain ⟨cl, O2⟩ := comp_static O I.ok hc hx
     exact ow_comp (E := ek (kx X) E) O2 O.calm ⟨.inl ⟨rfl, rfl⟩, fun Cc s₀ H₀ ex pn => h _ _ B E0 elt (comp_xok O hc Cc s₀ H₀ ex pn)⟩ (ic_ok h O iter) (noSet_iter hset) pins s σ H Q I q
    | cons c r =>
     cases r with
     | nil =>
      refine ⟨fun pins s σ H Q I q => ?_, isL_comp⟩
      obtain ⟨cl, O2⟩ := comp_static O I.ok hc hx
      exact ow_comp (E := ek (kx X) E) O2 O.calm ⟨.inr ⟨c, rfl, fun Cc s₀ H₀ ex pn => ht _ _ B E0 c (comp_xok O hc Cc s₀ H₀ ex pn)⟩, fun Cc s₀ H₀ ex pn => h _ _ B E0 elt (comp_xok O hc Cc s₀ H₀ ex pn)⟩ (ic_ok h O iter) (noSet_iter hset) pins s σ H Q I q
     | cons _ _ => exact bad
  ·rw [if_neg hc]; exact bad
 ·exact bad
end
noncomputable def cutD (xs : List D) (lo hi : Option Int) : List D := (xs.drop (HT.sIx xs.length 0 lo)).take (HT.sIx xs.length xs.length hi - HT.sIx xs.length 0 lo)
noncomputable def pySlice (d : D) (lo hi : Option Int) : Option D := match d with
 | .lst xs => some (.lst (cutD xs lo hi))
 | .tup xs => if HT.sIx xs.length 0 lo = 0 ∧ HT.sIx xs.length xs.length hi = xs.length then none else some (.tup (cutD xs lo hi))
 | _ => none
noncomputable def gPart (ev : Ev) (C : SC) (o : Option Expr) (δ : En) : Option (Option Int) := match o with
 | none => some none
 | some e => (match ev C e δ with
  | .ok (.int i) => some (some i)
  | _ => none)
noncomputable def gPt (o : Option (En → Res)) (δ : En) : Option (Option Int) := match o with
 | none => some none
 | some g => (match g δ with
  | .ok (.int i) => some (some i)
  | _ => none)
noncomputable def gSl (g : En → Res) (lo hi : Option (En → Res)) : En → Res := fun δ => (g δ).bind fun d => match gPt lo δ, gPt hi δ with
 | some l, some h => Res.of (pySlice d l h)
 | _, _ => .st
noncomputable def gSlice (ev : Ev) (C : SC) (a : Expr) (lo hi : Option Expr) : En → Res := gSl (gAr ev C a) (lo.map (ev C)) (hi.map (ev C))
theorem gPt_eq {ev : Ev} {C : SC} {o : Option Expr} {δ : En} : gPt (o.map (ev C)) δ = gPart ev C o δ := by cases o <;> rfl
theorem DenL.cut {K : KA} {G : Hp} {ds : List D} {vs : List V} (dl : DenL K G ds vs) (lo hi : Option Int) : DenL K G (cutD ds lo hi) (cutV vs lo hi) := by
 unfold cutD cutV
 rw [dl.length]
 exact (dl.drop _).take _
section
variable {T : GT} {ev tv : Ev} {X : Cx} {C : SC} {B : Hp} {E : XK} {pos p : Pos} {a : Expr}
theorem part_ok (h : EvOk T ev) (O : XOk X C T E) {o : Option Expr} : ∃ t : TO, PO X o t ∧ ∀ G δ σ H l (Q : Option Int → Hp → Prop), EnvR (kx X) B G H σ δ → gPart ev C o δ = some l → (∀ G' H', Ext G H G' H' → Q l H') → t σ H Q := by
 cases o with
 | none =>
  refine ⟨_, po_none, fun G δ σ H l Q R e q => ?_⟩
  cases e
  exact q G H (Ext.refl R.gh)
 | some e =>
  refine ⟨_, po_some (h X C B E0 e O.none), fun G δ σ H l Q R ee q => ?_⟩
  unfold gPart at ee
  dsimp only at ee
  cases eg : ev C e δ with
  | ok d =>
   rw [eg] at ee
   cases d with
   | int i =>
    cases ee
    refine ⟨G, δ, R, ?_⟩
    rw [eg]
    exact fun v G' H' x dn => ⟨i, dn, q G' H' x⟩
   | _ => cases ee
  | er c => rw [eg] at ee; cases ee
  | st => rw [eg] at ee; cases ee
theorem slice_ok (h : EvOk T ev) (O : XOk X C T E) {lo hi : Option Expr} {p2 : Pos} : PuE X B (ek (kx X) E) (.Subscript a (.Slice lo hi none p2) pos) (gSlice ev C a lo hi) := by
 obtain ⟨tl, hl, ql⟩ := part_ok (B := B) h O (o := lo)
 obtain ⟨th, hh, qh⟩ := part_ok (B := B) h O (o := hi)
 refine PE.imp (pe_slice (SlR.or sl_list sl_tup) (ar_ok (B := B) (E := E) h O a) hl hh) fun σ H Q ⟨G, δ, R, q⟩ => ⟨G, δ, R, (ResP.bind q).mono fun d _ q v G1 H1 e1 av => ?_⟩
 rw [gPt_eq, gPt_eq] at q
 cases el : gPart ev C lo δ with
 | none => rw [el] at q; exact q.elim
 | some l =>
  cases eh : gPart ev C hi δ with
  | none => rw [el, eh] at q; exact q.elim
  | some hh =>
   rw [el, eh] at q
   obtain ⟨d', ed, q⟩ := ResP.of q
   refine ql G1 δ σ H1 l _ (R.ext e1) el fun G2 H2 e2 => qh G2 δ σ H2 hh _ (R.ext (e1.trans e2)) eh fun G3 H3 e3 => ?_
   have e13 := (e1.trans e2).trans e3
   have av' := (av.ext e2).ext e3
   unfold pySlice at ed
   split at ed
   ·rename_i xs
    cases ed
    obtain ⟨l', vs, rfl, sq, dl⟩ := av'.lst e3.gh
    exact .inl ⟨l', vs, rfl, sq, fun p hp => q _ (upd G3 p (.lst (cutV vs l hh))) _ (e13.trans (Ext.new e3.gh _ hp)) (den_newL e3.gh hp (dl.cut l hh))⟩
   ·rename_i xs
    split at ed
    ·cases ed
    ·rename_i hw
     cases ed
     obtain ⟨l', vs, rfl, sq, dl⟩ := av'.tup e3.gh
     refine .inr (⟨l', vs, rfl, sq, by rw [← dl.length]; exact hw, fun p hp => q _ (upd G3 p (.tup (cutV vs l hh))) _ (e13.trans (Ext.new e3.gh _ hp)) (den_newT e3.gh hp (dl.cut l hh))⟩)
   ·cases ed
end
noncomputable def isMul : Operator → Bool
 | .Mult => true
 | _ => false
noncomputable def stepBin (ev : Ev) (C : SC) (a : Expr) (op : Operator) (b : Expr) : En → Res := match a with
 | .List es _ => if isMul op && es.all nst then gRep (gLst (gData ev C es)) (gAr ev C b) else (match binP op with
  | some f => g2 f (gAr ev C a) (gAr ev C b)
  | none => gSt)
 | a => (match binP op with
  | some f => g2 f (gAr ev C a) (gAr ev C b)
  | none => gSt)
theorem bin_ok {T : GT} {ev : Ev} {X : Cx} {C : SC} {B : Hp} {E : XK} {pos : Pos} (h : EvOk T ev) (O : XOk X C T E) {a b : Expr} {op : Operator} : PuE X B (ek (kx X) E) (.BinOp a op b pos) (stepBin ev C a op b) := by
 have gen : PuE X B (ek (kx X) E) (.BinOp a op b pos) (match binP op with
  | some f => g2 f (gAr ev C a) (gAr ev C b)
  | none => gSt) := by
  cases hf : binP op with
  | none => exact pu_st
  | some f => exact pu_bin hf (ar_ok h O a) (ar_ok h O b)
 unfold stepBin
 split
 ·rename_i es _
  by_cases hc : (isMul op && es.all nst) = true
  ·rw [if_pos hc]
   rw [Bool.and_eq_true] at hc
   have : op = .Mult := by cases op <;> first | rfl | (cases hc.1)
   subst this
   exact ow_pu (ow_rep (ow_lst allF_map (data_ok h O hc.2)) isL_lst (ar_ok h O b)) isL_rep
  ·rw [if_neg hc]; exact gen
 ·exact gen
noncomputable def stepE (T : GT) (ev tv : Ev) (C : SC) (e : Expr) : En → Res := match e with
 | .Constant c _ _ => (match c with
  | .none => gC .non
  | .bool b => gC (.bl b)
  | .int i => gC (.int i)
  | .str x => gC (.str x)
  | _ => gSt)
 | .Name x _ => stepName T C x
 | .BinOp a op b _ => stepBin ev C a op b
 | .UnaryOp op a _ => (match op with
  | .Not => gNot (ev C a)
  | .USub => g1 pyNeg (gAr ev C a)
  | _ => gSt)
 | .BoolOp op vs _ => (match op with
  | .And => gAndL (ev C) vs
  | .Or => gOrL (ev C) vs)
 | .IfExp c a b _ => gIf (tv C c) (ev C a) (ev C b)
 | .Compare l ops rs _ => stepCmp ev C l ops rs
 | .Tuple es _ _ => if es.all nst then gTup (gData ev C es) else gSt
 | .List es _ => if es.all nst then gLst (gData ev C es) else gSt
 | .Subscript a i _ => (match i with
  | .Slice lo hi none _ => gSlice ev C a lo hi
  | i => if plainI i then g2 pyIx (gAr ev C a) (gAr ev C i) else gSt)
 | .ListComp elt gens scope _ => stepComp ev tv C elt gens scope
 | .Lambda params body scope pos => gLam C params body scope pos
 | .Call f args kws cp => (match f, kws with
  | .Name x _, [] => stepCall T ev C x args
  | .Attribute o m ap, [] => if ap.endLine == cp.line then stepM ev C o m args else gSt
  | _, _ => gSt)
 | _ => gSt
noncomputable def gTru (g : En → Res) : En → Res := g1 (fun d => bD (truD d)) g
noncomputable def stepT (T : GT) (ev tv : Ev) (C : SC) (e : Expr) : En → Res := match e with
 | .UnaryOp op a _ => (match op with
  | .Not => gNot (tv C a)
  | _ => g1 (fun d => bD (truD d)) (gAr ev C e))
 | .BoolOp op vs _ => (match op with
  | .And => gAndL (tv C) vs
  | .Or => gOrL (tv C) vs)
 | .Compare l ops rs _ => stepCmp ev C l ops rs
 | e => if plainT e then g1 (fun d => bD (truD d)) (gAr ev C e) else gSt
section
variable {T : GT} {ev tv : Ev}
theorem stepE_ok (h : EvOk T ev) (ht : TvOk T tv) : EvOk T (stepE T ev tv) := by
 intro X C B E e O
 cases e with
 | Constant c k p =>
  cases c with
  | none => exact pu_non
  | bool b => exact pu_bl
  | int i => exact pu_int
  | str x => exact pu_str
  | _ => exact pu_st
 | Name x p => exact name_ok O
 | BinOp a op b p =>
  exact bin_ok h O
 | UnaryOp op a p =>
  cases op with
  | Not => exact pu_not (h X C B E a O)
  | USub => exact pu_neg (ar_ok h O a)
  | _ => exact pu_st
 | BoolOp op vs p =>
  cases op with
  | And => exact andL_ok fun e => h X C B E e O
  | Or => exact orL_ok fun e => h X C B E e O
 | IfExp c a b p => exact pu_if (ht X C B E c O) (h X C B E a O) (h X C B E b O)
 | Compare l ops rs p => exact (cmp_ok h O).1
 | Tuple es k p =>
  show PuE X B _ _ (if es.all nst then gTup (gData ev C es) else gSt)
  by_cases hn : es.all nst = true
  ·rw [if_pos hn]; exact pu_tup allF_map (data_ok h O hn)
  ·rw [if_neg hn]; exact pu_st
 | List es p =>
  show PuE X B _ _ (if es.all nst then gLst (gData ev C es) else gSt)
  by_cases hn : es.all nst = true
  ·rw [if_pos hn]; exact pu_lst allF_map (data_ok h O hn)
  ·rw [if_neg hn]; exact pu_st
 | Subscript a i p =>
  show PuE X B _ _ (match i with
   | .Slice lo hi none _ => gSlice ev C a lo hi
   | i => if plainI i then g2 pyIx (gAr ev C a) (gAr ev C i) else gSt)
  split
  ·exact slice_ok h O
  ·skip
   by_cases hp : plainI i = true
   ·rw [if_pos hp]; exact pu_ix (ar_ok h O a) (ar_ok h O i) (plainI_ix hp)
   ·rw [if_neg hp]; exact pu_st
 | Lambda params body scope p => exact pu_lam O
 | ListComp elt gens scope p => exact ow_pu (comp_ok' h ht O).1 (comp_ok' (X := X) (B := B) (E := E) (pos := p) h ht O).2
 | Call f args kws p =>
  show PuE X B _ _ (match f, kws with
   | .Name x _, [] => stepCall T ev C x args
   | .Attribute o m ap, [] => if ap.endLine == p.line then stepM ev C o m args else gSt
   | _, _ => gSt)
  split
  ·exact call_ok h O
  ·rename_i o m ap
   by_cases hl : (ap.endLine == p.line) = true
   ·rw [if_pos hl]; exact m_ok h O hl
   ·rw [if_neg hl]; exact pu_st
  ·exact pu_st
 | _ => exact pu_st
theorem stepT_ok (h : EvOk T ev) (ht : TvOk T tv) : TvOk T (stepT T ev tv) := by
 intro X C B E e O
 have pl : ∀ {e : Expr}, PuT X B (ek (kx X) E) e (if plainT e then g1 (fun d => bD (truD d)) (gAr ev C e) else gSt) := fun {e} => by
  by_cases hp : plainT e = true
  ·rw [if_pos hp]; exact pt_tru (ar_ok h O e) (plainT_eq hp)
  ·rw [if_neg hp]; exact pt_st
 cases e with
 | UnaryOp op a p =>
  cases op with
  | Not => exact pt_not' (ht X C B E a O)
  | _ => exact pt_tru (ar_ok h O _) (plainT_eq rfl)
 | BoolOp op vs p =>
  cases op with
  | And => exact pt_w (andT_ok fun e => ht X C B E e O)
  | Or => exact pt_w (orT_ok fun e => ht X C B E e O)
 | Compare l ops rs p => exact (cmp_ok h O).2
 | _ => exact pl
end
noncomputable def gP (T : GT) : Nat → Bool → Ev
 | 0, _ => fun _ _ => gSt
 | n + 1, false => stepE T (gP T n false) (gP T n true)
 | n + 1, true => stepT T (gP T n false) (gP T n true)
theorem gP_ok (T : GT) : ∀ n, EvOk T (gP T n false) ∧ TvOk T (gP T n true)
 | 0 => ⟨fun _ _ _ _ _ _ => pu_st, fun _ _ _ _ _ _ => pt_st⟩
 | n + 1 => ⟨stepE_ok (gP_ok T n).1 (gP_ok T n).2, stepT_ok (gP_ok T n).1 (gP_ok T n).2⟩
noncomputable def frz (i : Nat) (δ : En) : En := match δ[i]? with
 | some (.ow ds) => δ.set i (.pu (.lst ds))
 | some (.od t kvs) => δ.set i (.pu (.dct t kvs))
 | _ => δ
noncomputable def frzs (is : List Nat) (δ : En) : En := is.foldl (fun δ i => frz i δ) δ
section
variable {K : KA} {B G0 G H : Hp} {σ : St} {δ : En}
theorem SlOk.gmono {G' : Hp} (e : Same G G') {s : Sl} {o : Option V} (h : SlOk K B G H s o) : SlOk K B G' H s o := by
 cases s with
 | no => trivial
 | pu d => obtain ⟨v, h1, h2⟩ := h; exact ⟨v, h1, h2.mono e⟩
 | bo d => obtain ⟨v, h1, h2⟩ := h; exact ⟨v, h1, argG e h2⟩
 | ow ds => obtain ⟨a, vs, h1, h2, h3⟩ := h; exact ⟨a, vs, h1, h2, h3.mono e⟩
 | od t kvs =>
  cases t with
  | false => obtain ⟨a, vs, h1, h2, h3⟩ := h; exact ⟨a, vs, h1, h2, h3.mono e⟩
  | true => obtain ⟨a, vs, h1, h2, h3⟩ := h; exact ⟨a, vs, h1, h2, h3.mono e⟩
theorem Ext.frzO {a : Addr} {o : HO} (e : Ext G0 B G H) (bn : B a = none) (gn : G a = none) (h : H a = some o) : Ext G0 B (upd G a o) H := by
 refine ⟨e.gg.trans (same_new gn _), e.hh, fun b u q => ?_, fun b u q g z => ?_⟩
 ·by_cases z : b = a
  ·subst z; rw [upd_same] at q; rw [h]; exact q
  ·rw [upd_ne z] at q; exact e.gh b u q
 ·rw [upd_ne (ne_of_none q bn)]; exact e.fr b u q g z
theorem EnvR.frzAt (R : EnvR K B G H σ δ) {i : Nat} {s : Sl} {a : Addr} {o : HO} {d : D} (hi : δ[i]? = some s) (ho : s.own = true) (hs : σ[i]? = some (some (V.ref a))) (ha : H a = some o) (hd : Den K (upd G a o) d (.ref a)) :
  EnvR K B (upd G a o) H σ (δ.set i (.pu d)) := by
 obtain ⟨gn, bn⟩ := R.own i s a hi ho hs
 have hl : i < δ.length := (List.getElem?_eq_some_iff.mp hi).1
 have sm : Same G (upd G a o) := same_new gn _
 refine ⟨R.bh, fun b u q => ?_, by rw [List.length_set]; exact R.len, fun j t q => ?_, fun j t b q1 q2 q3 => ?_, fun j k t u b q1 q2 q3 q4 q5 q6 => ?_, R.gb⟩
 ·by_cases z : b = a
  ·subst z; rw [upd_same] at q; rw [ha]; exact q
  ·rw [upd_ne z] at q; exact R.gh b u q
 ·by_cases z : i = j
  ·subst z
   rw [List.getElem?_set_self hl] at q
   cases q
   exact ⟨_, hs, _, rfl, hd⟩
  ·rw [List.getElem?_set_ne z] at q
   obtain ⟨o', z1, z2⟩ := R.sl j t q
   exact ⟨o', z1, z2.gmono sm⟩
 ·by_cases z : i = j
  ·subst z
   rw [List.getElem?_set_self hl] at q1
   cases q1
   cases q2
  ·rw [List.getElem?_set_ne z] at q1
   obtain ⟨g, b'⟩ := R.own j t b q1 q2 q3
   refine ⟨?_, b'⟩
   have nb : b ≠ a := by
    rintro rfl
    exact z (R.dis i j _ _ b hi q1 ho q2 hs q3)
   rw [upd_ne nb]
   exact g
 ·have hj : i ≠ j := by
   rintro rfl
   rw [List.getElem?_set_self hl] at q1
   cases q1
   cases q3
  have hk : i ≠ k := by
   rintro rfl
   rw [List.getElem?_set_self hl] at q2
   cases q2
   cases q4
  rw [List.getElem?_set_ne hj] at q1
  rw [List.getElem?_set_ne hk] at q2
  exact R.dis j k t u b q1 q2 q3 q4 q5 q6
theorem EnvR.frz (R : EnvR K B G H σ δ) (e : Ext G0 B G H) (i : Nat) : ∃ G', Same G G' ∧ EnvR K B G' H σ (frz i δ) ∧ Ext G0 B G' H := by
 unfold Pu.frz
 cases ed : δ[i]? with
 | none => exact ⟨G, Same.refl G, R, e⟩
 | some s =>
  cases s with
  | ow ds =>
   obtain ⟨a, vs, q1, q2, q3, gn, bn⟩ := R.owAt ed
   exact ⟨_, same_new gn _, R.frzAt ed rfl q1 q2 ⟨a, vs, rfl, SqL.of upd_same, q3.mono (same_new gn _)⟩, e.frzO bn gn q2⟩
  | od t kvs =>
   obtain ⟨o, q1, q2⟩ := R.sl i _ ed
   cases t with
   | false =>
    obtain ⟨a, es, rfl, q3, q4⟩ := q2
    obtain ⟨gn, bn⟩ := R.own i _ a ed rfl q1
    exact ⟨_, same_new gn _, R.frzAt ed rfl q1 q3 ⟨a, rfl, .inl ⟨rfl, es, upd_same, q4.mono (same_new gn _)⟩⟩, e.frzO bn gn q3⟩
   | true =>
    obtain ⟨a, es, rfl, q3, q4⟩ := q2
    obtain ⟨gn, bn⟩ := R.own i _ a ed rfl q1
    exact ⟨_, same_new gn _, R.frzAt ed rfl q1 q3 ⟨a, rfl, .inr ⟨rfl, es, upd_same, q4.mono (same_new gn _)⟩⟩, e.frzO bn gn q3⟩
  | no => exact ⟨G, Same.refl G, R, e⟩
  | pu _ => exact ⟨G, Same.refl G, R, e⟩
  | bo _ => exact ⟨G, Same.refl G, R, e⟩
theorem EnvR.frzs : ∀ (is : List Nat) {G : Hp} {δ : En}, EnvR K B G H σ δ → Ext G0 B G H → ∃ G', Same G G' ∧ EnvR K B G' H σ (frzs is δ) ∧ Ext G0 B G' H
 | [], G, δ, R, e => ⟨G, Same.refl G, R, e⟩
 | i :: is, G, δ, R, e => by
  obtain ⟨G1, s1, R1, e1⟩ := R.frz e i
  obtain ⟨G2, s2, R2, e2⟩ := EnvR.frzs is R1 e1
  exact ⟨G2, s1.trans s2, R2, e2⟩
end
section
variable {X : Cx} {G0 B : Hp} {E : EK} {st : Stmt} {F : En → Out}
theorem s_frz (is : List Nat) (h : PuS X G0 B E st F) : PuS X G0 B E st (fun δ => F (frzs is δ)) := PS.imp h fun D σ H ⟨G, δ, R, e, q⟩ => by
 obtain ⟨G', s, R', e'⟩ := EnvR.frzs is R e
 exact ⟨G', _, R', e', OutP.same s q⟩
end
section
variable {X : Cx} {G0 B : Hp} {E : EK} {scope : Scope} {cl : List (Str × Addr)} {x y : Str} {M : List Str} {ix : List Nat} {elt iter : Expr} {ifs : List Expr} {px pos pos' lpos : Pos} {r : En → ResL} {t g : En → Res} {i : Nat}
theorem s_setC (O : CompOk X scope cl x M ix) (hc : X.calm = true) (Bk : BlockOk X B E scope cl x M px elt ifs t g) (hi : PuIc X B E (.Name x px) iter r) (hN : X.N.Nodup) (hy : X.N[i]? = some y) (hl : L2.Loc X.env.scope y) (hf : X.fn y = true)
  (hs : ∀ x, foldedSetIterable iter X.env x = pure x) (hsw : swapsWith (.ListComp elt [⟨.Name x px, iter, ifs, 0⟩] scope lpos) (some (.Name y pos')) pos.line X.env = pure true) :
  PuS X G0 B E (.Assign [.Name y pos'] (.ListComp elt [⟨.Name x px, iter, ifs, 0⟩] scope lpos) pos) (sSetO i (gComp r ix t g)) := by
 intro pins s σ H D I ⟨G, δ, R, ex, q⟩
 have q := thenP ex q
 rw [exec_Assign_Name_used _ _ _ _ hsw, arm_evalThenUse_ListComp]
 refine wpAny_bind (wpAny_standAt ?_)
 refine wpAny_bind (wpAny_bind ?_)
 refine wpAny_comprehension_free (use := some (assign (.Name y pos') X.env)) (Q := fun _ s' => wpAny (model X.prog X.w) X.A (pure PUnit.unit : Sem PUnit) (fun _ s' => wpAny (model X.prog X.w) X.A (pure Flow.next : Sem Flow) (SP X pins D) X.xe s') X.xe s') rfl hs (closureFor_eq O.clos) O.kind O.names ?_
 refine wpAny_mono (hi pins s σ H (fun J H1 => ∃ G1 ds ys, Ext G H G1 H1 ∧ ItOk (kx X) J ds (fun G2 H2 => Ext G1 H1 G2 H2) ∧ ds.length ≤ sizeLine ∧ compL (turnD ix t g δ) ds = some ys ∧ OutP (kx X) G0 B E G (.nx (δ.set i (.ow ys))) D) I
  ⟨G, δ, R, (compP q).mono fun ds _ ⟨hl, ys, ey, q⟩ J G1 H1 e1 ok => ⟨G1, ds, ys, e1, ok, hl, ey, q⟩⟩) (fun v s1 h1 => wpAny_mono h1 (fun itv s2 h2 => ?_) fun _ _ e => e) fun _ _ e => e
 obtain ⟨it, fp, tn, J, H1, rfl, I1, T, st, hfp, G1, ds, ys, e1, ok, hl', ey, q⟩ := h2
 refine comp_run (RR := fun acc C => compPost (model X.prog X.w) X.A X.xe (some (assign (.Name y pos') X.env)) (fun _ s' => wpAny (model X.prog X.w) X.A (pure PUnit.unit : Sem PUnit) (fun _ s' => wpAny (model X.prog X.w) X.A (pure Flow.next : Sem Flow) (SP X pins D) X.xe s') X.xe s') acc C) O hc Bk I1 T st hfp (R.ext e1) ok hl' ey ?_
 intro s3 H3 G3 vs m I3 hm hC e3 g3 h3 dl
 have hsz : s2.heap.objs.size ≤ s2.heap.objs.size + 1 := Nat.le_succ _
 have ltL : X.env.locals < s2.heap.objs.size := I1.lt
 have ltc : ∀ y c, X.env.cells.lookup y = some c → c < s2.heap.objs.size := fun y c e => by
  obtain ⟨v', q'⟩ := I1.cell y c e
  exact q'.lt
 refine wpAny_assign_Name (store_ok2 (v := .ref s2.heap.objs.size) I3 hN hy hl rfl (fun s4 I4 ⟨a, hsb, ha⟩ => ?_) (.inl hf))
 have la : a < s2.heap.objs.size := by
  rcases ha with z | z
  ·rw [z]; exact ltL
  ·exact ltc _ _ z
 have na : s2.heap.objs.size + 1 ≠ a := (ne_succ la).symm
 refine ⟨m, hm.sameBut hsb na, fun h' hs' => wpAny_pure (wpAny_pure ⟨σ.set i (some (V.ref s2.heap.objs.size)), H3, ?_, ?_⟩)⟩
 ·refine I4.turned (t' := s4.toks) (it := s2.heap.objs.size + 1) (fun b o hb e => hs'.extBut b o hb e) hC ?_ (.inr (Nat.le_trans I1.sz hsz)) ?_ ?_
  ·exact (ne_succ ltL).symm
  ·intro z c hc'
   exact ne_succ (ltc z c hc')
  ·intro p hp z
   exact absurd (Nat.lt_of_lt_of_le (Heap.lt_size (I1.pin p hp).1) (Nat.le_trans hsz (Nat.le_of_eq z.symm))) (Nat.lt_irrefl _)
 ·exact q _ G3 H3 (e1.trans e3).gg (R.setO (e1.trans e3) (free_of e1.hh (I1.hok.fresh (Nat.le_refl _))) g3 h3 dl) (ex.trans (e1.trans e3))
end
noncomputable def whileN (c : En → Res) (F : En → Out) : Nat → En → Out
 | 0, _ => .st
 | n + 1, δ => (c δ).then fun d => match d with
  | .bl true => (match F δ with
   | .nx δ' => whileN c F n δ'
   | .ct δ' => whileN c F n δ'
   | .bk δ' => .nx δ'
   | o => o)
  | .bl false => .nx δ
  | _ => .st
noncomputable def wFuel : Nat := 1000000
noncomputable def sWh (c : En → Res) (F : En → Out) : En → Out := whileN c F wFuel
section
variable {X : Cx} {G0 B : Hp} {E : EK} {c : Expr} {ss : List Stmt} {g : En → Res} {F : En → Out} {pos : Pos}
theorem s_while (hp : PassesOwn (model X.prog X.w) X.A X.env X.xe) (hc : PuT X B E c g) (hb : PuSs X G0 B E ss F) : PuS X G0 B E (.While c ss [] pos) (sWh g F) :=
 PS.imp (ps_while hp hc hb) fun D σ H ⟨G, δ, R, e, q⟩ => by
  refine ⟨fun m σ H => ∃ G δ, EnvR (kx X) B G H σ δ ∧ Ext G0 B G H ∧ OutP (kx X) G0 B E G (whileN g F m δ) D, ⟨wFuel, G, δ, R, e, q⟩, fun m σ H ⟨G, δ, R, e, q⟩ => ⟨G, δ, R, ?_⟩⟩
  cases m with
  | zero => exact q.elim
  | succ m =>
   refine (thenP e q).mono fun d _ q => ?_
   cases d with
   | bl b =>
    refine ⟨b, rfl, fun G1 H1 e1 => ?_⟩
    cases b with
    | false =>
     rw [if_neg Bool.false_ne_true]
     exact q σ G1 H1 e1.gg (R.ext e1) (e.trans e1)
    | true =>
     rw [if_pos rfl]
     refine ⟨fun σ' H' => ∃ m', m' < m + 1 ∧ ∃ G δ, EnvR (kx X) B G H' σ' δ ∧ Ext G0 B G H' ∧ OutP (kx X) G0 B E G (whileN g F m' δ) D, fun σ' H' z => z, G1, δ, R.ext e1, e.trans e1, ?_⟩
     dsimp only at q
     cases ef : F δ with
     | nx δ' =>
      rw [ef] at q
      exact fun σ' G' H' s R' e' => ⟨m, Nat.lt_succ_self m, G', δ', R', e', OutP.same (e1.gg.trans s) q⟩
     | ct δ' =>
      rw [ef] at q
      exact fun σ' G' H' s R' e' => ⟨m, Nat.lt_succ_self m, G', δ', R', e', OutP.same (e1.gg.trans s) q⟩
     | bk δ' =>
      rw [ef] at q
      exact fun σ' G' H' s R' e' => q σ' G' H' (e1.gg.trans s) R' e'
     | rt d => rw [ef] at q; exact q
     | er c => rw [ef] at q; exact q
     | st => rw [ef] at q; exact q
   | _ => exact q.elim
end
structure SOk (X : Cx) (C : SC) (T : GT) (E : XK) : Prop extends XOk X C T E where
 fn : ∀ x, x ∉ lamCaps → X.fn x = true
 pass : PassesOwn (model X.prog X.w) X.A X.env X.xe
 stk : X.stack = X.env :: X.outer
 frm : X.env.frame = some X.env.locals
 ex0 : X.ex = []
noncomputable def lslot (C : SC) (x : Str) : Option Nat := if isLoc C.sc x && okName x && decide (x ∉ lamCaps) then ixOf x C.N 0 else none
theorem lslot_ok {C : SC} {x : Str} {i : Nat} (h : lslot C x = some i) : C.N[i]? = some x ∧ isLoc C.sc x = true ∧ x ∉ lamCaps := by
 unfold lslot at h
 by_cases e : (isLoc C.sc x && okName x && decide (x ∉ lamCaps)) = true
 ·rw [if_pos e] at h
  rw [Bool.and_eq_true, Bool.and_eq_true] at e
  obtain ⟨_, q⟩ := ixOf_ok h
  exact ⟨by simpa using q, e.1.1, of_decide_eq_true e.2⟩
 ·rw [if_neg e] at h; cases h
section
variable {X : Cx} {C : SC} {T : GT} {x : Str} {i : Nat} {pos : Pos}
theorem SOk.tg (O : SOk X C T E) (h : lslot C x = some i) : PG X (.Name x pos) (gName i) := by
 obtain ⟨h1, h2, h3⟩ := lslot_ok h
 exact pg_name (by rw [O.n]; exact O.nd) (by rw [O.n]; exact h1) (by rw [O.s]; exact isLoc_ok h2) (.inl (O.fn x h3))
theorem SOk.st (O : SOk X C T E) (h : lslot C x = some i) {e : Expr} {te : TE} {pos' : Pos} (he : PE X e te) (hs : swapsWith e (some (.Name x pos')) pos.line X.env = pure false) : PS X (.Assign [.Name x pos'] e pos) (tAsg te (gName i)) := by
 obtain ⟨h1, h2, h3⟩ := lslot_ok h
 exact ps_set (by rw [O.n]; exact O.nd) (by rw [O.n]; exact h1) (by rw [O.s]; exact isLoc_ok h2) he hs (.inl (O.fn x h3))
end
noncomputable def setAll : List Nat → List D → En → Option En
 | [], [], δ => some δ
 | i :: is, d :: ds, δ => setAll is ds (δ.set i (.pu d))
 | _, _, _ => none
noncomputable def tgNames (C : SC) : List Expr → Option (List Nat)
 | [] => some []
 | e :: r => match e with
  | .Name x _ => (match lslot C x, tgNames C r with
   | some i, some is => some (i :: is)
   | _, _ => none)
  | _ => none
noncomputable def gtTup (is : List Nat) : D → En → Option En := fun d δ => match d with
 | .tup ds => setAll is ds δ
 | _ => none
theorem setAll_len : ∀ {is : List Nat} {ds : List D} {δ δ' : En}, setAll is ds δ = some δ' → ds.length = is.length
 | [], [], _, _, _ => rfl
 | [], _ :: _, _, _, h => by cases h
 | _ :: _, [], _, _, h => by cases h
 | i :: is, d :: ds, δ, δ', h => by
  have := setAll_len (is := is) (ds := ds) h
  rw [List.length_cons, List.length_cons, this]
section
variable {X : Cx} {C : SC} {T : GT} {B : Hp}
theorem names_ok (O : SOk X C T E) : ∀ {es : List Expr} {is : List Nat}, tgNames C es = some is → (∃ t : TGs, PGs X es t ∧ ∀ {G H : Hp} {σ : St} {δ δ' : En} {ds : List D} {vs : List V} {Q : St → Hp → Prop}, EnvR (kx X) B G H σ δ → DenL (kx X) G ds vs → setAll is ds δ = some δ' →
  (∀ σ', EnvR (kx X) B G H σ' δ' → Q σ' H) → t vs σ H Q) ∧ (assignEach es X.env).length = is.length ∧ (assignEach es X.env).findIdx? (·.1) = none
 | [], is, h => by
  cases h
  refine ⟨⟨_, pgs_nil, fun {G H σ δ δ' ds vs Q} R dl e q => ?_⟩, rfl, rfl⟩
  cases ds with
  | nil =>
   cases e
   exact ⟨dl, q σ R⟩
  | cons _ _ => cases e
 | e :: r, is, h => by
  unfold tgNames at h
  cases e with
  | Name x p =>
   dsimp only at h
   cases e1 : lslot C x with
   | none => rw [e1] at h; cases h
   | some i =>
    cases e2 : tgNames C r with
    | none => rw [e1, e2] at h; cases h
    | some is' =>
     rw [e1, e2] at h
     cases h
     obtain ⟨⟨t, p1, p2⟩, p3, p4⟩ := names_ok O e2
     refine ⟨⟨_, pgs_cons (O.tg e1) p1 rfl, fun {G H σ δ δ' ds vs Q} R dl e q => ?_⟩, ?_, ?_⟩
     ·cases ds with
      | nil => cases e
      | cons d ds =>
       obtain ⟨v, vr, rfl, dv, dr⟩ := dl
       exact ⟨v, vr, rfl, p2 (R.set dv) dr e q⟩
     ·show (assignEach r X.env).length + 1 = is'.length + 1
      rw [p3]
     ·show List.findIdx? _ ((false, _) :: assignEach r X.env) = none
      rw [List.findIdx?_cons]
      simp [p4]
  | _ => cases h
theorem tg_tup (O : SOk X C T E) {es : List Expr} {is : List Nat} {k : Nat} {p : Pos} (h : tgNames C es = some is) : ∃ gl, TgOk X B (.Tuple es k p) gl (gtTup is) := by
 obtain ⟨⟨t, p1, p2⟩, p3, p4⟩ := names_ok (B := B) O h
 refine ⟨_, pg_tup O.calm p1 p3 p4, fun {G H σ δ δ' d v Q} R dn e q => ?_⟩
 cases d with
 | tup ds =>
  obtain ⟨a, vs, rfl, sq, dl⟩ := dn
  have hl := setAll_len (show setAll is ds δ = some δ' from e)
  exact ⟨a, vs, rfl, SqT.of (R.gh _ _ sq), by rw [← dl.length, hl], p2 R dl e q⟩
 | _ => cases e
end
noncomputable def tgOf (C : SC) (tg : Expr) : Option (D → En → Option En) := match tg with
 | .Name x _ => (lslot C x).map gtName
 | .Tuple es _ _ => (tgNames C es).map gtTup
 | _ => none
theorem tgOf_ok {X : Cx} {C : SC} {T : GT} {B : Hp} (O : SOk X C T E) {tg : Expr} {f : D → En → Option En} (h : tgOf C tg = some f) : ∃ gl, TgOk X B tg gl f := by
 unfold tgOf at h
 split at h
 ·rename_i x p
  cases e : lslot C x with
  | none => rw [e] at h; cases h
  | some i => rw [e] at h; cases h; exact ⟨_, tg_name (O.tg e)⟩
 ·rename_i es k p
  cases e : tgNames C es with
  | none => rw [e] at h; cases h
  | some is => rw [e] at h; cases h; exact tg_tup O e
 ·cases h
section
variable {X : Cx} {G0 B : Hp} {E : EK} {e a k : Expr} {g h : En → Res} {pos : Pos} {st : Stmt} {F F' : En → Out}
noncomputable def sDrop (g : En → Res) : En → Out := fun δ => (g δ).then fun _ => .nx δ
theorem s_drop (ha : PuE X B E e g) (hs : swapsWith e none pos.line X.env = pure false) : PuS X G0 B E (.Expr e pos) (sDrop g) := PS.imp (ps_expr ha hs) fun D σ H ⟨G, δ, R, ex, q⟩ =>
 ⟨G, δ, R, (thenP ex q).mono fun d _ q v G' H' e1 dn => q σ G' H' e1.gg (R.ext e1) (ex.trans e1)⟩
noncomputable def sRetN : En → Out := fun _ => .rt .non
theorem s_retN : PuS X G0 B E (.Return none pos) sRetN := PS.imp ps_retN fun D σ H ⟨G, δ, R, ex, q⟩ => q .non G H ex rfl
theorem s_cases (c : En → Bool) (h1 : PuS X G0 B E st F) (h2 : PuS X G0 B E st F') : PuS X G0 B E st (fun δ => if c δ then F δ else F' δ) := fun pins s σ H D I ⟨G, δ, R, ex, q⟩ => by
 by_cases hc : c δ = true
 ·simp only [if_pos hc] at q; exact h1 pins s σ H D I ⟨G, δ, R, ex, q⟩
 ·simp only [if_neg hc] at q; exact h2 pins s σ H D I ⟨G, δ, R, ex, q⟩
theorem asg_sub {o i : Expr} {p : Pos} {env : Env} (h : plainI i = true) : ∀ v, assign (.Subscript o i p) env v = (do
   let ov ← holding [v] (eval o env)
   let iv ← holding [v, ov] (eval i env)
   standAt p
   holding [v, ov, iv] (setItem ov iv v)
   release [v, ov, iv] []) := by
 intro v
 cases i <;> first | rfl | cases h
theorem swaps_sub {o i : Expr} {p : Pos} {env : Env} {n : Nat} : swapsWith a (some (.Subscript o i p)) n env = pure false := by
 cases a <;> rfl
noncomputable def sLput (i : Nat) (gk gv : En → Res) : En → Out := fun δ => match δ[i]? with
 | some (.ow ds) => (gv δ).then fun v => (gk δ).then fun k => match k with
  | .int n => (match ixN ds.length n with
   | some j => .nx (δ.set i (.ow (ds.set j v)))
   | none => .st)
  | _ => .st
 | _ => .st
theorem s_lput {i : Nat} {x : Str} {p pos' : Pos} (hv : PE X (.Name x p) (tVar i)) (hk : ArE X B E k g) (ha : PuE X B E a h)
  (hp : plainI k = true) : PuS X G0 B E (.Assign [.Subscript (.Name x p) k pos'] a pos) (sLput i g h) :=
 PS.imp (ps_asg ha (pg_sub hv hk set_list (asg_sub hp)) (show swapsWith a (some (.Subscript (.Name x p) k pos')) pos.line X.env = pure false from swaps_sub) rfl rfl) fun D σ H ⟨G, δ, R, ex, q⟩ => by
  unfold sLput at q
  cases ed : δ[i]? with
  | none => rw [ed] at q; exact q.elim
  | some sl =>
   rw [ed] at q
   cases sl with
   | ow ds =>
    dsimp only at q
    obtain ⟨l, vs, q1, q2, q3, q4, q5⟩ := R.owAt ed
    refine ⟨G, δ, R, (thenP ex q).mono fun dv _ q v G1 H1 e1 dn => ⟨.ref l, q1, G1, δ, R.ext e1, (thenP (K := (kx X)) (ex.trans e1) (OutP.same e1.gg q)).mono fun dk _ q y G2 H2 e2 ay => ?_⟩⟩
    have e12 := e1.trans e2
    cases dk with
    | int n =>
     dsimp only at q
     cases ej : ixN ds.length n with
     | none => rw [ej] at q; exact q.elim
     | some j =>
      rw [ej] at q
      have h2 := e12.hh _ _ q2
      have g2 := e12.fr _ _ q2 q4 rfl
      refine ⟨l, vs, n, j, rfl, ay.int, h2, by rw [← q3.length]; exact ej, ?_⟩
      exact q σ G2 _ e2.gg (EnvR.wr (R.ext e12) ed q1 h2 ((q3.mono e12.gg).set (dn.mono e2.gg) j)) (Ext.wr (ex.trans e12) g2 q5)
    | _ => exact q.elim
   | _ => exact q.elim
noncomputable def sAug (i : Nat) (f : Int → Int → Int) (g : En → Res) : En → Out := fun δ => match δ[i]? with
 | some (.pu (.int m)) => (g δ).then fun d => match d with
  | .int n => .nx (δ.set i (.pu (.int (f m n))))
  | _ => .st
 | _ => .st
theorem s_aug {i : Nat} {x : Str} {pos' : Pos} {op : Operator} {f : Int → Int → Int} (hf : PS X (.AugAssign (.Name x pos') op a pos) (tAug i (tPu (kx X) B E g) (ipI f))) : PuS X G0 B E (.AugAssign (.Name x pos') op a pos) (sAug i f g) :=
 PS.imp hf fun D σ H ⟨G, δ, R, ex, q⟩ => by
  unfold sAug at q
  cases ed : δ[i]? with
  | none => rw [ed] at q; exact q.elim
  | some sl =>
   rw [ed] at q
   cases sl with
   | pu d =>
    cases d with
    | int m =>
     dsimp only at q
     obtain ⟨v, q1, q2⟩ := R.var ed
     refine ⟨v, q1, G, δ, R, (thenP ex q).mono fun d _ q y G1 H1 e1 dn => ?_⟩
     cases d with
     | int n => exact ⟨m, n, q2, dn, q _ G1 H1 e1.gg ((R.ext e1).set rfl) (ex.trans e1)⟩
     | _ => exact q.elim
    | _ => exact q.elim
   | _ => exact q.elim
end
section
variable {T : GT} {ev : Ev} {X : Cx} {C : SC} {G0 B : Hp} {E : XK}
noncomputable def sRaise (c : Str) (r : En → ResL) : En → Out := fun δ => match r δ with
 | .ok _ => .er c
 | .er c' => .er c'
 | .st => .st
theorem s_raise {x : Str} {np cpos pos : Pos} {e : Expr} {es : List Expr} (h : EvOk T ev) (O : XOk X C T E) (hx : T.xs.exc x = true) (hg : isG C x = true) (hn : (e :: es).all nst = true) (hl : (e :: es).length ≤ 1000) :
  PuS X G0 B (ek (kx X) E) (.Raise (some (.Call (.Name x np) (e :: es) [] cpos)) none pos) (sRaise x (gData ev C (e :: es))) := by
 obtain ⟨Cc, bm, nid, hm, hxx, HB⟩ := O.exc x hx
 obtain ⟨g1, g2⟩ := O.gl hg
 have hn' := hn
 rw [List.all_cons, Bool.and_eq_true] at hn'
 refine PS.imp (ps_raise O.calm g1 hm hxx HB O.goes (data_ok (B := B) h O hn) g2 (star_cons hn'.1) (star_any hn'.2)) fun D σ H ⟨G, δ, R, ex, q⟩ => ⟨G, δ, R, ?_⟩
 unfold sRaise at q
 cases er : gData ev C (e :: es) δ with
 | ok ds =>
  rw [er] at q
  intro vs G' H' e1 al
  refine ⟨?_, ?_⟩
  ·have := al.length.2
   rw [List.length_map] at this
   rw [this]
   exact Nat.le_trans hl (by decide)
  ·have z := q G' H' (ex.trans e1)
   have z' : E (.ref (adr X.mg x)) none H' := z
   rw [adr_of hm] at z'
   exact z'
 | er c => rw [er] at q; exact fun G' H' e1 => q G' H' (ex.trans e1)
 | st => rw [er] at q; exact q
noncomputable def sTry (f : List D → Res) (r : En → ResL) (k : Str → En → Out) : En → Out := fun δ => match r δ with
 | .ok ds => (match f ds with
  | .ok _ => .nx δ
  | .er c => k c δ
  | .st => .st)
 | _ => .st
theorem boot_ve : bootBuiltins "ValueError" = some (.type "ValueError") := by decide +kernel
noncomputable def one {α : Type} : List α → Option α
 | [a] => some a
 | _ => none
theorem one_ok {α : Type} {l : List α} {a : α} (h : one l = some a) : l = [a] := by
 match l, h with
 | [b], h => cases h; rfl
noncomputable def callE : Expr → Option (Expr × List Expr × List Keyword × Pos)
 | .Call f a k p => some (f, a, k, p)
 | _ => none
theorem callE_ok {e f : Expr} {a : List Expr} {k : List Keyword} {p : Pos} (h : callE e = some (f, a, k, p)) : e = .Call f a k p := by
 cases e <;> first | (cases h; rfl) | cases h
noncomputable def nameE : Expr → Option (Str × Pos)
 | .Name x p => some (x, p)
 | _ => none
theorem nameE_ok {e : Expr} {x : Str} {p : Pos} (h : nameE e = some (x, p)) : e = .Name x p := by
 cases e <;> first | (cases h; rfl) | cases h
noncomputable def raiseS : Stmt → Option (Option Expr × Option Expr × Pos)
 | .Raise e c p => some (e, c, p)
 | _ => none
theorem raiseS_ok {st : Stmt} {e c : Option Expr} {p : Pos} (h : raiseS st = some (e, c, p)) : st = .Raise e c p := by
 cases st <;> first | (cases h; rfl) | cases h
noncomputable def raiseP (st : Stmt) : Option (Str × Expr × List Expr) := (raiseS st).bind fun q => q.1.bind fun w => (callE w).bind fun c => (nameE c.1).bind fun x => match c.2.1, c.2.2.1, q.2.1 with
 | e :: es, [], none => some (x.1, e, es)
 | _, _, _ => none
theorem raiseP_ok {st : Stmt} {x : Str} {e : Expr} {es : List Expr} (h : raiseP st = some (x, e, es)) : ∃ np cpos pos, st = .Raise (some (.Call (.Name x np) (e :: es) [] cpos)) none pos := by
 unfold raiseP at h
 simp only [Option.bind_eq_some_iff] at h
 obtain ⟨⟨q1, q2, q3⟩, h1, w, h0, ⟨c1, c2, c3, c4⟩, h2, ⟨y1, y2⟩, h3, h4⟩ := h
 dsimp only at h0 h2 h3 h4
 split at h4
 ·cases h4
  exact ⟨_, _, _, by rw [raiseS_ok h1, h0, callE_ok h2, nameE_ok h3]⟩
 ·cases h4
noncomputable def stepRaise (T : GT) (ev : Ev) (C : SC) (st : Stmt) : En → Out := match raiseP st with
 | some (x, e, es) => if T.xs.exc x && isG C x && (e :: es).all nst && decide ((e :: es).length ≤ 1000) then sRaise x (gData ev C (e :: es)) else sSt
 | none => sSt
theorem raise_ok (h : EvOk T ev) (O : XOk X C T E) {st : Stmt} : PuS X G0 B (ek (kx X) E) st (stepRaise T ev C st) := by
 unfold stepRaise
 cases hp : raiseP st with
 | none => exact s_st
 | some t =>
  obtain ⟨x, e, es⟩ := t
  obtain ⟨np, cpos, pos, rfl⟩ := raiseP_ok hp
  dsimp only
  by_cases hc : (T.xs.exc x && isG C x && (e :: es).all nst && decide ((e :: es).length ≤ 1000)) = true
  ·rw [if_pos hc]
   simp only [Bool.and_eq_true] at hc
   exact s_raise h O hc.1.1.1 hc.1.1.2 hc.1.2 (of_decide_eq_true hc.2)
  ·rw [if_neg hc]; exact s_st
noncomputable def tryS : Stmt → Option (List Stmt × List ExceptHandler × List Stmt × List Stmt × Pos)
 | .Try b h o f p => some (b, h, o, f, p)
 | _ => none
theorem tryS_ok {st : Stmt} {b : List Stmt} {h : List ExceptHandler} {o f : List Stmt} {p : Pos} (e : tryS st = some (b, h, o, f, p)) : st = .Try b h o f p := by
 cases st <;> first | (cases e; rfl) | cases e
noncomputable def exprS : Stmt → Option (Expr × Pos)
 | .Expr e p => some (e, p)
 | _ => none
theorem exprS_ok {st : Stmt} {e : Expr} {p : Pos} (h : exprS st = some (e, p)) : st = .Expr e p := by
 cases st <;> first | (cases h; rfl) | cases h
noncomputable def asgS : Stmt → Option (List Expr × Expr × Pos)
 | .Assign t v p => some (t, v, p)
 | _ => none
theorem asgS_ok {st : Stmt} {t : List Expr} {v : Expr} {p : Pos} (h : asgS st = some (t, v, p)) : st = .Assign t v p := by
 cases st <;> first | (cases h; rfl) | cases h
noncomputable def constE : Expr → Option (Const × Nat × Pos)
 | .Constant c k p => some (c, k, p)
 | _ => none
theorem constE_ok {e : Expr} {c : Const} {k : Nat} {p : Pos} (h : constE e = some (c, k, p)) : e = .Constant c k p := by
 cases e <;> first | (cases h; rfl) | cases h
noncomputable def callN (st : Stmt) : Option (Str × Pos × Expr × List Expr × Pos × Pos) := (exprS st).bind fun q => (callE q.1).bind fun c => (nameE c.1).bind fun x => match c.2.1, c.2.2.1 with
 | e :: es, [] => some (x.1, x.2, e, es, c.2.2.2, q.2)
 | _, _ => none
theorem callN_ok {st : Stmt} {x : Str} {xp cp ep : Pos} {e : Expr} {es : List Expr} (h : callN st = some (x, xp, e, es, cp, ep)) : st = .Expr (.Call (.Name x xp) (e :: es) [] cp) ep := by
 unfold callN at h
 simp only [Option.bind_eq_some_iff] at h
 obtain ⟨⟨q1, q2⟩, h1, ⟨c1, c2, c3, c4⟩, h2, ⟨y1, y2⟩, h3, h4⟩ := h
 dsimp only at h2 h3 h4
 split at h4
 ·cases h4
  rw [exprS_ok h1, callE_ok h2, nameE_ok h3]
 ·cases h4
noncomputable def handP : ExceptHandler → Option Expr × Option Str × List Stmt × Pos
 | .ExceptHandler t n b p => (t, n, b, p)
noncomputable def retS : Stmt → Option (Option Expr × Pos)
 | .Return o p => some (o, p)
 | _ => none
theorem retS_ok {st : Stmt} {o : Option Expr} {p : Pos} (h : retS st = some (o, p)) : st = .Return o p := by
 cases st <;> first | (cases h; rfl) | cases h
end
end Pu
end
section
namespace L2
open PySem PySem.Spec PyProof.Rows
section
variable {X : Cx} {k : Nat} {f Cy Cz : Addr} {fd : FuncData} {ps : List Str} {sp : Sp} {x y z : Str} {p yp zp cpos epos hpos hpos' pos : Pos} {e : Expr} {es : List Expr} {t : TA} {u u' : TS} {b₀ b₁ : Stmt} {suite suite' : List Stmt} {rest : List ExceptHandler}
theorem hand_yes {pins : List (Addr × Obj)} {σ : St} {H1 H2 : Hp} {s1 s' : Shared} {a : Addr} {cls : Value} {D : Ends} (hex : X.ex = []) (I1 : Inv X pins σ H1 s1) (J : Inv X pins σ H2 s') (ex : ExAt s1.heap s'.heap H2 a cls) (hgy : Gl X y) (hmy : X.mg y = some (.ref Cy)) (hc : PySem.W.exmOne X.K cls (.ref Cy) = some true) (hs : PSs (X.marked a).nox (b₀ :: suite) u) (hu : u D σ H2) (hdy : (y == ("__debug__" : Str)) = false) :
  wpAny (model X.prog X.w) X.A (handleBy (.ref a) X.env (.ExceptHandler (some (.Name y yp)) none (b₀ :: suite) hpos :: rest)) (SP X pins D) X.xe s' := by
 refine wpAny_handleBy_cons (codeAny_handlers_test (ld_glob (X := X.marked a) (J.marked a) hgy hmy ?_ hdy)) (by intro q; cases q)
 have LT : PySem.W.Looks (model X.prog X.w) s'.heap (typeOf (.ref a)) cls := by
  obtain ⟨oe, vs, g, rfl, _⟩ := ex.obj
  exact (PySem.W.Looks.ld g).andThen .now
 refine PySem.W.exm_one J.kIn LT hc _ _ _ _ (fun _ _ q => q) (codeAny_handlers_suite (flight hex I1 J ex fun h2 J2 ex2 => ?_))
 exact wpAny_mono (hs pins _ σ H2 D ((J2.marked a).wish _) hu) (fun fl s4 q => (SP.unwish q).unmarked J.ok) fun _ _ z => False.elim z
theorem hand_no {pins : List (Addr × Obj)} {σ : St} {H2 : Hp} {s1 s' : Shared} {a : Addr} {cls : Value} {D : Ends} {n : Option Str} {body : List Stmt} (J : Inv X pins σ H2 s') (ex : ExAt s1.heap s'.heap H2 a cls) (hgy : Gl X y) (hmy : X.mg y = some (.ref Cy)) (hc : PySem.W.exmOne X.K cls (.ref Cy) = some false) (hdy : (y == ("__debug__" : Str)) = false)
  (h : wpAny (model X.prog X.w) X.A (handleBy (.ref a) X.env rest) (SP X pins D) X.xe s') :
  wpAny (model X.prog X.w) X.A (handleBy (.ref a) X.env (.ExceptHandler (some (.Name y yp)) n body hpos :: rest)) (SP X pins D) X.xe s' := by
 refine wpAny_handleBy_cons (codeAny_handlers_test (ld_glob (X := X.marked a) (J.marked a) hgy hmy ?_ hdy)) (by intro q; cases q)
 have LT : PySem.W.Looks (model X.prog X.w) s'.heap (typeOf (.ref a)) cls := by
  obtain ⟨oe, vs, g, rfl, _⟩ := ex.obj
  exact (PySem.W.Looks.ld g).andThen .now
 exact PySem.W.exm_one J.kIn LT hc _ _ _ _ (fun _ _ q => q) h
noncomputable def tTry2 (sp : Sp) (K : PySem.W.Frag) (Cy Cz : Addr) (t : TA) (u u' : TS) : TS := fun D σ H => t σ H fun vs H1 => sp vs H1 (fun _ H2 => D.nx σ H2) fun cls _ H2 => (PySem.W.exmOne K cls (.ref Cy) = some true ∧ u D σ H2) ∨ (PySem.W.exmOne K cls (.ref Cy) = some false ∧ PySem.W.exmOne K cls (.ref Cz) = some true ∧ u' D σ H2)
theorem ps_try2 (F : FnOk X.prog X.w X.K X.mg X.base (CXe X.prog X.w) k f fd ps sp) (hr : Room k X.A) (hg : Gl X x) (hm : X.mg x = some (.ref f)) (hk : PySem.W.keepIn X.K (.ref f) = true) (hb : Binds X.K fd ps []) (ha : PA X.nox (e :: es) t)
  (hstk : X.stack = X.env :: X.outer) (hfr : X.env.frame = some X.env.locals) (hex : X.ex = []) (hgy : Gl X y) (hmy : X.mg y = some (.ref Cy)) (hgz : Gl X z) (hmz : X.mg z = some (.ref Cz)) (hs : ∀ a, PSs (X.marked a).nox (b₀ :: suite) u) (hs' : ∀ a, PSs (X.marked a).nox (b₁ :: suite') u') (hsw : swapsWith (.Call (.Name x p) (e :: es) [] cpos) none epos.line X.env = pure false := by rfl)
  (hdb : (x == ("__debug__" : Str)) = false := by decide) (hdy : (y == ("__debug__" : Str)) = false := by decide) (hdz : (z == ("__debug__" : Str)) = false := by decide) (he : starEach (e :: es) X.env = (false, eval e X.env) :: starEach es X.env := by rfl) (hpl : (backTo cpos (starEach es X.env)).any (·.1) = false := by rfl) :
  PS X (.Try [.Expr (.Call (.Name x p) (e :: es) [] cpos) epos] [.ExceptHandler (some (.Name y yp)) none (b₀ :: suite) hpos, .ExceptHandler (some (.Name z zp)) none (b₁ :: suite') hpos'] [] [] pos) (tTry2 sp X.K Cy Cz t u u') := by
 intro pins s σ H D I h
 refine wpAny_Try_except (wpAny_execs_cons (wpAny_Expr_any (try_call F hr hg hm hk hb ha I h hdb he hpl (fun v H2 w s2 I2 _ q => ?_) fun H1 s1 H2 s2 a cls I1 J un ex q => ?_) I.quiet hsw))
 ·exact wpAny_execs_nil (wpAny_execs_nil ⟨σ, H2, I2, q⟩)
 ·refine caught hstk hfr hex I1 J un ex fun h' J' ex' => ?_
  rcases q with ⟨hc, hu⟩ | ⟨hc, hc', hu⟩
  ·exact hand_yes hex I1 J' ex' hgy hmy hc (hs a) hu hdy
  ·exact hand_no J' ex' hgy hmy hc hdy (hand_yes hex I1 J' ex' hgz hmz hc' (hs' a) hu hdz)
end
noncomputable def isiS (n T : Str) (sp np tp icpos rpos : Pos) : Stmt := .Return (some (.Call (.Name "isinstance" sp) [.Name n np, .Name T tp] [] icpos)) rpos
noncomputable def tTryRt (sp : Sp) (K : PySem.W.Frag) (Cy : Addr) (T : String) (t : TA) : TS := fun D σ H => t σ H fun vs H1 => sp vs H1 (fun _ H2 => D.nx σ H2) fun cls _ H2 => PySem.W.exmOne K cls (.ref Cy) = some true ∧ PySem.W.kitCls K cls (.type T) = some true ∧ (cls == .type T) = false ∧ D.rt (.bl true) H2
section
variable {X : Cx} {k : Nat} {f Cy : Addr} {fd : FuncData} {ps : List Str} {sp : Sp} {x y n xT : Str} {T : String} {i : Nat} {p yp cpos epos hpos pos isp np tp icpos rpos : Pos} {e : Expr} {es : List Expr} {t : TA}
theorem isi_ok {a : Addr} {oe : Obj} (hi : X.N[i]? = some n) (hn : X.env.scope.names.lookup n = some .local) (hnd : (n == ("__debug__" : Str)) = false) (hnc : (n == ("__classdict__" : Str)) = false)
  (h2 : Gl X "isinstance") (m2 : X.mg "isinstance" = none) (h3 : Gl X xT) (m3 : X.mg xT = none) (b3 : bootBuiltins xT = some (.type T)) (n3 : xT ≠ "__name__") (d3 : (xT == ("__debug__" : Str)) = false)
  (e1 : PySem.W.kitCls X.K oe.cls (.type T) = some true) (q1 : (oe.cls == .type T) = false) :
  PS (X.held a oe).nox (isiS n xT isp np tp icpos rpos) (fun D σ H => σ[i]? = some (some (.ref a)) ∧ D.rt (.bl true) H) := by
 have P := ps_ret (X := (X.held a oe).nox) (pos := rpos) (pe_callB (p := isp) (pos := icpos) (call_isE e1 q1) h2 m2 boot_isinstance (pa_cons (pe_var (pos := np) (i := i) hi (.inl hn) hnd hnc) (pa_cons (pe_bltn (v := .ty T) (pos := tp) h3 m3 b3 rfl n3 d3) pa_nil)))
 intro pins s σ H D I h
 obtain ⟨a1, q⟩ := h
 exact P pins s σ H D I ⟨_, a1, rfl, q⟩
theorem ps_tryRt (F : FnOk X.prog X.w X.K X.mg X.base (CXe X.prog X.w) k f fd ps sp) (hr : Room k X.A) (hg : Gl X x) (hm : X.mg x = some (.ref f)) (hk : PySem.W.keepIn X.K (.ref f) = true) (hb : Binds X.K fd ps []) (ha : PA X.nox (e :: es) t)
  (hstk : X.stack = X.env :: X.outer) (hfr : X.env.frame = some X.env.locals) (hex : X.ex = []) (hgy : Gl X y) (hmy : X.mg y = some (.ref Cy))
  (hN : X.N.Nodup) (hi : X.N[i]? = some n) (hn : X.env.scope.names.lookup n = some .local) (hnd : (n == ("__debug__" : Str)) = false) (hnc : (n == ("__classdict__" : Str)) = false)
  (h2 : Gl X "isinstance") (m2 : X.mg "isinstance" = none) (h3 : Gl X xT) (m3 : X.mg xT = none) (b3 : bootBuiltins xT = some (.type T)) (n3 : xT ≠ "__name__") (d3 : (xT == ("__debug__" : Str)) = false)
  (hsw : swapsWith (.Call (.Name x p) (e :: es) [] cpos) none epos.line X.env = pure false := by rfl)
  (hdb : (x == ("__debug__" : Str)) = false := by decide) (hdy : (y == ("__debug__" : Str)) = false := by decide) (he : starEach (e :: es) X.env = (false, eval e X.env) :: starEach es X.env := by rfl) (hpl : (backTo cpos (starEach es X.env)).any (·.1) = false := by rfl) :
  PS X (.Try [.Expr (.Call (.Name x p) (e :: es) [] cpos) epos] [.ExceptHandler (some (.Name y yp)) (some n) [isiS n xT isp np tp icpos rpos] hpos] [] [] pos) (tTryRt sp X.K Cy T t) := by
 intro pins s σ H D I h
 refine wpAny_Try_except (wpAny_execs_cons (wpAny_Expr_any (try_call F hr hg hm hk hb ha I h hdb he hpl (fun v H2 w s2 I2 _ q => ?_) fun H1 s1 H2 s2 a cls I1 J un ex ⟨hc, hT, hTn, hu⟩ => ?_) I.quiet hsw))
 ·exact wpAny_execs_nil (wpAny_execs_nil ⟨σ, H2, I2, q⟩)
 ·refine caught hstk hfr hex I1 J un ex fun h' J' ex' => ?_
  refine wpAny_handleBy_cons (codeAny_handlers_test (ld_glob (X := X.marked a) (J'.marked a) hgy hmy ?_ hdy)) (by intro q; cases q)
  have LT : PySem.W.Looks (model X.prog X.w) h' (typeOf (.ref a)) cls := by
   obtain ⟨oe, vs, g, rfl, _⟩ := ex'.obj
   exact (PySem.W.Looks.ld g).andThen .now
  refine PySem.W.exm_one J'.kIn LT hc _ _ _ _ (fun _ _ q => q) (codeAny_handlers_suite_as (flight hex I1 J' ex' fun hh J2 ex2 => ?_))
  have yg := I1.young hex ex2.new
  have hiσ : i < σ.length := by rw [I.len]; exact (List.getElem?_eq_some_iff.mp hi).1
  refine store_ok2 J2 hN hi (.inl hn) (v := .ref a) (u := .ref a) rfl (fun s4 J4 hsb => ?_) (.inr hn)
  obtain ⟨oe, vs, g, hcl, hd, _⟩ := ex2.obj
  have g4 : s4.heap.get? a = some oe := by
   obtain ⟨b, sb, hb⟩ := hsb
   refine (sb.2 a fun z => ?_).trans g
   rcases hb with hb | hb
   ·exact yg.2.1 (z.trans hb)
   ·exact yg.2.2.1 n b hb z.symm
  have nfs : a ∉ X.fs := fun z => by
   have st : a ∈ frs X.stack := by rw [hstk]; unfold frs; rw [List.filterMap_cons, hfr]; exact List.mem_cons_of_mem _ z
   obtain ⟨_, o, ho, _⟩ := I1.stack.mem st
   rw [ex2.new] at ho; cases ho
  subst hcl
  have Jh := J4.held g4 ex2.free yg.2.1 nfs (fun v z => by rw [hd] at z; cases z)
  have P := isi_ok (X := X) (a := a) (oe := oe) (isp := isp) (np := np) (tp := tp) (icpos := icpos) (rpos := rpos) hi hn hnd hnc h2 m2 h3 m3 b3 n3 d3 hT hTn
  refine wpAny_mono (pss_one P pins s4 _ H2 { nx := fun _ _ => False, rt := D.rt } (Jh.wish _) ⟨List.getElem?_set_self hiσ, hu⟩) (fun fl s5 q => ?_) fun _ _ z => False.elim z
  cases fl with
  | next => obtain ⟨_, _, _, q⟩ := q; exact q.elim
  | ret u =>
   obtain ⟨v, σ', H', I', r, q⟩ := q
   exact unbind_ok (I'.unwish.unheld I.ok) hN hi hn fun s6 I6 => ⟨v, _, H', I6, r, q⟩
  | brk => obtain ⟨_, _, _, q⟩ := q; exact q.elim
  | cont => obtain ⟨_, _, _, q⟩ := q; exact q.elim
end
end L2
end
section
namespace Pu
open PySem PySem.Spec PyProof.Rows L2
section
variable {T : GT} {ev : Ev} {X : Cx} {C : SC} {G0 B : Hp} {E : XK}
noncomputable def cstD : Const → Option D
 | .int i => some (.int i)
 | .str x => some (.str x)
 | _ => none
noncomputable def cstV : D → V
 | .int i => .int i
 | .str x => .str x
 | _ => .non
noncomputable def kC (T : GT) : List (Str × Nat × D) → Str → En → Out
 | [], _, _ => .st
 | h :: r, c, δ => if T.xs.sub c h.1 then .nx (δ.set h.2.1 (.pu h.2.2)) else if T.xs.nsub c h.1 then kC T r c δ else .st
theorem cst_den {K : KA} {G : Hp} {c : Const} {d : D} (h : cstD c = some d) : Den K G d (cstV d) := by
 cases c <;> first | (cases h; rfl) | cases h
theorem cst_ok {c : Const} {d : D} {r : Str} {j kd : Nat} {rp cp ap : Pos} (O : SOk X C T E) (hc : cstD c = some d) (hj : lslot C r = some j) (a : Addr) :
  PSs (X.marked a).nox [.Assign [.Name r rp] (.Constant c kd cp) ap] (fun D σ H => D.nx (σ.set j (some (cstV d))) H) := by
 obtain ⟨l1, l2, l3⟩ := lslot_ok hj
 have key : ∀ {te : V}, PE (X.marked a).nox (.Constant c kd cp) (tC te) → cstV d = te → PSs (X.marked a).nox [.Assign [.Name r rp] (.Constant c kd cp) ap] (fun D σ H => D.nx (σ.set j (some (cstV d))) H) := fun {te} pe ev => by
  have P := ps_set (X := (X.marked a).nox) (pos := ap) (pos' := rp) (i := j) (x := r) (by show X.N.Nodup; rw [O.n]; exact O.nd) (by show X.N[j]? = _; rw [O.n]; exact l1) (by show L2.Loc X.env.scope r; rw [O.s]; exact isLoc_ok l2) pe rfl (.inl (O.fn r l3))
  refine pss_one fun pins s σ H D I hq => ?_
  rw [ev] at hq
  exact P pins s σ H D I hq
 cases c <;> first | (cases hc; exact key pe_int rfl) | (cases hc; exact key pe_str rfl) | cases hc
structure HQ where
 y : Str
 yp : Pos
 r : Str
 rp : Pos
 c : Const
 kd : Nat
 cp : Pos
 ap : Pos
 hp : Pos
noncomputable def HQ.st (h : HQ) : ExceptHandler := .ExceptHandler (some (.Name h.y h.yp)) none [.Assign [.Name h.r h.rp] (.Constant h.c h.kd h.cp) h.ap] h.hp
structure HOkC (T : GT) (C : SC) (h : HQ) (q : Str × Nat × D) : Prop where
 y : q.1 = h.y
 g : isG C h.y = true
 x : T.xs.exc h.y = true
 j : lslot C h.r = some q.2.1
 d : cstD h.c = some q.2.2
theorem s_tryC {x : Str} {s : FS} {p cpos epos pos : Pos} {e : Expr} {es : List Expr} {h1 : HQ} {q1 : Str × Nat × D} {o : Option (HQ × (Str × Nat × D))} (h : EvOk T ev) (O : SOk X C T E) (hf : T.fns x = some s) (hg : isG C x = true) (hn : (e :: es).all nst = true) (K1 : HOkC T C h1 q1) (K2 : ∀ z, o = some z → HOkC T C z.1 z.2) (hnc : noComp (.Call (.Name x p) (e :: es) [] cpos) = true) :
  PuS X G0 B (ek (kx X) E) (.Try [.Expr (.Call (.Name x p) (e :: es) [] cpos) epos] (h1.st :: (o.map fun z => z.1.st).toList) [] [] pos) (sTry s.f (gAL ev C s.ms (e :: es)) (kC T (q1 :: (o.map fun z => z.2).toList))) := by
 obtain ⟨k, f, fd, ps, hr, hm, hk, hb, F⟩ := O.fns x s hf
 obtain ⟨g1, g2⟩ := O.gl hg
 obtain ⟨gy1, gy2⟩ := O.gl K1.g
 obtain ⟨Cy, _, _, hmy, _⟩ := O.exc h1.y K1.x
 have hn' := hn
 rw [List.all_cons, Bool.and_eq_true] at hn'
 have one : ∀ {c : Str} {q : Str × Nat × D} {hh : HQ} {Cq : Addr} (Kq : HOkC T C hh q) (hmq : X.mg hh.y = some (.ref Cq)), T.xs.sub c q.1 = true → PySem.W.exmOne X.K (.ref (adr X.mg c)) (.ref Cq) = some true := fun {c q hh Cq} Kq hmq hs => by
  obtain ⟨C', hm', hex⟩ := O.sub c q.1 hs
  rw [Kq.y, hmq] at hm'
  cases hm'
  exact hex
 have non : ∀ {c : Str} {q : Str × Nat × D} {hh : HQ} {Cq : Addr} (Kq : HOkC T C hh q) (hmq : X.mg hh.y = some (.ref Cq)), T.xs.nsub c q.1 = true → PySem.W.exmOne X.K (.ref (adr X.mg c)) (.ref Cq) = some false := fun {c q hh Cq} Kq hmq hs => by
  obtain ⟨C', hm', hex⟩ := O.nsub c q.1 hs
  rw [Kq.y, hmq] at hm'
  cases hm'
  exact hex
 cases o with
 | none =>
  refine PS.imp (ps_try0 F hr g1 hm hk hb (aL_ok (B := B) h O.toXOk.nox (ms := s.ms) hn) O.stk O.frm O.ex0 gy1 hmy (cst_ok O K1.d K1.j) (noComp_swaps hnc) g2 gy2 (star_cons hn'.1) (star_any hn'.2)) fun D σ H ⟨G, δ, R, ex, q⟩ => ⟨G, δ, R, ?_⟩
  unfold sTry at q
  cases er : gAL ev C s.ms (e :: es) δ with
  | er c => rw [er] at q; exact q.elim
  | st => rw [er] at q; exact q.elim
  | ok ds =>
   rw [er] at q
   intro vs G1 H1 e1 al
   refine ⟨al.length.2, R.gb.same (R.bh.trans e1.hh), G1, ds, e1.gh, al, ?_⟩
   dsimp only at q
   cases ef : s.f ds with
   | ok d =>
    rw [ef] at q
    exact fun v G' H' e2 _ => q σ G' H' (e1.trans e2).gg (R.ext (e1.trans e2)) (ex.trans (e1.trans e2))
   | st => rw [ef] at q; exact q.elim
   | er c =>
    rw [ef] at q
    intro G' H' e2
    have q : OutP (kx X) G0 B (ek (kx X) E) G (kC T [q1] c δ) D := q
    unfold kC at q
    by_cases hs : T.xs.sub c q1.1 = true
    ·rw [if_pos hs] at q
     exact ⟨one K1 hmy hs, q _ G' H' (e1.trans e2).gg ((R.ext (e1.trans e2)).set (cst_den K1.d)) (ex.trans (e1.trans e2))⟩
    ·rw [if_neg hs] at q
     unfold kC at q
     split at q <;> exact q.elim
 | some z =>
  obtain ⟨h2, q2⟩ := z
  have K2 := K2 _ rfl
  obtain ⟨gz1, gz2⟩ := O.gl K2.g
  obtain ⟨Cz, _, _, hmz, _⟩ := O.exc h2.y K2.x
  refine PS.imp (ps_try2 F hr g1 hm hk hb (aL_ok (B := B) h O.toXOk.nox (ms := s.ms) hn) O.stk O.frm O.ex0 gy1 hmy gz1 hmz (cst_ok O K1.d K1.j) (cst_ok O K2.d K2.j) (noComp_swaps hnc) g2 gy2 gz2 (star_cons hn'.1) (star_any hn'.2)) fun D σ H ⟨G, δ, R, ex, q⟩ => ⟨G, δ, R, ?_⟩
  unfold sTry at q
  cases er : gAL ev C s.ms (e :: es) δ with
  | er c => rw [er] at q; exact q.elim
  | st => rw [er] at q; exact q.elim
  | ok ds =>
   rw [er] at q
   intro vs G1 H1 e1 al
   refine ⟨al.length.2, R.gb.same (R.bh.trans e1.hh), G1, ds, e1.gh, al, ?_⟩
   dsimp only at q
   cases ef : s.f ds with
   | ok d =>
    rw [ef] at q
    exact fun v G' H' e2 _ => q σ G' H' (e1.trans e2).gg (R.ext (e1.trans e2)) (ex.trans (e1.trans e2))
   | st => rw [ef] at q; exact q.elim
   | er c =>
    rw [ef] at q
    intro G' H' e2
    have q : OutP (kx X) G0 B (ek (kx X) E) G (kC T [q1, q2] c δ) D := q
    unfold kC at q
    by_cases hs : T.xs.sub c q1.1 = true
    ·rw [if_pos hs] at q
     exact .inl ⟨one K1 hmy hs, q _ G' H' (e1.trans e2).gg ((R.ext (e1.trans e2)).set (cst_den K1.d)) (ex.trans (e1.trans e2))⟩
    ·rw [if_neg hs] at q
     by_cases hs1 : T.xs.nsub c q1.1 = true
     ·rw [if_pos hs1] at q
      unfold kC at q
      by_cases hs2 : T.xs.sub c q2.1 = true
      ·rw [if_pos hs2] at q
       exact .inr ⟨non K1 hmy hs1, one K2 hmz hs2, q _ G' H' (e1.trans e2).gg ((R.ext (e1.trans e2)).set (cst_den K2.d)) (ex.trans (e1.trans e2))⟩
      ·rw [if_neg hs2] at q
       unfold kC at q
       split at q <;> exact q.elim
     ·rw [if_neg hs1] at q; exact q.elim
noncomputable def kRt (T : GT) (y : Str) (c : Str) (δ : En) : Out := if T.xs.sub c y && T.xs.ve c then .rt (.bl true) else .st
theorem s_tryRt {x y n : Str} {m : Nat} {s : FS} {p yp cpos epos hpos pos isp np tp icpos rpos : Pos} {e : Expr} {es : List Expr} (h : EvOk T ev) (O : SOk X C T E) (hf : T.fns x = some s) (hg : isG C x = true) (hn : (e :: es).all nst = true) (hgy : isG C y = true) (hxy : T.xs.exc y = true)
  (hms : slot C n = some m) (hml : C.sc.names.lookup n = some .local) (hnc : noComp (.Call (.Name x p) (e :: es) [] cpos) = true) (i2 : isG C "isinstance" = true) (i3 : isG C "ValueError" = true) :
  PuS X G0 B (ek (kx X) E) (.Try [.Expr (.Call (.Name x p) (e :: es) [] cpos) epos] [.ExceptHandler (some (.Name y yp)) (some n) [.Return (some (.Call (.Name "isinstance" isp) [.Name n np, .Name "ValueError" tp] [] icpos)) rpos] hpos] [] [] pos) (sTry s.f (gAL ev C s.ms (e :: es)) (kRt T y)) := by
 obtain ⟨k, f, fd, ps, hr, hm, hk, hb, F⟩ := O.fns x s hf
 obtain ⟨g1, g2⟩ := O.gl hg
 obtain ⟨gy1, gy2⟩ := O.gl hgy
 obtain ⟨Cy, _, _, hmy, _⟩ := O.exc y hxy
 have hn' := hn
 rw [List.all_cons, Bool.and_eq_true] at hn'
 obtain ⟨m1, m2, m3⟩ := slot_ok hms
 have bl := O.bl
 have P := ps_tryRt (T := "ValueError") (xT := "ValueError") (i := m) (p := p) (yp := yp) (epos := epos) (hpos := hpos) (pos := pos) (isp := isp) (np := np) (tp := tp) (icpos := icpos) (rpos := rpos) F hr g1 hm hk hb (aL_ok (B := B) h O.toXOk.nox (ms := s.ms) hn) O.stk O.frm O.ex0 gy1 hmy
  (by rw [O.n]; exact O.nd) (by rw [O.n]; exact m1) (by rw [O.s]; exact hml) (okName_1 m3) (okName_2 m3)
  (O.gl i2).1 (bl _ (by decide +kernel)) (O.gl i3).1 (bl _ (by decide +kernel)) boot_ve (by decide +kernel) (by decide +kernel) (noComp_swaps hnc) g2 gy2 (star_cons hn'.1) (star_any hn'.2)
 unfold isiS at P
 refine PS.imp P fun D σ H ⟨G, δ, R, ex, q⟩ => ⟨G, δ, R, ?_⟩
 unfold sTry at q
 cases er : gAL ev C s.ms (e :: es) δ with
 | er c => rw [er] at q; exact q.elim
 | st => rw [er] at q; exact q.elim
 | ok ds =>
  rw [er] at q
  intro vs G1 H1 e1 al
  refine ⟨al.length.2, R.gb.same (R.bh.trans e1.hh), G1, ds, e1.gh, al, ?_⟩
  dsimp only at q
  cases ef : s.f ds with
  | ok d =>
   rw [ef] at q
   exact fun v G' H' e2 _ => q σ G' H' (e1.trans e2).gg (R.ext (e1.trans e2)) (ex.trans (e1.trans e2))
  | st => rw [ef] at q; exact q.elim
  | er c =>
   rw [ef] at q
   intro G' H' e2
   have q : OutP (kx X) G0 B (ek (kx X) E) G (kRt T y c δ) D := q
   unfold kRt at q
   by_cases hs : (T.xs.sub c y && T.xs.ve c) = true
   ·rw [if_pos hs] at q
    rw [Bool.and_eq_true] at hs
    obtain ⟨Cy', hmy', hex⟩ := O.sub c y hs.1
    rw [hmy] at hmy'
    cases hmy'
    exact ⟨hex, O.ve c hs.2, rfl, q _ G' H' (ex.trans (e1.trans e2)) rfl⟩
   ·rw [if_neg hs] at q; exact q.elim
noncomputable def handC (h : ExceptHandler) : Option HQ := (handP h).1.bind fun t => (nameE t).bind fun y => (one (handP h).2.2.1).bind fun s => (asgS s).bind fun a => (one a.1).bind fun tg => (nameE tg).bind fun r => (constE a.2.1).bind fun c =>
 if (handP h).2.1.isNone then some ⟨y.1, y.2, r.1, r.2, c.1, c.2.1, c.2.2, a.2.2, (handP h).2.2.2⟩ else none
theorem handC_ok {h : ExceptHandler} {q : HQ} (e : handC h = some q) : h = q.st := by
 unfold handC at e
 simp only [Option.bind_eq_some_iff] at e
 obtain ⟨t, h1, ⟨y1, y2⟩, h2, s, h3, ⟨a1, a2, a3⟩, h4, tg, h5, ⟨r1, r2⟩, h6, ⟨c1, c2, c3⟩, h7, h8⟩ := e
 obtain ⟨t0, n0, b0, p0⟩ := h
 dsimp only [handP] at h1 h3
 cases n0 with
 | some _ => cases h8
 | none =>
  cases h8
  unfold HQ.st
  dsimp only at h2 h5 h6 h7 ⊢
  rw [h1, nameE_ok h2, one_ok h3, asgS_ok h4, one_ok h5, nameE_ok h6, constE_ok h7]
  rfl
noncomputable def hRead (T : GT) (C : SC) (q : HQ) : Option (Str × Nat × D) := match lslot C q.r, cstD q.c with
 | some j, some d => if isG C q.y && T.xs.exc q.y then some (q.y, j, d) else none
 | _, _ => none
theorem hRead_ok {q : HQ} {r : Str × Nat × D} (h : hRead T C q = some r) : HOkC T C q r := by
 unfold hRead at h
 split at h
 ·rename_i j d hj hd
  split at h
  ·rename_i hc
   rw [Bool.and_eq_true] at hc
   cases h
   exact ⟨rfl, hc.1, hc.2, hj, hd⟩
  ·cases h
 ·cases h
noncomputable def hand12 : List ExceptHandler → Option (HQ × Option HQ)
 | [a] => (handC a).map fun h => (h, none)
 | [a, b] => (handC a).bind fun h => (handC b).map fun k => (h, some k)
 | _ => none
theorem hand12_ok {l : List ExceptHandler} {h : HQ} {o : Option HQ} (e : hand12 l = some (h, o)) : l = h.st :: (o.map HQ.st).toList := by
 unfold hand12 at e
 split at e
 ·rename_i a
  cases ha : handC a with
  | none => rw [ha] at e; cases e
  | some q => rw [ha] at e; cases e; rw [handC_ok ha]; rfl
 ·rename_i a b
  cases ha : handC a with
  | none => rw [ha] at e; cases e
  | some q =>
   rw [ha] at e
   cases hb : handC b with
   | none => rw [hb] at e; cases e
   | some q' => rw [hb] at e; cases e; rw [handC_ok ha, handC_ok hb]; rfl
 ·cases e
noncomputable def hReads (T : GT) (C : SC) (h : HQ) (o : Option HQ) : Option ((Str × Nat × D) × Option (HQ × (Str × Nat × D))) := (hRead T C h).bind fun q => match o with
 | none => some (q, none)
 | some k => (hRead T C k).map fun r => (q, some (k, r))
theorem hReads_ok {h : HQ} {o : Option HQ} {q : Str × Nat × D} {r : Option (HQ × (Str × Nat × D))} (e : hReads T C h o = some (q, r)) : HOkC T C h q ∧ (∀ z, r = some z → HOkC T C z.1 z.2) ∧ r.map (fun z => z.1.st) = o.map HQ.st := by
 unfold hReads at e
 cases h1 : hRead T C h with
 | none => rw [h1] at e; cases e
 | some q' =>
  rw [h1] at e
  cases o with
  | none => cases e; exact ⟨hRead_ok h1, fun z hz => (by cases hz), rfl⟩
  | some k =>
   cases h2 : hRead T C k with
   | none => simp [h2] at e
   | some r' =>
    have e' : (q', some (k, r')) = (q, r) := by simpa [h2] using e
    cases e'
    exact ⟨hRead_ok h1, fun z hz => (by cases hz; exact hRead_ok h2), rfl⟩
noncomputable def tryCP (st : Stmt) : Option ((Str × Pos × Expr × List Expr × Pos × Pos) × HQ × Option HQ × Pos) := (tryS st).bind fun q => (one q.1).bind fun b => (callN b).bind fun c => (hand12 q.2.1).bind fun h =>
 if q.2.2.1.isEmpty && q.2.2.2.1.isEmpty then some (c, h.1, h.2, q.2.2.2.2) else none
theorem tryCP_ok {st : Stmt} {x : Str} {xp cp ep tp : Pos} {e : Expr} {es : List Expr} {h : HQ} {o : Option HQ} (k : tryCP st = some ((x, xp, e, es, cp, ep), h, o, tp)) : st = .Try [.Expr (.Call (.Name x xp) (e :: es) [] cp) ep] (h.st :: (o.map HQ.st).toList) [] [] tp := by
 unfold tryCP at k
 simp only [Option.bind_eq_some_iff] at k
 obtain ⟨⟨q1, q2, q3, q4, q5⟩, h1, b, h2, c, h3, ⟨g1, g2⟩, h4, h5⟩ := k
 dsimp only at h2 h4 h5
 split at h5
 ·rename_i he
  rw [Bool.and_eq_true] at he
  cases h5
  rw [tryS_ok h1, one_ok h2, callN_ok h3, hand12_ok h4, List.isEmpty_iff.mp he.1, List.isEmpty_iff.mp he.2]
 ·cases h5
noncomputable def stepTryC (T : GT) (ev : Ev) (C : SC) (st : Stmt) : Option (En → Out) := match tryCP st with
 | some ((x, xp, e, es, cp, _), h, o, _) => (match T.fns x, hReads T C h o with
  | some s, some (q, r) => if isG C x && (e :: es).all nst && noComp (.Call (.Name x xp) (e :: es) [] cp) then some (sTry s.f (gAL ev C s.ms (e :: es)) (kC T (q :: (r.map fun z => z.2).toList))) else none
  | _, _ => none)
 | none => none
theorem tryC_ok (h : EvOk T ev) (O : SOk X C T E) {st : Stmt} {F : En → Out} (k : stepTryC T ev C st = some F) : PuS X G0 B (ek (kx X) E) st F := by
 unfold stepTryC at k
 cases hp : tryCP st with
 | none => rw [hp] at k; cases k
 | some t =>
  obtain ⟨⟨x, xp, e, es, cp, ep⟩, hq, o, tp⟩ := t
  rw [hp] at k
  dsimp only at k
  cases e1 : T.fns x with
  | none => rw [e1] at k; cases k
  | some s =>
   cases e2 : hReads T C hq o with
   | none => rw [e1, e2] at k; cases k
   | some qr =>
    obtain ⟨q, r⟩ := qr
    rw [e1, e2] at k
    dsimp only at k
    split at k
    ·rename_i hc
     cases k
     simp only [Bool.and_eq_true] at hc
     obtain ⟨k1, k2, k3⟩ := hReads_ok e2
     rw [tryCP_ok hp, ← k3]
     exact s_tryC h O e1 hc.1.1 hc.1.2 k1 k2 hc.2
    ·cases k
noncomputable def isVE (v : Expr) (n : Str) : Option (Pos × Pos × Pos × Pos) := (callE v).bind fun d => (nameE d.1).bind fun b => match d.2.1 with
 | [u, t] => (nameE u).bind fun n2 => (nameE t).bind fun t2 => if d.2.2.1.isEmpty && decide (b.1 = "isinstance") && decide (n2.1 = n) && decide (t2.1 = "ValueError") then some (b.2, n2.2, t2.2, d.2.2.2) else none
 | _ => none
theorem isVE_ok {v : Expr} {n : Str} {isp np tp icpos : Pos} (h : isVE v n = some (isp, np, tp, icpos)) : v = .Call (.Name "isinstance" isp) [.Name n np, .Name "ValueError" tp] [] icpos := by
 unfold isVE at h
 simp only [Option.bind_eq_some_iff] at h
 obtain ⟨⟨d1, d2, d3, d4⟩, h4, ⟨b1, b2⟩, h5, h6⟩ := h
 dsimp only at h5 h6
 split at h6
 ·rename_i u t
  simp only [Option.bind_eq_some_iff] at h6
  obtain ⟨⟨n1, n2⟩, h7, ⟨t1, t2⟩, h8, h9⟩ := h6
  dsimp only at h9
  split at h9
  ·rename_i hc
   simp only [Bool.and_eq_true, decide_eq_true_eq] at hc
   obtain ⟨⟨⟨g2, g4⟩, g5⟩, g6⟩ := hc
   cases h9
   rw [callE_ok h4, nameE_ok h5, nameE_ok h7, nameE_ok h8, List.isEmpty_iff.mp g2, g4, g5, g6]
  ·cases h9
 ·cases h6
noncomputable def tryVP (st : Stmt) : Option ((Str × Pos × Expr × List Expr × Pos × Pos) × Str × Str) := (tryS st).bind fun q => (one q.1).bind fun b => (callN b).bind fun c => (one q.2.1).bind fun h => (handP h).1.bind fun t => (nameE t).bind fun y => (handP h).2.1.bind fun n => (one (handP h).2.2.1).bind fun s => (retS s).bind fun r => r.1.bind fun v => (isVE v n).bind fun _ =>
 if q.2.2.1.isEmpty && q.2.2.2.1.isEmpty then some (c, y.1, n) else none
theorem tryVP_ok {st : Stmt} {x y n : Str} {xp cp ep : Pos} {e : Expr} {es : List Expr} (k : tryVP st = some ((x, xp, e, es, cp, ep), y, n)) : ∃ (yp isp np tp icpos rpos hpos pos : Pos), st = .Try [.Expr (.Call (.Name x xp) (e :: es) [] cp) ep] [.ExceptHandler (some (.Name y yp)) (some n) [.Return (some (.Call (.Name "isinstance" isp) [.Name n np, .Name "ValueError" tp] [] icpos)) rpos] hpos] [] [] pos := by
 unfold tryVP at k
 simp only [Option.bind_eq_some_iff] at k
 obtain ⟨⟨q1, q2, q3, q4, q5⟩, h1, b, h2, c, h3, hh, h4, t, h5, ⟨y1, y2⟩, h6, m, h7, s, h8, ⟨r1, r2⟩, h9, v, h10, ⟨isp, np, tp, icpos⟩, h11, h12⟩ := k
 obtain ⟨t0, n0, b0, p0⟩ := hh
 dsimp only [handP] at h2 h4 h5 h7 h8 h10 h12
 split at h12
 ·rename_i he
  rw [Bool.and_eq_true] at he
  cases h12
  exact ⟨y2, isp, np, tp, icpos, r2, p0, q5, by rw [tryS_ok h1, one_ok h2, callN_ok h3, one_ok h4, h5, nameE_ok h6, h7, one_ok h8, retS_ok h9, h10, isVE_ok h11, List.isEmpty_iff.mp he.1, List.isEmpty_iff.mp he.2]⟩
 ·cases h12
noncomputable def stepTryV (T : GT) (ev : Ev) (C : SC) (st : Stmt) : Option (En → Out) := match tryVP st with
 | some ((x, xp, e, es, cp, _), y, n) => (match T.fns x, slot C n with
  | some s, some _ => if isG C x && (e :: es).all nst && isG C y && T.xs.exc y && decide (C.sc.names.lookup n = some .local) && noComp (.Call (.Name x xp) (e :: es) [] cp) && isG C "isinstance" && isG C "ValueError" then some (sTry s.f (gAL ev C s.ms (e :: es)) (kRt T y)) else none
  | _, _ => none)
 | none => none
theorem tryV_ok (h : EvOk T ev) (O : SOk X C T E) {st : Stmt} {F : En → Out} (k : stepTryV T ev C st = some F) : PuS X G0 B (ek (kx X) E) st F := by
 unfold stepTryV at k
 cases hp : tryVP st with
 | none => rw [hp] at k; cases k
 | some t =>
  obtain ⟨⟨x, xp, e, es, cp, ep⟩, y, n⟩ := t
  rw [hp] at k
  dsimp only at k
  cases e1 : T.fns x with
  | none => rw [e1] at k; cases k
  | some s =>
   cases e2 : slot C n with
   | none => rw [e1, e2] at k; cases k
   | some m =>
    rw [e1, e2] at k
    dsimp only at k
    split at k
    ·rename_i hc
     cases k
     simp only [Bool.and_eq_true, decide_eq_true_eq] at hc
     obtain ⟨⟨⟨⟨⟨⟨⟨a1, a2⟩, a3⟩, a4⟩, a5⟩, a6⟩, a7⟩, a8⟩ := hc
     obtain ⟨yp, isp, np, tp, icpos, rpos, hpos, pos, rfl⟩ := tryVP_ok hp
     exact s_tryRt h O e1 a1 a2 a3 a4 e2 a5 a6 a7 a8
    ·cases k
noncomputable def stepTryX (T : GT) (ev : Ev) (C : SC) (st : Stmt) : En → Out := match stepTryC T ev C st with
 | some F => F
 | none => (match stepTryV T ev C st with
  | some F => F
  | none => sSt)
theorem tryX_ok (h : EvOk T ev) (O : SOk X C T E) {st : Stmt} : PuS X G0 B (ek (kx X) E) st (stepTryX T ev C st) := by
 unfold stepTryX
 cases h1 : stepTryC T ev C st with
 | some F => exact tryC_ok h O h1
 | none =>
  cases h2 : stepTryV T ev C st with
  | some F => exact tryV_ok h O h2
  | none => exact s_st
end
mutual
noncomputable def dvE : Nat → GT → Expr → List Str
 | 0, _, _ => []
 | n + 1, T, e => match e with
  | .Name x _ => [x]
  | .IfExp c a b _ => dvA n T c ++ dvE n T a ++ dvE n T b
  | .BoolOp _ vs _ => vs.flatMap (dvE n T)
  | e => dvA n T e
noncomputable def dvA : Nat → GT → Expr → List Str
 | 0, _, _ => []
 | n + 1, T, e => match e with
  | .BinOp a _ b _ => dvA n T a ++ dvA n T b
  | .UnaryOp _ a _ => dvA n T a
  | .BoolOp _ vs _ => vs.flatMap (dvA n T)
  | .IfExp c a b _ => dvA n T c ++ dvE n T a ++ dvE n T b
  | .Compare l _ rs _ => dvA n T l ++ rs.flatMap (dvA n T)
  | .Tuple es _ _ => es.flatMap (dvE n T)
  | .List es _ => es.flatMap (dvE n T)
  | .Subscript a i _ => dvA n T a ++ dvA n T i
  | .ListComp elt gens _ _ => dvE n T elt ++ gens.flatMap fun g => dvA n T g.iter ++ g.ifs.flatMap (dvA n T)
  | .Call (.Name f _) args _ _ => (match T.fns f with
   | some s => (s.ms.zip args).flatMap fun p => if p.1 then dvA n T p.2 else dvE n T p.2
   | none => args.flatMap (dvA n T))
  | .Call (.Attribute o _ _) args _ _ => dvA n T o ++ args.flatMap (dvE n T)
  | _ => []
end
noncomputable def dvS (T : GT) (st : Stmt) : List Str := match st with
 | .Return (some e) _ => dvE 30 T e
 | .Assign [.Name _ _] e _ => dvE 30 T e
 | .Assign [.Subscript _ k _] e _ => dvE 30 T e ++ dvA 30 T k
 | .AugAssign _ _ e _ => dvA 30 T e
 | .Expr (.Call (.Attribute (.Name _ _) m _) args _ _) _ => if m = "extend" then args.flatMap (dvA 30 T) else args.flatMap (dvE 30 T)
 | .Expr e _ => dvA 30 T e
 | .If c _ _ _ => dvA 30 T c
 | .For _ iter _ _ _ => dvE 30 T iter
 | .Try [.Expr e _] _ _ _ _ => dvA 30 T e
 | _ => []
noncomputable def slotsOf (C : SC) (xs : List Str) : List Nat := xs.filterMap (slot C)
noncomputable def isBi (T : GT) (C : SC) (x y : Str) : Bool := decide (x = y) && decide (slot C x = none) && isG C x && (T.fns x).isNone
noncomputable def rangeArg (T : GT) (C : SC) (e : Expr) : Option Expr := match e with
 | .Call (.Name x _) [b] [] _ => if isBi T C x "range" then some b else none
 | _ => none
theorem isBi_ok {T : GT} {C : SC} {X : Cx} (O : XOk X C T E) {x y : Str} (h : isBi T C x y = true) : x = y ∧ Gl X x := by
 unfold isBi at h
 simp only [Bool.and_eq_true, decide_eq_true_eq] at h
 exact ⟨h.1.1.1, (O.gl h.1.2).1⟩
theorem rangeArg_ok {T : GT} {C : SC} {X : Cx} (O : XOk X C T E) {e b : Expr} (h : rangeArg T C e = some b) : ∃ p pos, e = .Call (.Name "range" p) [b] [] pos ∧ Gl X "range" := by
 unfold rangeArg at h
 split at h
 ·rename_i x p b' pos
  by_cases hb : isBi T C x "range" = true
  ·rw [if_pos hb] at h
   cases h
   obtain ⟨rfl, hg⟩ := isBi_ok O hb
   exact ⟨p, pos, rfl, hg⟩
  ·rw [if_neg hb] at h; cases h
 ·cases h
noncomputable def stepO (T : GT) (ev : Ev) (C : SC) (e : Expr) : Option (En → Res) := match e with
 | .List es _ => if es.all nst then some (gLst (gData ev C es)) else none
 | .Call (.Name x _) [a] [] _ => if isBi T C x "list" then (match rangeArg T C a with
  | some b => if nst b then some (gListR (gAL ev C [true] [b])) else none
  | none => if nst a then some (g1 pyListD (gAr ev C a)) else none) else none
 | .BinOp (.List es _) op b _ => if isMul op && es.all nst then some (gRep (gLst (gData ev C es)) (gAr ev C b)) else none
 | _ => none
noncomputable def stepF0 (ev : Ev) (C : SC) (e : Expr) : Option (En → ResE) := match e with
 | .Call (.Attribute (.Name x _) m ap) [k, v] [] cp => if m = "setdefault" && nst k && nst v && (ap.endLine == cp.line) then (slot C x).map fun i => gSetdef i (gAr ev C k) (ev C v) else none
 | _ => none
noncomputable def stepF (ev tv : Ev) (C : SC) (e : Expr) : Option (En → ResE) := match e with
 | .IfExp c a b _ => (match stepF0 ev C a, stepF0 ev C b with
  | some f, none => some (gIfE (tv C c) f (gPure (ev C b)))
  | none, some f => some (gIfE (tv C c) (gPure (ev C a)) f)
  | some f, some f' => some (gIfE (tv C c) f f')
  | none, none => none)
 | e => stepF0 ev C e
noncomputable def stepFT (ev : Ev) (C : SC) (e : Expr) : Option (En → ResE) := match e with
 | .Compare l [op] [r] _ => (match stepF0 ev C l, cmpP op with
  | some f, some p => if noSet r then some (gCmpE p f (gAr ev C r)) else none
  | _, _ => none)
 | _ => none
section
variable {T : GT} {ev tv : Ev} {X : Cx} {C : SC} {G0 B : Hp} {E : XK}
theorem f0_ok (h : EvOk T ev) (O : XOk X C T E) {e : Expr} {f : En → ResE} (hf : stepF0 ev C e = some f) : EfE X G0 B (ek (kx X) E) e f := by
 unfold stepF0 at hf
 split at hf
 ·rename_i x p m ap k v cp
  by_cases hc : (decide (m = "setdefault") && nst k && nst v && (ap.endLine == cp.line)) = true
  ·rw [if_pos hc] at hf
   simp only [Bool.and_eq_true, decide_eq_true_eq] at hc
   obtain ⟨⟨⟨rfl, h2⟩, h3⟩, h4⟩ := hc
   cases hs : slot C x with
   | none => rw [hs] at hf; cases hf
   | some i =>
    rw [hs] at hf
    cases hf
    dsimp only
    exact ef_setdef (O.var hs) (ar_ok h O k) (h X C B E v O) h2 h3 h4
  ·rw [if_neg hc] at hf; cases hf
 ·cases hf
theorem f_ok (h : EvOk T ev) (ht : TvOk T tv) (O : XOk X C T E) {e : Expr} {f : En → ResE} (hf : stepF ev tv C e = some f) : EfE X G0 B (ek (kx X) E) e f := by
 unfold stepF at hf
 split at hf
 ·rename_i c a b p
  cases h1 : stepF0 ev C a with
  | none =>
   cases h2 : stepF0 ev C b with
   | none => rw [h1, h2] at hf; cases hf
   | some f' => rw [h1, h2] at hf; cases hf; exact ef_if (ht X C B E c O) (ef_pure (h X C B E a O)) (f0_ok h O h2)
  | some f' =>
   cases h2 : stepF0 ev C b with
   | none => rw [h1, h2] at hf; cases hf; exact ef_if (ht X C B E c O) (f0_ok h O h1) (ef_pure (h X C B E b O))
   | some f'' => rw [h1, h2] at hf; cases hf; exact ef_if (ht X C B E c O) (f0_ok h O h1) (f0_ok h O h2)
 ·exact f0_ok h O hf
theorem ft_ok (h : EvOk T ev) (O : XOk X C T E) {e : Expr} {f : En → ResE} (hf : stepFT ev C e = some f) : EfT X G0 B (ek (kx X) E) e f := by
 unfold stepFT at hf
 split at hf
 ·rename_i l op r p
  cases h1 : stepF0 ev C l with
  | none => rw [h1] at hf; cases hf
  | some f' =>
   cases h2 : cmpP op with
   | none => rw [h1, h2] at hf; cases hf
   | some q =>
    rw [h1, h2] at hf
    dsimp only at hf
    by_cases hs : noSet r = true
    ·rw [if_pos hs] at hf
     cases hf
     obtain ⟨rr, g1, g2, g3⟩ := cmpP_ok (X := X) h2 O.units
     exact et_cmp g1 g2 g3 (f0_ok h O h1) (ar_ok h O r) (noSet_marks hs)
    ·rw [if_neg hs] at hf; cases hf
 ·cases hf
end
noncomputable def stepAsg (T : GT) (ev tv : Ev) (C : SC) (x : Str) (e : Expr) : En → Out := match lslot C x with
 | none => sSt
 | some i => (match e with
  | .Dict ks vs _ => (match ks, vs with
   | [], [] => sSetD i
   | _, _ => sSt)
  | .ListComp elt gens scope _ => sSetO i (stepComp ev tv C elt gens scope)
  | e => (match stepO T ev C e with
   | some g => if noComp e then sSetO i g else sSt
   | none => if noComp e then (match stepF ev tv C e with
    | some f => sSetE i f
    | none => sSet i (ev C e)) else sSt))
noncomputable def stepMS (ev : Ev) (C : SC) (x m : Str) (args : List Expr) : En → Out := match slot C x, args with
 | some i, [a] => if m = "append" then (if nst a then sApp i (ev C a) else sSt)
  else if m = "extend" then (if nst a then sExt i (gAr ev C a) else sSt)
  else if m = "remove" then (if nst a then sRem i (gAr ev C a) else sSt) else sSt
 | _, _ => sSt
noncomputable def fz (is : List Nat) (F : En → Out) : En → Out := fun δ => F (frzs is δ)
noncomputable def isOw (i : Nat) (δ : En) : Bool := match δ[i]? with
 | some (.ow _) => true
 | _ => false
noncomputable abbrev Bv := SC → List Stmt → En → Out
noncomputable def stepS0 (T : GT) (ev tv : Ev) (bv : Bv) (C : SC) (st : Stmt) : En → Out := match st with
 | .Return o _ => (match o with
  | some e => sRet (ev C e)
  | none => sRetN)
 | .Assign tgs e _ => (match tgs with
  | [.Name x _] => stepAsg T ev tv C x e
  | [.Subscript (.Name x _) k _] => (match slot C x with
   | some i => if plainI k then (fun δ => if isOw i δ then sLput i (gAr ev C k) (ev C e) δ else sDput i (gAr ev C k) (ev C e) δ) else sSt
   | none => sSt)
  | _ => sSt)
 | .AugAssign tg op e _ => (match tg, op with
  | .Name x _, .Add => (match lslot C x with
   | some i => sAug i (fun a b => a + b) (ev C e)
   | none => sSt)
  | .Name x _, .Sub => (match lslot C x with
   | some i => sAug i (fun a b => a - b) (ev C e)
   | none => sSt)
  | _, _ => sSt)
 | .Expr e _ => (match e with
  | .Constant (.str _) _ _ => sPass
  | .Call (.Attribute (.Name x xp) m ap) args kws cp => (match kws with
   | [] => if ap.endLine == cp.line then (match stepF0 ev C (.Call (.Attribute (.Name x xp) m ap) args [] cp) with
    | some f => sDropE f
    | none => stepMS ev C x m args) else sSt
   | _ => sSt)
  | e => if noComp e then sDrop (ev C e) else sSt)
 | .If c a b _ => (match stepFT ev C c with
  | some f => sIfE f (bv C a) (bv C b)
  | none => sIf (tv C c) (bv C a) (bv C b))
 | .For tg iter body els _ => (match els, tgOf C tg with
  | [], some f => if noSet iter then sFor f (stepIt ev C tg iter) (bv C body) else sSt
  | _, _ => sSt)
 | .While c body els _ => (match els with
  | [] => sWh (tv C c) (bv C body)
  | _ => sSt)
 | .Pass _ => sPass
 | .Break _ => sBreak
 | .Continue _ => sCont
 | .Raise exc cause rp => stepRaise T ev C (.Raise exc cause rp)
 | .Try body hs els fin tp => stepTryX T ev C (.Try body hs els fin tp)
 | _ => sSt
noncomputable def stepS (T : GT) (ev tv : Ev) (bv : Bv) (C : SC) (st : Stmt) : En → Out := fz (slotsOf C (dvS T st)) (stepS0 T ev tv bv C st)
noncomputable def seqAll (f : Stmt → En → Out) : List Stmt → En → Out
 | [] => sNil
 | [s] => f s
 | s :: r => sSeq (f s) (seqAll f r)
noncomputable def BvOk (T : GT) (bv : Bv) : Prop := ∀ X C G0 B (E : XK) ss, SOk X C T E → PuSs X G0 B (ek (kx X) E) ss (bv C ss)
section
variable {T : GT} {ev tv : Ev} {bv : Bv} {X : Cx} {C : SC} {G0 B : Hp} {E : XK} {pos pos' : Pos}
theorem ow_of (h : EvOk T ev) (O : XOk X C T E) {e : Expr} {g : En → Res} (hg : stepO T ev C e = some g) : OwE X B (ek (kx X) E) e g := by
 unfold stepO at hg
 split at hg
 ·rename_i es _
  by_cases hn : es.all nst = true
  ·rw [if_pos hn] at hg; cases hg; exact ow_lst allF_map (data_ok h O hn)
  ·rw [if_neg hn] at hg; cases hg
 ·rename_i x p a pos
  by_cases hb : isBi T C x "list" = true
  ·rw [if_pos hb] at hg
   obtain ⟨rfl, hgl⟩ := isBi_ok O hb
   cases hr : rangeArg T C a with
   | some b =>
    rw [hr] at hg
    dsimp only at hg
    by_cases hn : nst b = true
    ·rw [if_pos hn] at hg
     cases hg
     obtain ⟨p2, pos2, rfl, hg2⟩ := rangeArg_ok O hr
     exact ow_listR O.calm hgl (O.bl _ (by decide)) hg2 (O.bl _ (by decide)) (aL_ok h O (by rw [List.all_cons, hn]; rfl)) hn
    ·rw [if_neg hn] at hg; cases hg
   | none =>
    rw [hr] at hg
    dsimp only at hg
    by_cases hn : nst a = true
    ·rw [if_pos hn] at hg
     cases hg
     exact ow_listD O.calm hgl (O.bl _ (by decide)) (ar_ok h O a) hn
    ·rw [if_neg hn] at hg; cases hg
  ·rw [if_neg hb] at hg; cases hg
 ·rename_i es p op b pos
  by_cases hc : (isMul op && es.all nst) = true
  ·rw [if_pos hc] at hg
   cases hg
   rw [Bool.and_eq_true] at hc
   have : op = .Mult := by cases op <;> first | rfl | (cases hc.1)
   subst this
   exact ow_rep (ow_lst allF_map (data_ok h O hc.2)) isL_lst (ar_ok h O b)
  ·rw [if_neg hc] at hg; cases hg
 ·cases hg
theorem asg_ok (h : EvOk T ev) (ht : TvOk T tv) (O : SOk X C T E) {x : Str} {e : Expr} : PuS X G0 B (ek (kx X) E) (.Assign [.Name x pos'] e pos) (stepAsg T ev tv C x e) := by
 unfold stepAsg
 cases hs : lslot C x with
 | none => exact s_st
 | some i =>
  dsimp only
  have gen : PuS X G0 B (ek (kx X) E) (.Assign [.Name x pos'] e pos) (match stepO T ev C e with
   | some g => if noComp e then sSetO i g else sSt
   | none => if noComp e then (match stepF ev tv C e with
    | some f => sSetE i f
    | none => sSet i (ev C e)) else sSt) := by
   cases ho : stepO T ev C e with
   | none =>
    dsimp only
    by_cases hn : noComp e = true
    ·rw [if_pos hn]
     cases hf : stepF ev tv C e with
     | none =>
      have he := h X C B E e O.toXOk
      exact s_set he (O.st hs he (noComp_swaps hn))
     | some f =>
      have he : EfE X G0 B (ek (kx X) E) e f := f_ok h ht O.toXOk hf
      exact s_setE (O.st hs he (noComp_swaps hn))
    ·rw [if_neg hn]; exact s_st
   | some g =>
    dsimp only
    by_cases hn : noComp e = true
    ·rw [if_pos hn]
     have he : OwE X B (ek (kx X) E) e g := ow_of h O.toXOk ho
     exact s_setO he (O.st hs he (noComp_swaps hn))
    ·rw [if_neg hn]; exact s_st
  cases e with
  | Dict ks vs p =>
   cases ks with
   | nil =>
    cases vs with
    | nil =>
     dsimp only
     exact s_setD (O.st hs pe_dnewK (noComp_swaps rfl))
    | cons _ _ => exact s_st
   | cons _ _ => exact s_st
  | ListComp elt gens scope lp =>
   have hw := comp_ok' (X := X) (B := B) (E := E) (pos := lp) (elt := elt) (gens := gens) (scope := scope) h ht O.toXOk
   have sw : ∃ b, swapsWith (.ListComp elt gens scope lp) (some (.Name x pos')) pos.line X.env = pure b := ⟨_, rfl⟩
   obtain ⟨b, sw⟩ := sw
   cases b with
   | false => exact s_setO hw.1 (O.st hs hw.1 sw)
   | true =>
    show PuS X G0 B _ _ (sSetO i (stepComp ev tv C elt gens scope))
    unfold stepComp
    have bad : PuS X G0 B (ek (kx X) E) (.Assign [.Name x pos'] (.ListComp elt gens scope lp) pos) (sSetO i gSt) := fun pins s σ H D I ⟨G, δ, R, ex, q⟩ => q.elim
    obtain ⟨l1, l2, l3⟩ := lslot_ok hs
    have hy : X.N[i]? = some x := by rw [O.n]; exact l1
    have hl : L2.Loc X.env.scope x := by rw [O.s]; exact isLoc_ok l2
    have hN : X.N.Nodup := by rw [O.n]; exact O.nd
    split
    ·rename_i z px iter ifs
     by_cases hc : (compOk C scope z && noSet iter) = true
     ·rw [if_pos hc]
      rw [Bool.and_eq_true] at hc
      obtain ⟨hc, hset⟩ := hc
      clear hw
      cases hx : slots C (freeN scope.names) with
      | none => exact bad
      | some ix =>
       dsimp only
       cases ifs with
       | nil =>
        intro pins s σ H D I q
        obtain ⟨cl, O2⟩ := comp_static O.toXOk I.ok hc hx
        exact s_setC (E := ek (kx X) E) O2 O.calm ⟨.inl ⟨rfl, rfl⟩, fun Cc s₀ H₀ ex pn => h _ _ B E0 elt (comp_xok O.toXOk hc Cc s₀ H₀ ex pn)⟩ (ic_ok h O.toXOk iter) hN hy hl (O.fn x l3) (noSet_iter hset) sw pins s σ H D I q
       | cons c r =>
        cases r with
        | nil =>
         intro pins s σ H D I q
         obtain ⟨cl, O2⟩ := comp_static O.toXOk I.ok hc hx
         exact s_setC (E := ek (kx X) E) O2 O.calm ⟨.inr ⟨c, rfl, fun Cc s₀ H₀ ex pn => ht _ _ B E0 c (comp_xok O.toXOk hc Cc s₀ H₀ ex pn)⟩, fun Cc s₀ H₀ ex pn => h _ _ B E0 elt (comp_xok O.toXOk hc Cc s₀ H₀ ex pn)⟩ (ic_ok h O.toXOk iter) hN hy hl (O.fn x l3) (noSet_iter hset) sw pins s σ H D I q
        | cons _ _ => exact bad
     ·rw [if_neg hc]; exact bad
    ·exact bad
  | _ => exact gen
theorem few_one {a : Expr} {env : Env} {cpos : Pos} (hn : nst a = true) : ((backTo cpos (starEach [a] env)).all (fun x => !x.1) && (backToKw cpos (keywordEach [] env)).all (fun x => x.1.isSome)
   && decide (([a] : List Expr).length + ([] : List Keyword).length + (if ([] : List Keyword).isEmpty then 0 else 1) < 30)) = true := by
 rw [star_all (by rw [List.all_cons, hn]; rfl)]; rfl
theorem ms_ok (h : EvOk T ev) (O : SOk X C T E) {x m : Str} {p ap cp : Pos} {args : List Expr} (hl : (ap.endLine == cp.line) = true) : PuS X G0 B (ek (kx X) E) (.Expr (.Call (.Attribute (.Name x p) m ap) args [] cp) pos) (stepMS ev C x m args) := by
 unfold stepMS
 split
 ·rename_i i a hs
  by_cases hm : m = "append"
  ·subst hm
   rw [if_pos rfl]
   by_cases hn : nst a = true
   ·rw [if_pos hn]
    exact s_append (O.var hs) (h X C B E a O.toXOk) rfl (few_one hn) hl (star_cons hn) rfl rfl
   ·rw [if_neg hn]; exact s_st
  ·rw [if_neg hm]
   by_cases hm : m = "extend"
   ·subst hm
    rw [if_pos rfl]
    by_cases hn : nst a = true
    ·rw [if_pos hn]
     exact s_extend (O.var hs) (ar_ok h O.toXOk a) rfl (few_one hn) hl (star_cons hn) rfl rfl
    ·rw [if_neg hn]; exact s_st
   ·rw [if_neg hm]
    by_cases hm : m = "remove"
    ·subst hm
     rw [if_pos rfl]
     by_cases hn : nst a = true
     ·rw [if_pos hn]; exact s_remove (O.var hs) (ar_ok h O.toXOk a) hn hl
     ·rw [if_neg hn]; exact s_st
    ·rw [if_neg hm]; exact s_st
 ·exact s_st
theorem s0_ok (h : EvOk T ev) (ht : TvOk T tv) (hb : BvOk T bv) (O : SOk X C T E) {st : Stmt} : PuS X G0 B (ek (kx X) E) st (stepS0 T ev tv bv C st) := by
 have hu : X.A.units + 1 < cLine := by have := O.units; omega
 cases st with
 | Return o p =>
  cases o with
  | none => exact s_retN
  | some e => exact s_ret (h X C B E e O.toXOk)
 | Assign tgs e p =>
  show PuS X G0 B _ _ (match tgs with
   | [.Name x _] => stepAsg T ev tv C x e
   | [.Subscript (.Name x _) k _] => (match slot C x with
    | some i => if plainI k then (fun δ => if isOw i δ then sLput i (gAr ev C k) (ev C e) δ else sDput i (gAr ev C k) (ev C e) δ) else sSt
    | none => sSt)
   | _ => sSt)
  split
  ·exact asg_ok h ht O
  ·rename_i x _ k _
   cases hs : slot C x with
   | none => exact s_st
   | some i =>
    dsimp only
    by_cases hp : plainI k = true
    ·rw [if_pos hp]
     exact s_cases (isOw i) (s_lput (O.var hs) (ar_ok h O.toXOk k) (h X C B E e O.toXOk) hp) (s_dput hu (O.var hs) (ar_ok h O.toXOk k) (h X C B E e O.toXOk) swaps_sub)
    ·rw [if_neg hp]; exact s_st
  ·exact s_st
 | AugAssign tg op e p =>
  show PuS X G0 B _ _ (match tg, op with
   | .Name x _, .Add => (match lslot C x with
    | some i => sAug i (fun a b => a + b) (ev C e)
    | none => sSt)
   | .Name x _, .Sub => (match lslot C x with
    | some i => sAug i (fun a b => a - b) (ev C e)
    | none => sSt)
   | _, _ => sSt)
  split
  ·rename_i x _
   cases hs : lslot C x with
   | none => exact s_st
   | some i =>
    obtain ⟨l1, l2, l3⟩ := lslot_ok hs
    exact s_aug (ps_aug (by rw [O.n]; exact O.nd) (by rw [O.n]; exact l1) (by rw [O.s]; exact isLoc_ok l2) (h X C B E e O.toXOk) ip_add (.inl (O.fn x l3)))
  ·rename_i x _
   cases hs : lslot C x with
   | none => exact s_st
   | some i =>
    obtain ⟨l1, l2, l3⟩ := lslot_ok hs
    exact s_aug (ps_aug (by rw [O.n]; exact O.nd) (by rw [O.n]; exact l1) (by rw [O.s]; exact isLoc_ok l2) (h X C B E e O.toXOk) ip_sub (.inl (O.fn x l3)))
  ·exact s_st
 | Expr e p =>
  show PuS X G0 B _ _ (match e with
   | .Constant (.str _) _ _ => sPass
   | .Call (.Attribute (.Name x xp) m ap) args kws cp => (match kws with
    | [] => if ap.endLine == cp.line then (match stepF0 ev C (.Call (.Attribute (.Name x xp) m ap) args [] cp) with
     | some f => sDropE f
     | none => stepMS ev C x m args) else sSt
    | _ => sSt)
   | e => if noComp e then sDrop (ev C e) else sSt)
  split
  ·exact s_doc
  ·rename_i x _ m ap args kws cp
   cases kws with
   | nil =>
    dsimp only
    by_cases hl : (ap.endLine == cp.line) = true
    ·rw [if_pos hl]
     cases hf : stepF0 ev C _ with
     | none => exact ms_ok h O hl
     | some f => exact s_dropE (f0_ok h O.toXOk hf) rfl
    ·rw [if_neg hl]; exact s_st
   | cons _ _ => exact s_st
  ·by_cases hn : noComp e = true
   ·rw [if_pos hn]; exact s_drop (h X C B E e O.toXOk) (noComp_swaps hn)
   ·rw [if_neg hn]; exact s_st
 | If c a b p =>
  show PuS X G0 B _ _ (match stepFT ev C c with
   | some f => sIfE f (bv C a) (bv C b)
   | none => sIf (tv C c) (bv C a) (bv C b))
  cases hf : stepFT ev C c with
  | none => exact s_if (ht X C B E c O.toXOk) (hb X C G0 B E a O) (hb X C G0 B E b O)
  | some f => exact s_ifE (ft_ok h O.toXOk hf) (hb X C G0 B E a O) (hb X C G0 B E b O)
 | For tg iter body els p =>
  show PuS X G0 B _ _ (match els, tgOf C tg with
   | [], some f => if noSet iter then sFor f (stepIt ev C tg iter) (bv C body) else sSt
   | _, _ => sSt)
  cases els with
  | cons _ _ => exact s_st
  | nil =>
   cases hf : tgOf C tg with
   | none => exact s_st
   | some f =>
    dsimp only
    by_cases hn : noSet iter = true
    ·rw [if_pos hn]
     obtain ⟨gl, G⟩ := tgOf_ok (B := B) O hf
     exact s_for O.pass O.calm (it_ok h O.toXOk iter) G (hb X C G0 B E body O) (noSet_iter hn)
    ·rw [if_neg hn]; exact s_st
 | While c body els p =>
  cases els with
  | cons _ _ => exact s_st
  | nil => exact s_while O.pass (ht X C B E c O.toXOk) (hb X C G0 B E body O)
 | Pass p => exact s_pass
 | Break p => exact s_break
 | Continue p => exact s_cont
 | Raise exc cause p => exact raise_ok h O.toXOk
 | Try body hs els fin p => exact tryX_ok h O
 | _ => exact s_st
theorem stepS_ok (h : EvOk T ev) (ht : TvOk T tv) (hb : BvOk T bv) (O : SOk X C T E) {st : Stmt} : PuS X G0 B (ek (kx X) E) st (stepS T ev tv bv C st) := s_frz _ (s0_ok h ht hb O)
theorem seq_ok {f : Stmt → En → Out} {E : EK} (h : ∀ st, PuS X G0 B E st (f st)) : ∀ {ss : List Stmt}, PuSs X G0 B E ss (seqAll f ss)
 | [] => ss_nil
 | [s] => ss_one (h s)
 | s :: t :: r => ss_cons (h s) (seq_ok h (ss := t :: r))
end
noncomputable def eFuel : Nat := 40
noncomputable def gB (T : GT) : Nat → Bv
 | 0 => fun _ _ => sSt
 | n + 1 => fun C ss => seqAll (stepS T (gP T eFuel false) (gP T eFuel true) (gB T n) C) ss
theorem ss_st {X : Cx} {G0 B : Hp} {E : EK} {ss : List Stmt} : PuSs X G0 B E ss sSt := fun pins s σ H D I ⟨G, δ, R, x, q⟩ => q.elim
theorem gB_ok (T : GT) : ∀ n, BvOk T (gB T n)
 | 0 => fun X C G0 B E ss O => ss_st
 | n + 1 => fun X C G0 B E ss O => seq_ok fun st => stepS_ok (gP_ok T eFuel).1 (gP_ok T eFuel).2 (gB_ok T n) O
noncomputable def oneArg (p : Arguments) : Option Str := if p.posonlyargs.isEmpty && p.vararg.isNone && p.kwonlyargs.isEmpty && p.kw_defaults.isEmpty && p.kwarg.isNone && p.defaults.isEmpty then (match p.args with
 | [a] => some a.arg
 | _ => none) else none
theorem oneArg_ok {p : Arguments} {x : Str} (h : oneArg p = some x) : ∃ a : PySem.Arg, a.arg = x ∧ p = ⟨[], [a], none, [], [], none, []⟩ := by
 obtain ⟨a1, a2, a3, a4, a5, a6, a7⟩ := p
 unfold oneArg at h
 split at h
 ·rename_i c
  simp only [Bool.and_eq_true, List.isEmpty_iff, Option.isNone_iff_eq_none] at c
  obtain ⟨⟨⟨⟨⟨rfl, rfl⟩, rfl⟩, rfl⟩, rfl⟩, rfl⟩ := c
  split at h
  ·rename_i a e
   cases h
   exact ⟨a, rfl, by cases e; rfl⟩
  ·cases h
 ·cases h
theorem bind_one (name qual : Str) (a : PySem.Arg) (body : Expr) (scope : Scope) (cl : List (Str × Addr)) (pm cdv ct u : Value) : bindArgs (PySem.W.kla_fn name qual ⟨[], [a], none, [], [], none, []⟩ body scope cl pm cdv ct) ⟨[u], []⟩ = pure [(a.arg, u)] := by
 unfold bindArgs
 have e : seqItems? Value.none = pure none := rfl
 simp [e, List.lookup]
noncomputable def lamSC (x : Str) (scope : Scope) : SC := ⟨x :: freeN scope.names, scope, [], false⟩
noncomputable def lamRunOk (x : Str) (scope : Scope) : Bool := decide (scope.kind = .function) && decide (scope.isCoroutine = false) && decide (scope.isGenerator = false) && (scope.names.all fun y => decide (y.2 ≠ .cell)) && decide (scope.names.lookup x = some .local) && decide ((x :: freeN scope.names).Nodup) && (freeN scope.names).all fun y => decide (scope.names.lookup y = some .free)
noncomputable def lamE (T : GT) (n : Nat) (x : Str) (scope : Scope) (body : Expr) (fs : List (Str × D)) (d : D) : Res := gP T n false (lamSC x scope) body (.pu d :: fs.map fun p => .pu p.2)
noncomputable def lamF (T : GT) (n : Nat) (e : Expr) (fs : List (Str × D)) (ds : List D) : Res := match e with
 | .Lambda p body scope _ => (match oneArg p with
  | some x => (match ds with
   | [d] => if lamRunOk x scope && decide (fs.map (·.1) = freeN scope.names) then lamE T n x scope body fs d else .st
   | _ => .st)
  | none => .st)
 | _ => .st
theorem lamF_ok {T : GT} {n : Nat} {e : Expr} {fs : List (Str × D)} {ds : List D} {d : D} (h : lamF T n e fs ds = .ok d) : ∃ p body scope pos x d0, e = .Lambda p body scope pos ∧ oneArg p = some x ∧ ds = [d0] ∧ lamRunOk x scope = true ∧ fs.map (·.1) = freeN scope.names ∧ lamE T n x scope body fs d0 = .ok d := by
 unfold lamF at h
 split at h
 ·rename_i p body scope pos
  split at h
  ·rename_i x hx
   split at h
   ·rename_i d0
    split at h
    ·rename_i c
     rw [Bool.and_eq_true, decide_eq_true_eq] at c
     exact ⟨p, body, scope, pos, x, d0, rfl, hx, rfl, c.1, c.2, h⟩
    ·cases h
   ·cases h
  ·cases h
 ·cases h
structure TabIs (P : Program) (w : World) (K : PySem.W.Frag) (mg : Str → Option Value) (base : Heap) (T : GT) (k : Nat) : Prop where
 fns : ∀ x s, T.fns x = some s → ∃ f fd ps, mg x = some (.ref f) ∧ PySem.W.keepIn K (.ref f) = true ∧ Binds K fd ps [] ∧ FnOk P w K mg base (CXe P w) k f fd ps (spPu ⟨K, adr mg⟩ s.ms s.f)
 gstr : ∀ x y, T.gstr x = some y → ∃ t, mg x = some (.str y t)
 bl : ∀ x ∈ bnames, mg x = none
 exc : ∀ x, T.xs.exc x = true → ∃ C bm newId, mg x = some (.ref C) ∧ PySem.W.excIn K C bm newId = true ∧ ExBase bm newId
 sub : ∀ c y, T.xs.sub c y = true → ∃ Cy, mg y = some (.ref Cy) ∧ PySem.W.exmOne K (.ref (adr mg c)) (.ref Cy) = some true
 ve : ∀ c, T.xs.ve c = true → PySem.W.kitCls K (.ref (adr mg c)) (.type "ValueError") = some true
 nsub : ∀ c y, T.xs.nsub c y = true → ∃ Cy, mg y = some (.ref Cy) ∧ PySem.W.exmOne K (.ref (adr mg c)) (.ref Cy) = some false
 lams : ∀ e fs ds d, T.lam e fs ds = .ok d → LamRun P w K mg base k e fs ds d
theorem Room.u65 {k : Nat} {A : Around} (r : Room k A) : A.units + 65 < cLine := by have := r.un; omega
theorem TabIs.xok {X : Cx} {T : GT} {k : Nat} {C : SC} {E : XK} (t : TabIs X.prog X.w X.K X.mg X.base T k) (hr : Room k X.A) (n : X.N = C.N) (s : X.env.scope = C.sc) (nd : C.N.Nodup) (calm : X.calm = true) (goes : Passes (CXe X.prog X.w) X E) (lamc : C.lam = true → LamCx X) : XOk X C T E :=
 ⟨n, s, nd, calm, Room.u65 hr, fun x s h => by
  obtain ⟨f, fd, ps, h1, h2, h3, h4⟩ := t.fns x s h
  exact ⟨k, f, fd, ps, hr, h1, h2, h3, h4⟩, t.gstr, t.bl, t.exc, t.sub, t.ve, t.nsub, goes, lamc, fun e fs ds d h => ⟨k, hr, t.lams e fs ds d h⟩⟩
noncomputable def cxLam (P : Program) (w : World) (K : PySem.W.Frag) (mg : Str → Option Value) (base : Heap) (x : Str) (qual : Str) (scope : Scope) (f : Addr) (cd : Value) (cl : List (Str × Addr)) (A : Around) (outer : List Env) (s : Shared) (H : Hp) : Cx where
 prog := P
 w := w
 K := K
 mg := mg
 base := base
 A := A.deeper (PySem.W.envX qual scope s.heap.objs.size f cd cl)
 N := x :: freeN scope.names
 s₀ := s
 H₀ := H
 env := PySem.W.envX qual scope s.heap.objs.size f cd cl
 outer := outer
 stack := PySem.W.envX qual scope s.heap.objs.size f cd cl :: outer
 ex := []
 calm := true
 fn := fun y => decide (y = x)
 pn := []
 xe := fun _ _ => False
theorem DenF.len {K : KA} {G : Hp} : ∀ {fs : List (Str × D)} {vs : List (Str × V)}, DenF K G fs vs → fs.length = vs.length ∧ fs.map (·.1) = vs.map (·.1)
 | [], _, h => by rw [show _ = [] from h]; exact ⟨rfl, rfl⟩
 | (n, d) :: fs, _, ⟨v, r, h1, _, h3⟩ => by
  subst h1
  obtain ⟨q1, q2⟩ := DenF.len h3
  exact ⟨by rw [List.length_cons, List.length_cons, q1], by rw [List.map_cons, List.map_cons, q2]⟩
theorem DenF.get {K : KA} {G : Hp} : ∀ {fs : List (Str × D)} {vs : List (Str × V)} {i : Nat} {p : Str × D}, DenF K G fs vs → fs[i]? = some p → ∃ v, vs[i]? = some (p.1, v) ∧ Den K G p.2 v
 | [], _, _, _, _, e => by simp at e
 | (n, d) :: fs, _, 0, p, ⟨v, r, h1, h2, _⟩, e => by
  subst h1; simp at e; subst e; exact ⟨v, rfl, h2⟩
 | (n, d) :: fs, _, i + 1, p, ⟨v, r, h1, _, h3⟩, e => by
  subst h1
  obtain ⟨v', q1, q2⟩ := DenF.get (i := i) h3 (by simpa using e)
  exact ⟨v', by simpa using q1, q2⟩
theorem nodup_fst {α β : Type} : ∀ {l : List (α × β)} {y : α} {u v : β}, (l.map (·.1)).Nodup → (y, u) ∈ l → (y, v) ∈ l → u = v
 | [], _, _, _, _, h, _ => by simp at h
 | (a, b) :: r, y, u, v, nd, h1, h2 => by
  rw [List.map_cons, List.nodup_cons] at nd
  rcases List.mem_cons.mp h1 with e1 | h1
  ·cases e1
   rcases List.mem_cons.mp h2 with e2 | h2
   ·cases e2; rfl
   ·exact absurd (List.mem_map.mpr ⟨_, h2, rfl⟩) nd.1
  ·rcases List.mem_cons.mp h2 with e2 | h2
   ·cases e2; exact absurd (List.mem_map.mpr ⟨_, h1, rfl⟩) nd.1
   ·exact nodup_fst nd.2 h1 h2
section
variable {P : Program} {w : World} {K : PySem.W.Frag} {mg : Str → Option Value} {base : Heap} {T : GT} {k n : Nat}
theorem lam_run (t : TabIs P w K mg base T k) {e : Expr} {fs : List (Str × D)} {ds : List D} {d : D} (h : lamF T n e fs ds = .ok d) : LamRun P w K mg base (k + 1) e fs ds d := by
 intro A outer s H G a us vs Q hr e0 gb sg dn dl rv q
 obtain ⟨params, body, scope, pos, x, d0, rfl, hx, rfl, hok, hfs, hg⟩ := lamF_ok h
 obtain ⟨ag, rfl, rfl⟩ := oneArg_ok hx
 unfold lamRunOk at hok
 simp only [Bool.and_eq_true, decide_eq_true_eq] at hok
 obtain ⟨⟨⟨⟨⟨⟨o1, o2⟩, o3⟩, o4⟩, o5⟩, o6⟩, o7⟩ := hok
 have hcell : ∀ y ∈ scope.names, y.2 ≠ NameKind.cell := fun y hy => of_decide_eq_true (List.all_eq_true.mp o4 y hy)
 obtain ⟨a', cvs, ea, la, df⟩ := dn
 cases ea
 obtain ⟨qual, pm, c', ctv, cl, oc, cvs', tk, h1, h2, h3, h4, inj, all, frm, cells, dm⟩ := la
 obtain ⟨v0, vr, rfl, dn0, rfl⟩ := dl
 obtain ⟨u0, ur, rfl, r0, rr⟩ : ∃ u0 ur, us = u0 :: ur ∧ RelV v0 u0 ∧ Vals [] ur := by
  cases rv with
  | cons r t => exact ⟨_, _, rfl, r, t⟩
 cases rr
 obtain ⟨ho, _⟩ := e0.hok a _ (sg _ _ h1)
 obtain ⟨hoc, _⟩ := e0.hok c' _ (sg _ _ h2)
 have lim : s.heap.NoLimit := e0.mod.nolimit.keeps fun b o e => (e0.bs b o e).1
 have fresh : H s.heap.objs.size = none := e0.hok.fresh (Nat.le_refl _)
 refine PySem.W.kla_callFunE hr.depth ho rfl o2 o3 rfl ⟨c', oc, cvs', tk, rfl, hoc, h3, h4⟩ ?_
 rw [bind_one]
 refine wpAny_pure (wpAny_newFunctionEnv hcell (fun y hy => ?_) (fun h₁ hns hsb => ⟨lim.fresh _ hsb, ?_⟩) o1)
 ·obtain rfl : y = (ag.arg, u0) := by simpa using hy
  exact o5
 show codeAny _ _ (.expr body (PySem.W.envX qual scope s.heap.objs.size a (.ref c') cl)) _ _
 have hk₁ : ∀ b o, s.heap.get? b = some o → h₁.get? b = some o := fun b o e => hsb.extBut b o (Nat.ne_of_lt (Heap.lt_size e)) (Heap.get?_push_of_some _ e)
 have clc : ∀ y c, cl.lookup y = some c → ∃ o v u, H c = some (.frz o (.own 0)) ∧ s.heap.get? c = some o ∧ o.data = .cell (some u) ∧ (y, v) ∈ cvs ∧ RelV v u := fun y c hc => by
  obtain ⟨o, v, u, z1, z2, z3, z4⟩ := cells y c hc
  obtain ⟨z5, _⟩ := e0.hok c _ (sg _ _ z1)
  exact ⟨o, v, u, sg _ _ z1, z5, z2, z3, z4⟩
 have noA : ∀ b : Addr, b ∉ (cxLam P w K mg base ag.arg qual scope a (.ref c') cl A outer s H).ex := fun b z => absurd (show b ∈ ([] : List Addr) from z) (by simp)
 have nfree : ∀ y c, cl.lookup y = some c → y ≠ ag.arg := fun y c hc z => by
  have := freeN_mem.mp (frm y c hc)
  rw [z] at this
  exact (List.nodup_cons.mp o6).1 this
 have I : Inv (cxLam P w K mg base ag.arg qual scope a (.ref c') cl A outer s H) [] (some v0 :: cvs.map fun p => some p.2) H { s with heap := h₁, toks := s.toks + 1 } := by
  refine ⟨⟨e0.mod, o1, rfl, rfl, Nat.le_refl _, inj, fun y hy => ?_, fun y c hy hc => ?_, fun _ => hr.hd, Around.frames_deeper e0.frames, .inr ⟨rfl, rfl⟩, fun b z => absurd z (noA b), e0.bs, e0.bsz, fun b _ _ => noA b, fun b z => absurd z (noA b), e0.funs, e0.frf⟩,
   rfl, e0.bare, Un.kept hk₁, ⟨_, hns, fun i y v g1 g2 g3 => ?_⟩, fun y c hc => ?_, fresh, fun y c hc => ?_, fun p hp => absurd (show p ∈ ([] : List (Addr × Obj)) from hp) (by simp), e0.hok.kept hk₁, ?_⟩
  ·have hy : scope.names.lookup y = some .cell ∨ scope.names.lookup y = some .free := hy
   rcases hy with hy | hy
   ·exact absurd rfl (hcell _ (PySem.mem_of_lookup hy))
   ·exact all y (PySem.mem_of_lookup hy)
  ·exact absurd (of_decide_eq_true hy) (nfree y c hc)
  ·cases i with
   | zero =>
    simp at g2
    subst g2
    have : y = ag.arg := by
     have z : (ag.arg :: freeN scope.names)[0]? = some y := g1
     simp at z; exact z.symm
    subst this
    exact ⟨u0, r0, .inl ⟨o5, by simp⟩⟩
   | succ i =>
    have z1 : (freeN scope.names)[i]? = some y := by
     have z : (ag.arg :: freeN scope.names)[i + 1]? = some y := g1
     simpa using z
    have hyf : (y, NameKind.free) ∈ scope.names := freeN_mem.mpr (List.mem_of_getElem? z1)
    obtain ⟨c, hc⟩ := all y hyf
    obtain ⟨o, v', u, y1, y2, y3, y4, y5⟩ := clc y c hc
    have z2 : (cvs.map fun p => some p.2)[i]? = some (some v) := by simpa using g2
    rw [List.getElem?_map] at z2
    cases z3 : cvs[i]? with
    | none => rw [z3] at z2; cases z2
    | some p =>
     rw [z3] at z2
     simp at z2
     have z4 : p.1 = y := by
      have : (cvs.map (·.1))[i]? = some y := by rw [dm]; exact z1
      rw [List.getElem?_map, z3] at this
      simpa using this
     have z5 : (y, v) ∈ cvs := by
      have := List.mem_of_getElem? z3
      obtain ⟨p1, p2⟩ := p
      simp at z2 z4
      subst z2; subst z4
      exact this
     have z6 : v' = v := nodup_fst (by rw [dm]; exact (List.nodup_cons.mp o6).2) y4 z5
     subst z6
     refine ⟨u, y5, ?_⟩
     have kf : scope.names.lookup y = some .free := of_decide_eq_true (List.all_eq_true.mp o7 y (freeN_mem.mp hyf))
     rcases g3 with g3 | g3 | g3
     ·have g3 : scope.names.lookup y = some .local := g3
      rw [kf] at g3; cases g3
     ·exact absurd rfl (hcell _ (PySem.mem_of_lookup g3))
     ·exact .inr ⟨.inr g3, c, hc, o, hk₁ _ _ y2, y3⟩
  ·obtain ⟨o, v', u, y1, y2, y3, y4, y5⟩ := clc y c hc
   exact ⟨some u, o, hk₁ _ _ y2, y3⟩
  ·obtain ⟨o, v', u, y1, y2, y3, y4, y5⟩ := clc y c hc
   exact .inr ⟨decide_eq_false (nfree y c hc), o, y1⟩
  ·show (some v0 :: cvs.map fun p => some p.2).length = (ag.arg :: freeN scope.names).length
   rw [List.length_cons, List.length_cons, List.length_map, ← dm, List.length_map]
 have O : XOk (cxLam P w K mg base ag.arg qual scope a (.ref c') cl A outer s H) (lamSC ag.arg scope) T E0 := TabIs.xok (X := cxLam P w K mg base ag.arg qual scope a (.ref c') cl A outer s H) t (hr.deeper _) rfl rfl o6 rfl pass_none fun z => by cases z
 have hl : fs.length = cvs.length := df.len.1
 have R : EnvR ⟨K, adr mg⟩ H G H (some v0 :: cvs.map fun p => some p.2) (.pu d0 :: fs.map fun p => .pu p.2) := by
  have pu : ∀ (i : Nat) sl, (Sl.pu d0 :: fs.map fun p => Sl.pu p.2)[i]? = some sl → ∃ dd v, sl = .pu dd ∧ (some v0 :: cvs.map fun p => some p.2)[i]? = some (some v) ∧ Den ⟨K, adr mg⟩ G dd v := fun i sl hi => by
   cases i with
   | zero => simp at hi; subst hi; exact ⟨d0, v0, rfl, rfl, dn0⟩
   | succ i =>
    have hi' : (fs.map fun p => Sl.pu p.2)[i]? = some sl := by simpa using hi
    rw [List.getElem?_map] at hi'
    cases z3 : fs[i]? with
    | none => rw [z3] at hi'; cases hi'
    | some p =>
     rw [z3] at hi'
     simp at hi'
     subst hi'
     obtain ⟨v, y1, y2⟩ := df.get z3
     refine ⟨p.2, v, rfl, ?_, y2⟩
     show (cvs.map fun p => some p.2)[i]? = some (some v)
     rw [List.getElem?_map, y1]; rfl
  refine ⟨Same.refl H, sg, ?_, fun i sl hi => ?_, fun i sl b hi ho => ?_, fun i j sl sl' b hi hj ho => ?_, gb⟩
  ·rw [List.length_cons, List.length_cons, List.length_map, List.length_map, hl]
  ·obtain ⟨dd, v, rfl, y1, y2⟩ := pu i sl hi
   exact ⟨some v, y1, v, rfl, y2⟩
  ·obtain ⟨dd, v, rfl, _⟩ := pu i sl hi
   cases ho
  ·obtain ⟨dd, v, rfl, _⟩ := pu i sl hi
   cases ho
 refine PySem.W.kla_codeExpr (wpAny_mono ((gP_ok T n).1 _ _ H E0 body O [] _ _ H Q I ⟨G, _, R, ?_⟩) (fun v s' hv => ?_) fun _ _ z => z.elim)
 ·unfold lamE at hg
  rw [hg]
  exact q
 ·obtain ⟨v', H', J, rv', q'⟩ := hv
  exact ⟨v', H', J.os, J.bare, J.base, J.hok, rv', q'⟩
end
structure DefR where
 x : Str
 st : Stmt
 ms : List Bool
 lm : Bool
noncomputable def psOf (st : Stmt) : List Str := (defArgs st).args.map (·.arg)
noncomputable def localsOf (ps : List Str) : List (Str × NameKind) → List Str
 | [] => []
 | (n, k) :: r => if (k = .local ∨ k = .cell) ∧ n ∉ ps then n :: localsOf ps r else localsOf ps r
noncomputable def nOf (st : Stmt) : List Str := psOf st ++ localsOf (psOf st) (defScope st).names
noncomputable def cOf (st : Stmt) (lm : Bool) : SC := ⟨nOf st, defScope st, [], lm⟩
noncomputable def okDef (d : DefR) : Bool :=
 decide ((defScope d.st).kind = .function) && decide ((defScope d.st).isCoroutine = false) && decide ((defScope d.st).isGenerator = false) && decide ((nOf d.st).Nodup) && decide ((nOf d.st).take (psOf d.st).length = psOf d.st) &&
 ((psOf d.st).all fun x => decide ((defScope d.st).names.lookup x = some .local) || decide ((defScope d.st).names.lookup x = some .cell)) && ((defScope d.st).names.all fun y => decide (y.2 ≠ .free)) && decide (d.ms.length = (psOf d.st).length)
theorem okDef_scope {d : DefR} (h : okDef d = true) : FnScope (nOf d.st) (psOf d.st) (defScope d.st) ∧ d.ms.length = (psOf d.st).length := by
 unfold okDef at h
 simp only [Bool.and_eq_true, decide_eq_true_eq] at h
 obtain ⟨⟨⟨⟨⟨⟨⟨h1, h2⟩, h3⟩, h4⟩, h5⟩, h6⟩, h7⟩, h8⟩ := h
 refine ⟨⟨h1, h2, h3, h4, h5, fun x hx => ?_, fun y hy => ?_⟩, h8⟩
 ·have q := List.all_eq_true.mp h6 x hx
  rw [Bool.or_eq_true, decide_eq_true_eq, decide_eq_true_eq] at q
  exact q
 ·exact of_decide_eq_true (List.all_eq_true.mp h7 y hy)
noncomputable def BindsSt (st : Stmt) (x : Str) : Prop := ∀ (kV doc pm : Value) (an : Option Addr) (cdv ct : Value) (us : List Value), us.length = (psOf st).length → bindArgs (PySem.W.fnOf x x (defArgs st) (defBody st) (defScope st) .none kV doc pm an cdv ct) ⟨us, []⟩ = pure ((psOf st).zip us)
structure DefIn (K : PySem.W.Frag) (mg : Str → Option Value) (d : DefR) : Prop where
 ok : okDef d = true
 bd : BindsSt d.st d.x
 at_ : ∃ f fd, mg d.x = some (.ref f) ∧ Fun K d.x d.x d.st f fd ∧ (d.lm = true → ∃ c P, fd.code = .ref c ∧ (c, P, d.x ++ ".<locals>." ++ "<lambda>") ∈ tbs ∧ PySem.W.codeHdIn K c P = true)
theorem def_mk {K : PySem.W.Frag} {h : Heap} {mg : Str → Option Value} {d : DefR} (X : K.In h) (G : h.Ns mainGlobals mg) (ok : okDef d = true) (bd : BindsSt d.st d.x) {f : Addr} {oc kV doc pm cdv ct : Value} {od an : Option Addr} {osl : Array (Option Value)}
  (a : PySem.W.nsIn K mainGlobals d.x = some (some (.ref f))) (l : K.lookup f = some ⟨oc, od, .func (PySem.W.fnOf d.x d.x (defArgs d.st) (defBody d.st) (defScope d.st) .none kV doc pm an cdv ct), osl⟩) (c : PySem.W.codeIn K cdv d.x = true) (k : PySem.W.keepIn K (.ref f) = true) (m : d.lm = true → ∃ c P, cdv = .ref c ∧ (c, P, d.x ++ ".<locals>." ++ "<lambda>") ∈ tbs ∧ PySem.W.codeHdIn K c P = true) : DefIn K mg d :=
 ⟨ok, bd, f, _, PySem.W.mg_of X G a, fun_mk l c k, m⟩
noncomputable def look (ds : List DefR) (x : Str) : Option DefR := match ds with
 | [] => none
 | d :: r => if d.x = x then some d else look r x
theorem look_mem {x : Str} {d : DefR} : ∀ {ds : List DefR}, look ds x = some d → d ∈ ds ∧ d.x = x
 | [], h => by cases h
 | e :: r, h => by
  unfold look at h
  by_cases z : e.x = x
  ·rw [if_pos z] at h; cases h; exact ⟨List.mem_cons_self, z⟩
  ·rw [if_neg z] at h
   obtain ⟨q1, q2⟩ := look_mem h
   exact ⟨List.mem_cons_of_mem _ q1, q2⟩
noncomputable def bFuel : Nat := 20
noncomputable def fnOfD (T : GT) (d : DefR) : List D → Res := fnD d.ms (nOf d.st).length (gB T bFuel (cOf d.st d.lm) (defBody d.st))
noncomputable def tabOf (ds : List DefR) (gs : Str → Option Str) (xs : XT) : Nat → GT
 | 0 => ⟨fun _ => none, gs, xs, fun _ _ _ => .st⟩
 | n + 1 => ⟨fun x => match look ds x with
  | some d => some ⟨d.ms, fnOfD (tabOf ds gs xs n) d⟩
  | none => none, gs, xs, lamF (tabOf ds gs xs n) bFuel⟩
structure XsIn (K : PySem.W.Frag) (mg : Str → Option Value) (xs : XT) : Prop where
 exc : ∀ x, xs.exc x = true → ∃ C bm newId, mg x = some (.ref C) ∧ PySem.W.excIn K C bm newId = true ∧ ExBase bm newId
 sub : ∀ c y, xs.sub c y = true → ∃ Cy, mg y = some (.ref Cy) ∧ PySem.W.exmOne K (.ref (adr mg c)) (.ref Cy) = some true
 ve : ∀ c, xs.ve c = true → PySem.W.kitCls K (.ref (adr mg c)) (.type "ValueError") = some true
 nsub : ∀ c y, xs.nsub c y = true → ∃ Cy, mg y = some (.ref Cy) ∧ PySem.W.exmOne K (.ref (adr mg c)) (.ref Cy) = some false
section
variable {P : Program} {w : World} {K : PySem.W.Frag} {mg : Str → Option Value} {base : Heap} {ds : List DefR} {gs : Str → Option Str} {xs : XT}
theorem tab_at {x : Str} {d : DefR} (n : Nat) (h : look ds x = some d) : (tabOf ds gs xs (n + 1)).fns x = some ⟨d.ms, fnOfD (tabOf ds gs xs n) d⟩ := by
 show (match look ds x with
  | some d => some (FS.mk d.ms (fnOfD (tabOf ds gs xs n) d))
  | none => none) = _
 rw [h]
noncomputable def Bm (mg : Str → Option Value) (base : Heap) : Prop := ∃ bm o, mg "__builtins__" = some (.ref bm) ∧ bm ≠ builtinsNs ∧ bm ≠ mainGlobals ∧ base.get? bm = some o ∧ o.cls = .type "module" ∧ o.dict = some builtinsNs ∧ o.data = .plain
theorem cellsFrom_ge {lo : Nat} : ∀ (names : List (Str × NameKind)) (n : Nat) (acc : List (Str × Addr)), lo ≤ n → (∀ p ∈ acc, lo ≤ p.2) → ∀ p ∈ cellsFrom n names acc, lo ≤ p.2
 | [], _, acc, _, h, p, hp => h p hp
 | (nm, kd) :: r, n, acc, hl, h, p, hp => by
  unfold cellsFrom at hp
  split at hp
  ·refine cellsFrom_ge r (n + 1) _ (Nat.le_succ_of_le hl) (fun q hq => ?_) p hp
   rcases List.mem_cons.mp hq with rfl | hq
   ·exact hl
   ·exact h q hq
  ·exact cellsFrom_ge r n _ hl h p hp
theorem lamc_of {d : DefR} {fd : FuncData} {N : List Str} {f : Addr} {cdv : Value} {A : Around} {outer : List Env} {s : Shared} {H : Hp} {E : XK} (kb : K.In base) (bm : Bm mg base) (hc : fd.code = cdv) (hl : d.lm = true → ∃ c P, fd.code = .ref c ∧ (c, P, d.x ++ ".<locals>." ++ "<lambda>") ∈ tbs ∧ PySem.W.codeHdIn K c P = true) :
  (cOf d.st d.lm).lam = true → LamCx (cxOf (CXe P w) P w K mg base N d.x (defScope d.st) f cdv A outer s H E) := fun z => by
 obtain ⟨c, Pl, h1, h2, h3⟩ := hl z
 refine ⟨c, Pl, h2, hc.symm.trans h1, PySem.W.codeHd_of_K kb h3, bm, fun y c hy => ?_, fun y hy => decide_eq_false fun z => z hy⟩
 exact cellsFrom_ge _ _ _ (Nat.le_succ _) (fun p hp => by simp at hp) _ (PySem.mem_of_lookup hy)
theorem tab_ok (kb : K.In base) (bm : Bm mg base) (hd : ∀ d ∈ ds, DefIn K mg d) (hs : ∀ x y, gs x = some y → ∃ t, mg x = some (.str y t)) (hb : ∀ x ∈ bnames, mg x = none) (hX : XsIn K mg xs) : ∀ n, TabIs P w K mg base (tabOf ds gs xs n) n
 | 0 => ⟨fun x s h => (by cases h), hs, hb, hX.exc, hX.sub, hX.ve, hX.nsub, fun e fs ds d h => (by cases h)⟩
 | n + 1 => by
  have ih := tab_ok kb bm hd hs hb hX n
  refine ⟨fun x s h => ?_, hs, hb, hX.exc, hX.sub, hX.ve, hX.nsub, fun e fs ds' d h => lam_run ih h⟩
  unfold tabOf at h
  dsimp only at h
  cases e : look ds x with
  | none => rw [e] at h; cases h
  | some d =>
   rw [e] at h
   cases h
   obtain ⟨m1, m2⟩ := look_mem e
   subst m2
   obtain ⟨ok, bd, f, fd, q1, F, hl⟩ := hd d m1
   obtain ⟨S, hm⟩ := okDef_scope ok
   refine ⟨f, fd, psOf d.st, q1, F.kp, F.binds bd, fn_puE F S hm fun cdv A outer s H G0 E hc hr => ?_⟩
   exact gB_ok _ _ _ (cOf d.st d.lm) G0 H E _ ⟨TabIs.xok (X := cxOf (CXe P w) P w K mg base (nOf d.st) d.x (defScope d.st) f cdv A outer s H E) ih hr rfl rfl S.nd rfl pass_body (lamc_of kb bm hc hl), fun y hy => decide_eq_true hy, PassesOwn.leaving, rfl, rfl, rfl⟩
noncomputable def spLaw (K : PySem.W.Frag) : Sp := fun vs H Q _ => GOk H ∧ ∃ (a : Addr) (ns : List Int), vs = [.ref a] ∧ SqL K H a (ns.map V.int) ∧ ns.length ≤ 63 ∧ ∀ H', Q (.bl true) H'
theorem denL_ints {K : KA} {G : Hp} : ∀ ns : List Int, DenL K G (ns.map D.int) (ns.map V.int)
 | [] => rfl
 | n :: ns => ⟨.int n, ns.map V.int, rfl, rfl, denL_ints ns⟩
theorem law_at {d : DefR} {f : Addr} {oc kV doc pm cdv ct : Value} {od an : Option Addr} {osl : Array (Option Value)} (ok : okDef d = true) (nl : d.lm = false)
  (a : PySem.W.nsIn K mainGlobals d.x = some (some (.ref f))) (l : K.lookup f = some ⟨oc, od, .func (PySem.W.fnOf d.x d.x (defArgs d.st) (defBody d.st) (defScope d.st) .none kV doc pm an cdv ct), osl⟩) (c : PySem.W.codeIn K cdv d.x = true) (k : PySem.W.keepIn K (.ref f) = true)
  (kb : K.In base) (bm : Bm mg base) (hd : ∀ d ∈ ds, DefIn K mg d) (hs : ∀ x y, gs x = some y → ∃ t, mg x = some (.str y t)) (hb : ∀ x ∈ bnames, mg x = none) (hX : XsIn K mg xs) {n : Nat} {s : FS} (hl : (tabOf ds gs xs n).fns "law" = some s) (hm : s.ms = [false])
  (law : ∀ ns : List Int, ns.length ≤ 63 → s.f [.lst (ns.map D.int)] = .ok (.bl true)) (hx : look ds "law" = some d := by rfl) (hp : psOf d.st = [("_law_script" : Str)] := by rfl) :
  FnOk P w K mg base CX0 n f (PySem.W.fnOf d.x d.x (defArgs d.st) (defBody d.st) (defScope d.st) .none kV doc pm an cdv ct) ["_law_script"] (spLaw K) := by
 cases n with
 | zero => cases hl
 | succ n =>
  unfold tabOf at hl
  dsimp only at hl
  rw [hx] at hl
  cases hl
  obtain ⟨S, hm'⟩ := okDef_scope ok
  have F := fn_puE (P := P) (w := w) (base := base) (mg := mg) (k := n) (ms := d.ms) (Fb := gB (tabOf ds gs xs n) bFuel (cOf d.st d.lm) (defBody d.st)) (fun_mk l c k) S hm' fun cdv' A outer s H G0 E hc hr => by
   exact gB_ok _ _ _ (cOf d.st d.lm) G0 H E _ ⟨TabIs.xok (X := cxOf (CXe P w) P w K mg base (nOf d.st) d.x (defScope d.st) f cdv' A outer s H E) (tab_ok kb bm hd hs hb hX n) hr rfl rfl S.nd rfl pass_body (lamc_of kb bm hc fun z => by rw [nl] at z; cases z), fun y hy => decide_eq_true hy, PassesOwn.leaving, rfl, rfl, rfl⟩
  rw [hp] at F
  refine F.calm.imp fun vs H Q E ⟨gb, a, ns, e, sq, hn, q⟩ => ?_
  subst e
  have hm : d.ms = [false] := hm
  have e : fnOfD (tabOf ds gs xs n) d [.lst (ns.map D.int)] = .ok (.bl true) := law ns hn
  show spPu _ d.ms (fnOfD (tabOf ds gs xs n) d) _ H Q E0
  refine ⟨by rw [hm]; rfl, gb, H, [.lst (ns.map D.int)], Same.refl H, by rw [hm]; exact ⟨_, [], _, [], rfl, rfl, ⟨a, _, rfl, sq, denL_ints ns⟩, rfl, rfl⟩, ?_⟩
  rw [e]
  intro v G' H' _ dn
  rw [show v = .bl true from dn]
  exact q H'
end
noncomputable def tblAt (b : Addr) : Option HO := (tbs.find? fun p => p.2.1 == b).map fun p => .tbl p.2.2
theorem tblAt_some {b : Addr} {o : HO} (h : tblAt b = some o) : ∃ p ∈ tbs, p.2.1 = b ∧ o = .tbl p.2.2 := by
 unfold tblAt at h
 cases e : tbs.find? fun p => p.2.1 == b with
 | none => rw [e] at h; cases h
 | some p =>
  rw [e] at h
  cases h
  exact ⟨p, List.mem_of_find?_eq_some e, by simpa using List.find?_some e, rfl⟩
theorem find_nd {α : Type} {f : α → Addr} : ∀ {l : List α} {p : α}, (l.map f).Nodup → p ∈ l → l.find? (fun q => f q == f p) = some p
 | [], _, _, h => by simp at h
 | a :: r, p, nd, h => by
  rw [List.map_cons, List.nodup_cons] at nd
  rw [List.find?_cons]
  by_cases e : f a = f p
  ·have hb : (f a == f p) = true := by simpa using e
   rw [hb]
   rcases List.mem_cons.mp h with rfl | h
   ·rfl
   ·exact absurd (e ▸ List.mem_map_of_mem h) nd.1
  ·have hb : (f a == f p) = false := by simpa using e
   rw [hb]
   rcases List.mem_cons.mp h with rfl | h
   ·exact absurd rfl e
   ·exact find_nd nd.2 h
theorem tblAt_mem (nd : (tbs.map (·.2.1)).Nodup) {p : Addr × Addr × Str} (hp : p ∈ tbs) : tblAt p.2.1 = some (.tbl p.2.2) := by
 unfold tblAt
 rw [find_nd (f := fun p : Addr × Addr × Str => p.2.1) nd hp]
 rfl
noncomputable def TabsIn (h : Heap) : Prop := ∀ p ∈ tbs, PySem.W.CodeHd h p.1 p.2.1 ∧ h.get? p.2.1 = some (PySem.W.tabObj #[])
theorem law_callT {P : Program} {w : World} {K : PySem.W.Frag} {mg mb : Str → Option Value} {k : Nat} {fa a : Addr} {fd : FuncData} {x : Str} {s₁ : Shared} {vs : List Value} {ns : List Int}
  (KX : K.In s₁.heap) (nK : PySem.W.noTabs K = true) (nd : (tbs.map (·.2.1)).Nodup) (tb : TabsIn s₁.heap) (bm : Bm mg s₁.heap) (hns : s₁.heap.Ns mainGlobals mg) (hb : s₁.heap.Ns builtinsNs mb) (hbb : ∀ x : Str, x ≠ "__name__" → mb x = bootBuiltins x) (hlim : s₁.heap.NoLimit) (hg : s₁.gens = #[])
  (ha : s₁.heap.get? a = some { cls := .type "list", data := .seq vs.toArray }) (hi : IntsAre vs ns) (hl : ns.length ≤ sizeLine) (hl2 : ns.length ≤ 63) (hr : Room k callerA)
  (F : ∀ base : Heap, K.In base → base.Ns mainGlobals mg → Bm mg base → FnOk P w K mg base CX0 k fa fd [x] (spLaw K)) (hbind : ∀ (s : Shared) (u : Value), BindsTo s fd ⟨[u], []⟩ [(x, u)]) :
  codeAny (model P w) callerA (.call (.ref fa) ⟨[.ref a], []⟩) (fun r s' => r = .ok (.ret (.bool true)) ∧ OldK s₁.heap s'.heap ∧ s'.os = s₁.os ∧ AllBare s'.gens) s₁ := by
 have rv := vals_ints hi
 have lenV := hi.length
 have tne : ∀ {b : Addr} {u : HO}, tblAt b = some u → s₁.heap.get? b = some (PySem.W.tabObj #[]) := fun {b u} e => by
  obtain ⟨p, hp, rfl, _⟩ := tblAt_some e
  exact (tb p hp).2
 have core : ∀ S : Option HO, (S = none ∨ S = some (.frz { cls := .type "list", data := .seq vs.toArray } (.lst (ns.map V.int)))) → (S ≠ none → K.lookup a = none) → SqL K (fun b => if b = a then S else tblAt b) a (ns.map V.int) →
   codeAny (model P w) callerA (.call (.ref fa) ⟨[.ref a], []⟩) (fun r s' => r = .ok (.ret (.bool true)) ∧ OldK s₁.heap s'.heap ∧ s'.os = s₁.os ∧ AllBare s'.gens) s₁ := by
  intro S hS hSK sq
  generalize hH : (fun b => if b = a then S else tblAt b) = H at sq
  have Ha : H a = S := by rw [← hH]; exact if_pos rfl
  have Hb : ∀ b, b ≠ a → H b = tblAt b := fun b hb => by rw [← hH]; exact if_neg hb
  have kind : ∀ {b : Addr} {u : HO}, H b = some u → (b = a ∧ u = .frz { cls := .type "list", data := .seq vs.toArray } (.lst (ns.map V.int)) ∧ K.lookup a = none) ∨ ∃ p ∈ tbs, p.2.1 = b ∧ u = .tbl p.2.2 := fun {b u} e => by
   by_cases z : b = a
   ·rw [z, Ha] at e
    rcases hS with y | y
    ·rw [y] at e; cases e
    ·rw [y] at e; cases e; exact .inl ⟨z, rfl, hSK (by rw [y]; simp)⟩
   ·rw [Hb b z] at e; exact .inr (tblAt_some e)
  have hok : HOk P w H s₁.heap := fun b u e => by
   rcases kind e with ⟨rfl, rfl, _⟩ | ⟨p, hp, rfl, rfl⟩
   ·exact ⟨ha, by rw [List.length_map]; exact hl, vs, _, rv, ha⟩
   ·exact ⟨#[], (tb p hp).2, trivial⟩
  have base_of : ∀ {b : Addr} {o : Obj}, s₁.heap.get? b = some o → H b = none → (hidT s₁.heap H).get? b = some o := fun e n => hidT_get e n
  have free : ∀ {b : Addr} {o : Obj}, s₁.heap.get? b = some o → (∀ n, o.data ≠ .seq vs.toArray n) → o ≠ PySem.W.tabObj #[] → H b = none := fun {b o} e h1 h2 => by
   cases q : H b with
   | none => rfl
   | some u =>
    rcases kind q with ⟨rfl, _⟩ | ⟨p, hp, rfl, _⟩
    ·rw [ha] at e; cases e; exact absurd rfl (h1 _)
    ·rw [(tb p hp).2] at e; cases e; exact absurd rfl h2
  have nsK : ∀ {b : Addr} {m : Str → Option Value}, s₁.heap.Ns b m → (hidT s₁.heap H).Ns b m := fun {b m} ⟨o, es, ep, e, d, r⟩ => ⟨o, es, ep, base_of e (free e (fun n z => by rw [d] at z; cases z) fun z => by rw [z] at d; cases d), d, r⟩
  have hKb : K.In (hidT s₁.heap H) := fun b o e => base_of (KX b o e) (by
   cases q : H b with
   | none => rfl
   | some u =>
    rcases kind q with ⟨rfl, _, z⟩ | ⟨p, hp, rfl, _⟩
    ·rw [z] at e; cases e
    ·have e2 := KX _ _ e
     rw [(tb p hp).2] at e2
     have h2 := List.all_eq_true.mp nK _ (PySem.W.mem_of_lookupK e)
     cases e2
     exact absurd (show false = true from h2) Bool.false_ne_true)
  have bmK : Bm mg (hidT s₁.heap H) := by
   obtain ⟨m, o, b1, b2, b3, b4, b5, b6, b7⟩ := bm
   exact ⟨m, o, b1, b2, b3, base_of b4 (free b4 (fun n z => by rw [b7] at z; cases z) fun z => by rw [z] at b5; cases b5), b5, b6, b7⟩
  have hM : Mod K mg (hidT s₁.heap H) := ⟨hKb, nsK hns, ⟨mb, nsK hb, hbb⟩, let ⟨mc, h1, h2⟩ := hlim; ⟨mc, nsK h1, h2⟩⟩
  have e0 : Env0 P w K mg (hidT s₁.heap H) callerA [] s₁ H := ⟨rfl, hM, fun b o e => of_hidT e, Nat.le_of_eq (hidT_size _ _), trivial, fun b hb => absurd (show b ∈ ([] : List Addr) from hb) (by simp), hok, .of_eq hg⟩
  have gb : GOk H := fun p hp => by
   have : p.2.1 ≠ a := fun z => by
    have := (tb p hp).2
    rw [z, ha] at this; cases this
   rw [Hb _ this]; exact tblAt_mem nd hp
  refine codeAny_mono ((F _ hKb (nsK hns) bmK).run callerA [] s₁ H ⟨[.ref a], []⟩ [.ref a] [.ref a] (fun v _ => v = .bl true) E0 hr e0 (hbind s₁ (.ref a)) (.cons rfl .nil) ⟨gb, a, ns, rfl, sq, hl2, fun _ => rfl⟩) fun r s' h => ?_
  cases r with
  | error e => exact False.elim h
  | ok fl =>
   cases fl with
   | next => exact False.elim h
   | brk => exact False.elim h
   | cont => exact False.elim h
   | ret u =>
    obtain ⟨v, H', os, bare, un, hok', r', q⟩ := h
    have q' : v = .bl true := q
    subst q'
    obtain rfl : u = Value.bool true := r'
    have keep : ∀ b o, s₁.heap.get? b = some o → (s'.heap.get? b = some o) ∨ ∃ p ∈ tbs, p.2.1 = b ∧ ∃ ps, s'.heap.get? b = some (PySem.W.tabObj ps) := fun b o e => by
     cases q : H b with
     | none => exact .inl (un.keep b o e q (by intro z; exact absurd (show b ∈ ([] : List Addr) from z) (by simp)) (by simp))
     | some u =>
      rcases kind q with ⟨rfl, rfl, _⟩ | ⟨p, hp, rfl, rfl⟩
      ·obtain ⟨e1, _⟩ := hok b _ q
       obtain ⟨e2, _⟩ := hok' b _ (un.frzs b _ _ q)
       rw [e] at e1; cases e1
       exact .inl e2
      ·obtain ⟨ps, e2, _⟩ := hok' _ _ (un.tbls _ _ q)
       exact .inr ⟨p, hp, rfl, ps, e2⟩
    refine ⟨rfl, ⟨fun b o e => ?_, fun b o e => ?_⟩, os, bare⟩
    ·rcases keep b o e with z | ⟨p, hp, rfl, ps, z⟩
     ·exact .inl z
     ·obtain ⟨c1, c2⟩ := tb p hp
      rw [c2] at e; cases e
      exact .inr (.inl ⟨(c1.tab c2).isCodeTable, rfl, #[], ps, rfl, by rw [Array.empty_append]; exact z⟩)
    ·rcases keep b o e with z | ⟨p, hp, rfl, ps, z⟩
     ·exact ⟨_, z⟩
     ·exact ⟨_, z⟩
 cases hk : K.lookup a with
 | some o =>
  have e := KX a o hk
  rw [ha] at e
  cases e
  exact core none (.inl rfl) (fun z => absurd rfl z) (.inr ⟨_, vs.toArray, _, hk, rfl, rfl, rfl, by rw [List.size_toArray, lenV]; exact hl, by simpa using rv⟩)
 | none => exact core _ (.inr rfl) (fun _ => hk) (.inl (.inr ⟨{ cls := .type "list", data := .seq vs.toArray }, if_pos rfl⟩))
theorem walkT {l : PySem.W.OpenLaw} {k : Nat} {q : Program} {loose : List Str} {XP : (Str → Option Value) → Heap → Prop} {YP : World → Heap → Prop} {d : DefRec} {K : Params → PySem.W.Frag} (hn : l.most = some 63) (hdf : d.params.defaults = []) (hr : Room k callerA) (nd : (tbs.map (·.2.1)).Nodup)
  (hY : ∀ (w : World) (h : Heap), YP w h → (K w.params).In h) (nK : ∀ w : World, PySem.W.noTabs (K w.params) = true)
  (tb : ∀ (w : World) (h : Heap), YP w h → TabsIn h)
  (F : ∀ (w : World) (mg : Str → Option Value) (fa : Addr) (h : Heap), (K w.params).In h → h.Ns mainGlobals mg → mg d.name = some (.ref fa) →
   ∃ fd : FuncData, (∀ (s : Shared) (u : Value), BindsTo s fd ⟨[u], []⟩ [("_law_script", u)]) ∧ ∀ base : Heap, (K w.params).In base → base.Ns mainGlobals mg → Bm mg base → FnOk l.prog w (K w.params) mg base CX0 k fa fd ["_law_script"] (spLaw (K w.params))) :
  PySem.W.WalkO q loose XP YP l.row.toRowW d [] (fun f vs => PySem.call f vs) := by
 refine Att.attach_call hn hdf fun w s₀ s₁ mg mb fa o pm cd doc a vs ns G Y ho hd hcd hmg hobj hints hlen hg => ?_
 have KX := hY w _ Y
 obtain ⟨fd, hb, hF⟩ := F w mg fa _ KX G.T.g hmg
 obtain ⟨bm, ob, b1, b2, b3, b4, b5, b6⟩ := G.T.bmain
 have bG : bm ≠ mainGlobals := fun z => by
  obtain ⟨o, es, ep, e, hd, _⟩ := G.T.g
  rw [z, e] at b3; cases b3; rw [hd] at b6; cases b6
 exact law_callT KX (nK w) nd (tb w _ Y) ⟨bm, ob, b1, b2, bG, b3, b4, b5, b6⟩ G.T.g G.T.b G.T.builtins G.T.nolimit hg hobj hints (Nat.le_trans hlen (by decide)) hlen hr hF hb
end Pu
end
section
namespace LK
open PySem PySem.Spec PyProof.Rows L2 Pu
def top (i : Nat) : Stmt := PySem.Challenge.pw_askbook_k18_bonds_refused.main.body.getD i (.Pass ⟨0, 0, 0, 0⟩)
def d_is_number : DefR := ⟨"is_number", top 5, [true], false⟩
def d_is_tuple_of : DefR := ⟨"is_tuple_of", top 6, [true, true, true, true], false⟩
def d_is_pair : DefR := ⟨"is_pair", top 7, [true], false⟩
def d_are_rising : DefR := ⟨"are_rising", top 8, [true], false⟩
def d_is_columns : DefR := ⟨"is_columns", top 12, [true, false], true⟩
def d_is_bond : DefR := ⟨"is_bond", top 13, [true, false], false⟩
def d_checked_bonds : DefR := ⟨"checked_bonds", top 14, [false, false], false⟩
def d_checked_columns : DefR := ⟨"checked_columns", top 15, [false, false], false⟩
def d_checked_bond : DefR := ⟨"checked_bond", top 16, [false, false], false⟩
def d_lies_in : DefR := ⟨"lies_in", top 17, [true, true], false⟩
def d_next_step : DefR := ⟨"next_step", top 18, [true, true], false⟩
def d_walked : DefR := ⟨"walked", top 19, [true, true, true], false⟩
def d_hanging : DefR := ⟨"hanging", top 20, [true, true, true], false⟩
def d_span : DefR := ⟨"span", top 21, [false, false, false], false⟩
def d_follows : DefR := ⟨"follows", top 22, [false, false, false], false⟩
def d_keys : DefR := ⟨"keys", top 25, [false, false, false], false⟩
def d_lean_bonds : DefR := ⟨"lean_bonds", top 31, [false, false], false⟩
def d_all_columns : DefR := ⟨"all_columns", top 33, [true], false⟩
def d_checked_parts : DefR := ⟨"checked_parts", top 35, [false, false], false⟩
def d_sound : DefR := ⟨"sound", top 39, [false, false, false], false⟩
def d_settled : DefR := ⟨"settled", top 41, [false, false, false], false⟩
def d_cut : DefR := ⟨"cut", top 43, [false, false], false⟩
def d_law_cell_at : DefR := ⟨"_law_cell_at", top 45, [true, true], false⟩
def d_law_mixed : DefR := ⟨"_law_mixed", top 46, [true, true, true], false⟩
def d_law_asked : DefR := ⟨"_law_asked", top 47, [true, false, false, false], false⟩
def d_law_kind : DefR := ⟨"_law_kind", top 48, [true, false, false, false], false⟩
def d_law_by_base : DefR := ⟨"_law_by_base", top 49, [true, false, false, false], false⟩
def d_law_bad_columns : DefR := ⟨"_law_bad_columns", top 50, [true], false⟩
def d_law : DefR := ⟨"law", top 51, [false], false⟩
def defs : List DefR := [d_is_number, d_is_tuple_of, d_is_pair, d_are_rising, d_is_columns, d_is_bond, d_checked_bonds, d_checked_columns, d_checked_bond, d_lies_in, d_next_step, d_walked, d_hanging, d_span, d_follows, d_keys, d_lean_bonds, d_all_columns, d_checked_parts, d_sound, d_settled, d_cut, d_law_cell_at, d_law_mixed, d_law_asked, d_law_kind, d_law_by_base, d_law_bad_columns, d_law]
def xs : XT := ⟨fun x => decide (x = "AskError") || (decide (x = "NoBonds") || (decide (x = "NoColumns") || (false))), fun c y => (decide (c = "AskError") && decide (y = "AskError")) || ((decide (c = "NoBonds") && decide (y = "NoBonds")) || ((decide (c = "NoBonds") && decide (y = "AskError")) || ((decide (c = "NoColumns") && decide (y = "NoColumns")) || ((decide (c = "NoColumns") && decide (y = "AskError")) || (false))))), fun c => decide (c = "AskError") || (decide (c = "NoBonds") || (decide (c = "NoColumns") || (false))), fun c y => (decide (c = "AskError") && decide (y = "NoBonds")) || ((decide (c = "NoColumns") && decide (y = "NoBonds")) || (false))⟩
def gs (x : Str) : Option Str := none
theorem ok_is_number : okDef d_is_number = true := by decide +kernel
theorem bd_is_number : BindsSt d_is_number.st d_is_number.x := fun _ _ _ _ _ _ us hl => match us, hl with | [_], _ => rfl
theorem ok_is_tuple_of : okDef d_is_tuple_of = true := by decide +kernel
theorem bd_is_tuple_of : BindsSt d_is_tuple_of.st d_is_tuple_of.x := fun _ _ _ _ _ _ us hl => match us, hl with | [_, _, _, _], _ => rfl
theorem ok_is_pair : okDef d_is_pair = true := by decide +kernel
theorem bd_is_pair : BindsSt d_is_pair.st d_is_pair.x := fun _ _ _ _ _ _ us hl => match us, hl with | [_], _ => rfl
theorem ok_are_rising : okDef d_are_rising = true := by decide +kernel
theorem bd_are_rising : BindsSt d_are_rising.st d_are_rising.x := fun _ _ _ _ _ _ us hl => match us, hl with | [_], _ => rfl
theorem ok_is_columns : okDef d_is_columns = true := by decide +kernel
theorem bd_is_columns : BindsSt d_is_columns.st d_is_columns.x := fun _ _ _ _ _ _ us hl => match us, hl with | [_, _], _ => rfl
theorem ok_is_bond : okDef d_is_bond = true := by decide +kernel
theorem bd_is_bond : BindsSt d_is_bond.st d_is_bond.x := fun _ _ _ _ _ _ us hl => match us, hl with | [_, _], _ => rfl
theorem ok_checked_bonds : okDef d_checked_bonds = true := by decide +kernel
theorem bd_checked_bonds : BindsSt d_checked_bonds.st d_checked_bonds.x := fun _ _ _ _ _ _ us hl => match us, hl with | [_, _], _ => rfl
theorem ok_checked_columns : okDef d_checked_columns = true := by decide +kernel
theorem bd_checked_columns : BindsSt d_checked_columns.st d_checked_columns.x := fun _ _ _ _ _ _ us hl => match us, hl with | [_, _], _ => rfl
theorem ok_checked_bond : okDef d_checked_bond = true := by decide +kernel
theorem bd_checked_bond : BindsSt d_checked_bond.st d_checked_bond.x := fun _ _ _ _ _ _ us hl => match us, hl with | [_, _], _ => rfl
theorem ok_lies_in : okDef d_lies_in = true := by decide +kernel
theorem bd_lies_in : BindsSt d_lies_in.st d_lies_in.x := fun _ _ _ _ _ _ us hl => match us, hl with | [_, _], _ => rfl
theorem ok_next_step : okDef d_next_step = true := by decide +kernel
theorem bd_next_step : BindsSt d_next_step.st d_next_step.x := fun _ _ _ _ _ _ us hl => match us, hl with | [_, _], _ => rfl
theorem ok_walked : okDef d_walked = true := by decide +kernel
theorem bd_walked : BindsSt d_walked.st d_walked.x := fun _ _ _ _ _ _ us hl => match us, hl with | [_, _, _], _ => rfl
theorem ok_hanging : okDef d_hanging = true := by decide +kernel
theorem bd_hanging : BindsSt d_hanging.st d_hanging.x := fun _ _ _ _ _ _ us hl => match us, hl with | [_, _, _], _ => rfl
theorem ok_span : okDef d_span = true := by decide +kernel
theorem bd_span : BindsSt d_span.st d_span.x := fun _ _ _ _ _ _ us hl => match us, hl with | [_, _, _], _ => rfl
theorem ok_follows : okDef d_follows = true := by decide +kernel
theorem bd_follows : BindsSt d_follows.st d_follows.x := fun _ _ _ _ _ _ us hl => match us, hl with | [_, _, _], _ => rfl
theorem ok_keys : okDef d_keys = true := by decide +kernel
theorem bd_keys : BindsSt d_keys.st d_keys.x := fun _ _ _ _ _ _ us hl => match us, hl with | [_, _, _], _ => rfl
theorem ok_lean_bonds : okDef d_lean_bonds = true := by decide +kernel
theorem bd_lean_bonds : BindsSt d_lean_bonds.st d_lean_bonds.x := fun _ _ _ _ _ _ us hl => match us, hl with | [_, _], _ => rfl
theorem ok_all_columns : okDef d_all_columns = true := by decide +kernel
theorem bd_all_columns : BindsSt d_all_columns.st d_all_columns.x := fun _ _ _ _ _ _ us hl => match us, hl with | [_], _ => rfl
theorem ok_checked_parts : okDef d_checked_parts = true := by decide +kernel
theorem bd_checked_parts : BindsSt d_checked_parts.st d_checked_parts.x := fun _ _ _ _ _ _ us hl => match us, hl with | [_, _], _ => rfl
theorem ok_sound : okDef d_sound = true := by decide +kernel
theorem bd_sound : BindsSt d_sound.st d_sound.x := fun _ _ _ _ _ _ us hl => match us, hl with | [_, _, _], _ => rfl
theorem ok_settled : okDef d_settled = true := by decide +kernel
theorem bd_settled : BindsSt d_settled.st d_settled.x := fun _ _ _ _ _ _ us hl => match us, hl with | [_, _, _], _ => rfl
theorem ok_cut : okDef d_cut = true := by decide +kernel
theorem bd_cut : BindsSt d_cut.st d_cut.x := fun _ _ _ _ _ _ us hl => match us, hl with | [_, _], _ => rfl
theorem ok_law_cell_at : okDef d_law_cell_at = true := by decide +kernel
theorem bd_law_cell_at : BindsSt d_law_cell_at.st d_law_cell_at.x := fun _ _ _ _ _ _ us hl => match us, hl with | [_, _], _ => rfl
theorem ok_law_mixed : okDef d_law_mixed = true := by decide +kernel
theorem bd_law_mixed : BindsSt d_law_mixed.st d_law_mixed.x := fun _ _ _ _ _ _ us hl => match us, hl with | [_, _, _], _ => rfl
theorem ok_law_asked : okDef d_law_asked = true := by decide +kernel
theorem bd_law_asked : BindsSt d_law_asked.st d_law_asked.x := fun _ _ _ _ _ _ us hl => match us, hl with | [_, _, _, _], _ => rfl
theorem ok_law_kind : okDef d_law_kind = true := by decide +kernel
theorem bd_law_kind : BindsSt d_law_kind.st d_law_kind.x := fun _ _ _ _ _ _ us hl => match us, hl with | [_, _, _, _], _ => rfl
theorem ok_law_by_base : okDef d_law_by_base = true := by decide +kernel
theorem bd_law_by_base : BindsSt d_law_by_base.st d_law_by_base.x := fun _ _ _ _ _ _ us hl => match us, hl with | [_, _, _, _], _ => rfl
theorem ok_law_bad_columns : okDef d_law_bad_columns = true := by decide +kernel
theorem bd_law_bad_columns : BindsSt d_law_bad_columns.st d_law_bad_columns.x := fun _ _ _ _ _ _ us hl => match us, hl with | [_], _ => rfl
theorem ok_law : okDef d_law = true := by decide +kernel
theorem bd_law : BindsSt d_law.st d_law.x := fun _ _ _ _ _ _ us hl => match us, hl with | [_], _ => rfl
noncomputable def tab (n : Nat) : GT := tabOf defs gs xs n
noncomputable def veB : List Value := [.type "ValueError", .type "Exception", .type "BaseException", .type "object"]
theorem veB_ok : ExBase veB "ValueError.__new__" := ⟨"ValueError", _, _, _, _, _, PySem.F.excBase_ValueError, by decide +kernel, PySem.F.excBase_ValueError⟩
end LK
end
section
namespace Pu
open PySem PySem.Spec PyProof.Rows L2
theorem fn_eq {T : GT} {d : DefR} {F : En → Out} {k : Nat} {ms : List Bool} (h : gB T bFuel (cOf d.st d.lm) (defBody d.st) = F) (hn : (nOf d.st).length = k) (hm : d.ms = ms) (ds : List D) : fnOfD T d ds = outR (F (entry ms ds ++ List.replicate (k - ds.length) .no)) := by
 unfold fnOfD fnD
 rw [h, hn, hm]
section
variable (δ : En) (d e : D) (i j : Nat) (g h k c : En → Res) (F F' : En → Out) (r : En → ResL) (f : D → Option D) (f2 f3 : D → D → Option D)
@[simp] theorem v_entry_nil (ms : List Bool) : entry ms [] = [] := by cases ms <;> rfl
@[simp] theorem v_entry_t (ms : List Bool) (ds : List D) : entry (true :: ms) (d :: ds) = .bo d :: entry ms ds := rfl
@[simp] theorem v_entry_f (ms : List Bool) (ds : List D) : entry (false :: ms) (d :: ds) = .pu d :: entry ms ds := rfl
@[simp] theorem v_seq : sSeq F F' δ = match F δ with
 | .nx δ' => F' δ'
 | o => o := rfl
@[simp] theorem v_nil : sNil δ = .nx δ := rfl
@[simp] theorem v_pass : sPass δ = .nx δ := rfl
@[simp] theorem v_st : sSt δ = .st := rfl
@[simp] theorem v_gst : gSt δ = .st := rfl
@[simp] theorem v_ret : sRet g δ = (g δ).then .rt := rfl
@[simp] theorem v_if : sIf c F F' δ = (c δ).then fun d => match d with
 | .bl true => F δ
 | .bl false => F' δ
 | _ => .st := rfl
@[simp] theorem v_set : sSet i g δ = (g δ).then fun d => .nx (δ.set i (.pu d)) := rfl
@[simp] theorem v_setO : sSetO i g δ = (g δ).then fun d => match d with
 | .lst ds => .nx (δ.set i (.ow ds))
 | _ => .st := rfl
@[simp] theorem v_setD : sSetD i δ = .nx (δ.set i (.od false [])) := rfl
@[simp] theorem v_then_ok (f : D → Out) : (Res.ok d).then f = f d := rfl
@[simp] theorem v_then_st (f : D → Out) : Res.st.then f = .st := rfl
@[simp] theorem v_then_er (f : D → Out) (c : Str) : (Res.er c).then f = .er c := rfl
@[simp] theorem v_bind_ok (f : D → Res) : (Res.ok d).bind f = f d := rfl
@[simp] theorem v_bind_st (f : D → Res) : Res.st.bind f = .st := rfl
@[simp] theorem v_bind_er (f : D → Res) (c : Str) : (Res.er c).bind f = .er c := rfl
@[simp] theorem v_of_some : Res.of (some d) = .ok d := rfl
@[simp] theorem v_of_none : Res.of none = .st := rfl
@[simp] theorem v_out_rt : outR (.rt d) = .ok d := rfl
@[simp] theorem v_out_nx : outR (.nx δ) = .ok .non := rfl
@[simp] theorem v_out_st : outR .st = .st := rfl
@[simp] theorem v_out_er (c : Str) : outR (.er c) = .er c := rfl
@[simp] theorem v_var : gVar i δ = match δ[i]? with
 | some (.pu d) => .ok d
 | _ => .st := rfl
@[simp] theorem v_arg : gArg i δ = match δ[i]? with
 | some (.pu d) => .ok d
 | some (.bo d) => .ok d
 | some (.ow ds) => .ok (.lst ds)
 | some (.od t kvs) => .ok (.dct t kvs)
 | _ => .st := rfl
@[simp] theorem v_bo : gBo i δ = match δ[i]? with
 | some (.pu d) => .ok d
 | some (.bo d) => .ok d
 | _ => .st := rfl
@[simp] theorem v_c : gC d δ = .ok d := rfl
@[simp] theorem v_g1 : g1 f g δ = (g δ).bind fun x => Res.of (f x) := rfl
@[simp] theorem v_g2 : g2 f2 g h δ = (g δ).bind fun x => (h δ).bind fun y => Res.of (f2 x y) := rfl
@[simp] theorem v_gif : gIf c g h δ = (c δ).bind fun d => match d with
 | .bl true => g δ
 | .bl false => h δ
 | _ => .st := rfl
@[simp] theorem v_not : gNot c δ = (c δ).bind fun d => match d with
 | .bl b => .ok (.bl !b)
 | _ => .st := rfl
@[simp] theorem v_and : gAnd g h δ = (g δ).bind fun d => match d with
 | .bl true => h δ
 | .bl false => .ok (.bl false)
 | _ => .st := rfl
@[simp] theorem v_or : gOr g h δ = (g δ).bind fun d => match d with
 | .bl true => .ok (.bl true)
 | .bl false => h δ
 | _ => .st := rfl
@[simp] theorem v_tru : gTru g δ = (g δ).bind fun x => Res.of (bD (truD x)) := rfl
@[simp] theorem v_tru_bl (b : Bool) : bD (truD (.bl b)) = some (.bl b) := rfl
@[simp] theorem v_chain : gChain f2 f3 g h k δ = (g δ).bind fun x => (h δ).bind fun y => (Res.of (f2 x y)).bind fun z => match z with
 | .bl true => (k δ).bind fun w => Res.of (f3 y w)
 | .bl false => .ok (.bl false)
 | _ => .st := rfl
@[simp] theorem v_cons : Pu.gCons g r δ = match g δ with
 | .ok d => (match r δ with
  | .ok ds => .ok (d :: ds)
  | .er c => .er c
  | .st => .st)
 | .er c => .er c
 | .st => .st := rfl
@[simp] theorem v_gnil : Pu.gNil δ = .ok [] := rfl
@[simp] theorem v_call (fn : List D → Res) : gCall fn r δ = match r δ with
 | .ok ds => fn ds
 | .er c => .er c
 | .st => .st := rfl
@[simp] theorem v_lst : gLst r δ = match r δ with
 | .ok ds => if ds.length ≤ 16777216 then .ok (.lst ds) else .st
 | .er c => .er c
 | .st => .st := rfl
@[simp] theorem v_tup : Pu.gTup r δ = match r δ with
 | .ok ds => if ds.length ≤ 16777216 then .ok (.tup ds) else .st
 | .er c => .er c
 | .st => .st := rfl
@[simp] theorem v_walk : gWalk g δ = match g δ with
 | .ok d => (match walkD d with
  | some ds => .ok ds
  | none => .st)
 | .er c => .er c
 | .st => .st := rfl
@[simp] theorem v_walk_l (ds : List D) : walkD (.lst ds) = some ds := rfl
@[simp] theorem v_walk_t (ds : List D) : walkD (.tup ds) = some ds := rfl
@[simp] theorem v_fz_nil : fz [] F δ = F δ := rfl
@[simp] theorem v_fz (is : List Nat) : fz (i :: is) F δ = fz is F (frz i δ) := rfl
@[simp] theorem v_frz : frz i δ = match δ[i]? with
 | some (.ow ds) => δ.set i (.pu (.lst ds))
 | some (.od t kvs) => δ.set i (.pu (.dct t kvs))
 | _ => δ := rfl
@[simp] theorem v_gtName : gtName i d δ = some (δ.set i (.pu d)) := rfl
@[simp] theorem v_app : sApp i g δ = match δ[i]? with
 | some (.ow ds) => (g δ).then fun d => if ds.length < 16777216 then .nx (δ.set i (.ow (ds ++ [d]))) else .st
 | _ => .st := rfl
@[simp] theorem v_ext : sExt i g δ = match δ[i]? with
 | some (.ow ds) => (g δ).then fun d => match itemsD d with
  | some es => if ds.length + es.length ≤ 16777216 then .nx (δ.set i (.ow (ds ++ es))) else .st
  | none => .st
 | _ => .st := rfl
@[simp] theorem v_items_l (ds : List D) : itemsD (.lst ds) = some ds := rfl
@[simp] theorem v_items_t (ds : List D) : itemsD (.tup ds) = some ds := rfl
@[simp] theorem v_len_l (ds : List D) : Pu.pyLen (.lst ds) = some (.int ds.length) := rfl
@[simp] theorem v_len_t (ds : List D) : Pu.pyLen (.tup ds) = some (.int ds.length) := rfl
@[simp] theorem v_lt (a b : Int) : pyLtI (.int a) (.int b) = some (.bl (decide (a < b))) := rfl
@[simp] theorem v_le (a b : Int) : pyLe (.int a) (.int b) = some (.bl (decide (a ≤ b))) := rfl
@[simp] theorem v_gt (a b : Int) : pyGt (.int a) (.int b) = some (.bl (decide (b < a))) := rfl
@[simp] theorem v_ge (a b : Int) : pyGe (.int a) (.int b) = some (.bl (decide (b ≤ a))) := rfl
@[simp] theorem v_eqi (a b : Int) : pyEq (.int a) (.int b) = some (.bl (a == b)) := rfl
@[simp] theorem v_nei (a b : Int) : pyNe (.int a) (.int b) = some (.bl (!(a == b))) := rfl
@[simp] theorem v_add (a b : Int) : pyAdd (.int a) (.int b) = some (.int (a + b)) := rfl
@[simp] theorem v_sub (a b : Int) : pySub (.int a) (.int b) = some (.int (a - b)) := rfl
@[simp] theorem v_isN : pyIsN d .non = some (.bl (isNon d)) := rfl
@[simp] theorem v_isNotN : pyIsNotN d .non = some (.bl (!isNon d)) := rfl
@[simp] theorem v_tuple_l (ds : List D) : pyTuple (.lst ds) = some (.tup ds) := rfl
@[simp] theorem v_tuple_t (ds : List D) : pyTuple (.tup ds) = some (.tup ds) := rfl
@[simp] theorem v_gM : gM f2 g h δ = (g δ).bind fun x => match x with
 | .lst xs => (h δ).bind fun y => Res.of (f2 (.lst xs) y)
 | _ => .st := rfl
@[simp] theorem v_is_ss (x : Str) : pyIsI "str" (.str x) = some (.bl true) := by kernel_rfl
@[simp] theorem v_is_si (x : Int) : pyIsI "str" (.int x) = some (.bl false) := by kernel_rfl
@[simp] theorem v_is_sb (x : Bool) : pyIsI "str" (.bl x) = some (.bl false) := by kernel_rfl
@[simp] theorem v_is_sn : pyIsI "str" .non = some (.bl false) := by kernel_rfl
@[simp] theorem v_is_st (x : List D) : pyIsI "str" (.tup x) = some (.bl false) := by kernel_rfl
@[simp] theorem v_is_sl (x : List D) : pyIsI "str" (.lst x) = some (.bl false) := by kernel_rfl
@[simp] theorem v_is_is (x : Str) : pyIsI "int" (.str x) = some (.bl false) := by kernel_rfl
@[simp] theorem v_is_ii (x : Int) : pyIsI "int" (.int x) = some (.bl true) := by kernel_rfl
@[simp] theorem v_is_ib (x : Bool) : pyIsI "int" (.bl x) = some (.bl true) := by kernel_rfl
@[simp] theorem v_is_in : pyIsI "int" .non = some (.bl false) := by kernel_rfl
@[simp] theorem v_is_it (x : List D) : pyIsI "int" (.tup x) = some (.bl false) := by kernel_rfl
@[simp] theorem v_is_il (x : List D) : pyIsI "int" (.lst x) = some (.bl false) := by kernel_rfl
@[simp] theorem v_is_bs (x : Str) : pyIsI "bool" (.str x) = some (.bl false) := by kernel_rfl
@[simp] theorem v_is_bi (x : Int) : pyIsI "bool" (.int x) = some (.bl false) := by kernel_rfl
@[simp] theorem v_is_bb (x : Bool) : pyIsI "bool" (.bl x) = some (.bl true) := by kernel_rfl
@[simp] theorem v_is_bn : pyIsI "bool" .non = some (.bl false) := by kernel_rfl
@[simp] theorem v_is_bt (x : List D) : pyIsI "bool" (.tup x) = some (.bl false) := by kernel_rfl
@[simp] theorem v_is_bL (x : List D) : pyIsI "bool" (.lst x) = some (.bl false) := by kernel_rfl
@[simp] theorem v_is_ts (x : Str) : pyIsI "tuple" (.str x) = some (.bl false) := by kernel_rfl
@[simp] theorem v_is_ti (x : Int) : pyIsI "tuple" (.int x) = some (.bl false) := by kernel_rfl
@[simp] theorem v_is_tb (x : Bool) : pyIsI "tuple" (.bl x) = some (.bl false) := by kernel_rfl
@[simp] theorem v_is_tn : pyIsI "tuple" .non = some (.bl false) := by kernel_rfl
@[simp] theorem v_is_tt (x : List D) : pyIsI "tuple" (.tup x) = some (.bl true) := by kernel_rfl
@[simp] theorem v_is_tl (x : List D) : pyIsI "tuple" (.lst x) = some (.bl false) := by kernel_rfl
@[simp] theorem v_is_ls (x : Str) : pyIsI "list" (.str x) = some (.bl false) := by kernel_rfl
@[simp] theorem v_is_li (x : Int) : pyIsI "list" (.int x) = some (.bl false) := by kernel_rfl
@[simp] theorem v_is_lb (x : Bool) : pyIsI "list" (.bl x) = some (.bl false) := by kernel_rfl
@[simp] theorem v_is_ln : pyIsI "list" .non = some (.bl false) := by kernel_rfl
@[simp] theorem v_is_lt (x : List D) : pyIsI "list" (.tup x) = some (.bl false) := by kernel_rfl
@[simp] theorem v_is_ll (x : List D) : pyIsI "list" (.lst x) = some (.bl true) := by kernel_rfl
@[simp] theorem v_ix2_0 (a b : D) : pyIx (.tup [a, b]) (.int 0) = some a := rfl
@[simp] theorem v_ix2_1 (a b : D) : pyIx (.tup [a, b]) (.int 1) = some b := rfl
@[simp] theorem v_ix3_0 (a b c : D) : pyIx (.tup [a, b, c]) (.int 0) = some a := rfl
@[simp] theorem v_ix3_1 (a b c : D) : pyIx (.tup [a, b, c]) (.int 1) = some b := rfl
@[simp] theorem v_ix3_2 (a b c : D) : pyIx (.tup [a, b, c]) (.int 2) = some c := rfl
theorem v_mod (a b : Int) (h : 0 < b) : pyMod (.int a) (.int b) = some (.int (a % b)) := if_pos h
theorem v_mul (a b : Int) (h : (-(2 ^ 64) < a ∧ a < 2 ^ 64) ∨ (-(2 ^ 64) < b ∧ b < 2 ^ 64)) : pyMul (.int a) (.int b) = some (.int (a * b)) := if_pos h
theorem v_fdiv (a b : Int) (h : 0 < b ∧ b < 1073741824) : pyFdiv (.int a) (.int b) = some (.int (a / b)) := if_pos h
end
end Pu
end
section
namespace LK
open PySem PySem.Spec PyProof.Rows L2 Pu
noncomputable def b_law_cell_at (n : Nat) : En → Out := (sSeq (sIf (g2 pyLtI (gArg 1) (g1 pyLen (gArg 0))) (sRet (g2 pyIx (gArg 0) (gArg 1))) sNil)
 (sSeq (sIf (g2 pyEq (gArg 0) (gLst gNil)) (sRet (gC (.int 0))) sNil)
 (sRet (g2 pyAdd (g2 pyMul (g2 pyIx (gArg 0) (g2 pyMod (gArg 1) (g1 pyLen (gArg 0)))) (gC (.int 31))) (gArg 1)))))
theorem m_law_cell_at (n : Nat) : gB (tab (n + 1)) bFuel (cOf d_law_cell_at.st d_law_cell_at.lm) (defBody d_law_cell_at.st) = b_law_cell_at n := by kernel_rfl
theorem n_law_cell_at : (nOf d_law_cell_at.st).length = 2 := by decide +kernel
theorem e_law_cell_at (n : Nat) (ds : List D) : fnOfD (tab (n + 1)) d_law_cell_at ds = outR (b_law_cell_at n (entry [true, true] ds ++ List.replicate (2 - ds.length) .no)) := fn_eq (m_law_cell_at n) n_law_cell_at rfl ds
noncomputable def b_law_mixed (n : Nat) : En → Out := (sSeq (sSet 3 (g2 pyMod (g2 pyMul (g2 pyAdd (g2 pyAdd (gCall (fnOfD (tab n) d_law_cell_at) (gCons (gArg 0) (gCons (gArg 1) gNil))) (g2 pyMul (gC (.int 7919)) (gArg 1))) (gC (.int 1))) (gC (.int 48271))) (gC (.int 2147483647))))
 (sRet (g2 pyMod (g2 pyMod (g2 pyAdd (g2 pyAdd (g2 pyMul (gArg 3) (gArg 3)) (g2 pyMul (gC (.int 7)) (gArg 3))) (gArg 1)) (gC (.int 2147483629))) (gArg 2))))
theorem m_law_mixed (n : Nat) : gB (tab (n + 1)) bFuel (cOf d_law_mixed.st d_law_mixed.lm) (defBody d_law_mixed.st) = b_law_mixed n := by kernel_rfl
theorem n_law_mixed : (nOf d_law_mixed.st).length = 4 := by decide +kernel
theorem e_law_mixed (n : Nat) (ds : List D) : fnOfD (tab (n + 1)) d_law_mixed ds = outR (b_law_mixed n (entry [true, true, true] ds ++ List.replicate (4 - ds.length) .no)) := fn_eq (m_law_mixed n) n_law_mixed rfl ds
noncomputable def b_law_bad_columns (n : Nat) : En → Out := (sRet (g2 pyIx (gLst (gCons (gLst (gCons (gC (.int 0)) gNil)) (gCons (gTup (gCons (gC (.int 1)) (gCons (gC (.int 0)) gNil))) (gCons (gTup (gCons (gC (.int 1)) (gCons (gC (.int 1)) gNil))) (gCons (gTup (gCons (g1 pyNeg (gC (.int 1))) gNil)) (gCons (gTup (gCons (gC (.int 3)) gNil)) (gCons (gTup (gCons (gC (.bl true)) gNil)) (gCons (gTup (gCons (gC (.str "0")) gNil)) (gCons (gC .non) (gCons (gTup (gCons (gC (.int 0)) (gCons (gC .non) gNil))) (gCons (gC (.int 1)) gNil))))))))))) (g2 pyMod (gArg 0) (gC (.int 10)))))
theorem m_law_bad_columns (n : Nat) : gB (tab (n + 1)) bFuel (cOf d_law_bad_columns.st d_law_bad_columns.lm) (defBody d_law_bad_columns.st) = b_law_bad_columns n := by kernel_rfl
theorem n_law_bad_columns : (nOf d_law_bad_columns.st).length = 1 := by decide +kernel
theorem e_law_bad_columns (n : Nat) (ds : List D) : fnOfD (tab (n + 1)) d_law_bad_columns ds = outR (b_law_bad_columns n (entry [true] ds ++ List.replicate (1 - ds.length) .no)) := fn_eq (m_law_bad_columns n) n_law_bad_columns rfl ds
noncomputable def b_law (n : Nat) : En → Out := (sSeq (sSet 1 (gCall (fnOfD (tab n) d_law_mixed) (gCons (gArg 0) (gCons (gC (.int 0)) (gCons (g2 pyPow (gC (.int 10)) (gC (.int 6))) gNil)))))
 (sSeq (sSet 2 (gCall (fnOfD (tab n) d_law_mixed) (gCons (gArg 0) (gCons (gC (.int 1)) (gCons (gC (.int 4)) gNil)))))
 (sSeq (sSet 3 (gCall (fnOfD (tab n) d_law_mixed) (gCons (gArg 0) (gCons (gC (.int 2)) (gCons (gC (.int 8)) gNil)))))
 (sSeq (sSetO 4 (gLst (gCons (gTup (gCons (gTup (gCons (gC (.int 0)) gNil)) (gCons (gTup (gCons (gC (.int 1)) gNil)) gNil))) (gCons (gTup (gCons (gTup (gCons (gC (.int 1)) (gCons (gC (.int 2)) gNil))) (gCons (gTup (gCons (gC (.int 0)) gNil)) gNil))) gNil))))
 (sSeq (sIf (g2 pyNe (gCall (fnOfD (tab n) d_span) (gCons (g2 pyMul (gSl (gArg 4) none (some (gC (.int 1)))) (gC (.int 10))) (gCons (gC (.int 3)) (gCons (gTup (gCons (gC (.int 0)) gNil)) gNil)))) (gTup (gCons (gC (.int 0)) (gCons (gC (.int 1)) gNil)))) (sRet (gC (.bl false))) sNil)
 (sSeq (sIf (g2 pyEq (gArg 2) (gC (.int 0))) (sSeq (sSet 5 (gCall (fnOfD (tab n) d_law_bad_columns) (gCons (g2 pyFdiv (gArg 1) (gC (.int 3))) gNil)))
 (sSeq (fz [5, 5] (sSetO 6 (gLst (gCons (gTup (gCons (gVar 5) (gCons (gTup (gCons (gC (.int 0)) gNil)) gNil))) (gCons (gTup (gCons (gTup (gCons (gC (.int 0)) gNil)) (gCons (gVar 5) gNil))) (gCons (gLst (gCons (gTup (gCons (gC (.int 0)) gNil)) (gCons (gTup (gCons (gC (.int 1)) gNil)) gNil))) (gCons (gTup (gCons (gTup (gCons (gC (.int 0)) gNil)) (gCons (gTup (gCons (gC (.int 1)) gNil)) (gCons (gTup (gCons (gC (.int 2)) gNil)) gNil)))) (gCons (gTup (gCons (gTup (gCons (gC (.int 0)) gNil)) gNil)) (gCons (gC .non) gNil)))))))))
 (sSeq (fz [3] (sSet 7 (gTup (gCons (gVar 3) (gCons (g2 pyIx (gLst (gCons (gLst (gCons (g2 pyIx (gArg 4) (gC (.int 0))) (gCons (g2 pyIx (gArg 6) (g2 pyMod (gArg 1) (gC (.int 6)))) gNil))) (gCons (g1 pyTuple (gArg 4)) (gCons (gC .non) (gCons (g2 pyMul (gSl (gArg 4) none (some (gC (.int 1)))) (gC (.int 11))) gNil))))) (g2 pyMod (g2 pyFdiv (gArg 1) (gC (.int 30))) (gC (.int 4)))) (gCons (gC (.int 3)) (gCons (gTup (gCons (gC (.int 0)) (gCons (gC (.int 1)) (gCons (gC (.int 2)) gNil)))) gNil)))))))
 (sSet 8 (gC (.str "bonds")))))) (sIf (g2 pyEq (gArg 2) (gC (.int 1))) (sSeq (fz [3, 4] (sSet 7 (gTup (gCons (gVar 3) (gCons (gVar 4) (gCons (g2 pyIx (gLst (gCons (gC (.int 0)) (gCons (gC (.int 7)) (gCons (gC (.bl true)) (gCons (gC (.str "3")) (gCons (gC .non) (gCons (gC (.int 2)) gNil))))))) (g2 pyMod (gArg 1) (gC (.int 6)))) (gCons (gTup (gCons (gC (.int 0)) (gCons (gC (.int 1)) gNil))) gNil)))))))
 (sSet 8 (gC (.str "bonds")))) (sIf (g2 pyEq (gArg 2) (gC (.int 2))) (sSeq (fz [4] (sSet 7 (gTup (gCons (gCall (fnOfD (tab n) d_law_mixed) (gCons (gArg 0) (gCons (gC (.int 3)) (gCons (gC (.int 6)) gNil)))) (gCons (gVar 4) (gCons (gC (.int 3)) (gCons (gCall (fnOfD (tab n) d_law_bad_columns) (gCons (gArg 1) gNil)) gNil)))))))
 (sSet 8 (gC (.str "columns")))) (sSeq (sSet 9 (g2 pyIx (gLst (gCons (gC .non) (gCons (gTup (gCons (gTup (gCons (gC (.int 0)) (gCons (gC (.int 1)) (gCons (gC (.int 2)) gNil)))) gNil)) (gCons (gLst gNil) (gCons (gLst (gCons (gTup (gCons (gC (.int 0)) (gCons (gC (.int 1)) gNil))) gNil)) (gCons (gLst (gCons (gTup (gCons (gC (.int 0)) gNil)) (gCons (gTup (gCons (gC (.int 2)) gNil)) gNil))) (gCons (gLst (gCons (gTup (gCons (gC (.int 0)) (gCons (gC (.int 1)) (gCons (gC (.int 2)) gNil)))) (gCons (gTup (gCons (gC (.int 3)) gNil)) gNil))) gNil))))))) (g2 pyMod (gArg 1) (gC (.int 6)))))
 (sSeq (sSet 10 (gC (.int 0)))
 (sSeq (fz [4, 9] (sTry (fnOfD (tab n) d_sound) (gCons (gVar 4) (gCons (gC (.int 3)) (gCons (gVar 9) gNil))) (kC (tab (n + 1)) [("NoColumns", 10, .int 1)])))
 (sRet (g2 pyEq (gArg 10) (gC (.int 1))))))))))
 (sSeq (sIf (g2 pyNe (gCall (fnOfD (tab n) d_law_kind) (gCons (g2 pyIx (gArg 7) (gC (.int 0))) (gCons (g2 pyIx (gArg 7) (gC (.int 1))) (gCons (g2 pyIx (gArg 7) (gC (.int 2))) (gCons (g2 pyIx (gArg 7) (gC (.int 3))) gNil))))) (gArg 8)) (sRet (gC (.bl false))) sNil)
 (sRet (gCall (fnOfD (tab n) d_law_by_base) (gCons (g2 pyIx (gArg 7) (gC (.int 0))) (gCons (g2 pyIx (gArg 7) (gC (.int 1))) (gCons (g2 pyIx (gArg 7) (gC (.int 2))) (gCons (g2 pyIx (gArg 7) (gC (.int 3))) gNil)))))))))))))
theorem m_law (n : Nat) : gB (tab (n + 1)) bFuel (cOf d_law.st d_law.lm) (defBody d_law.st) = b_law n := by kernel_rfl
theorem n_law : (nOf d_law.st).length = 11 := by decide +kernel
theorem e_law (n : Nat) (ds : List D) : fnOfD (tab (n + 1)) d_law ds = outR (b_law n (entry [false] ds ++ List.replicate (11 - ds.length) .no)) := fn_eq (m_law n) n_law rfl ds
end LK
end
section
namespace Pu
open PySem PySem.Spec PyProof.Rows
theorem boolsOf_map {α : Type} (b : α → Bool) : ∀ l : List α, boolsOf (l.map fun a => D.bl (b a)) = some (l.map b)
 | [] => rfl
 | a :: l => by
  show (boolsOf (l.map fun a => D.bl (b a))).map (b a :: ·) = _
  rw [boolsOf_map b l]; rfl
theorem all_map {α : Type} (b : α → Bool) (l : List α) : pyAll (.lst (l.map fun a => D.bl (b a))) = some (.bl (l.all b)) := by
 unfold pyAll
 dsimp only
 rw [boolsOf_map]
 show some (D.bl ((l.map b).all id)) = _
 rw [List.all_map]; rfl
end Pu
end
section
namespace LK
open PySem PySem.Spec PyProof.Rows Pu
noncomputable abbrev scr (ns : List Int) : D := .lst (ns.map D.int)
noncomputable def cellZ (ns : List Int) (k : Int) : Int := if k < ns.length then (ns[k.toNat]?).getD 0 else if ns = [] then 0 else (ns[(k % ns.length).toNat]?).getD 0 * 31 + k
theorem toPyL_ints : ∀ ns : List Int, toPyL (ns.map D.int) = some (ns.map PyData.int)
 | [] => rfl
 | n :: ns => by show (match toPy (.int n) with | some p => (match toPyL (ns.map D.int) with | some ps => some (p :: ps) | none => none) | none => none) = _; rw [toPyL_ints ns]; rfl
theorem canLay_ints : ∀ ns : List Int, PyData.canLayAll0 (ns.map PyData.int) = true
 | [] => rfl
 | n :: ns => by show (PyData.canLay0 (.int n) && PyData.canLayAll0 (ns.map PyData.int)) = true; rw [canLay_ints ns]; rfl
theorem depth_ints : ∀ ns : List Int, PyData.depthAll (ns.map PyData.int) ≤ 1
 | [] => by decide
 | n :: ns => by
  show max (PyData.depth (.int n)) (PyData.depthAll (ns.map PyData.int)) ≤ 1
  have := depth_ints ns
  have h : PyData.depth (.int n) ≤ 1 := Nat.zero_le _
  omega
theorem shaped_ints (ns : List Int) : SeqAt.shaped (.list (ns.map PyData.int)) = true := by
 unfold SeqAt.shaped
 have h1 : PyData.canLay0 (.list (ns.map PyData.int)) = true := canLay_ints ns
 have h2 : PyData.depth (.list (ns.map PyData.int)) ≤ 2 := by
  have := depth_ints ns
  show PyData.depthAll (ns.map PyData.int) + 1 ≤ 2
  omega
 rw [h1]
 simp only [Bool.true_and, decide_eq_true_eq]
 omega
theorem eq_nil (ns : List Int) : pyEq (scr ns) (.lst []) = some (.bl (decide (ns = []))) := by
 unfold pyEq eqD scr
 have e1 : toPy (.lst (ns.map D.int)) = some (.list (ns.map PyData.int)) := by unfold toPy; rw [toPyL_ints]
 have e2 : toPy (.lst []) = some (.list []) := rfl
 rw [e1, e2]
 dsimp only
 rw [shaped_ints, show SeqAt.shaped (.list []) = true from by decide]
 cases ns <;> rfl
theorem ix_scr (ns : List Int) (k : Int) (h0 : 0 ≤ k) (h1 : k < ns.length) : pyIx (scr ns) (.int k) = some (.int ((ns[k.toNat]?).getD 0)) := by
 show L2.atI (ns.map D.int) k = _
 have hk : k = ((k.toNat : Nat) : Int) := by omega
 have hl : k.toNat < ns.length := by omega
 rw [hk]
 refine (L2.atI_nat (j := k.toNat) (v := D.int ((ns[k.toNat]?).getD 0)) ?_).trans (by rw [← hk])
 rw [List.getElem?_map, List.getElem?_eq_getElem hl]
 rfl
theorem cell_ok (n : Nat) (ns : List Int) (k : Int) (hk : 0 ≤ k) : fnOfD (tab (n + 1)) d_law_cell_at [scr ns, .int k] = .ok (.int (cellZ ns k)) := by
 rw [e_law_cell_at]
 unfold cellZ
 by_cases h1 : k < ns.length
 ·have e1 := ix_scr ns k hk h1
  simp [b_law_cell_at, h1, e1]
 ·by_cases h2 : ns = []
  ·subst h2
   have e2 := eq_nil []
   have h3 : ¬ k < 0 := by omega
   simp [b_law_cell_at, h3, e2]
  ·have hp : 0 < ns.length := by cases ns <;> simp_all
   have hm1 : 0 ≤ k % (ns.length : Int) := Int.emod_nonneg _ (by omega)
   have hm2 : k % (ns.length : Int) < ns.length := Int.emod_lt_of_pos _ (by omega)
   have e1 := ix_scr ns (k % ns.length) hm1 hm2
   have e2 := eq_nil ns
   have e3 := v_mod k ns.length (by omega)
   have e4 := fun a => v_mul a 31 (.inr (by decide))
   simp [b_law_cell_at, h1, h2, e1, e2, e3, e4]
noncomputable def mixZ (ns : List Int) (k m : Int) : Int :=
 let x := (cellZ ns k + 7919 * k + 1) * 48271 % 2147483647
 (x * x + 7 * x + k) % 2147483629 % m
theorem mixed_eq (n : Nat) (ns : List Int) (k m : Int) (hk : 0 ≤ k) (hm : 0 < m) : fnOfD (tab (n + 2)) d_law_mixed [scr ns, .int k, .int m] = .ok (.int (mixZ ns k m)) := by
 rw [e_law_mixed]
 have e0 := cell_ok n ns k hk
 have e1 := v_mul 7919 k (.inl (by decide))
 have e2 := fun a => v_mul a 48271 (.inr (by decide))
 have e3 := fun a => v_mod a 2147483647 (by decide)
 have e4 := fun a => v_mod a 2147483629 (by decide)
 have e5 := fun a => v_mod a m hm
 have e6 := fun a => v_mul 7 a (.inl (by decide))
 have e7 : ∀ a : Int, pyMul (.int (a % 2147483647)) (.int (a % 2147483647)) = some (.int (a % 2147483647 * (a % 2147483647))) := fun a => v_mul _ _ (.inl (by omega))
 simp [b_law_mixed, e0, e1, e2, e3, e4, e5, e6, e7, mixZ]
theorem mixZ_range (ns : List Int) (k m : Int) (hm : 0 < m) : 0 ≤ mixZ ns k m ∧ mixZ ns k m < m := ⟨Int.emod_nonneg _ (by omega), Int.emod_lt_of_pos _ hm⟩
theorem filterMap_of {h : Pu.D → Option Pu.D} {f : Nat → Pu.D} : ∀ (l : List Nat), (∀ j ∈ l, h (.int (0 + (j : Int))) = some (f j)) → (l.map fun (i : Nat) => Pu.D.int (0 + (i : Int))).filterMap h = l.map f
 | [], _ => rfl
 | a :: l, hf => by
  rw [List.map_cons, List.filterMap_cons, hf a List.mem_cons_self]
  dsimp only
  rw [filterMap_of l fun j hj => hf j (List.mem_cons_of_mem _ hj), List.map_cons]
theorem filterMap_range {h : Pu.D → Option Pu.D} {f : Nat → Pu.D} (n : Nat) (hf : ∀ j : Nat, j < n → h (.int (0 + (j : Int))) = some (f j)) : (rangeD 0 n).filterMap h = (List.range n).map f :=
 filterMap_of _ fun j hj => hf j (List.mem_range.mp hj)
noncomputable abbrev tu (l : List Int) : Pu.D := .tup (l.map Pu.D.int)
noncomputable def badCols : List Pu.D := [.lst [.int 0], tu [1, 0], tu [1, 1], tu [-1], tu [3], .tup [.bl true], .tup [.str "0"], .non, .tup [.int 0, .non], .int 1]
noncomputable def good0 : Pu.D := .tup [tu [0], tu [1]]
noncomputable def good1 : Pu.D := .tup [tu [1, 2], tu [0]]
noncomputable def someL (d : Pu.D) : List Pu.D := [.tup [d, tu [0]], .tup [tu [0], d], .lst [tu [0], tu [1]], .tup [tu [0], tu [1], tu [2]], .tup [tu [0]], .non]
noncomputable def list4 (s : Pu.D) : List Pu.D := [.lst [good0, s], .tup [good0, good1], .non, .lst (List.replicate 11 good0)]
noncomputable def isS (x : Str) : Res → Bool
 | .ok (.str y) => decide (y = x)
 | _ => false
noncomputable def isT : Res → Bool
 | .ok (.bl true) => true
 | _ => false
noncomputable def chk (b m t : Pu.D) (k : Str) (w : Nat) : Bool := isS k (fnOfD (tab 28) d_law_kind [.int (w : Int), b, m, t]) && isT (fnOfD (tab 28) d_law_by_base [.int (w : Int), b, m, t])
theorem c0 : ((badCols.flatMap fun d => (someL d).flatMap list4).all fun x => (List.range 8).all (chk x (.int 3) (tu [0, 1, 2]) "bonds")) = true := by decide +kernel
theorem c1 : ([.int 0, .int 7, .bl true, .str "3", .non, .int 2].all fun m => (List.range 8).all (chk (.lst [good0, good1]) m (tu [0, 1]) "bonds")) = true := by decide +kernel
theorem c2 : (badCols.all fun d => (List.range 6).all (chk (.lst [good0, good1]) (.int 3) d "columns")) = true := by decide +kernel
noncomputable def parts6 : List Pu.D := [.non, .tup [tu [0, 1, 2]], .lst [], .lst [tu [0, 1]], .lst [tu [0], tu [2]], .lst [tu [0, 1, 2], tu [3]]]
noncomputable def isE (x : Str) : Res → Bool
 | .er y => decide (y = x)
 | _ => false
theorem c3 : (parts6.all fun p => isE "NoColumns" (fnOfD (tab 28) d_sound [.lst [good0, good1], .int 3, p])) = true := by decide +kernel
theorem c4 : fnOfD (tab 28) d_span [.lst (List.replicate 10 good0), .int 3, tu [0]] = .ok (tu [0, 1]) := by kernel_rfl
theorem isS_ok {x : Str} {r : Res} (h : isS x r = true) : r = .ok (.str x) := by
 unfold isS at h
 split at h
 ·rw [of_decide_eq_true h]
 ·cases h
theorem isT_ok {r : Res} (h : isT r = true) : r = .ok (.bl true) := by
 unfold isT at h
 split at h
 ·rfl
 ·cases h
theorem isE_ok {x : Str} {r : Res} (h : isE x r = true) : r = .er x := by
 unfold isE at h
 split at h
 ·rw [of_decide_eq_true h]
 ·cases h
theorem chk_ok {b m t : Pu.D} {k : Str} {w : Nat} (h : chk b m t k w = true) : fnOfD (tab 28) d_law_kind [.int (w : Int), b, m, t] = .ok (.str k) ∧ fnOfD (tab 28) d_law_by_base [.int (w : Int), b, m, t] = .ok (.bl true) := by
 unfold chk at h
 rw [Bool.and_eq_true] at h
 exact ⟨isS_ok h.1, isT_ok h.2⟩
theorem way0 {d s x : Pu.D} {w : Nat} (hd : d ∈ badCols) (hs : s ∈ someL d) (hx : x ∈ list4 s) (hw : w < 8) : fnOfD (tab 28) d_law_kind [.int (w : Int), x, .int 3, tu [0, 1, 2]] = .ok (.str "bonds") ∧ fnOfD (tab 28) d_law_by_base [.int (w : Int), x, .int 3, tu [0, 1, 2]] = .ok (.bl true) :=
 chk_ok (List.all_eq_true.mp (List.all_eq_true.mp c0 x (List.mem_flatMap.mpr ⟨d, hd, List.mem_flatMap.mpr ⟨s, hs, hx⟩⟩)) w (List.mem_range.mpr hw))
theorem way1 {m : Pu.D} {w : Nat} (hm : m ∈ [.int 0, .int 7, .bl true, .str "3", .non, .int 2]) (hw : w < 8) : fnOfD (tab 28) d_law_kind [.int (w : Int), .lst [good0, good1], m, tu [0, 1]] = .ok (.str "bonds") ∧ fnOfD (tab 28) d_law_by_base [.int (w : Int), .lst [good0, good1], m, tu [0, 1]] = .ok (.bl true) :=
 chk_ok (List.all_eq_true.mp (List.all_eq_true.mp c1 m hm) w (List.mem_range.mpr hw))
theorem way2 {d : Pu.D} {w : Nat} (hd : d ∈ badCols) (hw : w < 6) : fnOfD (tab 28) d_law_kind [.int (w : Int), .lst [good0, good1], .int 3, d] = .ok (.str "columns") ∧ fnOfD (tab 28) d_law_by_base [.int (w : Int), .lst [good0, good1], .int 3, d] = .ok (.bl true) :=
 chk_ok (List.all_eq_true.mp (List.all_eq_true.mp c2 d hd) w (List.mem_range.mpr hw))
theorem way3 {p : Pu.D} (hp : p ∈ parts6) : fnOfD (tab 28) d_sound [.lst [good0, good1], .int 3, p] = .er "NoColumns" := isE_ok (List.all_eq_true.mp c3 p hp)
theorem pick_ix (l : List Pu.D) (i : Int) (h0 : 0 ≤ i) (h1 : i < l.length) : ∃ d ∈ l, pyIx (.lst l) (.int i) = some d := by
 have hk : i.toNat < l.length := by omega
 refine ⟨l[i.toNat], List.getElem_mem hk, ?_⟩
 unfold pyIx
 simp only [L2.atI, L2.ixN, h0, h1, if_true, Option.bind_some, List.getElem?_eq_getElem hk]
theorem call_ok {fn : List Pu.D → Res} {r : En → ResL} {δ : En} {ds : List Pu.D} {x : Res} (h1 : r δ = .ok ds) (h2 : fn ds = x) : gCall fn r δ = x := by
 unfold gCall
 rw [h1]
 exact h2
theorem bad_eq (n : Nat) (c : Int) : ∃ d ∈ badCols, fnOfD (tab (n + 1)) d_law_bad_columns [.int c] = .ok d := by
 obtain ⟨d, hd, e⟩ := pick_ix badCols (c % 10) (Int.emod_nonneg _ (by decide)) (by have := Int.emod_lt_of_pos c (show (0 : Int) < 10 by decide); show c % 10 < 10; exact this)
 refine ⟨d, hd, ?_⟩
 rw [e_law_bad_columns n]
 have em := Pu.v_mod c 10 (by decide)
 have l : (gLst (Pu.gCons (gLst (Pu.gCons (gC (.int 0)) Pu.gNil)) (Pu.gCons (Pu.gTup (Pu.gCons (gC (.int 1)) (Pu.gCons (gC (.int 0)) Pu.gNil))) (Pu.gCons (Pu.gTup (Pu.gCons (gC (.int 1)) (Pu.gCons (gC (.int 1)) Pu.gNil))) (Pu.gCons (Pu.gTup (Pu.gCons (g1 pyNeg (gC (.int 1))) Pu.gNil)) (Pu.gCons (Pu.gTup (Pu.gCons (gC (.int 3)) Pu.gNil)) (Pu.gCons (Pu.gTup (Pu.gCons (gC (.bl true)) Pu.gNil)) (Pu.gCons (Pu.gTup (Pu.gCons (gC (.str "0")) Pu.gNil)) (Pu.gCons (gC .non) (Pu.gCons (Pu.gTup (Pu.gCons (gC (.int 0)) (Pu.gCons (gC .non) Pu.gNil))) (Pu.gCons (gC (.int 1)) Pu.gNil))))))))))) [.bo (.int c)] = .ok (.lst badCols) := rfl
 unfold b_law_bad_columns
 simp only [List.length_cons, List.length_nil, Pu.v_entry_t, Pu.v_entry_nil, List.replicate, Nat.reduceAdd, Nat.reduceSub, List.append_nil]
 rw [Pu.v_ret, Pu.v_g2, l]
 simp [em, e]
noncomputable def S0 (n : Nat) : En → Out := (sSet 1 (gCall (fnOfD (tab n) d_law_mixed) (Pu.gCons (gArg 0) (Pu.gCons (gC (.int 0)) (Pu.gCons (g2 pyPow (gC (.int 10)) (gC (.int 6))) Pu.gNil)))))
noncomputable def S1 (n : Nat) : En → Out := (sSet 2 (gCall (fnOfD (tab n) d_law_mixed) (Pu.gCons (gArg 0) (Pu.gCons (gC (.int 1)) (Pu.gCons (gC (.int 4)) Pu.gNil)))))
noncomputable def S2 (n : Nat) : En → Out := (sSet 3 (gCall (fnOfD (tab n) d_law_mixed) (Pu.gCons (gArg 0) (Pu.gCons (gC (.int 2)) (Pu.gCons (gC (.int 8)) Pu.gNil)))))
noncomputable def S3 (n : Nat) : En → Out := (sSetO 4 (gLst (Pu.gCons (Pu.gTup (Pu.gCons (Pu.gTup (Pu.gCons (gC (.int 0)) Pu.gNil)) (Pu.gCons (Pu.gTup (Pu.gCons (gC (.int 1)) Pu.gNil)) Pu.gNil))) (Pu.gCons (Pu.gTup (Pu.gCons (Pu.gTup (Pu.gCons (gC (.int 1)) (Pu.gCons (gC (.int 2)) Pu.gNil))) (Pu.gCons (Pu.gTup (Pu.gCons (gC (.int 0)) Pu.gNil)) Pu.gNil))) Pu.gNil))))
noncomputable def S4 (n : Nat) : En → Out := (sIf (g2 pyNe (gCall (fnOfD (tab n) d_span) (Pu.gCons (g2 pyMul (gSl (gArg 4) none (some (gC (.int 1)))) (gC (.int 10))) (Pu.gCons (gC (.int 3)) (Pu.gCons (Pu.gTup (Pu.gCons (gC (.int 0)) Pu.gNil)) Pu.gNil)))) (Pu.gTup (Pu.gCons (gC (.int 0)) (Pu.gCons (gC (.int 1)) Pu.gNil)))) (sRet (gC (.bl false))) sNil)
noncomputable def S6 (n : Nat) : En → Out := (sIf (g2 pyNe (gCall (fnOfD (tab n) d_law_kind) (Pu.gCons (g2 pyIx (gArg 7) (gC (.int 0))) (Pu.gCons (g2 pyIx (gArg 7) (gC (.int 1))) (Pu.gCons (g2 pyIx (gArg 7) (gC (.int 2))) (Pu.gCons (g2 pyIx (gArg 7) (gC (.int 3))) Pu.gNil))))) (gArg 8)) (sRet (gC (.bl false))) sNil)
noncomputable def S7 (n : Nat) : En → Out := (sRet (gCall (fnOfD (tab n) d_law_by_base) (Pu.gCons (g2 pyIx (gArg 7) (gC (.int 0))) (Pu.gCons (g2 pyIx (gArg 7) (gC (.int 1))) (Pu.gCons (g2 pyIx (gArg 7) (gC (.int 2))) (Pu.gCons (g2 pyIx (gArg 7) (gC (.int 3))) Pu.gNil))))))
noncomputable def WA0 (n : Nat) : En → Out := (sSet 5 (gCall (fnOfD (tab n) d_law_bad_columns) (Pu.gCons (g2 pyFdiv (gArg 1) (gC (.int 3))) Pu.gNil)))
noncomputable def WA1 (n : Nat) : En → Out := (fz [5, 5] (sSetO 6 (gLst (Pu.gCons (Pu.gTup (Pu.gCons (gVar 5) (Pu.gCons (Pu.gTup (Pu.gCons (gC (.int 0)) Pu.gNil)) Pu.gNil))) (Pu.gCons (Pu.gTup (Pu.gCons (Pu.gTup (Pu.gCons (gC (.int 0)) Pu.gNil)) (Pu.gCons (gVar 5) Pu.gNil))) (Pu.gCons (gLst (Pu.gCons (Pu.gTup (Pu.gCons (gC (.int 0)) Pu.gNil)) (Pu.gCons (Pu.gTup (Pu.gCons (gC (.int 1)) Pu.gNil)) Pu.gNil))) (Pu.gCons (Pu.gTup (Pu.gCons (Pu.gTup (Pu.gCons (gC (.int 0)) Pu.gNil)) (Pu.gCons (Pu.gTup (Pu.gCons (gC (.int 1)) Pu.gNil)) (Pu.gCons (Pu.gTup (Pu.gCons (gC (.int 2)) Pu.gNil)) Pu.gNil)))) (Pu.gCons (Pu.gTup (Pu.gCons (Pu.gTup (Pu.gCons (gC (.int 0)) Pu.gNil)) Pu.gNil)) (Pu.gCons (gC .non) Pu.gNil)))))))))
noncomputable def WA2 (n : Nat) : En → Out := (fz [3] (sSet 7 (Pu.gTup (Pu.gCons (gVar 3) (Pu.gCons (g2 pyIx (gLst (Pu.gCons (gLst (Pu.gCons (g2 pyIx (gArg 4) (gC (.int 0))) (Pu.gCons (g2 pyIx (gArg 6) (g2 pyMod (gArg 1) (gC (.int 6)))) Pu.gNil))) (Pu.gCons (g1 pyTuple (gArg 4)) (Pu.gCons (gC .non) (Pu.gCons (g2 pyMul (gSl (gArg 4) none (some (gC (.int 1)))) (gC (.int 11))) Pu.gNil))))) (g2 pyMod (g2 pyFdiv (gArg 1) (gC (.int 30))) (gC (.int 4)))) (Pu.gCons (gC (.int 3)) (Pu.gCons (Pu.gTup (Pu.gCons (gC (.int 0)) (Pu.gCons (gC (.int 1)) (Pu.gCons (gC (.int 2)) Pu.gNil)))) Pu.gNil)))))))
noncomputable def WA3 (n : Nat) : En → Out := (sSet 8 (gC (.str "bonds")))
noncomputable def WB0 (n : Nat) : En → Out := (fz [3, 4] (sSet 7 (Pu.gTup (Pu.gCons (gVar 3) (Pu.gCons (gVar 4) (Pu.gCons (g2 pyIx (gLst (Pu.gCons (gC (.int 0)) (Pu.gCons (gC (.int 7)) (Pu.gCons (gC (.bl true)) (Pu.gCons (gC (.str "3")) (Pu.gCons (gC .non) (Pu.gCons (gC (.int 2)) Pu.gNil))))))) (g2 pyMod (gArg 1) (gC (.int 6)))) (Pu.gCons (Pu.gTup (Pu.gCons (gC (.int 0)) (Pu.gCons (gC (.int 1)) Pu.gNil))) Pu.gNil)))))))
noncomputable def WB1 (n : Nat) : En → Out := (sSet 8 (gC (.str "bonds")))
noncomputable def WC0 (n : Nat) : En → Out := (fz [4] (sSet 7 (Pu.gTup (Pu.gCons (gCall (fnOfD (tab n) d_law_mixed) (Pu.gCons (gArg 0) (Pu.gCons (gC (.int 3)) (Pu.gCons (gC (.int 6)) Pu.gNil)))) (Pu.gCons (gVar 4) (Pu.gCons (gC (.int 3)) (Pu.gCons (gCall (fnOfD (tab n) d_law_bad_columns) (Pu.gCons (gArg 1) Pu.gNil)) Pu.gNil)))))))
noncomputable def WC1 (n : Nat) : En → Out := (sSet 8 (gC (.str "columns")))
noncomputable def WD0 (n : Nat) : En → Out := (sSet 9 (g2 pyIx (gLst (Pu.gCons (gC .non) (Pu.gCons (Pu.gTup (Pu.gCons (Pu.gTup (Pu.gCons (gC (.int 0)) (Pu.gCons (gC (.int 1)) (Pu.gCons (gC (.int 2)) Pu.gNil)))) Pu.gNil)) (Pu.gCons (gLst Pu.gNil) (Pu.gCons (gLst (Pu.gCons (Pu.gTup (Pu.gCons (gC (.int 0)) (Pu.gCons (gC (.int 1)) Pu.gNil))) Pu.gNil)) (Pu.gCons (gLst (Pu.gCons (Pu.gTup (Pu.gCons (gC (.int 0)) Pu.gNil)) (Pu.gCons (Pu.gTup (Pu.gCons (gC (.int 2)) Pu.gNil)) Pu.gNil))) (Pu.gCons (gLst (Pu.gCons (Pu.gTup (Pu.gCons (gC (.int 0)) (Pu.gCons (gC (.int 1)) (Pu.gCons (gC (.int 2)) Pu.gNil)))) (Pu.gCons (Pu.gTup (Pu.gCons (gC (.int 3)) Pu.gNil)) Pu.gNil))) Pu.gNil))))))) (g2 pyMod (gArg 1) (gC (.int 6)))))
noncomputable def WD1 (n : Nat) : En → Out := (sSet 10 (gC (.int 0)))
noncomputable def WD2 (n : Nat) : En → Out := (fz [4, 9] (sTry (fnOfD (tab n) d_sound) (Pu.gCons (gVar 4) (Pu.gCons (gC (.int 3)) (Pu.gCons (gVar 9) Pu.gNil))) (kC (tab (n + 1)) [("NoColumns", 10, .int 1)])))
noncomputable def WD3 (n : Nat) : En → Out := (sRet (g2 pyEq (gArg 10) (gC (.int 1))))
noncomputable def S5 (n : Nat) : En → Out := sIf (g2 pyEq (gArg 2) (gC (.int 0))) (sSeq (WA0 n) (sSeq (WA1 n) (sSeq (WA2 n) (WA3 n)))) (sIf (g2 pyEq (gArg 2) (gC (.int 1))) (sSeq (WB0 n) (WB1 n)) (sIf (g2 pyEq (gArg 2) (gC (.int 2))) (sSeq (WC0 n) (WC1 n)) (sSeq (WD0 n) (sSeq (WD1 n) (sSeq (WD2 n) (WD3 n))))))
theorem law_parts (n : Nat) : b_law n = sSeq (S0 n) (sSeq (S1 n) (sSeq (S2 n) (sSeq (S3 n) (sSeq (S4 n) (sSeq (S5 n) (sSeq (S6 n) (S7 n))))))) := rfl
section
variable {v0 v1 v2 v3 v4 v5 v6 v9 v10 : Sl} {c w : Int} {k : Nat}
theorem tail_ok {b m t : Pu.D} {x : Str} (hx : pyNe (.str x) (.str x) = some (.bl false)) (h : fnOfD (tab 28) d_law_kind [.int (k : Int), b, m, t] = .ok (.str x) ∧ fnOfD (tab 28) d_law_by_base [.int (k : Int), b, m, t] = .ok (.bl true)) :
  sSeq (S6 28) (S7 28) [v0, v1, v2, v3, v4, v5, v6, .pu (.tup [.int (k : Int), b, m, t]), .pu (.str x), v9, v10] = .rt (.bl true) := by
 have a : ∀ f : List Pu.D → Res, gCall f (Pu.gCons (g2 pyIx (gArg 7) (gC (.int 0))) (Pu.gCons (g2 pyIx (gArg 7) (gC (.int 1))) (Pu.gCons (g2 pyIx (gArg 7) (gC (.int 2))) (Pu.gCons (g2 pyIx (gArg 7) (gC (.int 3))) Pu.gNil)))) [v0, v1, v2, v3, v4, v5, v6, .pu (.tup [.int (k : Int), b, m, t]), .pu (.str x), v9, v10] = f [.int (k : Int), b, m, t] := fun f => rfl
 unfold S6 S7
 rw [Pu.v_seq, Pu.v_if, Pu.v_g2, a, h.1]
 simp only [Pu.v_bind_ok, Pu.v_arg, List.getElem?_cons_zero, List.getElem?_cons_succ, hx, Pu.v_of_some, Pu.v_then_ok, Pu.v_nil]
 rw [Pu.v_ret, a, h.2]
 rfl
end
section
variable {ns : List Int} {c : Int} {k : Nat}
theorem mod_ix (l : List Pu.D) (c m : Int) (hm : 0 < m) (hl : (l.length : Int) = m) : ∃ d ∈ l, pyIx (.lst l) (.int (c % m)) = some d := pick_ix l (c % m) (Int.emod_nonneg _ (by omega)) (by have := Int.emod_lt_of_pos c hm; omega)
theorem neB : pyNe (.str "bonds") (.str "bonds") = some (.bl false) := by kernel_rfl
theorem neC : pyNe (.str "columns") (.str "columns") = some (.bl false) := by kernel_rfl
theorem wayA (hw : k < 8) : sSeq (S5 28) (sSeq (S6 28) (S7 28)) [.pu (scr ns), .pu (.int c), .pu (.int 0), .pu (.int (k : Int)), .ow [good0, good1], .no, .no, .no, .no, .no, .no] = .rt (.bl true) := by
 obtain ⟨d, hd, e0⟩ := bad_eq 27 (c / 3)
 obtain ⟨s, hs, e1⟩ := mod_ix (someL d) c 6 (by decide) rfl
 obtain ⟨x, hx, e2⟩ := mod_ix (list4 s) (c / 30) 4 (by decide) rfl
 have f3 := Pu.v_fdiv c 3 (by decide)
 have f30 := Pu.v_fdiv c 30 (by decide)
 have m6 := Pu.v_mod c 6 (by decide)
 have m4 := Pu.v_mod (c / 30) 4 (by decide)
 have k0 : gCall (fnOfD (tab 28) d_law_bad_columns) (Pu.gCons (g2 pyFdiv (gArg 1) (gC (.int 3))) Pu.gNil) [.pu (scr ns), .pu (.int c), .pu (.int 0), .pu (.int (k : Int)), .ow [good0, good1], .no, .no, .no, .no, .no, .no] = .ok d := call_ok (ds := [.int (c / 3)]) (by simp [f3]) e0
 have a0 : WA0 28 [.pu (scr ns), .pu (.int c), .pu (.int 0), .pu (.int (k : Int)), .ow [good0, good1], .no, .no, .no, .no, .no, .no] = .nx [.pu (scr ns), .pu (.int c), .pu (.int 0), .pu (.int (k : Int)), .ow [good0, good1], .pu d, .no, .no, .no, .no, .no] := by
  unfold WA0
  rw [Pu.v_set, k0]; rfl
 have a1 : WA1 28 [.pu (scr ns), .pu (.int c), .pu (.int 0), .pu (.int (k : Int)), .ow [good0, good1], .pu d, .no, .no, .no, .no, .no] = .nx [.pu (scr ns), .pu (.int c), .pu (.int 0), .pu (.int (k : Int)), .ow [good0, good1], .pu d, .ow (someL d), .no, .no, .no, .no] := rfl
 have p1 : (g2 pyIx (gArg 6) (g2 pyMod (gArg 1) (gC (.int 6)))) [.pu (scr ns), .pu (.int c), .pu (.int 0), .pu (.int (k : Int)), .ow [good0, good1], .pu d, .ow (someL d), .no, .no, .no, .no] = .ok s := by
  rw [Pu.v_g2, Pu.v_g2]
  simp only [Pu.v_arg, Pu.v_c, List.getElem?_cons_zero, List.getElem?_cons_succ, Pu.v_bind_ok, m6, e1, Pu.v_of_some]
 have p2 : (g2 pyMul (gSl (gArg 4) none (some (gC (.int 1)))) (gC (.int 11))) [.pu (scr ns), .pu (.int c), .pu (.int 0), .pu (.int (k : Int)), .ow [good0, good1], .pu d, .ow (someL d), .no, .no, .no, .no] = .ok (.lst (List.replicate 11 good0)) := rfl
 have p3 : (g2 pyIx (gArg 4) (gC (.int 0))) [.pu (scr ns), .pu (.int c), .pu (.int 0), .pu (.int (k : Int)), .ow [good0, good1], .pu d, .ow (someL d), .no, .no, .no, .no] = .ok good0 := rfl
 have p4 : (g1 pyTuple (gArg 4)) [.pu (scr ns), .pu (.int c), .pu (.int 0), .pu (.int (k : Int)), .ow [good0, good1], .pu d, .ow (someL d), .no, .no, .no, .no] = .ok (.tup [good0, good1]) := rfl
 have l4 : (gLst (Pu.gCons (gLst (Pu.gCons (g2 pyIx (gArg 4) (gC (.int 0))) (Pu.gCons (g2 pyIx (gArg 6) (g2 pyMod (gArg 1) (gC (.int 6)))) Pu.gNil))) (Pu.gCons (g1 pyTuple (gArg 4)) (Pu.gCons (gC .non) (Pu.gCons (g2 pyMul (gSl (gArg 4) none (some (gC (.int 1)))) (gC (.int 11))) Pu.gNil))))) [.pu (scr ns), .pu (.int c), .pu (.int 0), .pu (.int (k : Int)), .ow [good0, good1], .pu d, .ow (someL d), .no, .no, .no, .no] = .ok (.lst (list4 s)) := by
  rw [Pu.v_lst, Pu.v_cons, Pu.v_lst, Pu.v_cons, p3, Pu.v_cons, p1, Pu.v_cons, p4, Pu.v_cons, Pu.v_cons, p2]
  rfl
 have p5 : (g2 pyIx (gLst (Pu.gCons (gLst (Pu.gCons (g2 pyIx (gArg 4) (gC (.int 0))) (Pu.gCons (g2 pyIx (gArg 6) (g2 pyMod (gArg 1) (gC (.int 6)))) Pu.gNil))) (Pu.gCons (g1 pyTuple (gArg 4)) (Pu.gCons (gC .non) (Pu.gCons (g2 pyMul (gSl (gArg 4) none (some (gC (.int 1)))) (gC (.int 11))) Pu.gNil))))) (g2 pyMod (g2 pyFdiv (gArg 1) (gC (.int 30))) (gC (.int 4)))) [.pu (scr ns), .pu (.int c), .pu (.int 0), .pu (.int (k : Int)), .ow [good0, good1], .pu d, .ow (someL d), .no, .no, .no, .no] = .ok x := by
  rw [Pu.v_g2, l4, Pu.v_g2, Pu.v_g2]
  simp only [Pu.v_arg, Pu.v_c, List.getElem?_cons_zero, List.getElem?_cons_succ, Pu.v_bind_ok, f30, m4, e2, Pu.v_of_some]
 have a2 : WA2 28 [.pu (scr ns), .pu (.int c), .pu (.int 0), .pu (.int (k : Int)), .ow [good0, good1], .pu d, .ow (someL d), .no, .no, .no, .no] = .nx [.pu (scr ns), .pu (.int c), .pu (.int 0), .pu (.int (k : Int)), .ow [good0, good1], .pu d, .ow (someL d), .pu (.tup [.int (k : Int), x, .int 3, tu [0, 1, 2]]), .no, .no, .no] := by
  unfold WA2
  simp only [Pu.v_fz, Pu.v_fz_nil, Pu.v_frz, List.getElem?_cons_zero, List.getElem?_cons_succ]
  rw [Pu.v_set, Pu.v_tup, Pu.v_cons, Pu.v_cons, p5]
  rfl
 have a3 : WA3 28 [.pu (scr ns), .pu (.int c), .pu (.int 0), .pu (.int (k : Int)), .ow [good0, good1], .pu d, .ow (someL d), .pu (.tup [.int (k : Int), x, .int 3, tu [0, 1, 2]]), .no, .no, .no] = .nx [.pu (scr ns), .pu (.int c), .pu (.int 0), .pu (.int (k : Int)), .ow [good0, good1], .pu d, .ow (someL d), .pu (.tup [.int (k : Int), x, .int 3, tu [0, 1, 2]]), .pu (.str "bonds"), .no, .no] := rfl
 have st : S5 28 [.pu (scr ns), .pu (.int c), .pu (.int 0), .pu (.int (k : Int)), .ow [good0, good1], .no, .no, .no, .no, .no, .no] = .nx [.pu (scr ns), .pu (.int c), .pu (.int 0), .pu (.int (k : Int)), .ow [good0, good1], .pu d, .ow (someL d), .pu (.tup [.int (k : Int), x, .int 3, tu [0, 1, 2]]), .pu (.str "bonds"), .no, .no] := by
  unfold S5
  rw [Pu.v_if]
  show sSeq (WA0 28) (sSeq (WA1 28) (sSeq (WA2 28) (WA3 28))) [.pu (scr ns), .pu (.int c), .pu (.int 0), .pu (.int (k : Int)), .ow [good0, good1], .no, .no, .no, .no, .no, .no] = _
  rw [Pu.v_seq, a0]
  dsimp only
  rw [Pu.v_seq, a1]
  dsimp only
  rw [Pu.v_seq, a2]
  exact a3
 rw [Pu.v_seq, st]
 exact tail_ok neB (way0 hd hs hx hw)
theorem wayB (hw : k < 8) : sSeq (S5 28) (sSeq (S6 28) (S7 28)) [.pu (scr ns), .pu (.int c), .pu (.int 1), .pu (.int (k : Int)), .ow [good0, good1], .no, .no, .no, .no, .no, .no] = .rt (.bl true) := by
 obtain ⟨x, hx, e2⟩ := mod_ix [.int 0, .int 7, .bl true, .str "3", .non, .int 2] c 6 (by decide) rfl
 have m6 := Pu.v_mod c 6 (by decide)
 have l4 : (gLst (Pu.gCons (gC (.int 0)) (Pu.gCons (gC (.int 7)) (Pu.gCons (gC (.bl true)) (Pu.gCons (gC (.str "3")) (Pu.gCons (gC .non) (Pu.gCons (gC (.int 2)) Pu.gNil))))))) [.pu (scr ns), .pu (.int c), .pu (.int 1), .pu (.int (k : Int)), .pu (.lst [good0, good1]), .no, .no, .no, .no, .no, .no] = .ok (.lst [.int 0, .int 7, .bl true, .str "3", .non, .int 2]) := rfl
 have p5 : (g2 pyIx (gLst (Pu.gCons (gC (.int 0)) (Pu.gCons (gC (.int 7)) (Pu.gCons (gC (.bl true)) (Pu.gCons (gC (.str "3")) (Pu.gCons (gC .non) (Pu.gCons (gC (.int 2)) Pu.gNil))))))) (g2 pyMod (gArg 1) (gC (.int 6)))) [.pu (scr ns), .pu (.int c), .pu (.int 1), .pu (.int (k : Int)), .pu (.lst [good0, good1]), .no, .no, .no, .no, .no, .no] = .ok x := by
  rw [Pu.v_g2, l4, Pu.v_g2]
  simp only [Pu.v_arg, Pu.v_c, List.getElem?_cons_zero, List.getElem?_cons_succ, Pu.v_bind_ok, m6, e2, Pu.v_of_some]
 have a2 : WB0 28 [.pu (scr ns), .pu (.int c), .pu (.int 1), .pu (.int (k : Int)), .ow [good0, good1], .no, .no, .no, .no, .no, .no] = .nx [.pu (scr ns), .pu (.int c), .pu (.int 1), .pu (.int (k : Int)), .pu (.lst [good0, good1]), .no, .no, .pu (.tup [.int (k : Int), .lst [good0, good1], x, tu [0, 1]]), .no, .no, .no] := by
  unfold WB0
  simp only [Pu.v_fz, Pu.v_fz_nil, Pu.v_frz, List.getElem?_cons_zero, List.getElem?_cons_succ, List.set_cons_succ, List.set_cons_zero]
  rw [Pu.v_set, Pu.v_tup, Pu.v_cons, Pu.v_cons, Pu.v_cons, p5]
  rfl
 have a3 : WB1 28 [.pu (scr ns), .pu (.int c), .pu (.int 1), .pu (.int (k : Int)), .pu (.lst [good0, good1]), .no, .no, .pu (.tup [.int (k : Int), .lst [good0, good1], x, tu [0, 1]]), .no, .no, .no] = .nx [.pu (scr ns), .pu (.int c), .pu (.int 1), .pu (.int (k : Int)), .pu (.lst [good0, good1]), .no, .no, .pu (.tup [.int (k : Int), .lst [good0, good1], x, tu [0, 1]]), .pu (.str "bonds"), .no, .no] := rfl
 have st : S5 28 [.pu (scr ns), .pu (.int c), .pu (.int 1), .pu (.int (k : Int)), .ow [good0, good1], .no, .no, .no, .no, .no, .no] = .nx [.pu (scr ns), .pu (.int c), .pu (.int 1), .pu (.int (k : Int)), .pu (.lst [good0, good1]), .no, .no, .pu (.tup [.int (k : Int), .lst [good0, good1], x, tu [0, 1]]), .pu (.str "bonds"), .no, .no] := by
  unfold S5
  rw [Pu.v_if]
  show sSeq (WB0 28) (WB1 28) [.pu (scr ns), .pu (.int c), .pu (.int 1), .pu (.int (k : Int)), .ow [good0, good1], .no, .no, .no, .no, .no, .no] = _
  rw [Pu.v_seq, a2]
  exact a3
 rw [Pu.v_seq, st]
 exact tail_ok neB (way1 hx hw)
theorem wayC : sSeq (S5 28) (sSeq (S6 28) (S7 28)) [.pu (scr ns), .pu (.int c), .pu (.int 2), .pu (.int (k : Int)), .ow [good0, good1], .no, .no, .no, .no, .no, .no] = .rt (.bl true) := by
 obtain ⟨d, hd, e0⟩ := bad_eq 27 c
 obtain ⟨r0, r1⟩ := mixZ_range ns 3 6 (by decide)
 obtain ⟨j, hj⟩ : ∃ j : Nat, mixZ ns 3 6 = (j : Int) := ⟨(mixZ ns 3 6).toNat, by omega⟩
 have e3 := mixed_eq 26 ns 3 6 (by decide) (by decide)
 rw [hj] at e3
 have k0 : (gCall (fnOfD (tab 28) d_law_bad_columns) (Pu.gCons (gArg 1) Pu.gNil)) [.pu (scr ns), .pu (.int c), .pu (.int 2), .pu (.int (k : Int)), .pu (.lst [good0, good1]), .no, .no, .no, .no, .no, .no] = .ok d := call_ok (ds := [.int c]) (by simp) e0
 have k1 : (gCall (fnOfD (tab 28) d_law_mixed) (Pu.gCons (gArg 0) (Pu.gCons (gC (.int 3)) (Pu.gCons (gC (.int 6)) Pu.gNil)))) [.pu (scr ns), .pu (.int c), .pu (.int 2), .pu (.int (k : Int)), .pu (.lst [good0, good1]), .no, .no, .no, .no, .no, .no] = .ok (.int (j : Int)) := call_ok (ds := [scr ns, .int 3, .int 6]) (by simp) e3
 have a2 : WC0 28 [.pu (scr ns), .pu (.int c), .pu (.int 2), .pu (.int (k : Int)), .ow [good0, good1], .no, .no, .no, .no, .no, .no] = .nx [.pu (scr ns), .pu (.int c), .pu (.int 2), .pu (.int (k : Int)), .pu (.lst [good0, good1]), .no, .no, .pu (.tup [.int (j : Int), .lst [good0, good1], .int 3, d]), .no, .no, .no] := by
  unfold WC0
  simp only [Pu.v_fz, Pu.v_fz_nil, Pu.v_frz, List.getElem?_cons_zero, List.getElem?_cons_succ, List.set_cons_succ, List.set_cons_zero]
  rw [Pu.v_set, Pu.v_tup, Pu.v_cons, k1, Pu.v_cons, Pu.v_cons, Pu.v_cons, k0]
  rfl
 have a3 : WC1 28 [.pu (scr ns), .pu (.int c), .pu (.int 2), .pu (.int (k : Int)), .pu (.lst [good0, good1]), .no, .no, .pu (.tup [.int (j : Int), .lst [good0, good1], .int 3, d]), .no, .no, .no] = .nx [.pu (scr ns), .pu (.int c), .pu (.int 2), .pu (.int (k : Int)), .pu (.lst [good0, good1]), .no, .no, .pu (.tup [.int (j : Int), .lst [good0, good1], .int 3, d]), .pu (.str "columns"), .no, .no] := rfl
 have st : S5 28 [.pu (scr ns), .pu (.int c), .pu (.int 2), .pu (.int (k : Int)), .ow [good0, good1], .no, .no, .no, .no, .no, .no] = .nx [.pu (scr ns), .pu (.int c), .pu (.int 2), .pu (.int (k : Int)), .pu (.lst [good0, good1]), .no, .no, .pu (.tup [.int (j : Int), .lst [good0, good1], .int 3, d]), .pu (.str "columns"), .no, .no] := by
  unfold S5
  rw [Pu.v_if]
  show sSeq (WC0 28) (WC1 28) [.pu (scr ns), .pu (.int c), .pu (.int 2), .pu (.int (k : Int)), .ow [good0, good1], .no, .no, .no, .no, .no, .no] = _
  rw [Pu.v_seq, a2]
  exact a3
 rw [Pu.v_seq, st]
 exact tail_ok neC (way2 hd (by omega))
theorem wayD : sSeq (S5 28) (sSeq (S6 28) (S7 28)) [.pu (scr ns), .pu (.int c), .pu (.int 3), .pu (.int (k : Int)), .ow [good0, good1], .no, .no, .no, .no, .no, .no] = .rt (.bl true) := by
 obtain ⟨x, hx, e2⟩ := mod_ix parts6 c 6 (by decide) rfl
 have m6 := Pu.v_mod c 6 (by decide)
 have l4 : (gLst (Pu.gCons (gC .non) (Pu.gCons (Pu.gTup (Pu.gCons (Pu.gTup (Pu.gCons (gC (.int 0)) (Pu.gCons (gC (.int 1)) (Pu.gCons (gC (.int 2)) Pu.gNil)))) Pu.gNil)) (Pu.gCons (gLst Pu.gNil) (Pu.gCons (gLst (Pu.gCons (Pu.gTup (Pu.gCons (gC (.int 0)) (Pu.gCons (gC (.int 1)) Pu.gNil))) Pu.gNil)) (Pu.gCons (gLst (Pu.gCons (Pu.gTup (Pu.gCons (gC (.int 0)) Pu.gNil)) (Pu.gCons (Pu.gTup (Pu.gCons (gC (.int 2)) Pu.gNil)) Pu.gNil))) (Pu.gCons (gLst (Pu.gCons (Pu.gTup (Pu.gCons (gC (.int 0)) (Pu.gCons (gC (.int 1)) (Pu.gCons (gC (.int 2)) Pu.gNil)))) (Pu.gCons (Pu.gTup (Pu.gCons (gC (.int 3)) Pu.gNil)) Pu.gNil))) Pu.gNil))))))) [.pu (scr ns), .pu (.int c), .pu (.int 3), .pu (.int (k : Int)), .ow [good0, good1], .no, .no, .no, .no, .no, .no] = .ok (.lst parts6) := rfl
 have a0 : WD0 28 [.pu (scr ns), .pu (.int c), .pu (.int 3), .pu (.int (k : Int)), .ow [good0, good1], .no, .no, .no, .no, .no, .no] = .nx [.pu (scr ns), .pu (.int c), .pu (.int 3), .pu (.int (k : Int)), .ow [good0, good1], .no, .no, .no, .no, .pu x, .no] := by
  unfold WD0
  rw [Pu.v_set, Pu.v_g2, l4, Pu.v_g2]
  simp only [Pu.v_arg, Pu.v_c, List.getElem?_cons_zero, List.getElem?_cons_succ, Pu.v_bind_ok, m6, e2, Pu.v_of_some, Pu.v_then_ok]
  rfl
 have a1 : WD1 28 [.pu (scr ns), .pu (.int c), .pu (.int 3), .pu (.int (k : Int)), .ow [good0, good1], .no, .no, .no, .no, .pu x, .no] = .nx [.pu (scr ns), .pu (.int c), .pu (.int 3), .pu (.int (k : Int)), .ow [good0, good1], .no, .no, .no, .no, .pu x, .pu (.int 0)] := rfl
 have h3 := way3 hx
 have ar : (Pu.gCons (gVar 4) (Pu.gCons (gC (.int 3)) (Pu.gCons (gVar 9) Pu.gNil))) [.pu (scr ns), .pu (.int c), .pu (.int 3), .pu (.int (k : Int)), .pu (.lst [good0, good1]), .no, .no, .no, .no, .pu x, .pu (.int 0)] = .ok [.lst [good0, good1], .int 3, x] := rfl
 have a2 : WD2 28 [.pu (scr ns), .pu (.int c), .pu (.int 3), .pu (.int (k : Int)), .ow [good0, good1], .no, .no, .no, .no, .pu x, .pu (.int 0)] = .nx [.pu (scr ns), .pu (.int c), .pu (.int 3), .pu (.int (k : Int)), .pu (.lst [good0, good1]), .no, .no, .no, .no, .pu x, .pu (.int 1)] := by
  unfold WD2
  simp only [Pu.v_fz, Pu.v_fz_nil, Pu.v_frz, List.getElem?_cons_zero, List.getElem?_cons_succ, List.set_cons_succ, List.set_cons_zero]
  unfold sTry
  rw [ar]
  dsimp only
  rw [h3]
  dsimp only
  unfold kC
  rw [if_pos (by kernel_rfl)]
  rfl
 have a3 : WD3 28 [.pu (scr ns), .pu (.int c), .pu (.int 3), .pu (.int (k : Int)), .pu (.lst [good0, good1]), .no, .no, .no, .no, .pu x, .pu (.int 1)] = .rt (.bl true) := by
  unfold WD3
  simp
 have st : S5 28 [.pu (scr ns), .pu (.int c), .pu (.int 3), .pu (.int (k : Int)), .ow [good0, good1], .no, .no, .no, .no, .no, .no] = .rt (.bl true) := by
  unfold S5
  rw [Pu.v_if]
  show sSeq (WD0 28) (sSeq (WD1 28) (sSeq (WD2 28) (WD3 28))) [.pu (scr ns), .pu (.int c), .pu (.int 3), .pu (.int (k : Int)), .ow [good0, good1], .no, .no, .no, .no, .no, .no] = _
  rw [Pu.v_seq, a0]
  dsimp only
  rw [Pu.v_seq, a1]
  dsimp only
  rw [Pu.v_seq, a2]
  exact a3
 rw [Pu.v_seq, st]
end
theorem law_true (ns : List Int) (hn : ns.length ≤ 63) : fnOfD (tab 29) d_law [.lst (ns.map Pu.D.int)] = .ok (.bl true) := by
 have e0 := mixed_eq 26 ns 0 1000000 (by decide) (by decide)
 have e1 := mixed_eq 26 ns 1 4 (by decide) (by decide)
 have e2 := mixed_eq 26 ns 2 8 (by decide) (by decide)
 have k0 : (gCall (fnOfD (tab 28) d_law_mixed) (Pu.gCons (gArg 0) (Pu.gCons (gC (.int 0)) (Pu.gCons (g2 pyPow (gC (.int 10)) (gC (.int 6))) Pu.gNil)))) [.pu (scr ns), .no, .no, .no, .no, .no, .no, .no, .no, .no, .no] = .ok (.int (mixZ ns 0 1000000)) := call_ok (ds := [scr ns, .int 0, .int 1000000]) rfl e0
 have k1 : (gCall (fnOfD (tab 28) d_law_mixed) (Pu.gCons (gArg 0) (Pu.gCons (gC (.int 1)) (Pu.gCons (gC (.int 4)) Pu.gNil)))) [.pu (scr ns), .pu (.int (mixZ ns 0 1000000)), .no, .no, .no, .no, .no, .no, .no, .no, .no] = .ok (.int (mixZ ns 1 4)) := call_ok (ds := [scr ns, .int 1, .int 4]) rfl e1
 have k2 : (gCall (fnOfD (tab 28) d_law_mixed) (Pu.gCons (gArg 0) (Pu.gCons (gC (.int 2)) (Pu.gCons (gC (.int 8)) Pu.gNil)))) [.pu (scr ns), .pu (.int (mixZ ns 0 1000000)), .pu (.int (mixZ ns 1 4)), .no, .no, .no, .no, .no, .no, .no, .no] = .ok (.int (mixZ ns 2 8)) := call_ok (ds := [scr ns, .int 2, .int 8]) rfl e2
 have s0 : S0 28 [.pu (scr ns), .no, .no, .no, .no, .no, .no, .no, .no, .no, .no] = .nx [.pu (scr ns), .pu (.int (mixZ ns 0 1000000)), .no, .no, .no, .no, .no, .no, .no, .no, .no] := by
  unfold S0
  rw [Pu.v_set, k0]; rfl
 have s1 : S1 28 [.pu (scr ns), .pu (.int (mixZ ns 0 1000000)), .no, .no, .no, .no, .no, .no, .no, .no, .no] = .nx [.pu (scr ns), .pu (.int (mixZ ns 0 1000000)), .pu (.int (mixZ ns 1 4)), .no, .no, .no, .no, .no, .no, .no, .no] := by
  unfold S1
  rw [Pu.v_set, k1]; rfl
 have s2 : S2 28 [.pu (scr ns), .pu (.int (mixZ ns 0 1000000)), .pu (.int (mixZ ns 1 4)), .no, .no, .no, .no, .no, .no, .no, .no] = .nx [.pu (scr ns), .pu (.int (mixZ ns 0 1000000)), .pu (.int (mixZ ns 1 4)), .pu (.int (mixZ ns 2 8)), .no, .no, .no, .no, .no, .no, .no] := by
  unfold S2
  rw [Pu.v_set, k2]; rfl
 have s3 : S3 28 [.pu (scr ns), .pu (.int (mixZ ns 0 1000000)), .pu (.int (mixZ ns 1 4)), .pu (.int (mixZ ns 2 8)), .no, .no, .no, .no, .no, .no, .no] = .nx [.pu (scr ns), .pu (.int (mixZ ns 0 1000000)), .pu (.int (mixZ ns 1 4)), .pu (.int (mixZ ns 2 8)), .ow [good0, good1], .no, .no, .no, .no, .no, .no] := rfl
 have k4 : (gCall (fnOfD (tab 28) d_span) (Pu.gCons (g2 pyMul (gSl (gArg 4) none (some (gC (.int 1)))) (gC (.int 10))) (Pu.gCons (gC (.int 3)) (Pu.gCons (Pu.gTup (Pu.gCons (gC (.int 0)) Pu.gNil)) Pu.gNil)))) [.pu (scr ns), .pu (.int (mixZ ns 0 1000000)), .pu (.int (mixZ ns 1 4)), .pu (.int (mixZ ns 2 8)), .ow [good0, good1], .no, .no, .no, .no, .no, .no] = .ok (tu [0, 1]) := call_ok (ds := [.lst (List.replicate 10 good0), .int 3, tu [0]]) rfl c4
 have ne : pyNe (tu [0, 1]) (tu [0, 1]) = some (.bl false) := by kernel_rfl
 have s4 : S4 28 [.pu (scr ns), .pu (.int (mixZ ns 0 1000000)), .pu (.int (mixZ ns 1 4)), .pu (.int (mixZ ns 2 8)), .ow [good0, good1], .no, .no, .no, .no, .no, .no] = .nx [.pu (scr ns), .pu (.int (mixZ ns 0 1000000)), .pu (.int (mixZ ns 1 4)), .pu (.int (mixZ ns 2 8)), .ow [good0, good1], .no, .no, .no, .no, .no, .no] := by
  unfold S4
  rw [Pu.v_if, Pu.v_g2, k4]
  show ((Res.of (pyNe (tu [0, 1]) (tu [0, 1]))).then _) = _
  rw [ne]
  rfl
 have fin : sSeq (S5 28) (sSeq (S6 28) (S7 28)) [.pu (scr ns), .pu (.int (mixZ ns 0 1000000)), .pu (.int (mixZ ns 1 4)), .pu (.int (mixZ ns 2 8)), .ow [good0, good1], .no, .no, .no, .no, .no, .no] = .rt (.bl true) := by
  obtain ⟨w0, w1⟩ := mixZ_range ns 1 4 (by decide)
  obtain ⟨q0, q1⟩ := mixZ_range ns 2 8 (by decide)
  obtain ⟨k, hk⟩ : ∃ k : Nat, mixZ ns 2 8 = (k : Int) := ⟨(mixZ ns 2 8).toNat, by omega⟩
  generalize mixZ ns 0 1000000 = c
  rw [hk]
  have hw : mixZ ns 1 4 = 0 ∨ mixZ ns 1 4 = 1 ∨ mixZ ns 1 4 = 2 ∨ mixZ ns 1 4 = 3 := by omega
  rcases hw with hw | hw | hw | hw
  ·rw [hw]; exact wayA (by omega)
  ·rw [hw]; exact wayB (by omega)
  ·rw [hw]; exact wayC
  ·rw [hw]; exact wayD
 have e : outR (b_law 28 [.pu (scr ns), .no, .no, .no, .no, .no, .no, .no, .no, .no, .no]) = .ok (.bl true) := by
  rw [law_parts, Pu.v_seq, s0]
  dsimp only
  rw [Pu.v_seq, s1]
  dsimp only
  rw [Pu.v_seq, s2]
  dsimp only
  rw [Pu.v_seq, s3]
  dsimp only
  rw [Pu.v_seq, s4]
  dsimp only
  rw [fin]
  rfl
 exact (e_law 28 [.lst (ns.map Pu.D.int)]).trans e
end LK
end
section
namespace LK
open PySem PySem.Spec PyProof.Rows L2 Pu
theorem all_mk {l : PySem.W.OpenLaw} {w : World} {K : PySem.W.Frag} {h : Heap} {mg : Str → Option Value} {fa : Addr} {n : Nat} {s : FS} (X : K.In h) (G : h.Ns mainGlobals mg) (hfa : mg "law" = some (.ref fa)) (hl : (tab n).fns "law" = some s) (hm : s.ms = [false]) (law : ∀ ns : List Int, ns.length ≤ 63 → s.f [.lst (ns.map D.int)] = .ok (.bl true))
  {f0 : Addr} {oc0 kV0 dc0 pm0 cd0 ct0 : Value} {od0 an0 : Option Addr} {sl0 : Array (Option Value)}
  {f1 : Addr} {oc1 kV1 dc1 pm1 cd1 ct1 : Value} {od1 an1 : Option Addr} {sl1 : Array (Option Value)}
  {f2 : Addr} {oc2 kV2 dc2 pm2 cd2 ct2 : Value} {od2 an2 : Option Addr} {sl2 : Array (Option Value)}
  {f3 : Addr} {oc3 kV3 dc3 pm3 cd3 ct3 : Value} {od3 an3 : Option Addr} {sl3 : Array (Option Value)}
  {f4 : Addr} {oc4 kV4 dc4 pm4  ct4 : Value} {od4 an4 : Option Addr} {sl4 : Array (Option Value)} {cc4 PP4 : Addr}
  {f5 : Addr} {oc5 kV5 dc5 pm5 cd5 ct5 : Value} {od5 an5 : Option Addr} {sl5 : Array (Option Value)}
  {f6 : Addr} {oc6 kV6 dc6 pm6 cd6 ct6 : Value} {od6 an6 : Option Addr} {sl6 : Array (Option Value)}
  {f7 : Addr} {oc7 kV7 dc7 pm7 cd7 ct7 : Value} {od7 an7 : Option Addr} {sl7 : Array (Option Value)}
  {f8 : Addr} {oc8 kV8 dc8 pm8 cd8 ct8 : Value} {od8 an8 : Option Addr} {sl8 : Array (Option Value)}
  {f9 : Addr} {oc9 kV9 dc9 pm9 cd9 ct9 : Value} {od9 an9 : Option Addr} {sl9 : Array (Option Value)}
  {f10 : Addr} {oc10 kV10 dc10 pm10 cd10 ct10 : Value} {od10 an10 : Option Addr} {sl10 : Array (Option Value)}
  {f11 : Addr} {oc11 kV11 dc11 pm11 cd11 ct11 : Value} {od11 an11 : Option Addr} {sl11 : Array (Option Value)}
  {f12 : Addr} {oc12 kV12 dc12 pm12 cd12 ct12 : Value} {od12 an12 : Option Addr} {sl12 : Array (Option Value)}
  {f13 : Addr} {oc13 kV13 dc13 pm13 cd13 ct13 : Value} {od13 an13 : Option Addr} {sl13 : Array (Option Value)}
  {f14 : Addr} {oc14 kV14 dc14 pm14 cd14 ct14 : Value} {od14 an14 : Option Addr} {sl14 : Array (Option Value)}
  {f15 : Addr} {oc15 kV15 dc15 pm15 cd15 ct15 : Value} {od15 an15 : Option Addr} {sl15 : Array (Option Value)}
  {f16 : Addr} {oc16 kV16 dc16 pm16 cd16 ct16 : Value} {od16 an16 : Option Addr} {sl16 : Array (Option Value)}
  {f17 : Addr} {oc17 kV17 dc17 pm17 cd17 ct17 : Value} {od17 an17 : Option Addr} {sl17 : Array (Option Value)}
  {f18 : Addr} {oc18 kV18 dc18 pm18 cd18 ct18 : Value} {od18 an18 : Option Addr} {sl18 : Array (Option Value)}
  {f19 : Addr} {oc19 kV19 dc19 pm19 cd19 ct19 : Value} {od19 an19 : Option Addr} {sl19 : Array (Option Value)}
  {f20 : Addr} {oc20 kV20 dc20 pm20 cd20 ct20 : Value} {od20 an20 : Option Addr} {sl20 : Array (Option Value)}
  {f21 : Addr} {oc21 kV21 dc21 pm21 cd21 ct21 : Value} {od21 an21 : Option Addr} {sl21 : Array (Option Value)}
  {f22 : Addr} {oc22 kV22 dc22 pm22 cd22 ct22 : Value} {od22 an22 : Option Addr} {sl22 : Array (Option Value)}
  {f23 : Addr} {oc23 kV23 dc23 pm23 cd23 ct23 : Value} {od23 an23 : Option Addr} {sl23 : Array (Option Value)}
  {f24 : Addr} {oc24 kV24 dc24 pm24 cd24 ct24 : Value} {od24 an24 : Option Addr} {sl24 : Array (Option Value)}
  {f25 : Addr} {oc25 kV25 dc25 pm25 cd25 ct25 : Value} {od25 an25 : Option Addr} {sl25 : Array (Option Value)}
  {f26 : Addr} {oc26 kV26 dc26 pm26 cd26 ct26 : Value} {od26 an26 : Option Addr} {sl26 : Array (Option Value)}
  {f27 : Addr} {oc27 kV27 dc27 pm27 cd27 ct27 : Value} {od27 an27 : Option Addr} {sl27 : Array (Option Value)}
  {f28 : Addr} {oc28 kV28 dc28 pm28 cd28 ct28 : Value} {od28 an28 : Option Addr} {sl28 : Array (Option Value)}
  {C0 : Addr}
  {C1 : Addr}
  {C2 : Addr}
  (a0 : PySem.W.nsIn K mainGlobals d_is_number.x = some (some (.ref f0)))
  (l0 : K.lookup f0 = some ⟨oc0, od0, .func (PySem.W.fnOf d_is_number.x d_is_number.x (defArgs d_is_number.st) (defBody d_is_number.st) (defScope d_is_number.st) .none kV0 dc0 pm0 an0 cd0 ct0), sl0⟩)
  (c0 : PySem.W.codeIn K cd0 d_is_number.x = true)
  (k0 : PySem.W.keepIn K (.ref f0) = true)
  (a1 : PySem.W.nsIn K mainGlobals d_is_tuple_of.x = some (some (.ref f1)))
  (l1 : K.lookup f1 = some ⟨oc1, od1, .func (PySem.W.fnOf d_is_tuple_of.x d_is_tuple_of.x (defArgs d_is_tuple_of.st) (defBody d_is_tuple_of.st) (defScope d_is_tuple_of.st) .none kV1 dc1 pm1 an1 cd1 ct1), sl1⟩)
  (c1 : PySem.W.codeIn K cd1 d_is_tuple_of.x = true)
  (k1 : PySem.W.keepIn K (.ref f1) = true)
  (a2 : PySem.W.nsIn K mainGlobals d_is_pair.x = some (some (.ref f2)))
  (l2 : K.lookup f2 = some ⟨oc2, od2, .func (PySem.W.fnOf d_is_pair.x d_is_pair.x (defArgs d_is_pair.st) (defBody d_is_pair.st) (defScope d_is_pair.st) .none kV2 dc2 pm2 an2 cd2 ct2), sl2⟩)
  (c2 : PySem.W.codeIn K cd2 d_is_pair.x = true)
  (k2 : PySem.W.keepIn K (.ref f2) = true)
  (a3 : PySem.W.nsIn K mainGlobals d_are_rising.x = some (some (.ref f3)))
  (l3 : K.lookup f3 = some ⟨oc3, od3, .func (PySem.W.fnOf d_are_rising.x d_are_rising.x (defArgs d_are_rising.st) (defBody d_are_rising.st) (defScope d_are_rising.st) .none kV3 dc3 pm3 an3 cd3 ct3), sl3⟩)
  (c3 : PySem.W.codeIn K cd3 d_are_rising.x = true)
  (k3 : PySem.W.keepIn K (.ref f3) = true)
  (a4 : PySem.W.nsIn K mainGlobals d_is_columns.x = some (some (.ref f4)))
  (l4 : K.lookup f4 = some ⟨oc4, od4, .func (PySem.W.fnOf d_is_columns.x d_is_columns.x (defArgs d_is_columns.st) (defBody d_is_columns.st) (defScope d_is_columns.st) .none kV4 dc4 pm4 an4 (.ref cc4) ct4), sl4⟩)
  (c4 : PySem.W.codeIn K (.ref cc4) d_is_columns.x = true)
  (k4 : PySem.W.keepIn K (.ref f4) = true)
  (y4 : (cc4, PP4, d_is_columns.x ++ ".<locals>." ++ "<lambda>") ∈ tbs)
  (u4 : PySem.W.codeHdIn K cc4 PP4 = true)
  (a5 : PySem.W.nsIn K mainGlobals d_is_bond.x = some (some (.ref f5)))
  (l5 : K.lookup f5 = some ⟨oc5, od5, .func (PySem.W.fnOf d_is_bond.x d_is_bond.x (defArgs d_is_bond.st) (defBody d_is_bond.st) (defScope d_is_bond.st) .none kV5 dc5 pm5 an5 cd5 ct5), sl5⟩)
  (c5 : PySem.W.codeIn K cd5 d_is_bond.x = true)
  (k5 : PySem.W.keepIn K (.ref f5) = true)
  (a6 : PySem.W.nsIn K mainGlobals d_checked_bonds.x = some (some (.ref f6)))
  (l6 : K.lookup f6 = some ⟨oc6, od6, .func (PySem.W.fnOf d_checked_bonds.x d_checked_bonds.x (defArgs d_checked_bonds.st) (defBody d_checked_bonds.st) (defScope d_checked_bonds.st) .none kV6 dc6 pm6 an6 cd6 ct6), sl6⟩)
  (c6 : PySem.W.codeIn K cd6 d_checked_bonds.x = true)
  (k6 : PySem.W.keepIn K (.ref f6) = true)
  (a7 : PySem.W.nsIn K mainGlobals d_checked_columns.x = some (some (.ref f7)))
  (l7 : K.lookup f7 = some ⟨oc7, od7, .func (PySem.W.fnOf d_checked_columns.x d_checked_columns.x (defArgs d_checked_columns.st) (defBody d_checked_columns.st) (defScope d_checked_columns.st) .none kV7 dc7 pm7 an7 cd7 ct7), sl7⟩)
  (c7 : PySem.W.codeIn K cd7 d_checked_columns.x = true)
  (k7 : PySem.W.keepIn K (.ref f7) = true)
  (a8 : PySem.W.nsIn K mainGlobals d_checked_bond.x = some (some (.ref f8)))
  (l8 : K.lookup f8 = some ⟨oc8, od8, .func (PySem.W.fnOf d_checked_bond.x d_checked_bond.x (defArgs d_checked_bond.st) (defBody d_checked_bond.st) (defScope d_checked_bond.st) .none kV8 dc8 pm8 an8 cd8 ct8), sl8⟩)
  (c8 : PySem.W.codeIn K cd8 d_checked_bond.x = true)
  (k8 : PySem.W.keepIn K (.ref f8) = true)
  (a9 : PySem.W.nsIn K mainGlobals d_lies_in.x = some (some (.ref f9)))
  (l9 : K.lookup f9 = some ⟨oc9, od9, .func (PySem.W.fnOf d_lies_in.x d_lies_in.x (defArgs d_lies_in.st) (defBody d_lies_in.st) (defScope d_lies_in.st) .none kV9 dc9 pm9 an9 cd9 ct9), sl9⟩)
  (c9 : PySem.W.codeIn K cd9 d_lies_in.x = true)
  (k9 : PySem.W.keepIn K (.ref f9) = true)
  (a10 : PySem.W.nsIn K mainGlobals d_next_step.x = some (some (.ref f10)))
  (l10 : K.lookup f10 = some ⟨oc10, od10, .func (PySem.W.fnOf d_next_step.x d_next_step.x (defArgs d_next_step.st) (defBody d_next_step.st) (defScope d_next_step.st) .none kV10 dc10 pm10 an10 cd10 ct10), sl10⟩)
  (c10 : PySem.W.codeIn K cd10 d_next_step.x = true)
  (k10 : PySem.W.keepIn K (.ref f10) = true)
  (a11 : PySem.W.nsIn K mainGlobals d_walked.x = some (some (.ref f11)))
  (l11 : K.lookup f11 = some ⟨oc11, od11, .func (PySem.W.fnOf d_walked.x d_walked.x (defArgs d_walked.st) (defBody d_walked.st) (defScope d_walked.st) .none kV11 dc11 pm11 an11 cd11 ct11), sl11⟩)
  (c11 : PySem.W.codeIn K cd11 d_walked.x = true)
  (k11 : PySem.W.keepIn K (.ref f11) = true)
  (a12 : PySem.W.nsIn K mainGlobals d_hanging.x = some (some (.ref f12)))
  (l12 : K.lookup f12 = some ⟨oc12, od12, .func (PySem.W.fnOf d_hanging.x d_hanging.x (defArgs d_hanging.st) (defBody d_hanging.st) (defScope d_hanging.st) .none kV12 dc12 pm12 an12 cd12 ct12), sl12⟩)
  (c12 : PySem.W.codeIn K cd12 d_hanging.x = true)
  (k12 : PySem.W.keepIn K (.ref f12) = true)
  (a13 : PySem.W.nsIn K mainGlobals d_span.x = some (some (.ref f13)))
  (l13 : K.lookup f13 = some ⟨oc13, od13, .func (PySem.W.fnOf d_span.x d_span.x (defArgs d_span.st) (defBody d_span.st) (defScope d_span.st) .none kV13 dc13 pm13 an13 cd13 ct13), sl13⟩)
  (c13 : PySem.W.codeIn K cd13 d_span.x = true)
  (k13 : PySem.W.keepIn K (.ref f13) = true)
  (a14 : PySem.W.nsIn K mainGlobals d_follows.x = some (some (.ref f14)))
  (l14 : K.lookup f14 = some ⟨oc14, od14, .func (PySem.W.fnOf d_follows.x d_follows.x (defArgs d_follows.st) (defBody d_follows.st) (defScope d_follows.st) .none kV14 dc14 pm14 an14 cd14 ct14), sl14⟩)
  (c14 : PySem.W.codeIn K cd14 d_follows.x = true)
  (k14 : PySem.W.keepIn K (.ref f14) = true)
  (a15 : PySem.W.nsIn K mainGlobals d_keys.x = some (some (.ref f15)))
  (l15 : K.lookup f15 = some ⟨oc15, od15, .func (PySem.W.fnOf d_keys.x d_keys.x (defArgs d_keys.st) (defBody d_keys.st) (defScope d_keys.st) .none kV15 dc15 pm15 an15 cd15 ct15), sl15⟩)
  (c15 : PySem.W.codeIn K cd15 d_keys.x = true)
  (k15 : PySem.W.keepIn K (.ref f15) = true)
  (a16 : PySem.W.nsIn K mainGlobals d_lean_bonds.x = some (some (.ref f16)))
  (l16 : K.lookup f16 = some ⟨oc16, od16, .func (PySem.W.fnOf d_lean_bonds.x d_lean_bonds.x (defArgs d_lean_bonds.st) (defBody d_lean_bonds.st) (defScope d_lean_bonds.st) .none kV16 dc16 pm16 an16 cd16 ct16), sl16⟩)
  (c16 : PySem.W.codeIn K cd16 d_lean_bonds.x = true)
  (k16 : PySem.W.keepIn K (.ref f16) = true)
  (a17 : PySem.W.nsIn K mainGlobals d_all_columns.x = some (some (.ref f17)))
  (l17 : K.lookup f17 = some ⟨oc17, od17, .func (PySem.W.fnOf d_all_columns.x d_all_columns.x (defArgs d_all_columns.st) (defBody d_all_columns.st) (defScope d_all_columns.st) .none kV17 dc17 pm17 an17 cd17 ct17), sl17⟩)
  (c17 : PySem.W.codeIn K cd17 d_all_columns.x = true)
  (k17 : PySem.W.keepIn K (.ref f17) = true)
  (a18 : PySem.W.nsIn K mainGlobals d_checked_parts.x = some (some (.ref f18)))
  (l18 : K.lookup f18 = some ⟨oc18, od18, .func (PySem.W.fnOf d_checked_parts.x d_checked_parts.x (defArgs d_checked_parts.st) (defBody d_checked_parts.st) (defScope d_checked_parts.st) .none kV18 dc18 pm18 an18 cd18 ct18), sl18⟩)
  (c18 : PySem.W.codeIn K cd18 d_checked_parts.x = true)
  (k18 : PySem.W.keepIn K (.ref f18) = true)
  (a19 : PySem.W.nsIn K mainGlobals d_sound.x = some (some (.ref f19)))
  (l19 : K.lookup f19 = some ⟨oc19, od19, .func (PySem.W.fnOf d_sound.x d_sound.x (defArgs d_sound.st) (defBody d_sound.st) (defScope d_sound.st) .none kV19 dc19 pm19 an19 cd19 ct19), sl19⟩)
  (c19 : PySem.W.codeIn K cd19 d_sound.x = true)
  (k19 : PySem.W.keepIn K (.ref f19) = true)
  (a20 : PySem.W.nsIn K mainGlobals d_settled.x = some (some (.ref f20)))
  (l20 : K.lookup f20 = some ⟨oc20, od20, .func (PySem.W.fnOf d_settled.x d_settled.x (defArgs d_settled.st) (defBody d_settled.st) (defScope d_settled.st) .none kV20 dc20 pm20 an20 cd20 ct20), sl20⟩)
  (c20 : PySem.W.codeIn K cd20 d_settled.x = true)
  (k20 : PySem.W.keepIn K (.ref f20) = true)
  (a21 : PySem.W.nsIn K mainGlobals d_cut.x = some (some (.ref f21)))
  (l21 : K.lookup f21 = some ⟨oc21, od21, .func (PySem.W.fnOf d_cut.x d_cut.x (defArgs d_cut.st) (defBody d_cut.st) (defScope d_cut.st) .none kV21 dc21 pm21 an21 cd21 ct21), sl21⟩)
  (c21 : PySem.W.codeIn K cd21 d_cut.x = true)
  (k21 : PySem.W.keepIn K (.ref f21) = true)
  (a22 : PySem.W.nsIn K mainGlobals d_law_cell_at.x = some (some (.ref f22)))
  (l22 : K.lookup f22 = some ⟨oc22, od22, .func (PySem.W.fnOf d_law_cell_at.x d_law_cell_at.x (defArgs d_law_cell_at.st) (defBody d_law_cell_at.st) (defScope d_law_cell_at.st) .none kV22 dc22 pm22 an22 cd22 ct22), sl22⟩)
  (c22 : PySem.W.codeIn K cd22 d_law_cell_at.x = true)
  (k22 : PySem.W.keepIn K (.ref f22) = true)
  (a23 : PySem.W.nsIn K mainGlobals d_law_mixed.x = some (some (.ref f23)))
  (l23 : K.lookup f23 = some ⟨oc23, od23, .func (PySem.W.fnOf d_law_mixed.x d_law_mixed.x (defArgs d_law_mixed.st) (defBody d_law_mixed.st) (defScope d_law_mixed.st) .none kV23 dc23 pm23 an23 cd23 ct23), sl23⟩)
  (c23 : PySem.W.codeIn K cd23 d_law_mixed.x = true)
  (k23 : PySem.W.keepIn K (.ref f23) = true)
  (a24 : PySem.W.nsIn K mainGlobals d_law_asked.x = some (some (.ref f24)))
  (l24 : K.lookup f24 = some ⟨oc24, od24, .func (PySem.W.fnOf d_law_asked.x d_law_asked.x (defArgs d_law_asked.st) (defBody d_law_asked.st) (defScope d_law_asked.st) .none kV24 dc24 pm24 an24 cd24 ct24), sl24⟩)
  (c24 : PySem.W.codeIn K cd24 d_law_asked.x = true)
  (k24 : PySem.W.keepIn K (.ref f24) = true)
  (a25 : PySem.W.nsIn K mainGlobals d_law_kind.x = some (some (.ref f25)))
  (l25 : K.lookup f25 = some ⟨oc25, od25, .func (PySem.W.fnOf d_law_kind.x d_law_kind.x (defArgs d_law_kind.st) (defBody d_law_kind.st) (defScope d_law_kind.st) .none kV25 dc25 pm25 an25 cd25 ct25), sl25⟩)
  (c25 : PySem.W.codeIn K cd25 d_law_kind.x = true)
  (k25 : PySem.W.keepIn K (.ref f25) = true)
  (a26 : PySem.W.nsIn K mainGlobals d_law_by_base.x = some (some (.ref f26)))
  (l26 : K.lookup f26 = some ⟨oc26, od26, .func (PySem.W.fnOf d_law_by_base.x d_law_by_base.x (defArgs d_law_by_base.st) (defBody d_law_by_base.st) (defScope d_law_by_base.st) .none kV26 dc26 pm26 an26 cd26 ct26), sl26⟩)
  (c26 : PySem.W.codeIn K cd26 d_law_by_base.x = true)
  (k26 : PySem.W.keepIn K (.ref f26) = true)
  (a27 : PySem.W.nsIn K mainGlobals d_law_bad_columns.x = some (some (.ref f27)))
  (l27 : K.lookup f27 = some ⟨oc27, od27, .func (PySem.W.fnOf d_law_bad_columns.x d_law_bad_columns.x (defArgs d_law_bad_columns.st) (defBody d_law_bad_columns.st) (defScope d_law_bad_columns.st) .none kV27 dc27 pm27 an27 cd27 ct27), sl27⟩)
  (c27 : PySem.W.codeIn K cd27 d_law_bad_columns.x = true)
  (k27 : PySem.W.keepIn K (.ref f27) = true)
  (a28 : PySem.W.nsIn K mainGlobals d_law.x = some (some (.ref f28)))
  (l28 : K.lookup f28 = some ⟨oc28, od28, .func (PySem.W.fnOf d_law.x d_law.x (defArgs d_law.st) (defBody d_law.st) (defScope d_law.st) .none kV28 dc28 pm28 an28 cd28 ct28), sl28⟩)
  (c28 : PySem.W.codeIn K cd28 d_law.x = true)
  (k28 : PySem.W.keepIn K (.ref f28) = true)
  (z0 : PySem.W.nsIn K mainGlobals "len" = some none)
  (z1 : PySem.W.nsIn K mainGlobals "list" = some none)
  (z2 : PySem.W.nsIn K mainGlobals "tuple" = some none)
  (z3 : PySem.W.nsIn K mainGlobals "int" = some none)
  (z4 : PySem.W.nsIn K mainGlobals "isinstance" = some none)
  (z5 : PySem.W.nsIn K mainGlobals "range" = some none)
  (z6 : PySem.W.nsIn K mainGlobals "all" = some none)
  (z7 : PySem.W.nsIn K mainGlobals "any" = some none)
  (z8 : PySem.W.nsIn K mainGlobals "sorted" = some none)
  (z9 : PySem.W.nsIn K mainGlobals "set" = some none)
  (z10 : PySem.W.nsIn K mainGlobals "min" = some none)
  (z11 : PySem.W.nsIn K mainGlobals "max" = some none)
  (z12 : PySem.W.nsIn K mainGlobals "abs" = some none)
  (z13 : PySem.W.nsIn K mainGlobals "str" = some none)
  (z14 : PySem.W.nsIn K mainGlobals "bool" = some none)
  (z15 : PySem.W.nsIn K mainGlobals "dict" = some none)
  (z16 : PySem.W.nsIn K mainGlobals "enumerate" = some none)
  (z17 : PySem.W.nsIn K mainGlobals "zip" = some none)
  (z18 : PySem.W.nsIn K mainGlobals "reversed" = some none)
  (z19 : PySem.W.nsIn K mainGlobals "ValueError" = some none)
  (xa0 : PySem.W.nsIn K mainGlobals "AskError" = some (some (.ref C0)))
  (xe0 : PySem.W.excIn K C0 [.type "ValueError", .type "Exception", .type "BaseException", .type "object"] "ValueError.__new__" = true)
  (xv0 : PySem.W.subIn K (.ref C0) (.type "ValueError") = some true)
  (xa1 : PySem.W.nsIn K mainGlobals "NoBonds" = some (some (.ref C1)))
  (xe1 : PySem.W.excIn K C1 [.type "ValueError", .type "Exception", .type "BaseException", .type "object"] "ValueError.__new__" = true)
  (xv1 : PySem.W.subIn K (.ref C1) (.type "ValueError") = some true)
  (xa2 : PySem.W.nsIn K mainGlobals "NoColumns" = some (some (.ref C2)))
  (xe2 : PySem.W.excIn K C2 [.type "ValueError", .type "Exception", .type "BaseException", .type "object"] "ValueError.__new__" = true)
  (xv2 : PySem.W.subIn K (.ref C2) (.type "ValueError") = some true)
  (xp0 : PySem.W.exmOne K (.ref C0) (.ref C0) = some true)
  (xp1 : PySem.W.exmOne K (.ref C1) (.ref C1) = some true)
  (xp2 : PySem.W.exmOne K (.ref C1) (.ref C0) = some true)
  (xp3 : PySem.W.exmOne K (.ref C2) (.ref C2) = some true)
  (xp4 : PySem.W.exmOne K (.ref C2) (.ref C0) = some true)
  (xq0 : PySem.W.exmOne K (.ref C0) (.ref C1) = some false)
  (xq1 : PySem.W.exmOne K (.ref C2) (.ref C1) = some false) :
  ∃ fd : FuncData, (∀ (s : Shared) (v : Value), BindsTo s fd ⟨[v], []⟩ [("_law_script", v)]) ∧ ∀ base : Heap, K.In base → base.Ns mainGlobals mg → Bm mg base → FnOk l.prog w K mg base CX0 n fa fd ["_law_script"] (spLaw K) := by
 have e := hfa.symm.trans (PySem.W.mg_of X G a28)
 cases e
 have hd : ∀ d ∈ defs, DefIn K mg d := by
  intro d hd
  simp only [defs, List.mem_cons, List.not_mem_nil, or_false] at hd
  rcases hd with rfl | rfl | rfl | rfl | rfl | rfl | rfl | rfl | rfl | rfl | rfl | rfl | rfl | rfl | rfl | rfl | rfl | rfl | rfl | rfl | rfl | rfl | rfl | rfl | rfl | rfl | rfl | rfl | rfl
  ·exact def_mk X G ok_is_number bd_is_number a0 l0 c0 k0 (fun z => absurd (show false = true from z) (by decide))
  ·exact def_mk X G ok_is_tuple_of bd_is_tuple_of a1 l1 c1 k1 (fun z => absurd (show false = true from z) (by decide))
  ·exact def_mk X G ok_is_pair bd_is_pair a2 l2 c2 k2 (fun z => absurd (show false = true from z) (by decide))
  ·exact def_mk X G ok_are_rising bd_are_rising a3 l3 c3 k3 (fun z => absurd (show false = true from z) (by decide))
  ·exact def_mk X G ok_is_columns bd_is_columns a4 l4 c4 k4 (fun _ => ⟨cc4, PP4, rfl, y4, u4⟩)
  ·exact def_mk X G ok_is_bond bd_is_bond a5 l5 c5 k5 (fun z => absurd (show false = true from z) (by decide))
  ·exact def_mk X G ok_checked_bonds bd_checked_bonds a6 l6 c6 k6 (fun z => absurd (show false = true from z) (by decide))
  ·exact def_mk X G ok_checked_columns bd_checked_columns a7 l7 c7 k7 (fun z => absurd (show false = true from z) (by decide))
  ·exact def_mk X G ok_checked_bond bd_checked_bond a8 l8 c8 k8 (fun z => absurd (show false = true from z) (by decide))
  ·exact def_mk X G ok_lies_in bd_lies_in a9 l9 c9 k9 (fun z => absurd (show false = true from z) (by decide))
  ·exact def_mk X G ok_next_step bd_next_step a10 l10 c10 k10 (fun z => absurd (show false = true from z) (by decide))
  ·exact def_mk X G ok_walked bd_walked a11 l11 c11 k11 (fun z => absurd (show false = true from z) (by decide))
  ·exact def_mk X G ok_hanging bd_hanging a12 l12 c12 k12 (fun z => absurd (show false = true from z) (by decide))
  ·exact def_mk X G ok_span bd_span a13 l13 c13 k13 (fun z => absurd (show false = true from z) (by decide))
  ·exact def_mk X G ok_follows bd_follows a14 l14 c14 k14 (fun z => absurd (show false = true from z) (by decide))
  ·exact def_mk X G ok_keys bd_keys a15 l15 c15 k15 (fun z => absurd (show false = true from z) (by decide))
  ·exact def_mk X G ok_lean_bonds bd_lean_bonds a16 l16 c16 k16 (fun z => absurd (show false = true from z) (by decide))
  ·exact def_mk X G ok_all_columns bd_all_columns a17 l17 c17 k17 (fun z => absurd (show false = true from z) (by decide))
  ·exact def_mk X G ok_checked_parts bd_checked_parts a18 l18 c18 k18 (fun z => absurd (show false = true from z) (by decide))
  ·exact def_mk X G ok_sound bd_sound a19 l19 c19 k19 (fun z => absurd (show false = true from z) (by decide))
  ·exact def_mk X G ok_settled bd_settled a20 l20 c20 k20 (fun z => absurd (show false = true from z) (by decide))
  ·exact def_mk X G ok_cut bd_cut a21 l21 c21 k21 (fun z => absurd (show false = true from z) (by decide))
  ·exact def_mk X G ok_law_cell_at bd_law_cell_at a22 l22 c22 k22 (fun z => absurd (show false = true from z) (by decide))
  ·exact def_mk X G ok_law_mixed bd_law_mixed a23 l23 c23 k23 (fun z => absurd (show false = true from z) (by decide))
  ·exact def_mk X G ok_law_asked bd_law_asked a24 l24 c24 k24 (fun z => absurd (show false = true from z) (by decide))
  ·exact def_mk X G ok_law_kind bd_law_kind a25 l25 c25 k25 (fun z => absurd (show false = true from z) (by decide))
  ·exact def_mk X G ok_law_by_base bd_law_by_base a26 l26 c26 k26 (fun z => absurd (show false = true from z) (by decide))
  ·exact def_mk X G ok_law_bad_columns bd_law_bad_columns a27 l27 c27 k27 (fun z => absurd (show false = true from z) (by decide))
  ·exact def_mk X G ok_law bd_law a28 l28 c28 k28 (fun z => absurd (show false = true from z) (by decide))
 have hs : ∀ x y, gs x = some y → ∃ t, mg x = some (.str y t) := by
  intro x y e
  unfold gs at e
  cases e
 have hb : ∀ x ∈ bnames, mg x = none := by
  intro x hx
  simp only [bnames, List.mem_cons, List.not_mem_nil, or_false] at hx
  rcases hx with rfl | rfl | rfl | rfl | rfl | rfl | rfl | rfl | rfl | rfl | rfl | rfl | rfl | rfl | rfl | rfl | rfl | rfl | rfl | rfl
  ·exact PySem.W.mg_none_of X G z0
  ·exact PySem.W.mg_none_of X G z1
  ·exact PySem.W.mg_none_of X G z2
  ·exact PySem.W.mg_none_of X G z3
  ·exact PySem.W.mg_none_of X G z4
  ·exact PySem.W.mg_none_of X G z5
  ·exact PySem.W.mg_none_of X G z6
  ·exact PySem.W.mg_none_of X G z7
  ·exact PySem.W.mg_none_of X G z8
  ·exact PySem.W.mg_none_of X G z9
  ·exact PySem.W.mg_none_of X G z10
  ·exact PySem.W.mg_none_of X G z11
  ·exact PySem.W.mg_none_of X G z12
  ·exact PySem.W.mg_none_of X G z13
  ·exact PySem.W.mg_none_of X G z14
  ·exact PySem.W.mg_none_of X G z15
  ·exact PySem.W.mg_none_of X G z16
  ·exact PySem.W.mg_none_of X G z17
  ·exact PySem.W.mg_none_of X G z18
  ·exact PySem.W.mg_none_of X G z19
 have hX : XsIn K mg xs := by
  refine ⟨fun x h => ?_, fun c y h => ?_, fun c h => ?_, fun c y h => ?_⟩
  ·simp only [xs, Bool.or_eq_true, Bool.and_eq_true, decide_eq_true_eq, Bool.false_eq_true, or_false] at h
   rcases h with rfl | rfl | rfl
   ·exact ⟨C0, _, _, PySem.W.mg_of X G xa0, xe0, veB_ok⟩
   ·exact ⟨C1, _, _, PySem.W.mg_of X G xa1, xe1, veB_ok⟩
   ·exact ⟨C2, _, _, PySem.W.mg_of X G xa2, xe2, veB_ok⟩
  ·simp only [xs, Bool.or_eq_true, Bool.and_eq_true, decide_eq_true_eq, Bool.false_eq_true, or_false] at h
   rcases h with ⟨rfl, rfl⟩ | ⟨rfl, rfl⟩ | ⟨rfl, rfl⟩ | ⟨rfl, rfl⟩ | ⟨rfl, rfl⟩
   ·exact ⟨C0, PySem.W.mg_of X G xa0, by rw [adr_of (PySem.W.mg_of X G xa0)]; exact xp0⟩
   ·exact ⟨C1, PySem.W.mg_of X G xa1, by rw [adr_of (PySem.W.mg_of X G xa1)]; exact xp1⟩
   ·exact ⟨C0, PySem.W.mg_of X G xa0, by rw [adr_of (PySem.W.mg_of X G xa1)]; exact xp2⟩
   ·exact ⟨C2, PySem.W.mg_of X G xa2, by rw [adr_of (PySem.W.mg_of X G xa2)]; exact xp3⟩
   ·exact ⟨C0, PySem.W.mg_of X G xa0, by rw [adr_of (PySem.W.mg_of X G xa2)]; exact xp4⟩
  ·simp only [xs, Bool.or_eq_true, Bool.and_eq_true, decide_eq_true_eq, Bool.false_eq_true, or_false] at h
   rcases h with rfl | rfl | rfl
   ·rw [adr_of (PySem.W.mg_of X G xa0)]; show (if PySem.W.kitMeta "ValueError" = true then PySem.W.subIn K (.ref C0) (.type "ValueError") else none) = some true; rw [if_pos (by decide +kernel)]; exact xv0
   ·rw [adr_of (PySem.W.mg_of X G xa1)]; show (if PySem.W.kitMeta "ValueError" = true then PySem.W.subIn K (.ref C1) (.type "ValueError") else none) = some true; rw [if_pos (by decide +kernel)]; exact xv1
   ·rw [adr_of (PySem.W.mg_of X G xa2)]; show (if PySem.W.kitMeta "ValueError" = true then PySem.W.subIn K (.ref C2) (.type "ValueError") else none) = some true; rw [if_pos (by decide +kernel)]; exact xv2
  ·simp only [xs, Bool.or_eq_true, Bool.and_eq_true, decide_eq_true_eq, Bool.false_eq_true, or_false] at h
   rcases h with ⟨rfl, rfl⟩ | ⟨rfl, rfl⟩
   ·exact ⟨C1, PySem.W.mg_of X G xa1, by rw [adr_of (PySem.W.mg_of X G xa0)]; exact xq0⟩
   ·exact ⟨C1, PySem.W.mg_of X G xa1, by rw [adr_of (PySem.W.mg_of X G xa2)]; exact xq1⟩
 refine ⟨PySem.W.fnOf d_law.x d_law.x (defArgs d_law.st) (defBody d_law.st) (defScope d_law.st) .none kV28 dc28 pm28 an28 cd28 ct28, fun s v => .of_eq rfl, fun base kb _ bm => ?_⟩
 exact law_at ok_law rfl a28 l28 c28 k28 kb bm hd hs hb hX hl hm law
end LK
noncomputable def PySem.W.Fast.tw4772918499549262296 : Nat := 0
noncomputable def PySem.W.Fast.tw9796211966052761564 : Nat := 0
noncomputable def PySem.W.Fast.tw9047359566656219064 : Nat := 0
noncomputable def PySem.W.Fast.tw14608466877791967521 : Nat := 0
noncomputable def PySem.W.Fast.tw16444120572616184843 : Nat := 0
noncomputable def PySem.W.Fast.tw13275363200129052693 : Nat := 0
noncomputable def PySem.W.Fast.tw5187337933603994957 : Nat := 0
noncomputable def PySem.W.Fast.tw5631042765504923195 : Nat := 0
open PySem PySem.W PyProof.Rows
set_option maxRecDepth 100000 in
set_option maxHeartbeats 0 in
theorem PySem.Challenge.cw_askbook_k18_bonds_refused_holds : PySem.Challenge.rw_askbook_k18_bonds_refused.Holds := by
 w_on; o_law; k_head; (case hw => w_witness2)
 k_fill
 refine Pu.walkT (l := PySem.Challenge.rw_askbook_k18_bonds_refused) (k := 30) rfl rfl ⟨rfl, by decide, by decide⟩ (by decide) (fun w h Y => PySem.W.km_in_of Y) ?hNt ?hTb ?hFn
 case hNt => intro w; kernel_rfl
 case hTb => intro w h Y p hp; obtain rfl := List.mem_singleton.mp hp; exact ⟨PySem.W.codeHd_of_K (PySem.W.km_in_of Y) (by kernel_rfl), PySem.W.km_tabs_of Y _ (by decide)⟩
 case hFn =>
  intro w mg fa h KX G hmg
  refine' LK.all_mk (n := 30) KX G hmg (Pu.tab_at 29 rfl) rfl LK.law_true ?a0 ?l0 ?c0 ?k0 ?a1 ?l1 ?c1 ?k1 ?a2 ?l2 ?c2 ?k2 ?a3 ?l3 ?c3 ?k3 ?a4 ?l4 ?c4 ?k4 ?y4 ?u4 ?a5 ?l5 ?c5 ?k5 ?a6 ?l6 ?c6 ?k6 ?a7 ?l7 ?c7 ?k7 ?a8 ?l8 ?c8 ?k8 ?a9 ?l9 ?c9 ?k9 ?a10 ?l10 ?c10 ?k10 ?a11 ?l11 ?c11 ?k11 ?a12 ?l12 ?c12 ?k12 ?a13 ?l13 ?c13 ?k13 ?a14 ?l14 ?c14 ?k14 ?a15 ?l15 ?c15 ?k15 ?a16 ?l16 ?c16 ?k16 ?a17 ?l17 ?c17 ?k17 ?a18 ?l18 ?c18 ?k18 ?a19 ?l19 ?c19 ?k19 ?a20 ?l20 ?c20 ?k20 ?a21 ?l21 ?c21 ?k21 ?a22 ?l22 ?c22 ?k22 ?a23 ?l23 ?c23 ?k23 ?a24 ?l24 ?c24 ?k24 ?a25 ?l25 ?c25 ?k25 ?a26 ?l26 ?c26 ?k26 ?a27 ?l27 ?c27 ?k27 ?a28 ?l28 ?c28 ?k28 ?z0 ?z1 ?z2 ?z3 ?z4 ?z5 ?z6 ?z7 ?z8 ?z9 ?z10 ?z11 ?z12 ?z13 ?z14 ?z15 ?z16 ?z17 ?z18 ?z19 ?xa0 ?xe0 ?xv0 ?xa1 ?xe1 ?xv1 ?xa2 ?xe2 ?xv2 ?xp0 ?xp1 ?xp2 ?xp3 ?xp4 ?xq0 ?xq1
  (case a0 => k_is)
  (case l0 => k_is)
  (case c0 => k_is)
  (case k0 => k_is)
  (case a1 => k_is)
  (case l1 => k_is)
  (case c1 => k_is)
  (case k1 => k_is)
  (case a2 => k_is)
  (case l2 => k_is)
  (case c2 => k_is)
  (case k2 => k_is)
  (case a3 => k_is)
  (case l3 => k_is)
  (case c3 => k_is)
  (case k3 => k_is)
  (case a4 => k_is)
  (case l4 => k_is)
  (case c4 => k_is)
  (case k4 => k_is)
  (case y4 => exact List.mem_singleton.mpr rfl)
  (case u4 => kernel_rfl)
  (case a5 => k_is)
  (case l5 => k_is)
  (case c5 => k_is)
  (case k5 => k_is)
  (case a6 => k_is)
  (case l6 => k_is)
  (case c6 => k_is)
  (case k6 => k_is)
  (case a7 => k_is)
  (case l7 => k_is)
  (case c7 => k_is)
  (case k7 => k_is)
  (case a8 => k_is)
  (case l8 => k_is)
  (case c8 => k_is)
  (case k8 => k_is)
  (case a9 => k_is)
  (case l9 => k_is)
  (case c9 => k_is)
  (case k9 => k_is)
  (case a10 => k_is)
  (case l10 => k_is)
  (case c10 => k_is)
  (case k10 => k_is)
  (case a11 => k_is)
  (case l11 => k_is)
  (case c11 => k_is)
  (case k11 => k_is)
  (case a12 => k_is)
  (case l12 => k_is)
  (case c12 => k_is)
  (case k12 => k_is)
  (case a13 => k_is)
  (case l13 => k_is)
  (case c13 => k_is)
  (case k13 => k_is)
  (case a14 => k_is)
  (case l14 => k_is)
  (case c14 => k_is)
  (case k14 => k_is)
  (case a15 => k_is)
  (case l15 => k_is)
  (case c15 => k_is)
  (case k15 => k_is)
  (case a16 => k_is)
  (case l16 => k_is)
  (case c16 => k_is)
  (case k16 => k_is)
  (case a17 => k_is)
  (case l17 => k_is)
  (case c17 => k_is)
  (case k17 => k_is)
  (case a18 => k_is)
  (case l18 => k_is)
  (case c18 => k_is)
  (case k18 => k_is)
  (case a19 => k_is)
  (case l19 => k_is)
  (case c19 => k_is)
  (case k19 => k_is)
  (case a20 => k_is)
  (case l20 => k_is)
  (case c20 => k_is)
  (case k20 => k_is)
  (case a21 => k_is)
  (case l21 => k_is)
  (case c21 => k_is)
  (case k21 => k_is)
  (case a22 => k_is)
  (case l22 => k_is)
  (case c22 => k_is)
  (case k22 => k_is)
  (case a23 => k_is)
  (case l23 => k_is)
  (case c23 => k_is)
  (case k23 => k_is)
  (case a24 => k_is)
  (case l24 => k_is)
  (case c24 => k_is)
  (case k24 => k_is)
  (case a25 => k_is)
  (case l25 => k_is)
  (case c25 => k_is)
  (case k25 => k_is)
  (case a26 => k_is)
  (case l26 => k_is)
  (case c26 => k_is)
  (case k26 => k_is)
  (case a27 => k_is)
  (case l27 => k_is)
  (case c27 => k_is)
  (case k27 => k_is)
  (case a28 => k_is)
  (case l28 => k_is)
  (case c28 => k_is)
  (case k28 => k_is)
  (case z0 => k_is)
  (case z1 => k_is)
  (case z2 => k_is)
  (case z3 => k_is)
  (case z4 => k_is)
  (case z5 => k_is)
  (case z6 => k_is)
  (case z7 => k_is)
  (case z8 => k_is)
  (case z9 => k_is)
  (case z10 => k_is)
  (case z11 => k_is)
  (case z12 => k_is)
  (case z13 => k_is)
  (case z14 => k_is)
  (case z15 => k_is)
  (case z16 => k_is)
  (case z17 => k_is)
  (case z18 => k_is)
  (case z19 => k_is)
  (case xa0 => k_is)
  (case xe0 => k_exc)
  (case xv0 => k_is)
  (case xa1 => k_is)
  (case xe1 => k_exc)
  (case xv1 => k_is)
  (case xa2 => k_is)
  (case xe2 => k_exc)
  (case xv2 => k_is)
  (case xp0 => kts_exm)
  (case xp1 => kts_exm)
  (case xp2 => kts_exm)
  (case xp3 => kts_exm)
  (case xp4 => kts_exm)
  (case xq0 => kts_exm)
  (case xq1 => kts_exm)
end
